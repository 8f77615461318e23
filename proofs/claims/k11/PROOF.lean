import PyProof.Rows.All
import Wide.All
import OpenK.AllK
import Wide.FinOn
import HandS.ForMost
import PySem.Challenge.RW_loopgrowth_k11_components_and_ways
import HandS.Lambda
import HandS.EndTab
import PyProof.ListMulRoad
import PyProof.FactsAll.tuple_2
import HandS.TupMul
import HandS.TupAny
import HandS.Style
import KE.KRevSl
import HandS.Star
import HandS.CallLocal
import KE.DataCmp
import KE.SortData
import HandS.Deep
import HandS.Wide
import HandS.IsInst
import HandS.Walk
import HandS.TupSets
import HandS.SetKeys
import HandS.SetFor
import HandS.AnyAll
import KE.GoesMore
import PyProof.TupleOfGen
import PyProof.StrBlock
import HandS.MakeKwOnly
import HandS.DictComp
import HandS.Dict
import KE.KDictPairs
import HandS.MethStar
import HandS.ClsMeth
import OpenK.KOps
import OpenK.KMeth
import KE.KOpsOwn
import KE.KCallOwn
import HandS.Records
import PyProof.InstNe
import HandS.More
import HandS.Small
import KE.KOwnIter
import HandS.IterVal
import HandS.FStr
import HandS.DictTup
import HandS.Property
import HandS.RaiseMore
import HandS.GenList
import HandS.Comp
import HandS.SetBool
import KE.KNestM
set_option Elab.async false
set_option linter.all false
set_option maxRecDepth 100000
set_option maxHeartbeats 4000000
namespace Qp
open PySem PySem.Spec PyProof.Rows L2
def top (i : Nat) : Stmt := PySem.Challenge.pw_loopgrowth_k11_components_and_ways.main.body.getD i (.Pass ⟨0, 0, 0, 0⟩)
abbrev sDice : Stmt := top 40 -- _law_dice
abbrev sRoll : Stmt := top 41 -- _law_roll
abbrev sOne : Stmt := top 42 -- _law_one_of
theorem scDice : FnScope ["_law_script", "_law_at", "_law_cell", "_law_great", "_law_mixed_here"] ["_law_script", "_law_at"] (defScope sDice) := ⟨rfl, rfl, rfl, by decide +kernel, rfl, by decide +kernel, by decide +kernel⟩
theorem scRoll : FnScope ["_law_dice_here", "_law_total", "_law_found", "_law_one", "_law_two"] ["_law_dice_here", "_law_total"] (defScope sRoll) := ⟨rfl, rfl, rfl, by decide +kernel, rfl, by decide +kernel, by decide +kernel⟩
theorem scOne : FnScope ["_law_dice_here", "_law_items"] ["_law_dice_here", "_law_items"] (defScope sOne) := ⟨rfl, rfl, rfl, by decide +kernel, rfl, by decide +kernel, by decide +kernel⟩
/-- the three numbers of a drawing hand -/
def hand (x y z : Int) : List V := [.int x, .int y, .int z]
/-- three numbers lie at p -/
def HandAt (H : Hp) (p : Addr) : Prop := ∃ x y z : Int, H p = some (.lst (hand x y z))
/-- what the built-in names still mean -/
structure Blt (mg : Str → Option Value) : Prop where
  len : mg "len" = none
  int : mg "int" = none
  abs : mg "abs" = none
  max : mg "max" = none
/-- all but p as it was -/
def But (p : Addr) (H H' : Hp) : Prop := ∀ b o, b ≠ p → H b = some o → H' b = some o
theorem but_upd {p : Addr} {H : Hp} {o : HO} : But p H (upd H p o) := fun b u n e => by
  rw [upd_ne n]
  exact e
def spRoll : Sp := fun vs H Q _ => ∃ (p : Addr) (x y z t : Int), vs = [.ref p, .int t] ∧ H p = some (.lst (hand x y z)) ∧ 0 < t ∧ t < 1073741824 ∧
  ∀ (r x' y' z' : Int) (H' : Hp), 0 ≤ r → r < t → H' p = some (.lst (hand x' y' z')) → But p H H' → Q (.int r) H'
def spOne : Sp := fun vs H Q _ => ∃ (p q : Addr) (x y z : Int) (its : List V), vs = [.ref p, .ref q] ∧ H p = some (.lst (hand x y z)) ∧ H q = some (.lst its) ∧ q ≠ p ∧ 0 < its.length ∧ its.length < 1073741824 ∧
  ∀ (v : V) (x' y' z' : Int) (H' : Hp), v ∈ its → H' p = some (.lst (hand x' y' z')) → But p H H' → Q v H'
def spDice (K : PySem.W.Frag) : Sp := fun vs H Q _ => ∃ (a : Addr) (ns : List Int) (j : Nat), vs = [.ref a, .int (j : Int)] ∧ SqL K H a (ns.map V.int) ∧
  ∀ (p : Addr) (x y z : Int), H p = none → Q (.ref p) (upd H p (.lst (hand x y z)))
section
variable {P : Program} {w : World} {K : PySem.W.Frag} {mg : Str → Option Value} {base : Heap}
theorem ix3 {K : PySem.W.Frag} {H : Hp} {p : Addr} {x y z : Int} (h : H p = some (.lst (hand x y z))) : SqL K H p (hand x y z) := .inl (.inl h)
theorem ok_roll {f : Addr} {fd : FuncData} (F : Fun K "_law_roll" "_law_roll" sRoll f fd) (B : Blt mg) : FnOk P w K mg base CX0 1 f fd ["_law_dice_here", "_law_total"] spRoll := by
  refine F.ok scRoll (fun vs H Q E h => ?_) (fun cdv A outer s H vs Q E hr h => ?_)
  · obtain ⟨p, x, y, z, t, rfl, _⟩ := h
    rfl
  · obtain ⟨p, x, y, z, t, rfl, hp, ht, ht2, k⟩ := h
    refine ⟨_, pss_cons (ps_if (pt_cmpR op_gt (pe_ix ix_list (pv 0) pe_int (fun _ _ => rfl)) pe_int (nomark _))
        (pss_cons (ps_set (i := 2) scRoll.nd rfl (.inl rfl) (pe_op op_mod (pe_callTy call_int1 (by rfl) B.int (by decide +kernel) (pa_cons (pe_ix ix_list (pv 0) pe_int (fun _ _ => rfl)) pa_nil)) (pv 1)))
        (pss_cons (ps_asg (pe_op op_fdiv (pe_ix ix_list (pv 0) pe_int (fun _ _ => rfl)) (pv 1)) (pg_sub (pv 0) pe_int set_list))
        (pss_one (ps_ret (pv 2))))) pss_nil)
      (pss_cons (ps_asg (pe_op op_add (pe_ix ix_list (pv 0) pe_int (fun _ _ => rfl)) pe_int) (pg_sub (pv 0) pe_int set_list))
      (pss_cons (ps_set (i := 3) scRoll.nd rfl (.inl rfl) (pe_op op_mod (pe_callTy call_int1 (by rfl) B.int (by decide +kernel) (pa_cons (pe_op op_add (pe_ix ix_list (pv 0) pe_int (fun _ _ => rfl)) (pe_op op_mul pe_int (pe_ix ix_list (pv 0) pe_int (fun _ _ => rfl)))) pa_nil)) pe_int))
      (pss_cons (ps_set (i := 4) scRoll.nd rfl (.inl rfl) (pe_op op_add (pe_op op_mul (pe_op op_mod (pe_callTy call_int1 (by rfl) B.int (by decide +kernel) (pa_cons (pe_op op_mul (pv 3) (pv 3)) pa_nil)) pe_int) (pv 3)) (pe_op op_mul pe_int (pe_ix ix_list (pv 0) pe_int (fun _ _ => rfl)))))
      (pss_cons (ps_set (i := 4) scRoll.nd rfl (.inl rfl) (pe_op op_mod (pe_callTy call_int1 (by rfl) B.int (by decide +kernel) (pa_cons (pv 4) pa_nil)) pe_int))
      (pss_one (ps_ret (pe_op op_mod (pe_callTy call_int1 (by rfl) B.int (by decide +kernel) (pa_cons (pe_op op_fdiv (pv 4) pe_int) pa_nil)) (pv 1)))))))), ?_⟩
    -- if hand[0] > 0
    refine ⟨_, rfl, p, hand x y z, 0, .int x, rfl, rfl, ix3 hp, rfl, x, 0, rfl, rfl, _, rfl, ite2 (fun c => ?_) (fun c => ?_)⟩
    · -- found = int(hand[0]) % total
      refine ⟨_, rfl, p, hand x y z, 0, .int x, rfl, rfl, ix3 hp, rfl, .inl ⟨x, rfl, .int t, rfl, x, t, rfl, rfl, ht, ?_⟩⟩
      -- hand[0] = hand[0] // total
      refine ⟨_, rfl, p, hand x y z, 0, .int x, rfl, rfl, ix3 hp, rfl, .int t, rfl, x, t, rfl, rfl, ⟨ht, ht2⟩, _, rfl, p, hand x y z, 0, 0, rfl, rfl, hp, rfl, ?_⟩
      exact ⟨_, rfl, k (x % t) (x / t) y z _ (Int.emod_nonneg _ (by omega)) (Int.emod_lt_of_pos _ ht) upd_same but_upd⟩
    · -- hand[2] = hand[2] + 1
      refine ⟨_, rfl, p, hand x y z, 2, .int z, rfl, rfl, ix3 hp, rfl, z, 1, rfl, rfl, _, rfl, p, hand x y z, 2, 2, rfl, rfl, hp, rfl, ?_⟩
      have hp2 : (upd H p (.lst (hand x y (z + 1)))) p = some (.lst (hand x y (z + 1))) := upd_same
      -- one = ..
      refine ⟨_, rfl, p, hand x y (z + 1), 1, .int y, rfl, rfl, ix3 hp2, rfl, _, rfl, p, hand x y (z + 1), 2, .int (z + 1), rfl, rfl, ix3 hp2, rfl, _, _, rfl, rfl, .inl ⟨by decide, by decide⟩, _, _, rfl, rfl, .inl ⟨_, rfl, _, _, rfl, rfl, (by show (0 : Int) < 2305843009213693951; decide), ?_⟩⟩
      have hb : ∀ g : Int, -(2 ^ 64) < g % 2305843009213693951 ∧ g % 2305843009213693951 < 2 ^ 64 := fun g => ⟨by omega, by omega⟩
      -- two = ..
      refine ⟨_, rfl, _, rfl, _, _, rfl, rfl, .inl (hb _), .inl ⟨_, rfl, _, _, rfl, rfl, (by show (0 : Int) < 2305843009213693921; decide), _, rfl, _, _, rfl, rfl, .inr (hb _), ?_⟩⟩
      refine ⟨_, rfl, p, hand x y (z + 1), 2, .int (z + 1), rfl, rfl, ix3 hp2, rfl, _, _, rfl, rfl, .inl ⟨by decide, by decide⟩, _, _, rfl, rfl, ?_⟩
      -- two = int(two) % ..
      refine ⟨_, rfl, .inl ⟨_, rfl, _, _, rfl, rfl, (by show (0 : Int) < 2305843009213693907; decide), ?_⟩⟩
      -- return int(two // 8192) % total
      refine ⟨_, rfl, _, _, rfl, rfl, ⟨by decide, by decide⟩, .inl ⟨_, rfl, .int t, rfl, _, t, rfl, rfl, ht, ?_⟩⟩
      exact k _ x y (z + 1) _ (Int.emod_nonneg _ (by omega)) (Int.emod_lt_of_pos _ ht) upd_same but_upd
theorem op_powX {X : Cx} : OpR X (binaryOp .Pow) (rI (fun i j => 0 ≤ j ∧ (Builtin.Int.intBits i : Int) * j ≤ 2 ^ 27) fun i j => .int (i ^ j.toNat)) := opI fun _ _ _ _ _ _ _ hc q => pow_int hc.1 hc.2 q
theorem ok_dice {f : Addr} {fd : FuncData} (F : Fun K "_law_dice" "_law_dice" sDice f fd) (B : Blt mg) : FnOk P w K mg base CX0 1 f fd ["_law_script", "_law_at"] (spDice K) := by
  refine F.ok scDice (fun vs H Q E h => ?_) (fun cdv A outer s H vs Q E hr h => ?_)
  · obtain ⟨a, ns, j, rfl, _⟩ := h
    rfl
  · obtain ⟨a, ns, j, rfl, hS, k⟩ := h
    refine ⟨_, pss_cons (ps_set (i := 2) scDice.nd rfl (.inl rfl) (pe_op op_add (pe_op op_mul pe_int (pv 1)) pe_int))
      (pss_cons (ps_if (pt_cmpR op_lt (pv 1) (pe_callB call_len_seq (by rfl) B.len PySem.boot_len (pa_cons (pv 0) pa_nil)) (nomark _))
        (pss_one (ps_set (i := 2) scDice.nd rfl (.inl rfl) (pe_ix ix_list (pv 0) (pv 1) (fun _ _ => rfl)))) pss_nil)
      (pss_cons (ps_set (i := 3) scDice.nd rfl (.inl rfl) (pe_op op_mod (pe_callTy call_int1 (by rfl) B.int (by decide +kernel) (pa_cons (pe_callB call_abs (by rfl) B.abs (by decide +kernel) (pa_cons (pv 2) pa_nil)) pa_nil)) (pe_op op_powX (pe_op op_pow pe_int pe_int) pe_int)))
      (pss_cons (ps_set (i := 4) scDice.nd rfl (.inl rfl) (pe_op op_add (pe_op op_add (pe_op op_add (pe_op op_mul (pe_op op_mod (pe_callTy call_int1 (by rfl) B.int (by decide +kernel) (pa_cons (pv 3) pa_nil)) pe_int) pe_int) (pe_op op_mul pe_int (pv 1)))
          (pe_op op_mul pe_int (pe_callTy call_int1 (by rfl) B.int (by decide +kernel) (pa_cons (pe_cmpR op_lt (pv 2) pe_int (nomark _)) pa_nil)))) pe_int))
      (pss_one (ps_ret (pe_lst (pa_cons (pe_callB (call_max2 rfl) (by rfl) B.max (by decide +kernel) (pa_cons pe_int (pa_cons (pe_op op_sub (pv 3) (pe_op op_pow pe_int pe_int)) pa_nil)))
        (pa_cons (pe_op op_mod (pe_callTy call_int1 (by rfl) B.int (by decide +kernel) (pa_cons (pv 4) pa_nil)) pe_int) (pa_cons pe_int pa_nil))))))))), ?_⟩
    -- cell = 23 * at + 5
    refine ⟨_, rfl, _, _, rfl, rfl, .inl ⟨by decide, by decide⟩, _, _, rfl, rfl, ?_⟩
    -- if at < len(script)
    refine ⟨_, rfl, .ref a, rfl, a, _, rfl, .inl hS, _, _, rfl, rfl, _, rfl, ite2 (fun e => ?inside) (fun _ => ?beyond)⟩
    case' inside =>
      have hj : j < ns.length := by
        have e2 := of_decide_eq_true e
        rw [List.length_map] at e2
        omega
      have hx : (ns.map V.int)[j]? = some (.int ns[j]) := by
        rw [List.getElem?_map, List.getElem?_eq_getElem hj]
        rfl
      refine ⟨_, rfl, _, rfl, a, _, _, _, rfl, rfl, hS, atI_nat hx, ?_⟩
    all_goals
      -- great
      refine ⟨_, rfl, _, rfl, .inl ⟨_, rfl, _, _, rfl, rfl, ⟨by decide, by decide, by decide⟩, _, _, rfl, rfl, ⟨by decide, by decide +kernel⟩, _, _, rfl, rfl, Int.pow_pos (Int.pow_pos (by decide)), ?_⟩⟩
      -- mixed
      refine ⟨_, rfl, .inl ⟨_, rfl, _, _, rfl, rfl, (by show (0 : Int) < 2147483587; decide), _, _, rfl, rfl, .inr ⟨by decide, by decide⟩, _, rfl, _, _, rfl, rfl, .inl ⟨by decide, by decide⟩, _, _, rfl, rfl, ?_⟩⟩
      refine ⟨_, rfl, _, _, rfl, rfl, .inr ⟨_, rfl, _, _, rfl, rfl, .inl ⟨by decide, by decide⟩, _, _, rfl, rfl, _, _, rfl, rfl, ?_⟩⟩
      -- the three numbers
      refine ⟨_, rfl, _, _, rfl, rfl, ⟨by decide, by decide, by decide⟩, _, _, rfl, rfl, _, _, rfl, ?_⟩
      refine ⟨_, rfl, .inl ⟨_, rfl, _, _, rfl, rfl, (by show (0 : Int) < 2147483563; decide), (by show 3 ≤ sizeLine; decide), fun p hp => ?_⟩⟩
      exact k p _ _ _ hp
theorem ok_one {f fR : Addr} {fd fdR : FuncData} (F : Fun K "_law_one_of" "_law_one_of" sOne f fd) (FR : Fun K "_law_roll" "_law_roll" sRoll fR fdR) (bR : Binds K fdR ["_law_dice_here", "_law_total"] []) (gR : mg "_law_roll" = some (.ref fR)) (B : Blt mg) :
    FnOk P w K mg base CX0 2 f fd ["_law_dice_here", "_law_items"] spOne := by
  have GR : FnOk P w K mg base CX0 1 fR fdR ["_law_dice_here", "_law_total"] spRoll := ok_roll FR B
  refine F.ok scOne (fun vs H Q E h => ?_) (fun cdv A outer s H vs Q E hr h => ?_)
  · obtain ⟨p, q, x, y, z, its, rfl, _⟩ := h
    rfl
  · obtain ⟨p, q, x, y, z, its, rfl, hp, hq, nqp, hl, hl2, k⟩ := h
    refine ⟨_, pss_one (ps_ret (pe_ix ix_list (pv 1) (pe_call GR hr (by rfl) gR FR.kp bR .nil pass0 (pa_cons (pv 0) (pa_cons (pe_callB call_len_seq (by rfl) B.len PySem.boot_len (pa_cons (pv 1) pa_nil)) pa_nil))) (fun _ _ => rfl))), ?_⟩
    refine ⟨.ref q, rfl, .ref p, rfl, .ref q, rfl, q, its, rfl, .inl (.inl (.inl hq)), p, x, y, z, _, rfl, hp, by omega, by omega, fun r x' y' z' H' h0 h1 hp' bt => ?_⟩
    obtain ⟨j, rfl⟩ := Int.eq_ofNat_of_zero_le h0
    have hj : j < its.length := by omega
    refine ⟨q, its, _, its[j], rfl, rfl, .inl (.inl (bt q _ nqp hq)), atI_nat (List.getElem?_eq_getElem hj), ?_⟩
    exact k _ x' y' z' H' (List.getElem_mem hj) hp' bt
end
end Qp

/-! Defs of which is known that no repr is under way when they are called; the end of a law whose defs hold lambdas and say repr -/
namespace QN
open PySem PySem.Spec PyProof.Rows L2
def NoRepr (A : Around) : Prop := A.guards = some []
theorem noRepr_deeper {A : Around} {e : Env} (h : NoRepr A) : NoRepr (A.deeper e) := by
  unfold NoRepr at h ⊢
  first
    | exact h
    | (show pushGuards _ A.guards = some []; rw [h]; rfl)
/-- the promise of a def at f, where no repr is under way -/
structure FnG (P : Program) (w : World) (K : PySem.W.Frag) (mg : Str → Option Value) (base : Heap) (k : Nat) (f : Addr) (fd : FuncData) (ps : List Str) (sp : Sp) : Prop where
  len : ∀ vs H Q E, sp vs H Q E → vs.length = ps.length
  go : ∀ (A : Around) (outer : List Env) (s : Shared) (H : Hp) (args : Args) (us : List Value) (vs : List V) (Q : VK) (E : XK), Room k A → NoRepr A → Env0 P w K mg base A outer s H → BindsTo s fd args (ps.zip us) → Vals vs us → sp vs H Q E →
    codeAny (model P w) A (.call (.ref f) args) (CR L2.CX0 outer P w H s Q E) s
/-- the def's body, its code object told: `told` is what the body's promise leans on -/
theorem Fun_okC {P : Program} {w : World} {K : PySem.W.Frag} {mg : Str → Option Value} {base : Heap} {x qual : Str} {st : Stmt} {f : Addr} {fd : FuncData} {N ps : List Str} {k : Nat} {sp : Sp}
    (F : Fun K x qual st f fd) (S : FnScope N ps (defScope st)) (len : ∀ vs H Q E, sp vs H Q E → vs.length = ps.length)
    (body : ∀ (cdv : Value) (A : Around) (outer : List Env) (s : Shared) (H : Hp) (vs : List V) (Q : VK) (E : XK), fd.code = cdv → Room k (A.deeper (envOfC qual (defScope st) s.heap.objs.size f cdv)) → NoRepr A → sp vs H Q E →
      ∃ t, PSs (cxOf L2.CX0 P w K mg base N qual (defScope st) f cdv A outer s H E).nox (defBody st) t ∧ t { nx := fun _ H' => Q .non H', rt := Q } (start N vs) H) :
    FnG P w K mg base (k + 1) f fd ps sp := by
  obtain ⟨oc, od, kV, doc, pm, an, cdv, ct, osl, rfl, lk, hcd⟩ := F.ex
  refine ⟨len, fun A outer s H args us vs Q E room hng env0 hbind rv hsp => ?_⟩
  have nvs := len _ _ _ _ hsp
  have inK : K.In s.heap := env0.mod.kin.keeps fun b o e => (env0.bs b o e).1
  have nolim : s.heap.NoLimit := env0.mod.nolimit.keeps fun b o e => (env0.bs b o e).1
  have kinds : ∀ y ∈ ps.zip us, (defScope st).names.lookup y.1 = some .local ∨ ((defScope st).names.lookup y.1 = some .cell ∧ ((cellsFrom (s.heap.objs.size + 1) (defScope st).names []).lookup y.1).isSome = true) := fun ⟨n, v⟩ hy => by
    rcases S.par n (List.of_mem_zip hy).1 with c | c
    · exact Or.inl c
    · exact Or.inr ⟨c, PySem.W.cellsFrom_some _ _ _ (Or.inl c)⟩
  refine codeAny_call_function room.depth (inK _ _ lk) rfl S.co S.gen rfl (PySem.W.codeRec_of inK hcd) (hbind _ _ _ _ ?_)
  refine wpAny_newFunctionEnv_cells S.kind kinds fun env he s1 entered => ?_
  subst he
  refine ⟨nolim.keeps entered.toInCall.keep, codeAny_func ?_⟩
  obtain ⟨t, ht, hq⟩ := body cdv A outer s H vs Q E rfl (room.deeper _) hng hsp
  have I0 := inv_start (CX := L2.CX0) (E := E) S room.hd env0 nvs rv entered
  refine wpAny_mono (ht.nox.run [] s1 (start N vs) H _ I0 hq) (fun fl s' hs => ?_) fun e s' hs => hs
  have close : ∀ {σ' : L2.St} {H' : Hp} {v : V} {u : Value}, Inv (cxOf L2.CX0 P w K mg base N qual (defScope st) f cdv A outer s H E) [] σ' H' s' → RelV v u → Q v H' → CE outer P w H s Q u s' :=
    fun {σ' H' v u} J r q => ⟨v, H', J.os, J.bare, J.base, J.hok, r, q⟩
  cases fl with
  | ret u =>
    obtain ⟨v, σ', H', J, r, q⟩ := hs
    exact close J r q
  | next =>
    obtain ⟨σ', H', J, q⟩ := hs
    exact close (v := V.non) (u := Value.none) J rfl q
  | brk => exact False.elim hs.choose_spec.choose_spec.2
  | cont => exact False.elim hs.choose_spec.choose_spec.2
/-- a promise that asks less is one where no repr is under way -/
theorem FnG.of {P : Program} {w : World} {K : PySem.W.Frag} {mg : Str → Option Value} {base : Heap} {k : Nat} {f : Addr} {fd : FuncData} {ps : List Str} {sp : Sp} (F : FnOk P w K mg base L2.CX0 k f fd ps sp) : FnG P w K mg base k f fd ps sp :=
  ⟨F.len, fun A outer s H args us vs Q E room _ env0 hbind rv hsp => F.run A outer s H args us vs Q E room env0 hbind rv hsp⟩
section
variable {X : Cx} {k : Nat} {f : Addr} {fd : FuncData} {ps : List Str} {sp : Sp} {x : Str} {p pos : Pos} {e : Expr} {es : List Expr} {t : TA}
/-- f(e, ..) of such a def -/
theorem pe_callG (F : FnG X.prog X.w X.K X.mg X.base k f fd ps sp) (hng : NoRepr X.A) (hr : Room k X.A) (hg : Gl X x) (hm : X.mg x = some (.ref f)) (hk : PySem.W.keepIn X.K (.ref f) = true) (hb : L2.Binds X.K fd ps []) (ha : PA X (e :: es) t)
    (hdb : (x == ("__debug__" : Str)) = false := by decide) (he : starEach (e :: es) X.env = (false, eval e X.env) :: starEach es X.env := by rfl) (hpl : (backTo pos (starEach es X.env)).any (·.1) = false := by rfl) :
    PE X (.Call (.Name x p) (e :: es) [] pos) (tCall sp [] L2.E0 t) := by
  refine ⟨fun pins s σ H Q I h => wpAny_Call_Name_kw (ld_glob I hg hm ?_ hdb)⟩
  refine PySem.W.callWith_K (h₀ := X.base) I.ok.mod.kin hk (thn (ha.run pos pins s σ H _ I h) fun us s1 ⟨vs, H1, J, rv, q⟩ => ⟨J.kIn, ?_⟩) he hpl
  have q' : sp vs H1 Q L2.E0 := by
    have z : sp (vs ++ []) H1 Q L2.E0 := q
    rw [List.append_nil] at z
    exact z
  have n1 : us.length = ps.length := by
    rw [← rv.length]
    exact F.len _ _ _ _ q'
  have bind := hb s1 us J.kIn (by rw [List.append_nil]; exact n1)
  rw [List.append_nil] at bind
  refine wpAny_call (codeAny_mono (F.go X.A X.stack s1 H1 ⟨us, []⟩ us vs Q L2.E0 hr hng J.env0 bind rv q') fun r s' hq => ?_)
  cases r with
  | error e => exact hq.elim
  | ok fl =>
    cases fl with
    | ret u => exact J.after hq
    | next => exact hq.elim
    | brk => exact hq.elim
    | cont => exact hq.elim
end
/-- an object of the tables' kind, still empty -/
abbrev emptyTab : Obj := { cls := .none, data := .fields #[] }
/-- what H tracks, hidden, is a base for the law's def: H tracks the script's list at a and the empty tables alone -/
structure Few (s : Shared) (H : Hp) (a : Addr) (items : List Value) (cs : List (Addr × Addr)) (K : PySem.W.Frag) : Prop where
  la : s.heap.get? a = some { cls := .type "list", data := .seq items.toArray }
  ta : ∀ b ∈ cs.map (·.2), s.heap.get? b = some emptyTab
  only : ∀ b, H b ≠ none → b = a ∨ b ∈ cs.map (·.2)
  hk : H a ≠ none → K.lookup a = none
  tk : ∀ b ∈ cs.map (·.2), K.lookup b = none
theorem Few.un {s : Shared} {H : Hp} {a : Addr} {items : List Value} {cs : List (Addr × Addr)} {K : PySem.W.Frag} (W : Few s H a items cs K) {b : Addr} {o : Obj} (e : s.heap.get? b = some o) (h1 : ∀ xs n, o.data ≠ .seq xs n) (h2 : o.data ≠ .fields #[]) : H b = none := by
  cases c : H b with
  | none => rfl
  | some u =>
    rcases W.only b (by rw [c]; simp) with z | z
    · subst z
      have y := W.la
      rw [e] at y
      cases y
      exact absurd rfl (h1 _ _)
    · have y := W.ta b z
      rw [e] at y
      cases y
      exact absurd rfl h2
theorem Few.mod {mg mb : Str → Option Value} {s : Shared} {H : Hp} {a : Addr} {items : List Value} {cs : List (Addr × Addr)} {K : PySem.W.Frag} (W : Few s H a items cs K) (inK : K.In s.heap) (gl : s.heap.Ns mainGlobals mg) (bl : s.heap.Ns builtinsNs mb)
    (boot : ∀ x : Str, x ≠ "__name__" → mb x = bootBuiltins x) (lim : s.heap.NoLimit) : Mod K mg (hidT s.heap H) := by
  have stays : ∀ {b : Addr} {m : Str → Option Value}, s.heap.Ns b m → (hidT s.heap H).Ns b m := fun {b m} ⟨o, es, n, e, d, r⟩ =>
    ⟨o, es, n, hidT_get e (W.un e (fun xs k z => by rw [d] at z; cases z) fun z => by rw [d] at z; cases z), d, r⟩
  refine ⟨fun b o e => hidT_get (inK b o e) ?_, stays gl, ⟨mb, stays bl, boot⟩, ?_⟩
  · cases c : H b with
    | none => rfl
    | some u =>
      rcases W.only b (by rw [c]; simp) with z | z
      · subst z
        rw [W.hk (by rw [c]; simp)] at e
        cases e
      · rw [W.tk b z] at e
        cases e
  · obtain ⟨mc, y1, y2⟩ := lim
    exact ⟨mc, stays y1, y2⟩
/-- the module of the built-in names stands -/
def BMod (mg : Str → Option Value) (h : Heap) : Prop := ∃ (bm : Addr) (ob : Obj), mg "__builtins__" = some (.ref bm) ∧ bm ≠ builtinsNs ∧ h.get? bm = some ob ∧ ob.cls = .type "module" ∧ ob.dict = some builtinsNs ∧ ob.data = .plain
theorem Few.tabs {mg : Str → Option Value} {s : Shared} {H : Hp} {a : Addr} {items : List Value} {cs : List (Addr × Addr)} {K : PySem.W.Frag} (W : Few s H a items cs K) (gl : s.heap.Ns mainGlobals mg) (bm : BMod mg s.heap) {p : Addr × Addr} (hp : p ∈ cs) (hc : PySem.W.CodeHd s.heap p.1 p.2) :
    LamX.TabB (hidT s.heap H) mg p.1 p.2 := by
  have hp2 : p.2 ∈ cs.map (·.2) := List.mem_map.mpr ⟨p, hp, rfl⟩
  have tp := W.ta _ hp2
  obtain ⟨og, eg, ng, ge, gd, _⟩ := gl
  refine ⟨?_, ?_, fun z => ?_⟩
  · obtain ⟨o, us, file, tf, flags, tg, inF, text, tt, e1, r1, r2, r3, r4, r5, r6, r7, r8, r9⟩ := hc
    refine ⟨o, us, file, tf, flags, tg, inF, text, tt, hidT_get e1 (W.un e1 (fun xs n z => by rw [r2] at z; cases z) fun z => ?_), r1, r2, r3, r4, r5, r6, r7, r8, r9⟩
    rw [r2] at z
    cases z
    simp at r3
  · obtain ⟨m, ob, m1, m2, m3, m4, m5, m6⟩ := bm
    refine ⟨m, ob, m1, m2, fun q => ?_, fun q => ?_, hidT_get m3 (W.un m3 (fun xs n z => by rw [m6] at z; cases z) fun z => by rw [m6] at z; cases z), m4, m5, m6⟩
    · rw [q, ge] at m3
      cases m3
      rw [gd] at m6
      cases m6
    · rw [q, tp] at m3
      cases m3
      cases m6
  · rw [z, tp] at ge
    cases ge
    cases gd
/-- the law's call, from its promise, where defs hold lambdas: cs, their code objects and the tables -/
theorem law_goesT {P : Program} {w : World} {K : PySem.W.Frag} {mg mb : Str → Option Value} {k : Nat} {fa a : Addr} {cs : List (Addr × Addr)} {fd : FuncData} {x : Str} {sp : Sp} {s : Shared} {items : List Value} {ns : List Int}
    (inK : K.In s.heap) (gl : s.heap.Ns mainGlobals mg) (bl : s.heap.Ns builtinsNs mb) (boot : ∀ x : Str, x ≠ "__name__" → mb x = bootBuiltins x) (lim : s.heap.NoLimit) (gens : s.gens = #[]) (bm : BMod mg s.heap)
    (ta : ∀ b ∈ cs.map (·.2), s.heap.get? b = some emptyTab) (tk : ∀ b ∈ cs.map (·.2), K.lookup b = none) (hc : ∀ p ∈ cs, PySem.W.CodeHd s.heap p.1 p.2)
    (la : s.heap.get? a = some { cls := .type "list", data := .seq items.toArray }) (intv : IntsAre items ns) (hl : ns.length ≤ sizeLine) (hr : Room k callerA)
    (F : ∀ base : Heap, K.In base → base.Ns mainGlobals mg → (∀ p ∈ cs, LamX.TabB base mg p.1 p.2) → FnG P w K mg base k fa fd [x] sp) (bind : ∀ (s : Shared) (u : Value), BindsTo s fd ⟨[u], []⟩ [(x, u)])
    (hsp : ∀ H : Hp, (∀ p ∈ cs, H p.2 = some (.tbl #[])) → SqL K H a (ns.map V.int) → sp [.ref a] H (fun v _ => v = .bl true) fun _ _ _ => False) :
    codeAny (model P w) callerA (.call (.ref fa) ⟨[.ref a], []⟩) (fun r s' => r = .ok (.ret (.bool true)) ∧ OldK s.heap s'.heap ∧ s'.os = s.os ∧ AllBare s'.gens) s := by
  have vals := vals_ints intv
  have same := intv.length
  have nota : a ∉ cs.map (·.2) := fun z => by
    have y := ta a z
    rw [la] at y
    cases y
  have go : ∀ H : Hp, Few s H a items cs K → (∀ b ∈ cs.map (·.2), H b = some (.tbl #[])) → (H a = none ∨ ∃ o xs, H a = some (.frz o (.lst xs))) → SqL K H a (ns.map V.int) → HOk P w H s.heap →
      codeAny (model P w) callerA (.call (.ref fa) ⟨[.ref a], []⟩) (fun r s' => r = .ok (.ret (.bool true)) ∧ OldK s.heap s'.heap ∧ s'.os = s.os ∧ AllBare s'.gens) s := by
    intro H W hT hA hS ok
    have mod := W.mod inK gl bl boot lim
    have env0 : Env0 P w K mg (hidT s.heap H) callerA [] s H := ⟨rfl, mod, fun b o e => of_hidT e, Nat.le_of_eq (hidT_size _ _), trivial, fun b hb => absurd (show b ∈ ([] : List Addr) from hb) (by simp), ok, .of_eq gens⟩
    have mem : ∀ p ∈ cs, p.2 ∈ cs.map (·.2) := fun p hp => List.mem_map.mpr ⟨p, hp, rfl⟩
    refine codeAny_mono ((F _ mod.kin mod.glob fun p hp => W.tabs gl bm hp (hc p hp)).go callerA [] s H ⟨[.ref a], []⟩ [.ref a] [.ref a] _ _ hr rfl env0 (bind s (.ref a)) (.cons rfl .nil) (hsp H (fun p hp => hT _ (mem p hp)) hS)) fun r s' h => ?_
    cases r with
    | error e => exact h.elim
    | ok fl =>
      cases fl with
      | next => exact h.elim
      | brk => exact h.elim
      | cont => exact h.elim
      | ret u =>
        obtain ⟨v, H', os, bare, un, ok', rv, q⟩ := h
        cases (show v = .bl true from q)
        cases (show u = Value.bool true from rv)
        have firm : ∀ b o, b ∉ cs.map (·.2) → s.heap.get? b = some o → s'.heap.get? b = some o := fun b o nb e => by
          cases c : H b with
          | none => exact un.keep b o e c (fun z => absurd (show b ∈ ([] : List Addr) from z) (by simp)) (by simp)
          | some u =>
            rcases W.only b (by rw [c]; simp) with z | z
            · subst z
              rcases hA with z | ⟨ob, xs, z⟩
              · rw [c] at z
                cases z
              · have z2 := un.frzs b ob _ z
                obtain ⟨e1, _⟩ := ok b _ z
                obtain ⟨e2, _⟩ := ok' b _ z2
                rw [e] at e1
                cases e1
                exact e2
            · exact absurd z nb
        have more : ∀ b ∈ cs.map (·.2), ∃ ms : Array Value, s'.heap.get? b = some { cls := .none, data := .fields ms } := fun b hb => by
          obtain ⟨ms, z⟩ := un.tbls b #[] (hT b hb)
          exact ⟨_, ok' b _ z⟩
        refine ⟨rfl, ⟨fun b o e => ?old, fun b o e => ?there⟩, os, bare⟩
        case old =>
          by_cases hb : b ∈ cs.map (·.2)
          · obtain ⟨ms, hm⟩ := more b hb
            obtain ⟨p, hp, rfl⟩ := List.mem_map.mp hb
            have y := ta _ hb
            rw [e] at y
            cases y
            exact .inr (.inl ⟨((hc p hp).tab (ta _ hb)).isCodeTable, rfl, #[], ms, rfl, by rw [Array.empty_append]; exact hm⟩)
          · exact .inl (firm b o hb e)
        case there =>
          by_cases hb : b ∈ cs.map (·.2)
          · obtain ⟨ms, hm⟩ := more b hb
            exact ⟨_, hm⟩
          · exact ⟨o, firm b o hb e⟩
  cases hk : K.lookup a with
  | some o =>
    have e := inK a o hk
    rw [la] at e
    cases e
    have off : (if a ∈ cs.map (·.2) then some (HO.tbl #[]) else none) = none := if_neg nota
    refine go (fun b => if b ∈ cs.map (·.2) then some (.tbl #[]) else none) ⟨la, ta, fun b z => ?_, fun z => absurd off z, tk⟩ (fun b hb => if_pos hb) (.inl off) (.inr ⟨_, items.toArray, _, hk, rfl, rfl, rfl, by rw [List.size_toArray, same]; exact hl, by simpa using vals⟩) fun b u z => ?_
    · by_cases hb : b ∈ cs.map (·.2)
      · exact .inr hb
      · exact absurd (if_neg hb) z
    · by_cases hb : b ∈ cs.map (·.2)
      · cases (if_pos hb).symm.trans z
        exact ta b hb
      · cases (if_neg hb).symm.trans z
  | none =>
    have here : (if a = a then some (HO.frz { cls := .type "list", data := .seq items.toArray } (.lst (ns.map V.int))) else if a ∈ cs.map (·.2) then some (HO.tbl #[]) else none) = some (HO.frz { cls := .type "list", data := .seq items.toArray } (.lst (ns.map V.int))) := if_pos rfl
    refine go (fun b => if b = a then some (.frz { cls := .type "list", data := .seq items.toArray } (.lst (ns.map V.int))) else if b ∈ cs.map (·.2) then some (.tbl #[]) else none) ⟨la, ta, fun b z => ?_, fun _ => hk, tk⟩
      (fun b hb => (if_neg fun z => nota (by rw [← z]; exact hb)).trans (if_pos hb)) (.inr ⟨_, _, here⟩) (.inl (.inr ⟨{ cls := .type "list", data := .seq items.toArray }, here⟩)) fun b u z => ?_
    · by_cases c : b = a
      · exact .inl c
      · by_cases hb : b ∈ cs.map (·.2)
        · exact .inr hb
        · exact absurd ((if_neg c).trans (if_neg hb)) z
    · by_cases c : b = a
      · cases (if_pos c).symm.trans z
        subst c
        exact ⟨la, by rw [List.length_map]; exact hl, items, _, vals, la⟩
      · by_cases hb : b ∈ cs.map (·.2)
        · cases ((if_neg c).trans (if_pos hb)).symm.trans z
          exact ta b hb
        · cases ((if_neg c).trans (if_neg hb)).symm.trans z
/-- the law's row, from its promise -/
theorem row_goesT {l : PySem.W.OpenLaw} {n k : Nat} {q : Program} {loose : List Str} {XP : (Str → Option Value) → Heap → Prop} {YP : World → Heap → Prop} {d : DefRec} {K : Params → PySem.W.Frag} {sp : PySem.W.Frag → List (Addr × Addr) → Sp} {x : Str}
    (hn : l.most = some n) (hn2 : n ≤ sizeLine) (hdf : d.params.defaults = []) (hr : Room k callerA)
    (hY : ∀ (w : World) (h : Heap), YP w h → (K w.params).In h)
    (F : ∀ (w : World) (mg mb : Str → Option Value) (fa : Addr) (h : Heap), YP w h → (K w.params).In h → (∃ lo mean, Top q lo mean mg mb h) → mg d.name = some (.ref fa) →
      ∃ (fd : FuncData) (cs : List (Addr × Addr)), (∀ b ∈ cs.map (·.2), h.get? b = some emptyTab) ∧ (∀ b ∈ cs.map (·.2), (K w.params).lookup b = none) ∧ (∀ p ∈ cs, PySem.W.CodeHd h p.1 p.2) ∧ (∀ (s : Shared) (u : Value), BindsTo s fd ⟨[u], []⟩ [(x, u)]) ∧
        (∀ (H : Hp) (a : Addr) (ns : List Int), ns.length ≤ n → (∀ z ∈ ns, Builtin.Int.intBits z ≤ 1048576) → (∀ p ∈ cs, H p.2 = some (.tbl #[])) → SqL (K w.params) H a (ns.map V.int) → sp (K w.params) cs [.ref a] H (fun v _ => v = .bl true) fun _ _ _ => False) ∧
        ∀ base : Heap, (K w.params).In base → base.Ns mainGlobals mg → (∀ p ∈ cs, LamX.TabB base mg p.1 p.2) → FnG l.prog w (K w.params) mg base k fa fd [x] (sp (K w.params) cs)) :
    PySem.W.WalkO q loose XP YP l.row.toRowW d [] (fun f vs => PySem.call f vs) := by
  refine Att.attach_callB hn hdf fun w s0 s mg mb fa o pm cd doc a items ns G Y ho hd hcd hmg hobj intv hlen hbits hg => ?_
  have inK := hY w _ Y
  obtain ⟨fd, cs, ta, tk, hc, bind, hsp, hF⟩ := F w mg mb fa _ Y inK ⟨_, _, G.T⟩ hmg
  exact law_goesT inK G.T.g G.T.b G.T.builtins G.T.nolimit hg G.T.bmain ta tk hc hobj intv (Nat.le_trans hlen hn2) hr hF bind fun H hH hS => hsp H a ns hlen hbits hH hS
end QN

/-! tuples: t * 0 and t * 1, t[::-1] -/
namespace QN
open PySem PySem.Spec PyProof.Rows L2
theorem tuple_mul1 (l : Addr) (items : Array Value) (n : Nat) (dd : Option Addr) (sl : Array (Option Value)) (u : Tok) :
    Meets (Builtin.«tuple.__mul__» ⟨[.ref l, .int 1 u], []⟩) (fun _ R s => s.heap.get? l = some { cls := .type "tuple", dict := dd, data := .seq items n, slots := sl } ∧ R (.ok (.ret (Value.ref l))) s) :=
  .of_wp fun prog w A R s h => by
    obtain ⟨hp, g, d, tk, os⟩ := s
    obtain ⟨hl, h⟩ := h
    have f1 := AutoSeq1.idx_int
    have c1 : (items.isEmpty || (1 : Int) == 1) = true := by simp
    wp_walk using wpAny_loadPart' hl
    repeat (first
      | (refine wpAny_ite_false (decide_eq_false (by decide)) ?_; wp_walk using wpAny_loadPart' hl)
      | (refine wpAny_ite_true (decide_eq_true (by rw [c1])) ?_; wp_walk using wpAny_loadPart' hl))
    exact ⟨_, rfl, h⟩
theorem tuple_mul0 (l : Addr) (items : Array Value) (n : Nat) (dd : Option Addr) (sl : Array (Option Value)) (u : Tok) (hi : items.isEmpty = false) :
    Meets (Builtin.«tuple.__mul__» ⟨[.ref l, .int 0 u], []⟩) (fun _ R s => s.heap.get? l = some { cls := .type "tuple", dict := dd, data := .seq items n, slots := sl } ∧
      R (.ok (.ret (Value.ref s.heap.objs.size))) { s with heap := s.heap.push { cls := Value.type "tuple", data := Data.seq #[] }, toks := s.toks }) :=
  .of_wp fun prog w A R s h => by
    obtain ⟨hp, g, d, tk, os⟩ := s
    obtain ⟨hl, h⟩ := h
    have f1 := AutoSeq1.idx_int
    have c1 : (items.isEmpty || (0 : Int) == 1) = false := by rw [hi]; rfl
    have c2 : (decide ((0 : Int) ≤ 0) || items.isEmpty) = true := by simp
    wp_walk using wpAny_loadPart' hl
    repeat (first
      | (refine wpAny_ite_false (decide_eq_false (by decide)) ?_; wp_walk using wpAny_loadPart' hl)
      | (refine wpAny_ite_false (decide_eq_false (by rw [c1]; exact Bool.false_ne_true)) ?_; wp_walk using wpAny_loadPart' hl)
      | (refine wpAny_ite_true (decide_eq_true (by rw [c2])) ?_; wp_walk using wpAny_loadPart' hl))
    exact ⟨_, rfl, h⟩
theorem fm_congr {α β : Type} {f g : α → Option β} : ∀ {l : List α}, (∀ x ∈ l, f x = g x) → l.filterMap f = l.filterMap g
  | [], _ => rfl
  | a :: l, h => by
    rw [List.filterMap_cons, List.filterMap_cons, h a List.mem_cons_self, fm_congr fun x hx => h x (List.mem_cons_of_mem _ hx)]
theorem sliceApplied_rev {prog : Program} {w : World} {A : Around} {E : Value → Shared → Prop} {s : Shared} {sl : Addr} {u : Tok} {n : Nat} {Q : Int × Int × Nat → Shared → Prop} (hs : s.heap.IsSliceOf sl .none .none (.int (-1) u))
    (h : Q ((n : Int) - 1, -1, Builtin.Slice.slicePlaces ((n : Int) - 1) (-1) (-1)) s) : wpAny (model prog w) A (Builtin.Slice.sliceApplied (.ref sl) (pure (n : Int))) Q E s := by
  obtain ⟨os, hos, hcs, hds⟩ := id hs
  unfold Builtin.Slice.sliceApplied Builtin.Slice.sliceFields
  refine wpAny_bind (wpAny_bind (wpAny_field hos hds (x := .none) rfl (wpAny_bind (wpAny_field hos hds (x := .none) rfl (wpAny_bind (wpAny_field hos hds (x := .int (-1) u) rfl (wpAny_pure ?_)))))))
  refine wpAny_bind (slicePart_int ?_)
  show wpAny _ _ (if ((-1 : Int) == 0) = true then _ else _) _ _ s
  rw [if_neg (by decide)]
  refine wpAny_bind (slicePart_none (wpAny_bind (slicePart_none (wpAny_bind (wpAny_pure ?_)))))
  exact wpAny_pure h
theorem getItem_tuple_rev {prog : Program} {w : World} {A : Around} {E : Value → Shared → Prop} {s : Shared} {t sl : Addr} {items : Array Value} {u : Tok} {Q : Value → Shared → Prop} (ht : IsTup s.heap t items) (hs : s.heap.IsSliceOf sl .none .none (.int (-1) u))
    (h : Q (.ref s.heap.objs.size) { s with heap := s.heap.push { cls := .type "tuple", data := .seq items.toList.reverse.toArray } }) (hsz : items.size ≤ sizeLine) : wpAny (model prog w) A (getItem (.ref t) (.ref sl)) Q E s := by
  have htake : sizeOk (.seq items.toList.reverse.toArray) := by
    show items.toList.reverse.toArray.size ≤ sizeLine
    rw [List.size_toArray, List.length_reverse, Array.length_toList]
    exact hsz
  obtain ⟨os, hos, hcs, hds⟩ := id hs
  have hTs : s.TypeIs (.ref sl) "slice" := ⟨os, hos, hcs⟩
  unfold getItem
  try with_reducible refine wpAny_holding ?_
  first | refine wpAny_bind (wpAny_pure ?_) | skip
  refine wpAny_bind (wpAny_sequenceKey ht.typeIs (by decide) ?_)
  refine wpAny_bind (wpAny_callSpecial?_slot (name := Str.ofString "__getitem__") ht.typeIs PyProof.Rows.slot_tuple_getitem
    (wpAny_call_entry PyProof.Rows.slot_tuple_getitem ht.typeIs entry_tuple_getitem ?_ (args_tuple_getitem _ _)))
  show wpAny _ _ (Builtin.Tuple.tupleItemsOf (.ref t) >>= _) _ _ s
  refine wpAny_bind (tupleItemsOf_ ht ?_)
  refine wpAny_bind (wpAny_typeOf hTs ?_)
  rw [if_pos (by decide)]
  have pick : ((List.range (Builtin.Slice.slicePlaces ((items.size : Int) - 1) (-1) (-1))).filterMap fun (k : Nat) => items[((items.size : Int) - 1 + (k : Int) * (-1)).toNat]?).toArray = items.toList.reverse.toArray := by
    have hp : Builtin.Slice.slicePlaces ((items.size : Int) - 1) (-1) (-1) = items.size := by
      unfold Builtin.Slice.slicePlaces
      rw [if_neg (by decide)]
      by_cases c : items.size = 0
      · rw [c, if_neg (by decide)]
        rfl
      · rw [if_pos (by omega), show (- -1 : Int) = 1 by decide, Int.ediv_one]
        omega
    rw [hp]
    have hf : ((List.range items.size).filterMap fun (k : Nat) => items[((items.size : Int) - 1 + (k : Int) * (-1)).toNat]?) = ((List.range items.size).map fun k => items.size - 1 - k).filterMap (items[·]?) := by
      rw [List.filterMap_map]
      refine fm_congr fun k hk => ?_
      have hk' := List.mem_range.mp hk
      show items[((items.size : Int) - 1 + (k : Int) * (-1)).toNat]? = items[items.size - 1 - k]?
      congr 1
      omega
    rw [hf, PySem.W.krv_range, List.filterMap_reverse, PySem.W.krv_all]
  refine wpAny_bind (sliceApplied_rev hs ?_)
  have hno : ¬ (((items.size : Int) - 1 == 0 && (-1 : Int) == 1 && Builtin.Slice.slicePlaces ((items.size : Int) - 1) (-1) (-1) == items.size) = true) := by
    intro q
    rw [Bool.and_eq_true, Bool.and_eq_true] at q
    exact absurd q.1.2 (by decide)
  show wpAny _ _ (if ((items.size : Int) - 1 == 0 && (-1 : Int) == 1 && Builtin.Slice.slicePlaces ((items.size : Int) - 1) (-1) (-1) == items.size) = true then _ else _) _ _ s
  rw [if_neg hno, pick]
  first
    | exact wpAny_bind (m := Builtin.Tuple.tupleExact _) (wpAny_newObj_type (wpAny_pure ⟨_, rfl, wpAny_pure h⟩) htake)
    | exact wpAny_bind (m := Builtin.Tuple.tupleExact _) (wpAny_newObj_type (wpAny_bind (wpAny_pure (wpAny_pure ⟨_, rfl, wpAny_pure h⟩))) htake)
    | exact wpAny_bind (wpAny_bind (m := Builtin.Tuple.tupleExact _) (wpAny_newObj_type (wpAny_pure (wpAny_pure ⟨_, rfl, wpAny_pure h⟩)) htake))
    | exact wpAny_bind (wpAny_bind (m := Builtin.Tuple.tupleExact _) (wpAny_newObj_type (wpAny_pure ⟨_, rfl, wpAny_pure h⟩) htake))
/-- t[::-1] -/
def tRevT (K : PySem.W.Frag) (te : TE) : TE := fun σ H Q => te σ H fun x H1 => ∃ a xs, x = .ref a ∧ SqT K H1 a xs ∧ ∀ p, H1 p = none → Q (.ref p) (upd H1 p (.tup xs.reverse))
theorem pe_revT {X : Cx} {e : Expr} {te : TE} {k : Nat} {p1 p2 p3 pos : Pos} (he : PE X e te) : PE X (.Subscript e (.Slice none none (some (.UnaryOp .USub (.Constant (.int 1) k p1) p2)) p3) pos) (tRevT X.K te) := by
  refine ⟨fun pins s σ H Q I h => ?_⟩
  refine Subscript_ (thn (he.run pins s σ H _ I h) fun v s1 ⟨x, H1, I1, r1, q1⟩ => ?_)
  obtain ⟨a, xs, ex, hx, q⟩ := q1
  subst ex
  cases r1
  have hst : PO X (some (.UnaryOp .USub (.Constant (.int 1) k p1) p2)) (tPart (tUn (rU fun i => .int (-i)) (tC (.int 1)))) := po_some (pe_un un_neg pe_int)
  refine wpAny_Slice (thn (po_none.run pins s1 σ H1 (fun o H2 => o = none ∧ H2 = H1) I1 ⟨rfl, rfl⟩) fun vl s2 ⟨l, H2, I2, pl, el, e2⟩ => ?_)
  subst el e2
  refine thn (po_none.run pins s2 σ H2 (fun o H3 => o = none ∧ H3 = H2) I2 ⟨rfl, rfl⟩) fun vu s3 ⟨u, H3, I3, pu, eu, e3⟩ => ?_
  subst eu e3
  refine thn (hst.run pins s3 σ H3 (fun o H4 => o = some (-1) ∧ H4 = H3) I3 ⟨1, rfl, -1, rfl, rfl, rfl⟩) fun vs s4 ⟨o, H4, I4, ps, eo, e4⟩ => ?_
  subst eo e4
  cases pl
  cases pu
  obtain ⟨t5, rfl⟩ : ∃ t5, vs = Value.int (-1) t5 := by
    cases ps
    exact ⟨_, rfl⟩
  have I5 : Inv X pins σ H4 { s4 with heap := s4.heap.push { cls := .type "slice", data := .fields #[.none, .none, .int (-1) t5] } } := I4.kept (t' := s4.toks) fun b ob q => Heap.get?_push_of_some _ q
  obtain ⟨its, r, ht, hz⟩ := I5.tuple hx
  have hlen := r.length
  show wpAny (model X.prog X.w) X.A (subscriptTail e (.Slice none none (some (.UnaryOp .USub (.Constant (.int 1) k p1) p2)) p3) (.ref a) (.ref s4.heap.objs.size)) (EP X pins σ Q) X.xe { s4 with heap := s4.heap.push { cls := .type "slice", data := .fields #[.none, .none, .int (-1) t5] } }
  refine tail_any (ops := [.ref a, .ref s4.heap.objs.size]) ht.typeIs (PyProof.Rows.slot_tuple_getitem.lookup) ?_ (by with_unfolding_all rfl)
  refine getItem_tuple_rev ht (Heap.IsSliceOf.new _ .none .none (.int (-1) t5)) ?_ (by rw [List.size_toArray]; omega)
  refine ⟨.ref _, _, I5.laid (t' := s4.toks) (o := .tup xs.reverse) (fun b ob q => Heap.get?_push_of_some _ q) (Nat.le_refl _) ?_, rfl, q _ (I5.hok.fresh (Nat.le_refl _))⟩
  exact ⟨by rw [List.length_reverse]; exact hz, _, r.reverse, IsTup.new _ _⟩
/-- t * k, k from 0 to 1000, t not empty -/
def rRepA (K : PySem.W.Frag) : R2 := fun x y H Q => ∃ l k xs, x = .ref l ∧ y = .int k ∧ SqT K H l xs ∧ xs ≠ [] ∧ 0 ≤ k ∧ k ≤ 1000 ∧ xs.length ≤ 1000 ∧ (k = 1 → Q (.ref l) H) ∧ (k ≠ 1 → ∀ p, H p = none → Q (.ref p) (upd H p (.tup (List.replicate k.toNat xs).flatten)))
theorem op_repA {X : Cx} : OpR X (binaryOp .Mult) (rRepA X.K) := by
  intro pins s σ H x y v u Q I rx ry h
  obtain ⟨l, k, xs, rfl, rfl, hT, hne, h1, h2, hz, q1, q2⟩ := h
  by_cases hk : 2 ≤ k
  · exact op_repT pins s σ H _ _ v u Q I rx ry ⟨l, k, xs, rfl, rfl, hT, hne, hk, h2, hz, q2 (by omega)⟩
  · cases rx
    obtain ⟨t, rfl⟩ := ry
    obtain ⟨its, r, ⟨⟨cls, dd, data, sl⟩, ho, hc, n, hd⟩, hs⟩ := I.tuple hT
    simp only at hc hd
    subst hc hd
    have hle : its.length = xs.length := r.length.symm
    have hi : its.toArray.isEmpty = false := by
      cases its with
      | nil =>
        exact absurd (List.eq_nil_of_length_eq_zero hle.symm) hne
      | cons a b => rfl
    by_cases k0 : k = 0
    · subst k0
      refine wpAny_binaryOp_repeat_ref (T := "tuple") (U := "int") (by decide) ⟨_, ho, rfl⟩ (fun s' => typeIs_int s' 0 t) noFill_tuple_mul F.fills_int_mul F.slot_int_rmul repeat_tuple F.slot_int_index.lookup
        (call_meets F.slot_int_rmul (typeIs_int s 0 t) F.entry_int_rmul (F.args_int_rmul_2 _ _) (int_rmul_tuple 0 t l its.toArray n dd sl)
          ⟨ho, rfl, ⟨_, ho, rfl⟩, call_meets F.slot_tuple_mul ⟨_, ho, rfl⟩ F.entry_tuple_mul (F.args_tuple_mul_2 _ _) (tuple_mul0 l its.toArray n dd sl t hi) ⟨ho, ?_⟩⟩)
      refine ⟨.ref s.heap.objs.size, _, I.laid (t' := s.toks) (o := .tup (List.replicate (0 : Int).toNat xs).flatten) (fun b ob q => Heap.get?_push_of_some _ q) (Nat.le_refl _) ?_, rfl, q2 (by decide) _ (I.hok.fresh (Nat.le_refl _))⟩
      exact ⟨Nat.zero_le _, [], .nil, IsTup.new _ _⟩
    · have k1 : k = 1 := by omega
      subst k1
      exact wpAny_binaryOp_repeat_ref (T := "tuple") (U := "int") (by decide) ⟨_, ho, rfl⟩ (fun s' => typeIs_int s' 1 t) noFill_tuple_mul F.fills_int_mul F.slot_int_rmul repeat_tuple F.slot_int_index.lookup
        (call_meets F.slot_int_rmul (typeIs_int s 1 t) F.entry_int_rmul (F.args_int_rmul_2 _ _) (int_rmul_tuple 1 t l its.toArray n dd sl)
          ⟨ho, rfl, ⟨_, ho, rfl⟩, call_meets F.slot_tuple_mul ⟨_, ho, rfl⟩ F.entry_tuple_mul (F.args_tuple_mul_2 _ _) (tuple_mul1 l its.toArray n dd sl t) ⟨ho, ⟨.ref l, H, I, rfl, q1 rfl⟩⟩⟩)
end QN

/-! own classes made: C(), cls(*e) in a classmethod -/
namespace QN
open PySem PySem.Spec PyProof.Rows L2
section
variable {X : Cx} {CX : CXT} {k i : Nat} {f C : Addr} {sp : Sp} {E : XK} {x : Str} {e : Expr} {te : TE} {p sp_ pos : Pos}
def tMakeR0 (C : Addr) (sp : Sp) (E : XK) : TE := fun σ H Q => ∀ x dx, H x = Option.none → H dx = Option.none → dx ≠ x → sp [V.ref x] (upd (upd H dx (.own x)) x (.ins C dx [])) (fun v H2 => v = .non ∧ Q (.ref x) H2) E
/-- C() -/
theorem pe_makeR0 (M : Mk X.K C f) (F : FnR X.prog X.w X.K X.mg X.base CX k f sp) (hr : Room (k + 1) X.A) (hg : Gl X x) (hm : X.mg x = some (.ref C)) (hx : Passes CX X E) (hdb : (x == ("__debug__" : Str)) = false := by decide) :
    PE X (.Call (.Name x p) [] [] pos) (tMakeR0 C sp E) := by
  refine ⟨fun pins s σ H Q I h => ?_⟩
  refine wpAny_Call_Name_kw (ld_glob I hg hm ?_ hdb)
  exact PySem.W.callWith_K0 I.kIn M.kp (StX.run_makeR M F hr hx I .nil h)
def tMakeS (K : PySem.W.Frag) (i : Nat) (C : Addr) (sp : Sp) (E : XK) (te : TE) : TE := fun σ H Q => σ[i]? = some (some (.ref C)) ∧ te σ H fun y H1 => ∃ a xs, y = V.ref a ∧ (SqT K H1 a xs ∨ SqL K H1 a xs) ∧
  ∀ x dx, H1 x = Option.none → H1 dx = Option.none → dx ≠ x → sp (V.ref x :: xs) (upd (upd H1 dx (.own x)) x (.ins C dx [])) (fun v H2 => v = .non ∧ Q (.ref x) H2) E
/-- cls(*e), cls the class C in the slot i -/
theorem pe_makeS (M : Mk X.K C f) (F : FnR X.prog X.w X.K X.mg X.base CX k f sp) (hr : Room (k + 1) X.A) (hN : X.N[i]? = some x) (hv : Vis X.env.scope x) (hx : Passes CX X E) (he : PE X e te)
    (hdb : (x == ("__debug__" : Str)) = false := by decide) (hcd : (x == ("__classdict__" : Str)) = false := by decide) (hst : starEach [.Starred e sp_] X.env = [(true, eval e X.env)] := by rfl) :
    PE X (.Call (.Name x p) [.Starred e sp_] [] pos) (tMakeS X.K i C sp E te) := by
  refine ⟨fun pins s σ H Q I h => ?_⟩
  obtain ⟨hs, ht⟩ := h
  refine wpAny_Call_Name_kw (thn ((pe_var (pos := p) hN hv hdb hcd).run pins s σ H (fun v H1 => v = .ref C ∧ H1 = H) I ⟨.ref C, hs, rfl, rfl⟩) fun u s1 ⟨v, H1, I1, r1, q1⟩ => ?_)
  obtain ⟨rfl, rfl⟩ := q1
  cases r1
  refine PySem.W.callWith_S (h₀ := X.base) I1.ok.mod.kin M.kp (thn (he.run pins s1 σ _ _ I1 ht) fun v s2 ⟨y, H2, I2, ry, a, xs, ey, hxs, q⟩ => ?_) hst
  subst ey
  obtain rfl : v = Value.ref a := ry
  exact StX.star_any I2 hxs fun us s3 I3 rv => ⟨I3.kIn, StX.run_makeR M F hr hx I3 rv q⟩
end
end QN

/-! < and > of plain data of one kind -/
namespace QN
open PySem PySem.Spec PyProof.Rows L2
/-- x < y, x > y for data that are alike -/
def rLtX (K : PySem.W.Frag) : R2 := fun x y H Q => ∃ d e : PyData, Dp K H x d ∧ Dp K H y e ∧ PySem.W.alike d e = true ∧ d ≠ .none ∧ d.depth ≤ 60 ∧ Q (.bl (PySem.W.dataLt d e)) H
def rGtX (K : PySem.W.Frag) : R2 := fun x y H Q => ∃ d e : PyData, Dp K H x d ∧ Dp K H y e ∧ PySem.W.alike d e = true ∧ d ≠ .none ∧ d.depth ≤ 60 ∧ Q (.bl (PySem.W.dataLt e d)) H
section
variable {X : Cx}
theorem op_ltX (hu : X.A.units + 64 < cLine) : OpR X (compareOp .Lt) (rLtX X.K) := by
  intro pins s σ H x y v u Q I rx ry h
  obtain ⟨d, e, hd, he, al, nn, dp, q⟩ := h
  obtain ⟨as, ra⟩ := Dp.reads I d x v hd rx
  obtain ⟨bs, rb⟩ := Dp.reads I e y u he ry
  exact PySem.W.lt_data ra rb al nn (by omega) ⟨.bl _, H, I, rfl, q⟩
theorem op_gtX (hu : X.A.units + 64 < cLine) : OpR X (compareOp .Gt) (rGtX X.K) := by
  intro pins s σ H x y v u Q I rx ry h
  obtain ⟨d, e, hd, he, al, nn, dp, q⟩ := h
  obtain ⟨as, ra⟩ := Dp.reads I d x v hd rx
  obtain ⟨bs, rb⟩ := Dp.reads I e y u he ry
  exact PySem.W.gt_data ra rb al nn (by omega) ⟨.bl _, H, I, rfl, q⟩
/-- x in t for data in a tuple -/
def rInT (K : PySem.W.Frag) : R2 := fun x y H Q => ∃ (d : PyData) (ds : List PyData), Dp K H x d ∧ Dp K H y (.tuple ds) ∧ SeqAt.shaped d = true ∧ SeqAt.shaped (.tuple ds) = true ∧ Q (.bl (ds.any fun z => PyData.eqv z d)) H
theorem op_inT (hu : X.A.units + 65 < cLine) : OpR X (compareOp .In) (rInT X.K) := by
  intro pins s σ H x y v u Q I rx ry h
  obtain ⟨d, ds, hd, he, sd, se, q⟩ := h
  obtain ⟨as, r1⟩ := Dp.reads I d x v hd rx
  obtain ⟨bs, r2⟩ := Dp.reads I (.tuple ds) y u he ry
  exact SeqAt.in_tuple_reads r2 r1 (SeqAt.canLay_of_shaped se) (SeqAt.canLay_of_shaped sd) (room_in_shaped sd hu) ⟨.bl _, H, I, rfl, q⟩
end
end QN

/-! the built-in names of the graph laws -/
namespace Qp
open PySem PySem.Spec PyProof.Rows L2 QN
theorem sqT_same {K : PySem.W.Frag} {H H' : Hp} {p : Addr} {xs : List V} (s : Same H H') (h : SqT K H p xs) : SqT K H' p xs := by
  rcases h with h | h
  · rcases h with h | ⟨o, h⟩
    · exact .inl (.inl (s _ _ h))
    · exact .inl (.inr ⟨o, s _ _ h⟩)
  · exact .inr h
theorem same_new {H : Hp} {p : Addr} {o : HO} (h : H p = none) : Same H (upd H p o) := fun b x e => by
  rw [upd_ne (ne_of_none e h)]
  exact e
theorem if_yes {c : Prop} [Decidable c] {a b : Prop} (h : c) (x : a) : if c then a else b := by rw [if_pos h]; exact x
theorem if_no {c : Prop} [Decidable c] {a b : Prop} (h : ¬ c) (x : b) : if c then a else b := by rw [if_neg h]; exact x
theorem but_same {p : Addr} {H H1 H2 : Hp} (s : Same H H1) (b : But p H1 H2) : But p H H2 := fun c o n e => b c o n (s c o e)
theorem but_trans {p : Addr} {H H1 H2 : Hp} (a : But p H H1) (b : But p H1 H2) : But p H H2 := fun c o n e => b c o n (a c o n e)
theorem same_but {p : Addr} {H H1 : Hp} (s : Same H H1) : But p H H1 := fun c o _ e => s c o e
theorem slot_set {σ : L2.St} {i : Nat} {v : V} (h : i < σ.length) : (σ.set i (some v))[i]? = some (some v) := by rw [List.getElem?_set_self h]
theorem slot_keep {σ : L2.St} {i j : Nat} {u : Option V} {v : V} (n : j ≠ i) (h : σ[i]? = some (some v)) : (σ.set j u)[i]? = some (some v) := by rw [List.getElem?_set_ne n]; exact h
/-- ints as values -/
def iv (ns : List Int) : List V := ns.map V.int

theorem yes_if {σ : L2.St} {H : Hp} {A B : Hp → Prop} (a : A H) : tYes σ H (fun b H3 => if b = true then A H3 else B H3) := by
  show (if true = true then A H else B H)
  rw [if_pos rfl]
  exact a
theorem tyx_tup {K : PySem.W.Frag} {H : Hp} {q : Addr} {xs : List V} (h : SqT K H q xs) : TyX K H (.ref q) (.type "tuple") := by
  rcases h with (h | ⟨o, h⟩) | ⟨o, its, n, h1, h2, _⟩
  · exact .base (.tup h)
  · exact .fTuple h
  · exact .kTuple h1 h2
structure Blt2 (mg : Str → Option Value) : Prop where
  rg : mg "range" = none
  tu : mg "tuple" = none
  li : mg "list" = none
structure BltP (mg : Str → Option Value) : Prop where
  isi : mg "isinstance" = none
  int : mg "int" = none
  bool : mg "bool" = none
  tuple : mg "tuple" = none
  len : mg "len" = none
  all : mg "all" = none
  str : mg "str" = none
  rg : mg "range" = none
end Qp

/-! items in a drawn order -/
namespace Qp
open PySem PySem.Spec PyProof.Rows L2 QN
abbrev sMixed : Stmt := top 43 -- _law_mixed
abbrev mixNames : List Str := ["_law_dice_here", "_law_items", "_law_left", "_law_turn"]
theorem scMixed : FnScope mixNames ["_law_dice_here", "_law_items"] (defScope sMixed) := ⟨rfl, rfl, rfl, by decide +kernel, rfl, by decide +kernel, by decide +kernel⟩
theorem sqLsm {K : PySem.W.Frag} {H H' : Hp} {q : Addr} {xs : List V} (e : Same H H') (a : SqL K H q xs) : SqL K H' q xs := by
  rcases a with (a | ⟨u, a⟩) | a
  · exact .inl (.inl (e _ _ a))
  · exact .inl (.inr ⟨u, e _ _ a⟩)
  · exact .inr a
theorem erase_perm {α : Type} : ∀ (l : List α) (j : Nat) (h : j < l.length), (l[j] :: l.eraseIdx j).Perm l
  | [], _, h => absurd h (Nat.not_lt_zero _)
  | x :: l, 0, _ => List.Perm.refl _
  | x :: l, j + 1, h => (List.Perm.swap x (l[j]'(Nat.lt_of_succ_lt_succ h)) _).trans (List.Perm.cons x (erase_perm l j (Nat.lt_of_succ_lt_succ h)))
def spMixed (K : PySem.W.Frag) : Sp := fun vs H Q _ => ∃ (p q : Addr) (x y z : Int) (its : List V), vs = [.ref p, .ref q] ∧ H p = some (.lst (hand x y z)) ∧ (SqL K H q its ∨ SqT K H q its) ∧ its.length < 1000000 ∧
  ∀ (r : Addr) (ys : List V) (x' y' z' : Int) (H' : Hp), ys.Perm its → H' r = some (.lst ys) → H' p = some (.lst (hand x' y' z')) → But p H H' → Q (.ref r) H'
def rLenM (K : PySem.W.Frag) : List V → Hp → VK → Prop := fun xs H Q => ∃ p ys, xs = [V.ref p] ∧ (SqL K H p ys ∨ SqT K H p ys) ∧ Q (V.int ys.length) H
section
variable {P : Program} {w : World} {K : PySem.W.Frag} {mg : Str → Option Value} {base : Heap}
theorem ok_mixed {f fR : Addr} {fd fdR : FuncData} (F : Fun K "_law_mixed" "_law_mixed" sMixed f fd) (GR : FnOk P w K mg base CX0 1 fR fdR ["_law_dice_here", "_law_total"] spRoll) (kR : PySem.W.keepIn K (.ref fR) = true) (bR : L2.Binds K fdR ["_law_dice_here", "_law_total"] []) (gR : mg "_law_roll" = some (.ref fR)) (B : Blt mg) (B2 : Blt2 mg) :
    FnOk P w K mg base CX0 2 f fd ["_law_dice_here", "_law_items"] (spMixed K) := by
  refine F.ok scMixed (fun vs H Q E h => ?_) (fun cdv A outer s H vs Q E hr h => ?_)
  · obtain ⟨p, q, x, y, z, its, rfl, _⟩ := h
    rfl
  · obtain ⟨p, q, x, y, z, its, rfl, hp, hq, hl, k⟩ := h
    refine ⟨_, pss_cons (ps_set (i := 2) scMixed.nd rfl (.inr rfl) (pe_callTy call_list_of (by rfl) B2.li (by decide +kernel) (pa_cons (pv 1) pa_nil)))
      (pss_one (ps_ret (pe_lc (own := [("_law_turn", 3)]) (g := gName 3) (tt := tYes)
        (te := tBM K "list" rPopAt (tVar 2) (tCons (tCall spRoll [] L2.E0 (tCons (tVar 0) (tCons (tCB (rLenM K) (tCons (tVar 2) tNil)) tNil))) tNil)) rfl scMixed.nd (pi_range1 (by rfl) B2.rg (pa_cons (pe_callB call_len_seq (by rfl) B.len PySem.boot_len (pa_cons (pv 1) pa_nil)) pa_nil)) (blkOk_by (N := mixNames) (sc := defScope sMixed) (by decide +kernel))
        (fun _ _ _ _ _ => pg_name (i := 3) scMixed.nd rfl (.inl rfl) (hf := .inr rfl)) (fun _ _ _ _ _ => pts_nil)
        (fun _ _ _ _ _ => pe_bm PySem.F.plainAttrs_list PySem.F.slot_list_pop PySem.F.type_list_pop mt_popAt (pv 2) (pa_cons (pe_call GR hr (by rfl) gR kR bR .nil pass0 (pa_cons (pv 0) (pa_cons (pe_callB call_len_seq (by rfl) B.len PySem.boot_len (pa_cons (pv 2) pa_nil)) pa_nil))) pa_nil))))), ?_⟩
    refine ⟨.ref q, rfl, q, _, rfl, hq, fun L hL => ?_⟩
    have hL1 : (upd H L (.lst its)) L = some (.lst its) := upd_same
    have sL := same_new (o := .lst its) hL
    have nLp : L ≠ p := (fun c => by rw [c, hp] at hL; cases hL)
    refine ⟨.ref q, rfl, q, its, rfl, hq.elim (fun a => .inl (sqLsm sL a)) (fun a => .inr (sqT_same sL a)), _, rfl, by omega, by omega, fun D hD => ?_⟩
    have nDp : D ≠ p := (fun c => by rw [c, sL _ _ hp] at hD; cases hD)
    have nDL : D ≠ L := (fun c => by rw [c, hL1] at hD; cases hD)
    refine lc_range (fun i H' => ∃ ms rest x y z, H' D = some (.lst ms) ∧ H' L = some (.lst rest) ∧ (ms ++ rest).Perm its ∧ ms.length = i ∧ H' p = some (.lst (hand x y z)) ∧ But p H H')
      ⟨[], its, x, y, z, upd_same, by rw [upd_ne nDL.symm]; exact hL1, List.Perm.refl _, rfl, by rw [upd_ne nDp.symm]; exact sL _ _ hp, same_but (sL.trans (same_new hD))⟩ (fun i H' hi hV => ?_) fun H' hV => ?_
    · rw [Int.toNat_natCast] at hi
      obtain ⟨ms, rest, x1, y1, z1, hD1, hL1', pm, hm, hp1, b1⟩ := hV
      have len := pm.length_eq
      rw [List.length_append] at len
      refine ⟨rfl, .ref L, rfl, .inl ⟨rfl, _, .inl (.inl hL1')⟩, .ref p, rfl, .ref L, rfl, L, rest, rfl, .inl (.inl (.inl hL1')), p, x1, y1, z1, _, rfl, hp1, by omega, by omega, fun t x2 y2 z2 H2 t0 t1 hp2 b2 => ?_⟩
      obtain ⟨j, rfl⟩ := Int.eq_ofNat_of_zero_le t0
      have hj : j < rest.length := by omega
      have hL2 := b2 _ _ nLp hL1'
      refine ⟨L, rest, _, j, rest[j], rfl, rfl, hL2, by omega, by omega, ?_, List.getElem?_eq_getElem hj, _, by rw [upd_ne nDL]; exact b2 _ _ nDp hD1, ?_, ms ++ [rest[j]], rest.eraseIdx j, x2, y2, z2, upd_same, by rw [upd_ne nDL.symm]; exact upd_same, ?_, ?_, ?_, ?_⟩
      · exact PySem.StrLaws.seqIndex_nonneg (i := (j : Int)) t0 (by omega)
      · rw [sizeLine_eq]
        omega
      · refine List.Perm.trans ?_ pm
        rw [List.append_assoc]
        refine List.Perm.append_left ms ?_
        exact erase_perm rest j hj
      · rw [List.length_append, hm]
        rfl
      · rw [upd_ne nDp.symm, upd_ne nLp.symm]
        exact hp2
      · intro b o nb e
        have e2 := b2 b o nb (b1 b o nb e)
        by_cases c : b = L
        · rw [c, hL] at e
          cases e
        by_cases c2 : b = D
        · rw [c2] at e
          rw [sL _ _ e] at hD
          cases hD
        · rw [upd_ne c2, upd_ne c]
          exact e2
    · obtain ⟨ms, rest, x1, y1, z1, hD1, hL1', pm, hm, hp1, b1⟩ := hV
      rw [Int.toNat_natCast] at hm
      have len := pm.length_eq
      rw [List.length_append] at len
      have hr0 : rest = [] := List.length_eq_zero_iff.mp (by omega)
      rw [hr0, List.append_nil] at pm
      exact k D ms x1 y1 z1 H' pm hD1 hp1 b1
end
end Qp

/-! names and tuples of names -/
namespace Qp
open PySem PySem.Spec PyProof.Rows L2 QN
abbrev sIsI : Stmt := top 9 -- is_integer
abbrev sIsName : Stmt := top 10 -- is_name
abbrev sIsToN : Stmt := top 11 -- is_tuple_of_names
abbrev sIsAsc : Stmt := top 12 -- is_ascending
theorem scIsName : FnScope ["value", "letter"] ["value"] (defScope sIsName) := ⟨rfl, rfl, rfl, by decide +kernel, rfl, by decide +kernel, by decide +kernel⟩
theorem scIsToN : FnScope ["value", "name"] ["value"] (defScope sIsToN) := ⟨rfl, rfl, rfl, by decide +kernel, rfl, by decide +kernel, by decide +kernel⟩
def letters : Str := "abcdefghijklmnopqrstuvwxyz"
/-- a name as the document asks -/
def NameOk (x : Str) : Prop := 1 ≤ x.length ∧ x.length ≤ 8 ∧ ∀ c ∈ x.cps.toList, c ∈ letters.cps.toList
structure Lim (mg : Str → Option Value) : Prop where
  le : ∃ t, mg "_LETTERS" = some (.str letters t)
  ml : ∃ t, mg "_MAX_LETTERS" = some (.int 8 t)
def spIsName : Sp := fun vs H Q _ => ∃ x, vs = [.str x] ∧ NameOk x ∧ ∀ H', Same H H' → Q (.bl true) H'
def spIsToN (K : PySem.W.Frag) : Sp := fun vs H Q _ => ∃ (a : Addr) (xs : List Str), vs = [.ref a] ∧ SqT K H a (xs.map V.str) ∧ (∀ x ∈ xs, NameOk x) ∧ xs.length ≤ 1000 ∧ ∀ H', Same H H' → Q (.bl true) H'
theorem same_at {H H1 H2 : Hp} {D : Addr} {o o' : HO} (a : Same H H1) (n : H D = none) (b : Same H1 H2) (_ : H1 D = some o) : Same H (upd H2 D o') := fun c x e => by
  have ne : c ≠ D := fun z => by rw [z, n] at e; cases e
  rw [upd_ne ne]
  exact b _ _ (a _ _ e)
/-- a comprehension whose values are all True -/
theorem all_true {J : It} {n : Nat} {G : Hp → Prop} {Yv : Nat → V → Prop} (w : Walk J n G fun i H v H' => H' = H ∧ Yv i v) {g : TG} {tt : TT} {te : TE} {vs : List Nat} {σ : L2.St} {H1 : Hp} {D : Addr} {Qd : Hp → Prop} (hD : H1 D = none) (hG : ∀ H', Same H1 H' → G H') (hn : n ≤ 1000000)
    (hs : ∀ i x Ha (QK : VK) (F : Hp → Prop), i < n → Same H1 Ha → Yv i x → (∀ H4, Same Ha H4 → QK (.bl true) H4) → g x (wipe σ vs) Ha fun σ2 H2 => wipe σ2 vs = wipe σ vs ∧ tt σ2 H2 fun b H3 => if b = true then te σ2 H3 QK else F H3)
    (hd : ∀ H', Same H1 H' → H' D = some (.lst ((List.replicate n true).map V.bl)) → Qd H') :
    ∃ W : Nat → Nat → Hp → Prop, (∃ m, W 0 m (upd H1 D (.lst []))) ∧ ∀ i m H, W i m H →
      (J.stop i H ∧ Qd H) ∨ (J.go i H ∧ ∃ Nx : Hp → Prop, (∀ H', Nx H' → ∃ m', m' < m ∧ W (i + 1) m' H') ∧ ∀ x H', J.yld i H x H' → g x (wipe σ vs) H' fun σ2 H2 => wipe σ2 vs = wipe σ vs ∧ tt σ2 H2 fun b H3 =>
        if b = true then te σ2 H3 fun y H4 => ∃ acc, H4 D = some (.lst acc) ∧ acc.length < sizeLine ∧ Nx (upd H4 D (.lst (acc ++ [y]))) else Nx H3) :=
  lc_it w (fun i H' => Same H1 H' ∧ H' D = some (.lst ((List.replicate i true).map V.bl))) ⟨same_new hD, upd_same⟩ (fun i H' _ p => hG H' p.1)
    (fun i x Ha Hb hi p y => by
      obtain ⟨rfl, y⟩ := y
      refine hs i x _ _ _ hi p.1 y fun H4 s4 => ⟨_, s4 _ _ p.2, ?_, same_at p.1 hD s4 p.2, ?_⟩
      · rw [List.length_map, List.length_replicate, sizeLine_eq]
        omega
      · rw [upd_same, List.replicate_succ', List.map_append]
        rfl)
    fun H' p => hd H' p.1 p.2
theorem all_rep (n : Nat) : (List.replicate n true).all id = true := by
  rw [List.all_eq_true]
  intro b hb
  rw [List.mem_replicate] at hb
  exact hb.2
section
variable {P : Program} {w : World} {K : PySem.W.Frag} {mg : Str → Option Value} {base : Heap}
theorem ok_isName {f : Addr} {fd : FuncData} (F : Fun K "is_name" "is_name" sIsName f fd) (B : BltP mg) (L : Lim mg) : FnOk P w K mg base CX0 1 f fd ["value"] spIsName := by
  refine F.ok scIsName (fun vs H Q E h => ?_) (fun cdv A outer s H vs Q E hr h => ?_)
  · obtain ⟨x, rfl, _⟩ := h
    rfl
  · obtain ⟨x, rfl, ok, k⟩ := h
    obtain ⟨t1, e1⟩ := L.le
    obtain ⟨t2, e2⟩ := L.ml
    refine ⟨_, pss_cons (ps_if (PW.pt (pw_or (pt_not (pt_val (pe_callB call_isi (by rfl) B.isi (by decide +kernel) (pa_cons (pv 0) (pa_cons (pe_bltn (v := .ty "str") (by rfl) B.str (by decide +kernel) rfl) pa_nil))))) (pw_or1 (pt_not (pt_chain op_le op_le pe_int (pe_callB call_len (by rfl) B.len PySem.boot_len (pa_cons (pv 0) pa_nil)) (pe_glob (v := .int 8) (by rfl) e2 ⟨_, rfl⟩)))))) (pss_one (ps_ret pe_bl)) pss_nil)
      (pss_one (ps_ret (pe_callB (cr_all rfl) (by rfl) B.all (by decide +kernel) (pa_cons (pe_lc (own := [("letter", 1)]) (g := gName 1) (tt := tYes) rfl scIsName.nd (pi_str (pv 0)) (blkOk_by (N := ["value", "letter"]) (sc := defScope sIsName) (by decide +kernel))
        (fun _ _ _ _ _ => pg_name (i := 1) scIsName.nd rfl (.inl rfl)) (fun _ _ _ _ _ => pts_nil) (fun _ _ _ _ _ => pe_cmpR op_in_sign (pv 1) (pe_glob (v := .str letters) (by rfl) e1 ⟨_, rfl⟩) rfl)) pa_nil)))), ?_⟩
    have hx := ok.2.1
    refine ⟨_, rfl, _, _, _, _, true, rfl, .ty _, .base (.str x), kit_ty (by decide +kernel), _, rfl, if_no (by decide) ?_⟩
    refine ⟨_, rfl, .str x, x.length, rfl, ⟨by rw [sizeLine_eq]; omega, rfl⟩, _, _, rfl, rfl, _, rfl, if_yes (decide_eq_true (by have := ok.1; omega)) ⟨_, _, rfl, rfl, _, rfl, if_no (by rw [decide_eq_true (by omega)]; decide) ?_⟩⟩
    refine ⟨_, rfl, x, rfl, fun D hD => ?_⟩
    refine all_true walk_str hD (fun _ _ => trivial) (by have e : x.cps.size = x.length := rfl; omega) (fun i v Ha QK Ff hi sa y q => ?_) fun H' s' hD' => ⟨D, _, rfl, .inl (.inl hD'), ?_⟩
    · obtain ⟨c, hc, rfl⟩ := y
      refine ⟨rfl, yes_if ⟨_, rfl, c, letters, rfl, rfl, ?_⟩⟩
      rw [decide_eq_true (ok.2.2 c (Array.mem_toList_iff.mpr (Array.mem_of_getElem? hc)))]
      exact q _ (Same.refl _)
    · rw [all_rep]
      exact k _ s'
theorem ok_isToN {f fN : Addr} {fd fdN : FuncData} (F : Fun K "is_tuple_of_names" "is_tuple_of_names" sIsToN f fd) (GN : FnOk P w K mg base CX0 1 fN fdN ["value"] spIsName) (kN : PySem.W.keepIn K (.ref fN) = true) (bN : L2.Binds K fdN ["value"] []) (gN : mg "is_name" = some (.ref fN)) (B : BltP mg) :
    FnOk P w K mg base CX0 2 f fd ["value"] (spIsToN K) := by
  refine F.ok scIsToN (fun vs H Q E h => ?_) (fun cdv A outer s H vs Q E hr h => ?_)
  · obtain ⟨a, xs, rfl, _⟩ := h
    rfl
  · obtain ⟨a, xs, rfl, ha, ok, few, k⟩ := h
    refine ⟨_, pss_one (ps_ret (pe_and (pe_callB call_isi (by rfl) B.isi (by decide +kernel) (pa_cons (pv 0) (pa_cons (pe_bltn (v := .ty "tuple") (by rfl) B.tuple (by decide +kernel) rfl) pa_nil))) (pe_one (pe_callB (cr_all rfl) (by rfl) B.all (by decide +kernel) (pa_cons (pe_lc (own := [("name", 1)]) (g := gName 1) (tt := tYes) rfl scIsToN.nd (pi_tup (pv 0)) (blkOk_by (N := ["value", "name"]) (sc := defScope sIsToN) (by decide +kernel))
        (fun _ _ _ _ _ => pg_name (i := 1) scIsToN.nd rfl (.inl rfl)) (fun _ _ _ _ _ => pts_nil) (fun _ _ _ _ _ => pe_call GN hr (by rfl) gN kN bN .nil pass0 (pa_cons (pv 1) pa_nil))) pa_nil))))), ?_⟩
    refine ⟨_, rfl, _, _, _, _, true, rfl, .ty _, tyx_tup ha, kit_ty (by decide +kernel), _, rfl, if_yes rfl ?_⟩
    refine ⟨_, rfl, a, rfl, ⟨_, ha⟩, fun D hD => ?_⟩
    refine all_true (walk_tup (xs := xs.map V.str)) hD (fun _ s' => sqT_same s' ha) (by rw [List.length_map]; omega) (fun i v Ha QK Ff hi sa y q => ?_) fun H' s' hD' => ⟨D, _, rfl, .inl (.inl hD'), ?_⟩
    · rw [List.getElem?_map] at y
      cases hc : xs[i]? with
      | none => rw [hc] at y; cases y
      | some x =>
        rw [hc] at y
        cases (Option.some.inj y : V.str x = v)
        exact ⟨rfl, yes_if ⟨_, rfl, x, rfl, ok x (List.mem_of_getElem? hc), q⟩⟩
    · rw [all_rep]
      exact k _ s'
end
end Qp

/-! changes and transitions -/
namespace Qp
open PySem PySem.Spec PyProof.Rows L2 QN
abbrev sIsTr : Stmt := top 18 -- is_transition
abbrev sIsCh : Stmt := top 19 -- _is_change
abbrev sIsCC : Stmt := top 20 -- _is_counter_change
abbrev sIsAm : Stmt := top 21 -- _is_amount
theorem scIsI : FnScope ["value"] ["value"] (defScope sIsI) := ⟨rfl, rfl, rfl, by decide +kernel, rfl, by decide +kernel, by decide +kernel⟩
theorem scIsAsc : FnScope ["values", "at"] ["values"] (defScope sIsAsc) := ⟨rfl, rfl, rfl, by decide +kernel, rfl, by decide +kernel, by decide +kernel⟩
theorem scIsTr : FnScope ["value", "name"] ["value"] (defScope sIsTr) := ⟨rfl, rfl, rfl, by decide +kernel, rfl, by decide +kernel, by decide +kernel⟩
theorem scIsCh : FnScope ["value", "pair", "counter", "_"] ["value"] (defScope sIsCh) := ⟨rfl, rfl, rfl, by decide +kernel, rfl, by decide +kernel, by decide +kernel⟩
theorem scIsCC : FnScope ["value"] ["value"] (defScope sIsCC) := ⟨rfl, rfl, rfl, by decide +kernel, rfl, by decide +kernel, by decide +kernel⟩
theorem scIsAm : FnScope ["value"] ["value"] (defScope sIsAm) := ⟨rfl, rfl, rfl, by decide +kernel, rfl, by decide +kernel, by decide +kernel⟩
structure Lim2 (mg : Str → Option Value) : Prop where
  mc : ∃ t, mg "_MAX_CHANGE" = some (.int 9 t)
def spIsI : Sp := fun vs H Q _ => ∃ n : Int, vs = [.int n] ∧ Q (.bl true) H
def spIsAm : Sp := fun vs H Q _ => ∃ n : Int, vs = [.int n] ∧ -9 ≤ n ∧ n ≤ 9 ∧ Q (.bl true) H
/-- the change of a counter -/
def CcOk (p : Str × Int) : Prop := NameOk p.1 ∧ p.2 ≠ 0 ∧ -9 ≤ p.2 ∧ p.2 ≤ 9
def spIsCC (K : PySem.W.Frag) : Sp := fun vs H Q _ => ∃ (a : Addr) (p : Str × Int), vs = [.ref a] ∧ SqT K H a [.str p.1, .int p.2] ∧ CcOk p ∧ ∀ H', Same H H' → Q (.bl true) H'
section
variable {P : Program} {w : World} {K : PySem.W.Frag} {mg : Str → Option Value} {base : Heap}
theorem ok_isI {f : Addr} {fd : FuncData} (F : Fun K "is_integer" "is_integer" sIsI f fd) (B : BltP mg) : FnOk P w K mg base CX0 1 f fd ["value"] spIsI := by
  refine F.ok scIsI (fun vs H Q E h => ?_) (fun cdv A outer s H vs Q E hr h => ?_)
  · obtain ⟨n, rfl, _⟩ := h
    rfl
  · obtain ⟨n, rfl, k⟩ := h
    refine ⟨_, pss_one (ps_ret (pe_and (pe_callB call_isi (by rfl) B.isi (by decide +kernel) (pa_cons (pv 0) (pa_cons (pe_bltn (v := .ty "int") (by rfl) B.int (by decide +kernel) rfl) pa_nil)))
      (pe_one (pe_not (pe_callB call_isi (by rfl) B.isi (by decide +kernel) (pa_cons (pv 0) (pa_cons (pe_bltn (v := .ty "bool") (by rfl) B.bool (by decide +kernel) rfl) pa_nil))))))), ?_⟩
    refine ⟨_, rfl, _, _, _, _, true, rfl, .ty _, .base (.int n), kit_ty (by decide +kernel), _, rfl, if_yes rfl ?_⟩
    exact ⟨_, rfl, _, _, _, _, false, rfl, .ty _, .base (.int n), kit_ty (by decide +kernel), _, rfl, k⟩
theorem ok_isAm {f fI : Addr} {fd fdI : FuncData} (F : Fun K "_is_amount" "_is_amount" sIsAm f fd) (GI : FnOk P w K mg base CX0 1 fI fdI ["value"] spIsI) (kI : PySem.W.keepIn K (.ref fI) = true) (bI : L2.Binds K fdI ["value"] []) (gI : mg "is_integer" = some (.ref fI)) (L : Lim2 mg) :
    FnOk P w K mg base CX0 2 f fd ["value"] spIsAm := by
  refine F.ok scIsAm (fun vs H Q E h => ?_) (fun cdv A outer s H vs Q E hr h => ?_)
  · obtain ⟨n, rfl, _⟩ := h
    rfl
  · obtain ⟨n, rfl, lo, hi, k⟩ := h
    obtain ⟨t, e⟩ := L.mc
    refine ⟨_, pss_one (ps_ret (pe_and (pe_call GI hr (by rfl) gI kI bI .nil pass0 (pa_cons (pv 0) pa_nil)) (pe_one (pe_chain op_le op_le (pe_un un_neg (pe_glob (v := .int 9) (by rfl) e ⟨_, rfl⟩)) (pv 0) (pe_glob (v := .int 9) (by rfl) e ⟨_, rfl⟩))))), ?_⟩
    refine ⟨_, rfl, n, rfl, _, rfl, if_yes rfl ?_⟩
    refine ⟨_, rfl, _, rfl, _, _, rfl, rfl, _, rfl, if_yes (decide_eq_true (by omega)) ⟨_, _, rfl, rfl, ?_⟩⟩
    show Q (.bl (decide (n ≤ 9))) H
    rw [decide_eq_true hi]
    exact k
theorem ok_isCC {f fN fA : Addr} {fd fdN fdA : FuncData} (F : Fun K "_is_counter_change" "_is_counter_change" sIsCC f fd) (GN : FnOk P w K mg base CX0 1 fN fdN ["value"] spIsName) (kN : PySem.W.keepIn K (.ref fN) = true) (bN : L2.Binds K fdN ["value"] []) (gN : mg "is_name" = some (.ref fN))
    (GA : FnOk P w K mg base CX0 2 fA fdA ["value"] spIsAm) (kA : PySem.W.keepIn K (.ref fA) = true) (bA : L2.Binds K fdA ["value"] []) (gA : mg "_is_amount" = some (.ref fA)) (B : BltP mg) : FnOk P w K mg base CX0 3 f fd ["value"] (spIsCC K) := by
  refine F.ok scIsCC (fun vs H Q E h => ?_) (fun cdv A outer s H vs Q E hr h => ?_)
  · obtain ⟨a, p, rfl, _⟩ := h
    rfl
  · obtain ⟨a, ⟨x, n⟩, rfl, ha, ⟨nx, n0, lo, hi⟩, k⟩ := h
    refine ⟨_, pss_cons (ps_if (PW.pt (pw_or (pt_not (pt_val (pe_callB call_isi (by rfl) B.isi (by decide +kernel) (pa_cons (pv 0) (pa_cons (pe_bltn (v := .ty "tuple") (by rfl) B.tuple (by decide +kernel) rfl) pa_nil))))) (pw_or (pt_cmpR op_ne (pe_callB call_len_seq (by rfl) B.len PySem.boot_len (pa_cons (pv 0) pa_nil)) pe_int (nomark _))
        (pw_or1 (pt_not (pt_val (pe_call GN (hr.mono (by decide)) (by rfl) gN kN bN .nil pass0 (pa_cons (pe_ix ix_tup (pv 0) pe_int (fun _ _ => rfl)) pa_nil)))))))) (pss_one (ps_ret pe_bl)) pss_nil)
      (pss_one (ps_ret (pe_and (pe_call GA hr (by rfl) gA kA bA .nil pass0 (pa_cons (pe_ix ix_tup (pv 0) pe_int (fun _ _ => rfl)) pa_nil)) (pe_one (pe_cmpR op_ne (pe_ix ix_tup (pv 0) pe_int (fun _ _ => rfl)) pe_int (nomark _)))))), ?_⟩
    refine ⟨_, rfl, _, _, _, _, true, rfl, .ty _, tyx_tup ha, kit_ty (by decide +kernel), _, rfl, if_no (by decide) ?_⟩
    refine ⟨_, rfl, a, _, rfl, .inr ha, ?_⟩
    refine ⟨rfl, _, rfl, if_no (by show ¬(!decide (V.int ((2 : Nat) : Int) = V.int 2)) = true; decide) ?_⟩
    refine ⟨_, rfl, a, _, _, .str x, rfl, rfl, ha, rfl, x, rfl, nx, fun H1 s1 => ⟨_, rfl, if_no (by decide) ?_⟩⟩
    have h1 := sqT_same s1 ha
    refine ⟨_, rfl, a, _, _, .int n, rfl, rfl, h1, rfl, n, rfl, lo, hi, _, rfl, if_yes rfl ?_⟩
    refine ⟨_, rfl, a, _, _, .int n, rfl, rfl, h1, rfl, rfl, ?_⟩
    have e : decide (V.int n = V.int 0) = false := decide_eq_false fun c => n0 (by cases c; rfl)
    show Q (V.bl !decide (V.int n = V.int 0)) H1
    rw [e]
    exact k _ s1
/-- strictly ascending texts -/
def Asc (xs : List Str) : Prop := ∀ i x y, xs[i]? = some x → xs[i + 1]? = some y → x.cps.toList < y.cps.toList
def spIsAsc (K : PySem.W.Frag) : Sp := fun vs H Q _ => ∃ (a : Addr) (xs : List Str), vs = [.ref a] ∧ SqL K H a (xs.map V.str) ∧ Asc xs ∧ xs.length ≤ 1000 ∧ ∀ H', Same H H' → Q (.bl true) H'
theorem sqL_same {K : PySem.W.Frag} {H H' : Hp} {p : Addr} {xs : List V} (s : Same H H') (h : SqL K H p xs) : SqL K H' p xs := by
  rcases h with (h | ⟨o, h⟩) | h
  · exact .inl (.inl (s _ _ h))
  · exact .inl (.inr ⟨o, s _ _ h⟩)
  · exact .inr h
theorem ok_isAsc {f : Addr} {fd : FuncData} (F : Fun K "is_ascending" "is_ascending" sIsAsc f fd) (B : BltP mg) : FnOk P w K mg base CX0 1 f fd ["values"] (spIsAsc K) := by
  refine F.ok scIsAsc (fun vs H Q E h => ?_) (fun cdv A outer s H vs Q E hr h => ?_)
  · obtain ⟨a, xs, rfl, _⟩ := h
    rfl
  · obtain ⟨a, xs, rfl, ha, asc, few, k⟩ := h
    refine ⟨_, pss_one (ps_ret (pe_callB (cr_all rfl) (by rfl) B.all (by decide +kernel) (pa_cons (pe_lc (own := [("at", 1)]) (g := gName 1) (tt := tYes) rfl scIsAsc.nd (pi_range1 (by rfl) B.rg (pa_cons (pe_op op_sub (pe_callB call_len_seq (by rfl) B.len PySem.boot_len (pa_cons (pv 0) pa_nil)) pe_int) pa_nil)) (blkOk_by (N := ["values", "at"]) (sc := defScope sIsAsc) (by decide +kernel))
        (fun _ _ _ _ _ => pg_name (i := 1) scIsAsc.nd rfl (.inl rfl)) (fun _ _ _ _ _ => pts_nil) (fun _ _ _ _ _ => pe_cmpR op_lt_str (pe_ix (r := rIxL K) ix_list (pv 0) (pv 1) (fun _ _ => rfl)) (pe_ix (r := rIxL K) ix_list (pv 0) (pe_op op_add (pv 1) pe_int) (fun _ _ => rfl)) (nomark _))) pa_nil))), ?_⟩
    refine ⟨_, rfl, a, _, rfl, .inl ha, _, _, rfl, rfl, ?_⟩
    refine ⟨_, rfl, ?_, ?_, fun D hD => ?_⟩
    · have : (0 : Int) ≤ ((xs.map V.str).length : Int) := Int.natCast_nonneg _
      show (-2 ^ 62 : Int) ≤ ((xs.map V.str).length : Int) - 1
      omega
    · rw [List.length_map]
      show ((xs.length : Nat) : Int) - 1 < 2 ^ 62
      omega
    · have bl : (((xs.map V.str).length : Int) - 1).toNat ≤ 1000 := by
        rw [List.length_map]
        omega
      refine all_true walk_range hD (fun _ _ => trivial) (by omega) (fun i v Ha QK Ff hi sa y q => ?_) fun H' s' hD' => ⟨D, _, rfl, .inl (.inl hD'), ?_⟩
      · have ev : v = .int (0 + (i : Int)) := y
        subst ev
        rw [List.length_map] at hi
        have h1 := sqL_same sa ha
        have i1 : i < xs.length := by omega
        have i2 : i + 1 < xs.length := by omega
        have a1 : atI (xs.map V.str) (0 + (i : Int)) = some (.str xs[i]) := by
          rw [Int.zero_add]
          exact atI_nat (by rw [List.getElem?_map, List.getElem?_eq_getElem i1]; rfl)
        have a2 : atI (xs.map V.str) (0 + (i : Int) + 1) = some (.str xs[i + 1]) := by
          rw [show (0 + (i : Int) + 1) = ((i + 1 : Nat) : Int) by omega]
          exact atI_nat (by rw [List.getElem?_map, List.getElem?_eq_getElem i2]; rfl)
        refine ⟨rfl, yes_if ⟨_, rfl, _, rfl, a, _, _, _, rfl, rfl, h1, a1, _, rfl, _, rfl, _, _, rfl, rfl, a, _, _, _, rfl, rfl, h1, a2, _, _, rfl, rfl, ?_⟩⟩
        rw [decide_eq_true (asc i _ _ (List.getElem?_eq_getElem i1) (List.getElem?_eq_getElem i2))]
        exact q _ (Same.refl _)
      · rw [all_rep]
        exact k _ s'
end
end Qp

/-! changes and transitions as data -/
namespace Qp
open PySem PySem.Spec PyProof.Rows L2 QN
mutual
theorem dp_same {K : PySem.W.Frag} {H H' : Hp} (s : Same H H') : ∀ (d : PyData) (v : V), Dp K H v d → Dp K H' v d
  | .none, _, h => by cases h; exact .non
  | .bool b, _, h => by cases h; exact .bl b
  | .int i, _, h => by cases h; exact .int i
  | .str x, _, h => by cases h; exact .str x
  | .list ds, _, h => by
    cases h with
    | lst a b => exact .lst (sqL_same s a) (dpAll_same s ds _ b)
  | .tuple ds, _, h => by
    cases h with
    | tup a b => exact .tup (sqT_same s a) (dpAll_same s ds _ b)
  | .dict _, _, h => by cases h
theorem dpAll_same {K : PySem.W.Frag} {H H' : Hp} (s : Same H H') : ∀ (ds : List PyData) (vs : List V), DpAll K H vs ds → DpAll K H' vs ds
  | [], _, h => by cases h; exact .nil
  | d :: ds, _, h => by
    cases h with
    | cons a b => exact .cons (dp_same s d _ a) (dpAll_same s ds _ b)
end
theorem dpAll_len {K : PySem.W.Frag} {H : Hp} : ∀ {ds : List PyData} {vs : List V}, DpAll K H vs ds → vs.length = ds.length
  | [], _, h => by cases h; rfl
  | d :: ds, _, h => by
    cases h with
    | cons a b => rw [List.length_cons, List.length_cons, dpAll_len b]
theorem dpAll_at {K : PySem.W.Frag} {H : Hp} : ∀ {ds : List PyData} {vs : List V} {i : Nat} {v : V}, DpAll K H vs ds → vs[i]? = some v → ∃ d, ds[i]? = some d ∧ Dp K H v d
  | [], _, i, v, h, e => by cases h; simp at e
  | d :: ds, _, i, v, h, e => by
    cases h with
    | cons a b =>
      cases i with
      | zero =>
        simp only [List.getElem?_cons_zero, Option.some.injEq] at e
        subst e
        exact ⟨d, rfl, a⟩
      | succ i =>
        rw [List.getElem?_cons_succ] at e ⊢
        exact dpAll_at b e
/-- a pair of a text and a number -/
def pairD (p : Str × Int) : PyData := .tuple [.str p.1, .int p.2]
/-- a change -/
def chD (ps : List (Str × Int)) : PyData := .tuple (ps.map pairD)
theorem dp_tup {K : PySem.W.Frag} {H : Hp} {v : V} {ds : List PyData} (h : Dp K H v (.tuple ds)) : ∃ a us, v = .ref a ∧ SqT K H a us ∧ DpAll K H us ds := by
  cases h with
  | tup a b => exact ⟨_, _, rfl, a, b⟩
theorem dp_pair {K : PySem.W.Frag} {H : Hp} {v : V} {p : Str × Int} (h : Dp K H v (pairD p)) : ∃ t, v = .ref t ∧ SqT K H t [.str p.1, .int p.2] := by
  obtain ⟨t, us, rfl, h1, h2⟩ := dp_tup h
  cases h2 with
  | cons a b =>
    cases b with
    | cons c d =>
      cases d
      cases a
      cases c
      exact ⟨t, rfl, h1⟩
/-- a change as the document asks -/
def ChOk (ps : List (Str × Int)) : Prop := (∀ p ∈ ps, CcOk p) ∧ Asc (ps.map (·.1)) ∧ ps.length ≤ 100
def spIsCh (K : PySem.W.Frag) : Sp := fun vs H Q _ => ∃ (v : V) (ps : List (Str × Int)), vs = [v] ∧ Dp K H v (chD ps) ∧ ChOk ps ∧ ∀ H', Same H H' → Q (.bl true) H'
section
variable {P : Program} {w : World} {K : PySem.W.Frag} {mg : Str → Option Value} {base : Heap}
theorem ok_isCh {f fC fA : Addr} {fd fdC fdA : FuncData} (F : Fun K "_is_change" "_is_change" sIsCh f fd) (GC : FnOk P w K mg base CX0 3 fC fdC ["value"] (spIsCC K)) (kC : PySem.W.keepIn K (.ref fC) = true) (bC : L2.Binds K fdC ["value"] []) (gC : mg "_is_counter_change" = some (.ref fC))
    (GA : FnOk P w K mg base CX0 1 fA fdA ["values"] (spIsAsc K)) (kA : PySem.W.keepIn K (.ref fA) = true) (bA : L2.Binds K fdA ["values"] []) (gA : mg "is_ascending" = some (.ref fA)) (B : BltP mg) : FnOk P w K mg base CX0 4 f fd ["value"] (spIsCh K) := by
  refine F.ok scIsCh (fun vs H Q E h => ?_) (fun cdv A outer s H vs Q E hr h => ?_)
  · obtain ⟨a, p, rfl, _⟩ := h
    rfl
  · obtain ⟨v, ps, rfl, hd, ⟨ok, asc, few⟩, k⟩ := h
    obtain ⟨a, us, rfl, ha, hu⟩ := dp_tup hd
    have ul : us.length = ps.length := by rw [dpAll_len hu, List.length_map]
    refine ⟨_, pss_cons (ps_if (PW.pt (pw_or (pt_not (pt_val (pe_callB call_isi (by rfl) B.isi (by decide +kernel) (pa_cons (pv 0) (pa_cons (pe_bltn (v := .ty "tuple") (by rfl) B.tuple (by decide +kernel) rfl) pa_nil)))))
        (pw_or1 (pt_not (pt_val (pe_callB (cr_all rfl) (by rfl) B.all (by decide +kernel) (pa_cons (pe_lc (own := [("pair", 1)]) (g := gName 1) (tt := tYes) rfl scIsCh.nd (pi_tup (pv 0)) (blkOk_by (N := ["value", "pair", "counter", "_"]) (sc := defScope sIsCh) (by decide +kernel))
          (fun _ _ _ _ _ => pg_name (i := 1) scIsCh.nd rfl (.inl rfl)) (fun _ _ _ _ _ => pts_nil) (fun _ _ _ _ _ => pe_call GC hr (by rfl) gC kC bC .nil pass0 (pa_cons (pv 1) pa_nil))) pa_nil))))))) (pss_one (ps_ret pe_bl)) pss_nil)
      (pss_one (ps_ret (pe_call GA (hr.mono (by decide)) (by rfl) gA kA bA .nil pass0 (pa_cons (pe_lc (own := [("counter", 2), ("_", 3)]) (g := gTup K 2 (gCons (gName 2) (gCons (gName 3) gNil))) (tt := tYes) (te := tVar 2) rfl scIsCh.nd (pi_tup (pv 0)) (blkOk_by (N := ["value", "pair", "counter", "_"]) (sc := defScope sIsCh) (by decide +kernel))
          (fun _ _ _ _ _ => pg_tup (by rfl) (pgs_cons (pg_name (i := 2) scIsCh.nd rfl (.inl rfl)) (pgs_cons (pg_name (i := 3) scIsCh.nd rfl (.inl rfl)) pgs_nil))) (fun _ _ _ _ _ => pts_nil) (fun _ _ _ _ _ => pv 2)) pa_nil)))), ?_⟩
    refine ⟨_, rfl, _, _, _, _, true, rfl, .ty _, tyx_tup ha, kit_ty (by decide +kernel), _, rfl, if_no (by decide) ?_⟩
    refine ⟨_, rfl, a, rfl, ⟨_, ha⟩, fun D hD => ?_⟩
    refine all_true (walk_tup (xs := us)) hD (fun _ s' => sqT_same s' ha) (by omega) (fun i v Ha QK Ff hi sa y q => ?_) fun H1 s1 hD1 => ⟨D, _, rfl, .inl (.inl hD1), ?_⟩
    · obtain ⟨d, hd', dv⟩ := dpAll_at hu y
      rw [List.getElem?_map] at hd'
      cases hc : ps[i]? with
      | none => rw [hc] at hd'; cases hd'
      | some p =>
        rw [hc] at hd'
        cases (Option.some.inj hd' : pairD p = d)
        obtain ⟨t, rfl, ht⟩ := dp_pair dv
        exact ⟨rfl, yes_if ⟨_, rfl, t, p, rfl, sqT_same sa ht, ok p (List.mem_of_getElem? hc), q⟩⟩
    · rw [all_rep]
      refine ⟨_, rfl, if_no (by decide) ?_⟩
      have ha1 := sqT_same s1 ha
      have hu1 := dpAll_same s1 _ _ hu
      refine ⟨_, rfl, a, rfl, ⟨_, ha1⟩, fun D2 hD2 => ?_⟩
      refine lc_tup (xs := us) (fun i H' => Same H1 H' ∧ H' D2 = some (.lst (((ps.map (·.1)).take i).map V.str))) ⟨same_new hD2, upd_same⟩ (fun i H' _ p => sqT_same p.1 ha1) (fun i v H2 hv p => ?_) fun H2 p => ?_
      · obtain ⟨d, hd', dv⟩ := dpAll_at hu1 hv
        rw [List.getElem?_map] at hd'
        cases hc : ps[i]? with
        | none => rw [hc] at hd'; cases hd'
        | some q =>
          rw [hc] at hd'
          cases (Option.some.inj hd' : pairD q = d)
          obtain ⟨t, rfl, ht⟩ := dp_pair dv
          have il : i < ps.length := (List.getElem?_eq_some_iff.mp hc).1
          refine ⟨t, _, rfl, sqT_same p.1 ht, rfl, _, _, rfl, _, _, rfl, rfl, rfl, yes_if ⟨_, rfl, _, p.2, ?_, same_at p.1 hD2 (Same.refl _) p.2, ?_⟩⟩
          · rw [List.length_map, List.length_take, List.length_map, sizeLine_eq]
            omega
          · rw [upd_same, List.take_add_one, List.getElem?_map, hc, List.map_append]
            rfl
      · refine ⟨D2, ps.map (·.1), rfl, .inl (.inl ?_), asc, by rw [List.length_map]; omega, fun H' s' => k H' (s1.trans (p.1.trans s'))⟩
        have := p.2
        rw [ul] at this
        rw [List.take_of_length_le (by rw [List.length_map]; exact Nat.le_refl _)] at this
        exact this
end
end Qp

/-! transitions as data -/
namespace Qp
open PySem PySem.Spec PyProof.Rows L2 QN
theorem sl_take {K : PySem.W.Frag} {q : Addr} {H : Hp} {Q : VK} {xs : List V} {j : Nat} (h : SqT K H q xs) (hj : j ≤ xs.length) (k : ∀ r H', Same H H' → SqT K H' r (xs.take j) → Q (.ref r) H') : rSlA K (.ref q) none (some (j : Int)) H Q := by
  refine ⟨q, xs, rfl, h, fun w => k q H (Same.refl _) ?_, fun w r hr => k r _ (same_new hr) (.inl (.inl ?_))⟩
  · have z := w.2
    rw [HT.sIx_nat] at z
    rw [List.take_of_length_le (by omega)]
    exact h
  · rw [upd_same]
    unfold cutV
    rw [HT.sIx_none, HT.sIx_nat, List.drop_zero, Nat.sub_zero, Nat.min_eq_left hj]
theorem sl_drop {K : PySem.W.Frag} {q : Addr} {H : Hp} {Q : VK} {xs : List V} {j : Nat} (h : SqT K H q xs) (hj : j ≤ xs.length) (k : ∀ r H', Same H H' → SqT K H' r (xs.drop j) → Q (.ref r) H') : rSlA K (.ref q) (some (j : Int)) none H Q := by
  refine ⟨q, xs, rfl, h, fun w => k q H (Same.refl _) ?_, fun w r hr => k r _ (same_new hr) (.inl (.inl ?_))⟩
  · have z := w.1
    rw [HT.sIx_nat] at z
    have e : j = 0 := by omega
    rw [e]
    exact h
  · rw [upd_same]
    unfold cutV
    rw [HT.sIx_none, HT.sIx_nat, Nat.min_eq_left hj]
    rw [List.take_of_length_le (by rw [List.length_drop]; exact Nat.le_refl _)]
/-- a transition -/
structure Row where
  n : Str
  s : Str
  t : Str
  c : List (Str × Int)
def rowD (r : Row) : PyData := .tuple [.str r.n, .str r.s, .str r.t, chD r.c]
/-- a transition as the document asks -/
structure RowOk (r : Row) : Prop where
  n : NameOk r.n
  s : NameOk r.s
  t : NameOk r.t
  c : ChOk r.c
theorem dp_row {K : PySem.W.Frag} {H : Hp} {v : V} {r : Row} (h : Dp K H v (rowD r)) : ∃ a u, v = .ref a ∧ SqT K H a [.str r.n, .str r.s, .str r.t, u] ∧ Dp K H u (chD r.c) := by
  obtain ⟨a, us, rfl, h1, h2⟩ := dp_tup h
  cases h2 with
  | cons b1 b2 =>
    cases b2 with
    | cons b2 b3 =>
      cases b3 with
      | cons b3 b4 =>
        cases b4 with
        | cons b4 b5 =>
          cases b5
          cases b1
          cases b2
          cases b3
          exact ⟨a, _, rfl, h1, b4⟩
def spIsTr (K : PySem.W.Frag) : Sp := fun vs H Q _ => ∃ (v : V) (r : Row), vs = [v] ∧ Dp K H v (rowD r) ∧ RowOk r ∧ ∀ H', Same H H' → Q (.bl true) H'
section
variable {P : Program} {w : World} {K : PySem.W.Frag} {mg : Str → Option Value} {base : Heap}
theorem ok_isTr {f fN fC : Addr} {fd fdN fdC : FuncData} (F : Fun K "is_transition" "is_transition" sIsTr f fd) (GN : FnOk P w K mg base CX0 1 fN fdN ["value"] spIsName) (kN : PySem.W.keepIn K (.ref fN) = true) (bN : L2.Binds K fdN ["value"] []) (gN : mg "is_name" = some (.ref fN))
    (GC : FnOk P w K mg base CX0 4 fC fdC ["value"] (spIsCh K)) (kC : PySem.W.keepIn K (.ref fC) = true) (bC : L2.Binds K fdC ["value"] []) (gC : mg "_is_change" = some (.ref fC)) (B : BltP mg) : FnOk P w K mg base CX0 5 f fd ["value"] (spIsTr K) := by
  refine F.ok scIsTr (fun vs H Q E h => ?_) (fun cdv A outer s H vs Q E hr h => ?_)
  · obtain ⟨a, p, rfl, _⟩ := h
    rfl
  · obtain ⟨v, r, rfl, hd, ok, k⟩ := h
    obtain ⟨a, u, rfl, ha, hu⟩ := dp_row hd
    refine ⟨_, pss_cons (ps_if (PW.pt (pw_or (pt_not (pt_val (pe_callB call_isi (by rfl) B.isi (by decide +kernel) (pa_cons (pv 0) (pa_cons (pe_bltn (v := .ty "tuple") (by rfl) B.tuple (by decide +kernel) rfl) pa_nil)))))
        (pw_or1 (pt_cmpR op_ne (pe_callB call_len_seq (by rfl) B.len PySem.boot_len (pa_cons (pv 0) pa_nil)) pe_int (nomark _))))) (pss_one (ps_ret pe_bl)) pss_nil)
      (pss_one (ps_ret (pe_and (pe_callB (cr_all rfl) (by rfl) B.all (by decide +kernel) (pa_cons (pe_lc (own := [("name", 1)]) (g := gName 1) (tt := tYes) rfl scIsTr.nd (pi_tup (pe_slice sl_tupA (pv 0) po_none (po_some pe_int))) (blkOk_by (N := ["value", "name"]) (sc := defScope sIsTr) (by decide +kernel))
          (fun _ _ _ _ _ => pg_name (i := 1) scIsTr.nd rfl (.inl rfl)) (fun _ _ _ _ _ => pts_nil) (fun _ _ _ _ _ => pe_call GN (hr.mono (by decide)) (by rfl) gN kN bN .nil pass0 (pa_cons (pv 1) pa_nil))) pa_nil)) (pe_one (pe_call GC hr (by rfl) gC kC bC .nil pass0 (pa_cons (pe_ix ix_tup (pv 0) pe_int (fun _ _ => rfl)) pa_nil)))))), ?_⟩
    refine ⟨_, rfl, _, _, _, _, true, rfl, .ty _, tyx_tup ha, kit_ty (by decide +kernel), _, rfl, if_no (by decide) ?_⟩
    refine ⟨_, rfl, a, _, rfl, .inr ha, rfl, _, rfl, if_no (by show ¬(!decide (V.int ((4 : Nat) : Int) = V.int 4)) = true; decide) ?_⟩
    refine ⟨_, rfl, _, rfl, ?_⟩
    refine sl_take (j := 3) ha (by show 3 ≤ 4; decide) fun q H1 s1 hq => ⟨q, rfl, ⟨_, hq⟩, fun D hD => ?_⟩
    refine all_true (walk_tup (xs := [V.str r.n, .str r.s, .str r.t])) hD (fun _ s' => sqT_same s' hq) (by show 3 ≤ 1000000; decide) (fun i v Ha QK Ff hi sa y k2 => ?_) fun H2 s2 hD2 => ⟨D, _, rfl, .inl (.inl hD2), ?_⟩
    · match i, y with
      | 0, y => cases y; exact ⟨rfl, yes_if ⟨_, rfl, r.n, rfl, ok.n, k2⟩⟩
      | 1, y => cases y; exact ⟨rfl, yes_if ⟨_, rfl, r.s, rfl, ok.s, k2⟩⟩
      | 2, y => cases y; exact ⟨rfl, yes_if ⟨_, rfl, r.t, rfl, ok.t, k2⟩⟩
    · rw [all_rep]
      have s12 := s1.trans s2
      exact ⟨_, rfl, if_yes rfl ⟨_, rfl, a, _, _, u, rfl, rfl, sqT_same s12 ha, rfl, u, r.c, rfl, dp_same s12 _ _ hu, ok.c, fun H' s' => k H' (s12.trans s')⟩⟩
end
end Qp

/-! what is reached from a state -/
namespace Qp
open PySem PySem.Spec PyProof.Rows L2 QN
abbrev sReached : Stmt := top 22 -- reached
abbrev rNames : List Str := ["links", "state", "known", "waiting", "here", "source", "target"]
theorem scReached : FnScope rNames ["links", "state"] (defScope sReached) := ⟨rfl, rfl, rfl, by decide +kernel, rfl, by decide +kernel, by decide +kernel⟩
def linkD (l : Str × Str) : PyData := .tuple [.str l.1, .str l.2]
theorem dp_link {K : PySem.W.Frag} {H : Hp} {v : V} {l : Str × Str} (h : Dp K H v (linkD l)) : ∃ t, v = .ref t ∧ SqT K H t [.str l.1, .str l.2] := by
  obtain ⟨t, us, rfl, h1, h2⟩ := dp_tup h
  cases h2 with
  | cons a b =>
    cases b with
    | cons c d =>
      cases d
      cases a
      cases c
      exact ⟨t, rfl, h1⟩
/-- a dict of names that are all True -/
def knownK (ks : List Str) : List (Key × V) := ks.map fun x => (Sum.inr x, V.bl true)
theorem known_has (ks : List Str) (x : Str) : (valV (knownK ks) (Sum.inr x)).isSome = decide (x ∈ ks) := by
  induction ks with
  | nil => rfl
  | cons y ks ih =>
    by_cases e : y = x
    · subst e
      rw [show knownK (y :: ks) = (Sum.inr y, V.bl true) :: knownK ks from rfl, valV_pos rfl]
      simp
    · have e2 : valV ((Sum.inr y, V.bl true) :: knownK ks) (Sum.inr x : Key) = valV (knownK ks) (Sum.inr x) := by
        unfold valV
        rw [List.find?_cons_of_neg (by simpa using e)]
      rw [show knownK (y :: ks) = (Sum.inr y, V.bl true) :: knownK ks from rfl, e2, ih]
      have : (x ∈ y :: ks) ↔ x ∈ ks := by simp [Ne.symm e]
      simp [this]
theorem known_put {ks : List Str} {x : Str} (h : x ∉ ks) : putK (knownK ks) (Sum.inr x) (V.bl true) = knownK (ks ++ [x]) := by
  unfold putK
  rw [if_neg]
  · unfold knownK
    rw [List.map_append]
    rfl
  · unfold knownK
    rw [List.any_map]
    simp only [List.any_eq_true, Function.comp_apply, decide_eq_true_eq, not_exists, not_and]
    intro y hy e
    cases e
    exact h hy
def spReached (K : PySem.W.Frag) : Sp := fun vs H Q _ => ∃ (a : Addr) (us : List V) (ls : List (Str × Str)) (x : Str) (st : List Str), vs = [.ref a, .str x] ∧ SqL K H a us ∧ DpAll K H us (ls.map linkD) ∧ x ∈ st ∧ st.Nodup ∧ (∀ l ∈ ls, l.2 ∈ st) ∧
  (∀ ks : List Str, x ∈ ks → (∀ l ∈ ls, l.1 ∈ ks → l.2 ∈ ks) → ∀ y ∈ st, y ∈ ks) ∧ st.length ≤ 1000 ∧ ls.length ≤ 1000 ∧ ∀ d kvs H', Same H H' → H' d = some (.dK kvs) → kvs.length = st.length → Q (.ref d) H'
theorem nodup_le : ∀ {ks st : List Str}, ks.Nodup → (∀ y ∈ ks, y ∈ st) → ks.length ≤ st.length
  | [], _, _, _ => Nat.zero_le _
  | y :: ks, st, nd, h => by
    have hy : y ∈ st := h y (List.mem_cons_self ..)
    have ny := (List.nodup_cons.mp nd).1
    have r := nodup_le (st := st.erase y) (List.nodup_cons.mp nd).2 fun z hz => (List.mem_erase_of_ne (fun e => ny (by rw [← e]; exact hz))).mpr (h z (List.mem_cons_of_mem _ hz))
    have l := List.length_erase_of_mem hy
    have p : 0 < st.length := List.length_pos_of_mem hy
    rw [List.length_cons]
    omega
theorem same_upd' {H H1 : Hp} {D : Addr} {o : HO} (a : Same H H1) (n : H D = none) : Same H (upd H1 D o) := fun c x e => by
  have ne : c ≠ D := fun z => by rw [z, n] at e; cases e
  rw [upd_ne ne]
  exact a _ _ e
/-- the names known and waiting, behind the first i links from here -/
structure Rs (H H' : Hp) (d wl : Addr) (x : Str) (ls : List (Str × Str)) (st : List Str) (here : Option Str) (i : Nat) (M : Nat) (ks ws : List Str) : Prop where
  sm : Same H H'
  hd : H' d = some (.dK (knownK ks))
  hw : H' wl = some (.lst (ws.map V.str))
  hx : x ∈ ks
  nd : ks.Nodup
  inn : ∀ y ∈ ks, y ∈ st
  wk : ∀ y ∈ ws, y ∈ ks
  cl : ∀ y ∈ ks, y ∉ ws → some y ≠ here → ∀ l ∈ ls, l.1 = y → l.2 ∈ ks
  hr : ∀ h, here = some h → h ∈ ks ∧ ∀ l ∈ ls.take i, l.1 = h → l.2 ∈ ks
  ms : 2 * (st.length - ks.length) + ws.length ≤ M
  bd : M ≤ 2001
section
variable {P : Program} {w : World} {K : PySem.W.Frag} {mg : Str → Option Value} {base : Heap}
theorem ok_reached {f : Addr} {fd : FuncData} (F : Fun K "reached" "reached" sReached f fd) : FnOk P w K mg base CX0 1 f fd ["links", "state"] (spReached K) := by
  refine F.ok scReached (fun vs H Q E h => ?_) (fun cdv A outer s H vs Q E hr h => ?_)
  · obtain ⟨a, us, ls, x, st, rfl, _⟩ := h
    rfl
  · obtain ⟨a, us, ls, x, st, rfl, ha, hu, hx, nd, inside, closed, few, few2, k⟩ := h
    have hu1 : (A.deeper (envOfC "reached" (defScope sReached) s.heap.objs.size f cdv)).units + 1 < cLine := by
      have := hr.un
      omega
    refine ⟨_, pss_cons (ps_set (i := 2) scReached.nd rfl (.inl rfl) (pe_disp (pps_cons (pv 1) pe_bl pps_nil) rfl rfl (by decide) (by decide)))
      (pss_cons (ps_set (i := 3) scReached.nd rfl (.inl rfl) (pe_lst (pa_cons (pv 1) pa_nil)))
      (pss_cons (ps_while PassesOwn.never (pt_truth (pv 3) (fun _ => rfl)) (pss_cons (ps_set (i := 4) scReached.nd rfl (.inl rfl) (pe_bm0 PySem.F.plainAttrs_list PySem.F.slot_list_pop PySem.F.type_list_pop mt_pop (pv 3)))
        (pss_one (ps_for PassesOwn.never rfl (pi_list (pv 0)) (pg_tup (by rfl) (pgs_cons (pg_name (i := 5) scReached.nd rfl (.inl rfl)) (pgs_cons (pg_name (i := 6) scReached.nd rfl (.inl rfl)) pgs_nil)))
          (pss_one (ps_if (PW.pt (pw_and (pt_cmpR op_eq (pv 5) (pv 4) (nomark _)) (pw_and1 (pt_cmp (pc_dnotin hu1 (pv 6) (pv 2)))))) (pss_cons (ps_dput hu1 (pv 2) (pv 6) pe_bl rfl) (pss_one (ps_expr (pe_bm PySem.F.plainAttrs_list PySem.F.slot_list_append PySem.F.type_list_append mt_append (pv 3) (pa_cons (pv 6) pa_nil))))) pss_nil))))))
      (pss_one (ps_ret (pv 2))))), ?_⟩
    have ul : us.length = ls.length := by rw [dpAll_len hu, List.length_map]
    intro d hdn
    refine ⟨_, rfl, upd_same, [(Sum.inr x, V.bl true)], rfl, (by show 1 ≤ 15; decide), ⟨_, rfl, (by show 1 ≤ sizeLine; decide), fun wl hwn => ?_⟩⟩
    have hwn' : H wl = none := by
      cases c : H wl with
      | none => rfl
      | some o =>
        have z : (upd (upd H d (.dK [])) d (.dK (mergeK [] [(Sum.inr x, V.bl true)]))) wl = some o := by
          rw [upd_ne (fun e => by rw [e, hdn] at c; cases c), upd_ne (fun e => by rw [e, hdn] at c; cases c)]
          exact c
        rw [z] at hwn
        cases hwn
    have nwd : wl ≠ d := fun e => by rw [e, upd_same] at hwn; cases hwn
    have start : Rs H (upd (upd (upd H d (.dK [])) d (.dK (mergeK [] [(Sum.inr x, V.bl true)]))) wl (.lst [.str x])) d wl x ls st none 0 (2 * st.length + 1) [x] [x] :=
      ⟨same_upd' (same_upd' (same_new hdn) hdn) hwn', (by rw [upd_ne nwd.symm, upd_same]; rfl), upd_same, (by simp), (by simp), (fun y hy => by rw [List.mem_singleton.mp hy]; exact hx), fun y hy => hy, fun y hy n => absurd hy n, (fun h e => by cases e), (by show 2 * (st.length - 1) + 1 ≤ 2 * st.length + 1; omega), (by omega)⟩
    generalize (upd (upd (upd H d (.dK [])) d (.dK (mergeK [] [(Sum.inr x, V.bl true)]))) wl (.lst [.str x])) = H0 at start
    refine ⟨fun m σ H' => ∃ y4 y5 y6 ks ws, σ = [some (.ref a), some (.str x), some (.ref d), some (.ref wl), y4, y5, y6] ∧ Rs H H' d wl x ls st none 0 m ks ws, ⟨_, none, none, none, [x], [x], rfl, start⟩, ?_⟩
    rintro m σ H' ⟨y4, y5, y6, ks, ws, rfl, R⟩
    refine ⟨_, rfl, _, .inl ⟨_, .inl (.inl R.hw), rfl⟩, ?_⟩
    by_cases e : ws = []
    · subst e
      refine if_no (by decide) ⟨_, rfl, k d _ H' R.sm R.hd ?_⟩
      have all : ∀ y ∈ st, y ∈ ks := closed ks R.hx fun l hl h1 => R.cl l.1 h1 (by simp) (by simp) l hl rfl
      unfold knownK
      rw [List.length_map]
      exact Nat.le_antisymm (nodup_le R.nd R.inn) (nodup_le nd all)
    · have hne : (!(ws.map V.str).isEmpty) = true := by
        cases ws with
        | nil => exact absurd rfl e
        | cons y ws => rfl
      obtain ⟨h0, hlast⟩ : ∃ h0, ws[ws.length - 1]? = some h0 := by
        have : ws.length - 1 < ws.length := by
          have := List.length_pos_iff.mpr e
          omega
        exact ⟨_, List.getElem?_eq_getElem this⟩
      have hsplit : ws = ws.dropLast ++ [h0] := by
        have hl := List.getLast?_eq_getElem? (l := ws)
        rw [hlast] at hl
        obtain ⟨ys, hy⟩ := List.getLast?_eq_some_iff.mp hl
        rw [hy, List.dropLast_concat]
      have hin : h0 ∈ ks := R.wk h0 (List.mem_of_getElem? hlast)
      have lenw : ws.length = ws.dropLast.length + 1 := by
        have := congrArg List.length hsplit
        rw [List.length_append, List.length_singleton] at this
        exact this
      have hdw : d ≠ wl := fun c => by
        have := R.hd
        rw [c, R.hw] at this
        cases this
      have R0 : Rs H (upd H' wl (.lst (ws.dropLast.map V.str))) d wl x ls st (some h0) 0 (m - 1) ks ws.dropLast :=
        ⟨same_upd' R.sm hwn', (by rw [upd_ne hdw]; exact R.hd), upd_same, R.hx, R.nd, R.inn, (fun y hy => R.wk y (by rw [hsplit]; exact List.mem_append_left _ hy)),
          (fun y hy n1 n2 => R.cl y hy (fun c => by
            rw [hsplit, List.mem_append, List.mem_singleton] at c
            rcases c with c | c
            · exact n1 c
            · exact n2 (by rw [c])) (by simp)),
          (fun h eh => by cases eh; exact ⟨hin, fun l hl => by simp at hl⟩), (by have := R.ms; omega), (by have := R.bd; omega)⟩
      have mpos : 0 < m := by
        have := R.ms
        omega
      refine if_yes hne ⟨fun σ' H2 => ∃ y4 y5 y6 ks ws, σ' = [some (.ref a), some (.str x), some (.ref d), some (.ref wl), y4, y5, y6] ∧ Rs H H2 d wl x ls st none 0 (m - 1) ks ws, fun σ' H2 q => ⟨m - 1, by omega, q⟩, ?_⟩
      refine ⟨_, rfl, .inl ⟨rfl, _, .inl (.inl R.hw)⟩, wl, ws.map V.str, .str h0, rfl, rfl, R.hw, (by rw [List.length_map, List.getElem?_map, hlast]; rfl), ?_⟩
      rw [← List.map_dropLast]
      refine ⟨_, rfl, a, rfl, ⟨_, sqL_same R0.sm ha⟩, for_list (xs := us) (fun i σ H2 => ∃ y5 y6 ks ws, σ = [some (.ref a), some (.str x), some (.ref d), some (.ref wl), some (.str h0), y5, y6] ∧ Rs H H2 d wl x ls st (some h0) i (m - 1) ks ws)
        ⟨_, _, _, _, rfl, R0⟩ (fun i σ H2 _ q => ?_) ?_ ?_⟩
      · obtain ⟨_, _, _, _, _, q⟩ := q
        exact sqL_same q.sm ha
      · rintro i v σ H2 hv ⟨z5, z6, ks2, ws2, rfl, R2⟩
        obtain ⟨dd, hd', dv⟩ := dpAll_at (dpAll_same R2.sm _ _ hu) hv
        rw [List.getElem?_map] at hd'
        cases hc : ls[i]? with
        | none => rw [hc] at hd'; cases hd'
        | some l =>
          rw [hc] at hd'
          cases (Option.some.inj hd' : linkD l = dd)
          obtain ⟨t, rfl, ht⟩ := dp_link dv
          have hl : l ∈ ls := List.mem_of_getElem? hc
          have tk : ls.take (i + 1) = ls.take i ++ [l] := by rw [List.take_add_one, hc]; rfl
          refine ⟨t, _, rfl, ht, rfl, _, _, rfl, _, _, rfl, rfl, ?_⟩
          refine ⟨_, rfl, _, rfl, rfl, _, rfl, ?_⟩
          by_cases c1 : l.1 = h0
          · refine if_yes (decide_eq_true (by rw [c1])) ⟨_, rfl, _, rfl, d, _, rfl, DGet.k (k := Sum.inr l.2) R2.hd, _, rfl, ?_⟩
            by_cases c2 : l.2 ∈ ks2
            · refine if_no (by rw [known_has, decide_eq_true c2]; decide) ⟨_, _, ks2, ws2, rfl, R2.sm, R2.hd, R2.hw, R2.hx, R2.nd, R2.inn, R2.wk, R2.cl, (fun h eh => ⟨(R2.hr h eh).1, fun l' hl' e' => ?_⟩), R2.ms, R2.bd⟩
              rw [tk, List.mem_append, List.mem_singleton] at hl'
              rcases hl' with z | z
              · exact (R2.hr h eh).2 l' z e'
              · rw [z]
                exact c2
            · have hw2 : (upd H2 d (.dK (knownK (ks2 ++ [l.2])))) wl = some (.lst (ws2.map V.str)) := by
                rw [upd_ne hdw.symm]
                exact R2.hw
              have kl : ks2.length ≤ 1000 := Nat.le_trans (nodup_le R2.nd R2.inn) few
              have wl2 : ws2.length ≤ 3000 := by
                have := R2.ms
                have := R2.bd
                omega
              refine if_yes (by rw [known_has, decide_eq_false c2]; rfl) ⟨_, rfl, _, rfl, d, _, rfl, DPut.k (k := Sum.inr l.2) R2.hd (by unfold knownK; rw [List.length_map, sizeLine_eq]; omega), ?_⟩
              rw [known_put c2]
              refine ⟨_, rfl, .inl ⟨rfl, _, .inl (.inl hw2)⟩, _, rfl, wl, _, _, rfl, rfl, hw2, (by rw [List.length_map, sizeLine_eq]; omega), ?_⟩
              have n2 : (ks2 ++ [l.2]).Nodup := (List.perm_append_singleton l.2 ks2).nodup_iff.mpr (List.nodup_cons.mpr ⟨c2, R2.nd⟩)
              have i2 : ∀ y ∈ ks2 ++ [l.2], y ∈ st := fun y hy => by
                rcases List.mem_append.mp hy with z | z
                · exact R2.inn y z
                · rw [List.mem_singleton.mp z]
                  exact inside l hl
              refine ⟨_, _, ks2 ++ [l.2], ws2 ++ [l.2], rfl, same_upd' (same_upd' R2.sm hdn) hwn', (by rw [upd_ne hdw, upd_same]), (by rw [upd_same, List.map_append]; rfl), List.mem_append_left _ R2.hx, n2, i2, (fun y hy => ?_), (fun y hy n1 n3 l' hl' e' => ?_), (fun h eh => ⟨List.mem_append_left _ (R2.hr h eh).1, fun l' hl' e' => ?_⟩), ?_, ?_⟩
              · rcases List.mem_append.mp hy with z | z
                · exact List.mem_append_left _ (R2.wk y z)
                · exact List.mem_append_right _ z
              · rcases List.mem_append.mp hy with z | z
                · exact List.mem_append_left _ (R2.cl y z (fun c => n1 (List.mem_append_left _ c)) n3 l' hl' e')
                · exact absurd (List.mem_append_right _ z) n1
              · rw [tk, List.mem_append, List.mem_singleton] at hl'
                rcases hl' with z | z
                · exact List.mem_append_left _ ((R2.hr h eh).2 l' z e')
                · rw [z]
                  exact List.mem_append_right _ (List.mem_singleton.mpr rfl)
              · have b1 := nodup_le n2 i2
                have := R2.ms
                rw [List.length_append, List.length_singleton] at b1 ⊢
                rw [List.length_append, List.length_singleton]
                omega
              · exact R2.bd
          · refine if_no (by rw [decide_eq_false (fun c => c1 (by cases c; rfl))]; decide) (if_no Bool.false_ne_true ⟨_, _, ks2, ws2, rfl, R2.sm, R2.hd, R2.hw, R2.hx, R2.nd, R2.inn, R2.wk, R2.cl, (fun h eh => ⟨(R2.hr h eh).1, fun l' hl' e' => ?_⟩), R2.ms, R2.bd⟩)
            rw [tk, List.mem_append, List.mem_singleton] at hl'
            rcases hl' with z | z
            · exact (R2.hr h eh).2 l' z e'
            · cases eh
              rw [z] at e'
              exact absurd e' c1
      · rintro σ H2 ⟨z5, z6, ks2, ws2, rfl, R2⟩
        rw [ul] at R2
        refine ⟨_, _, _, ks2, ws2, rfl, R2.sm, R2.hd, R2.hw, R2.hx, R2.nd, R2.inn, R2.wk, (fun y hy n1 _ l hl el => ?_), (fun h eh => by cases eh), R2.ms, R2.bd⟩
        by_cases c : y = h0
        · subst c
          have := (R2.hr y rfl).2 l (by rw [List.take_length]; exact hl) el
          exact this
        · exact R2.cl y hy n1 (fun z => c (Option.some.inj z)) l hl el
end
end Qp

/-! whether all hangs together -/
namespace Qp
open PySem PySem.Spec PyProof.Rows L2 QN
abbrev sConn : Stmt := top 23 -- _are_connected
abbrev cNames : List Str := ["states", "transitions", "forward", "_", "source", "target", "backward"]
theorem scConn : FnScope cNames ["states", "transitions"] (defScope sConn) := ⟨rfl, rfl, rfl, by decide +kernel, rfl, by decide +kernel, by decide +kernel⟩
theorem sqT_at {K : PySem.W.Frag} {H : Hp} {D q : Addr} {ys : List V} {o : HO} {xs : List V} (h : H D = some (.lst ys)) (a : SqT K H q xs) : SqT K (upd H D o) q xs := by
  rcases a with (a | ⟨u, a⟩) | a
  · exact .inl (.inl (by rw [upd_ne fun e => by rw [e, h] at a; cases a]; exact a))
  · exact .inl (.inr ⟨u, by rw [upd_ne fun e => by rw [e, h] at a; cases a]; exact a⟩)
  · exact .inr a
/-- pairs of texts -/
inductive Lk (K : PySem.W.Frag) (H : Hp) : List V → List (Str × Str) → Prop
  | nil : Lk K H [] []
  | cons {t : Addr} {l : Str × Str} {us : List V} {ls : List (Str × Str)} : SqT K H t [.str l.1, .str l.2] → Lk K H us ls → Lk K H (.ref t :: us) (l :: ls)
section
variable {K : PySem.W.Frag} {H H' : Hp} {us : List V} {ls : List (Str × Str)}
theorem Lk.same (s : Same H H') (h : Lk K H us ls) : Lk K H' us ls := by
  induction h with
  | nil => exact .nil
  | cons a _ ih => exact .cons (sqT_same s a) ih
theorem Lk.upd {D : Addr} {ys : List V} {o : HO} (hd : H D = some (.lst ys)) (h : Lk K H us ls) : Lk K (L2.upd H D o) us ls := by
  induction h with
  | nil => exact .nil
  | cons a _ ih => exact .cons (sqT_at hd a) ih
theorem Lk.snoc {t : Addr} {l : Str × Str} (h : Lk K H us ls) (a : SqT K H t [.str l.1, .str l.2]) : Lk K H (us ++ [.ref t]) (ls ++ [l]) := by
  induction h with
  | nil => exact .cons a .nil
  | cons b _ ih => exact .cons b ih
theorem Lk.dp (h : Lk K H us ls) : DpAll K H us (ls.map linkD) := by
  induction h with
  | nil => exact .nil
  | cons a _ ih => exact .cons (.tup a (.cons (.str _) (.cons (.str _) .nil))) ih
theorem Lk.len (h : Lk K H us ls) : us.length = ls.length := by
  induction h with
  | nil => rfl
  | cons a _ ih => rw [List.length_cons, List.length_cons, ih]
theorem Lk.at {i : Nat} {v : V} (h : Lk K H us ls) (e : us[i]? = some v) : ∃ l t, ls[i]? = some l ∧ v = .ref t ∧ SqT K H t [.str l.1, .str l.2] := by
  induction h generalizing i with
  | nil => simp at e
  | @cons t l us ls a _ ih =>
    cases i with
    | zero =>
      simp only [List.getElem?_cons_zero, Option.some.injEq] at e
      exact ⟨l, t, rfl, e.symm, a⟩
    | succ i =>
      rw [List.getElem?_cons_succ] at e ⊢
      exact ih e
end
def fwd (rs : List Row) : List (Str × Str) := rs.map fun r => (r.s, r.t)
def bwd (rs : List Row) : List (Str × Str) := rs.map fun r => (r.t, r.s)
/-- all of st are reached from x along the links -/
def Reach (x : Str) (ls : List (Str × Str)) (st : List Str) : Prop := ∀ ks : List Str, x ∈ ks → (∀ l ∈ ls, l.1 ∈ ks → l.2 ∈ ks) → ∀ y ∈ st, y ∈ ks
def spConn (K : PySem.W.Frag) : Sp := fun vs H Q _ => ∃ (a : Addr) (v : V) (rs : List Row) (x : Str) (st : List Str), vs = [.ref a, v] ∧ SqL K H a ((x :: st).map V.str) ∧ Dp K H v (.tuple (rs.map rowD)) ∧ (x :: st).Nodup ∧ (∀ r ∈ rs, r.s ∈ x :: st ∧ r.t ∈ x :: st) ∧
  Reach x (fwd rs) (x :: st) ∧ Reach x (bwd rs) (x :: st) ∧ st.length ≤ 900 ∧ rs.length ≤ 1000 ∧ ∀ H', Same H H' → Q (.bl true) H'
section
variable {P : Program} {w : World} {K : PySem.W.Frag} {mg : Str → Option Value} {base : Heap}
theorem ok_conn {f fR : Addr} {fd fdR : FuncData} (F : Fun K "_are_connected" "_are_connected" sConn f fd) (GR : FnOk P w K mg base CX0 1 fR fdR ["links", "state"] (spReached K)) (kR : PySem.W.keepIn K (.ref fR) = true) (bR : L2.Binds K fdR ["links", "state"] []) (gR : mg "reached" = some (.ref fR)) (B : BltP mg) :
    FnOk P w K mg base CX0 2 f fd ["states", "transitions"] (spConn K) := by
  refine F.ok scConn (fun vs H Q E h => ?_) (fun cdv A outer s H vs Q E hr h => ?_)
  · obtain ⟨a, v, rs, x, st, rfl, _⟩ := h
    rfl
  · obtain ⟨a, v, rs, x, st, rfl, ha, hd, nd, inside, rf, rb, few, few2, k⟩ := h
    obtain ⟨b, us, rfl, hb, hu⟩ := dp_tup hd
    have ul : us.length = rs.length := by rw [dpAll_len hu, List.length_map]
    refine ⟨_, pss_cons (ps_setLc (i := 2) (own := [("_", 3), ("source", 4), ("target", 5)]) (g := gTup K 4 (gCons (gName 3) (gCons (gName 4) (gCons (gName 5) (gCons (gName 3) gNil))))) (tt := tYes) (te := tTup (tCons (tVar 4) (tCons (tVar 5) tNil))) rfl scConn.nd rfl rfl (sw_true rfl rfl rfl (by decide +kernel)) (pi_tup (pv 1)) (blkOk_by (N := cNames) (sc := defScope sConn) (by decide +kernel))
        (fun _ _ _ _ _ => pg_tup (by rfl) (pgs_cons (pg_name (i := 3) scConn.nd rfl (.inl rfl)) (pgs_cons (pg_name (i := 4) scConn.nd rfl (.inl rfl)) (pgs_cons (pg_name (i := 5) scConn.nd rfl (.inl rfl)) (pgs_cons (pg_name (i := 3) scConn.nd rfl (.inl rfl)) pgs_nil))))) (fun _ _ _ _ _ => pts_nil) (fun _ _ _ _ _ => pe_tup (pa_cons (pv 4) (pa_cons (pv 5) pa_nil))))
      (pss_cons (ps_setLc (i := 6) (own := [("source", 4), ("target", 5)]) (g := gTup K 2 (gCons (gName 4) (gCons (gName 5) gNil))) (tt := tYes) (te := tTup (tCons (tVar 5) (tCons (tVar 4) tNil))) rfl scConn.nd rfl rfl (sw_true rfl rfl rfl (by decide +kernel)) (pi_list (pv 2)) (blkOk_by (N := cNames) (sc := defScope sConn) (by decide +kernel))
        (fun _ _ _ _ _ => pg_tup (by rfl) (pgs_cons (pg_name (i := 4) scConn.nd rfl (.inl rfl)) (pgs_cons (pg_name (i := 5) scConn.nd rfl (.inl rfl)) pgs_nil))) (fun _ _ _ _ _ => pts_nil) (fun _ _ _ _ _ => pe_tup (pa_cons (pv 5) (pa_cons (pv 4) pa_nil))))
      (pss_one (ps_ret (pe_chain op_eq op_eq (pe_callB call_lenD (by rfl) B.len PySem.boot_len (pa_cons (pe_call GR hr (by rfl) gR kR bR .nil pass0 (pa_cons (pv 2) (pa_cons (pe_ix ix_list (pv 0) pe_int (fun _ _ => rfl)) pa_nil))) pa_nil)) (pe_callB call_len_seq (by rfl) B.len PySem.boot_len (pa_cons (pv 0) pa_nil))
        (pe_callB call_lenD (by rfl) B.len PySem.boot_len (pa_cons (pe_call GR hr (by rfl) gR kR bR .nil pass0 (pa_cons (pv 6) (pa_cons (pe_ix ix_list (pv 0) pe_int (fun _ _ => rfl)) pa_nil))) pa_nil)))))), ?_⟩
    refine ⟨_, rfl, b, rfl, ⟨_, hb⟩, fun D hD => ?_⟩
    refine lc_tup (xs := us) (fun i H' => Same H H' ∧ ∃ ws, H' D = some (.lst ws) ∧ Lk K H' ws ((fwd rs).take i)) ⟨same_new hD, [], upd_same, .nil⟩ (fun i H' _ p => sqT_same p.1 hb) (fun i z H' hz p => ?_) fun H1 p => ?_
    · obtain ⟨sm, ws, hw, lk⟩ := p
      obtain ⟨d, hd', dz⟩ := dpAll_at (dpAll_same sm _ _ hu) hz
      rw [List.getElem?_map] at hd'
      cases hc : rs[i]? with
      | none => rw [hc] at hd'; cases hd'
      | some r =>
        rw [hc] at hd'
        cases (Option.some.inj hd' : rowD r = d)
        obtain ⟨q, c, rfl, hq, _⟩ := dp_row dz
        have il : i < rs.length := (List.getElem?_eq_some_iff.mp hc).1
        have wl : ws.length ≤ 1000 := by
          rw [lk.len, List.length_take]
          omega
        refine ⟨q, _, rfl, hq, rfl, _, _, rfl, _, _, rfl, _, _, rfl, _, _, rfl, rfl, rfl, yes_if ⟨_, rfl, _, rfl, (by show 2 ≤ sizeLine; decide), fun t ht => ⟨ws, (same_new ht) _ _ hw, (by rw [sizeLine_eq]; omega), same_at sm hD (same_new ht) hw, _, upd_same, ?_⟩⟩⟩
        have e : (fwd rs).take (i + 1) = (fwd rs).take i ++ [(r.s, r.t)] := by
          rw [List.take_add_one]
          unfold fwd
          rw [List.getElem?_map, hc]
          rfl
        rw [e]
        exact ((lk.same (same_new ht)).snoc (l := (r.s, r.t)) (.inl (.inl upd_same))).upd ((same_new ht) _ _ hw)
    obtain ⟨s1, ws, hw, lk⟩ := p
    rw [ul, List.take_of_length_le (by unfold fwd; rw [List.length_map]; exact Nat.le_refl _)] at lk
    have lw : ws.length = rs.length := by
      rw [lk.len]
      unfold fwd
      rw [List.length_map]
    refine ⟨_, rfl, D, rfl, ⟨_, .inl (.inl hw)⟩, fun D2 hD2 => ?_⟩
    refine lc_list (xs := ws) (fun i H' => Same H1 H' ∧ ∃ zs, H' D2 = some (.lst zs) ∧ Lk K H' zs ((bwd rs).take i)) ⟨same_new hD2, [], upd_same, .nil⟩ (fun i H' _ p => .inl (.inl (p.1 _ _ hw))) (fun i z H' hz p => ?_) fun H2 p => ?_
    · obtain ⟨sm, zs, hzs, lz⟩ := p
      obtain ⟨l, t, hl, rfl, ht⟩ := (lk.same sm).at hz
      have il : i < rs.length := by
        rw [← lw]
        exact (List.getElem?_eq_some_iff.mp hz).1
      have zl : zs.length ≤ 1000 := by
        rw [lz.len, List.length_take]
        omega
      refine ⟨t, _, rfl, ht, rfl, _, _, rfl, _, _, rfl, rfl, rfl, yes_if ⟨_, rfl, _, rfl, (by show 2 ≤ sizeLine; decide), fun u hu => ⟨zs, (same_new hu) _ _ hzs, (by rw [sizeLine_eq]; omega), same_at sm hD2 (same_new hu) hzs, _, upd_same, ?_⟩⟩⟩
      have e : (bwd rs).take (i + 1) = (bwd rs).take i ++ [(l.2, l.1)] := by
        rw [List.take_add_one]
        unfold bwd
        unfold fwd at hl
        rw [List.getElem?_map] at hl ⊢
        cases hr : rs[i]? with
        | none => rw [hr] at hl; cases hl
        | some r =>
          rw [hr] at hl
          cases hl
          rfl
      rw [e]
      exact ((lz.same (same_new hu)).snoc (l := (l.2, l.1)) (.inl (.inl upd_same))).upd ((same_new hu) _ _ hzs)
    obtain ⟨s2, zs, hzs, lz⟩ := p
    rw [lw, List.take_of_length_le (by unfold bwd; rw [List.length_map]; exact Nat.le_refl _)] at lz
    have s12 := s1.trans s2
    have fl : (fwd rs).length ≤ 1000 := by unfold fwd; rw [List.length_map]; exact few2
    have bl : (bwd rs).length ≤ 1000 := by unfold bwd; rw [List.length_map]; exact few2
    have fin : ∀ l ∈ fwd rs, l.2 ∈ x :: st := fun l hl => by
      obtain ⟨r, hr, rfl⟩ := List.mem_map.mp hl
      exact (inside r hr).2
    have bin : ∀ l ∈ bwd rs, l.2 ∈ x :: st := fun l hl => by
      obtain ⟨r, hr, rfl⟩ := List.mem_map.mp hl
      exact (inside r hr).1
    have x0 : atI ((x :: st).map V.str) 0 = some (.str x) := atI_nat (xs := (x :: st).map V.str) (j := 0) (v := .str x) rfl
    refine ⟨_, rfl, _, rfl, a, _, _, .str x, rfl, rfl, sqL_same s12 ha, x0, D, ws, fwd rs, x, x :: st, rfl, .inl (.inl (s2 _ _ hw)), (lk.same s2).dp, List.mem_cons_self .., nd, fin, rf, (by show st.length + 1 ≤ 1000; omega), fl, fun d kvs H3 s3 hd3 lk3 => ?_⟩
    refine ⟨d, kvs, rfl, hd3, _, rfl, a, _, rfl, .inl (sqL_same (s12.trans s3) ha), rfl, _, rfl, if_yes (by rw [lk3, List.length_map]; exact decide_eq_true rfl) ?_⟩
    refine ⟨_, rfl, _, rfl, a, _, _, .str x, rfl, rfl, sqL_same (s12.trans s3) ha, x0, D2, zs, bwd rs, x, x :: st, rfl, .inl (.inl (s3 _ _ hzs)), (lz.same s3).dp, List.mem_cons_self .., nd, bin, rb, (by show st.length + 1 ≤ 1000; omega), bl, fun d4 kvs4 H4 s4 hd4 lk4 => ?_⟩
    refine ⟨d4, kvs4, rfl, hd4, rfl, ?_⟩
    have e : decide (V.int (((x :: st).map V.str).length : Int) = V.int (kvs4.length : Int)) = true := by
      rw [lk4, List.length_map]
      exact decide_eq_true rfl
    rw [e]
    exact k _ (s12.trans (s3.trans s4))
end
end Qp

/-! sorted(xs) of plain data that are alike, any length; xs a list or a tuple -/
namespace QN
open PySem PySem.Spec PyProof.Rows L2 PySem.W PySem.Calls
theorem each_vals : ∀ {bs : List (V × PyData)} {its : List Value}, Vals (bs.map (·.1)) its → EachIs (fun v b => RelV b.1 v) its bs
  | [], _, h => by
    cases h
    exact .nil
  | b :: bs, _, h => by
    cases h with
    | cons r t => exact .cons r (each_vals t)
theorem vals_each : ∀ {bs : List (V × PyData)} {its : List Value}, EachIs (fun v b => RelV b.1 v) its bs → Vals (bs.map (·.1)) its
  | [], _, h => by
    cases h
    exact .nil
  | b :: bs, _, h => by
    cases h with
    | cons r t => exact .cons r (vals_each t)
mutual
/-- what is read off stands in the heap -/
theorem reads_lt {h : Heap} : ∀ {v : Value} {d : PyData} {as : List Addr}, Reads h v d as → ∀ a ∈ as, a < h.objs.size
  | _, _, _, .none, a, m => by cases m
  | _, _, _, .bool _, a, m => by cases m
  | _, _, _, .int _ _, a, m => by cases m
  | _, _, _, .str _ _, a, m => by cases m
  | _, _, _, .list g _ _ r, a, m => by
    rcases List.mem_cons.mp m with rfl | m
    · exact Heap.lt_size g
    · exact readsAll_lt r a m
  | _, _, _, .tuple _ _ _ r, a, m => readsAll_lt r a m
  | _, _, _, .dict g _ _ r q, a, m => by
    rcases List.mem_append.mp m with m | m
    · rcases List.mem_cons.mp m with rfl | m
      · exact Heap.lt_size g
      · exact readsAll_lt r a m
    · exact readsAll_lt q a m
theorem readsAll_lt {h : Heap} : ∀ {vs : List Value} {ds : List PyData} {as : List Addr}, ReadsAll h vs ds as → ∀ a ∈ as, a < h.objs.size
  | _, _, _, .nil, a, m => by cases m
  | _, _, _, .cons r q, a, m => by
    rcases List.mem_append.mp m with m | m
    · exact reads_lt r a m
    · exact readsAll_lt q a m
end
/-- what sorted does, once its items are gathered in a heap that keeps all -/
theorem sorted_gathered {prog : Program} {w : World} {A : Around} {E : Value → Shared → Prop} {s : Shared} {β : Type} {R : Value → β → Prop} {enc : β → PyData} {x : Value} {vs : List Value} {bs : List β} {Q : Value → Shared → Prop} {Mid : Shared → Prop}
    (hcol : ∀ (A' : Around) (Q' : List Value → Shared → Prop), (∀ s1, (∀ b o, s.heap.get? b = some o → s1.heap.get? b = some o) → Mid s1 → Q' vs s1) → wpAny (model prog w) A' (collect x) Q' E s)
    (ar : argsOk "sorted" ⟨[x], []⟩) (e : EachIs R vs bs) (er : EachIs (fun v b => ∃ as, Reads s.heap v (enc b) as) vs bs) (hal : AllAlike (bs.map enc)) (hk : Sortable (bs.map enc)) (hL : bs.length ≤ sizeLine)
    (hu : ∀ b, b ∈ bs → A.units + 3 + (enc b).depth < cLine)
    (h : ∀ out ep s1 (h2 : Heap), Mid s1 → (∀ b o, s.heap.get? b = some o → s1.heap.get? b = some o) → EachIs R out (bs.mergeSort (dataLe false enc)) → h2.get? s1.heap.objs.size = some (seqObj "list" out.toArray ep) → (∀ b o, s1.heap.get? b = some o → h2.get? b = some o) → Q (.ref s1.heap.objs.size) { s1 with heap := h2 }) :
    wpAny (model prog w) A (call (.builtin "sorted") [x]) Q E s := by
  have hl : vs.length ≤ sizeLine := by rw [e.length]; exact hL
  refine call_function_entry kind_sorted plain_sorted
    entry_sorted ar ?_
  unfold Builtin.«sorted»
  refine wpAny_bind (m := checkCount "sorted" 1 1 _) (wpAny_pure (wpAny_bind (hcol _ _ fun s1 k hm => wpAny_bind (wpAny_newList ?_ hl))))
  have hn : (s1.heap.push (seqObj "list" vs.toArray 0)).get? s1.heap.objs.size = some (seqObj "list" vs.toArray 0) := Heap.get?_push_size _ rfl
  have old : ∀ b o, s1.heap.get? b = some o → (s1.heap.push (seqObj "list" vs.toArray 0)).get? b = some o := fun b o g => Heap.get?_push_of_some _ g
  have er2 : EachIs (fun v b => ∃ as, Reads (s1.heap.push (seqObj "list" vs.toArray 0)) v (enc b) as ∧ s1.heap.objs.size ∉ as) vs bs := er.mono fun v b q => by
    obtain ⟨as, r⟩ := q
    have r1 := PyProof.Rows.Reads.keeps k r
    exact ⟨as, PyProof.Rows.Reads.keeps old r1, fun m => Nat.lt_irrefl _ (reads_lt r1 _ m)⟩
  have hu2 : ∀ b, b ∈ bs → A.in1.units + 1 + (enc b).depth < cLine := fun b hb => by
    have := hu b hb
    show A.units + 1 + 1 + (enc b).depth < cLine
    omega
  refine wpAny_bind (wpAny_holding (list_sort_data (A := A.in1) (s := { s1 with heap := s1.heap.push (seqObj "list" vs.toArray 0) }) (n := 0) hn e er2 hal hk hL hu2 fun out ho hs => ?_))
  obtain ⟨ep, g⟩ := PyProof.Rows.sortedHeap_at (vs := vs) (out := out.toArray) hn
  refine wpAny_pure ⟨_, rfl, h out ep s1 _ hm k hs g fun b o q => ?_⟩
  rw [PyProof.Rows.sortedHeap_old (Nat.ne_of_lt (Heap.lt_size q)) (Heap.lt_size (old b o q))]
  exact old b o q
theorem each_reads {X : Cx} {pins : List (Addr × Obj)} {σ : L2.St} {H : Hp} {s : Shared} (I : Inv X pins σ H s) : ∀ (bs : List (V × PyData)) (us : List Value), (∀ b ∈ bs, Dp X.K H b.1 b.2) → EachIs (fun v b => RelV b.1 v) us bs → EachIs (fun v b => ∃ as, Reads s.heap v b.2 as) us bs := fun bs us hd e => by
  induction e with
  | nil => exact .nil
  | cons r t ih => exact .cons (Dp.reads I _ _ _ (hd _ (List.mem_cons_self ..)) r) (ih fun b hb => hd b (List.mem_cons_of_mem _ hb))
def rSortedDt (K : PySem.W.Frag) : List V → Hp → VK → Prop := fun vs H Q => ∃ (a : Addr) (bs : List (V × PyData)), vs = [V.ref a] ∧ (SqL K H a (bs.map (·.1)) ∨ SqT K H a (bs.map (·.1))) ∧ (∀ b ∈ bs, Dp K H b.1 b.2) ∧ AllAlike (bs.map (·.2)) ∧ Sortable (bs.map (·.2)) ∧ (∀ b ∈ bs, b.2.depth ≤ 60) ∧
  ∀ p, H p = none → Q (.ref p) (upd H p (.lst ((bs.mergeSort (dataLe false (·.2))).map (·.1))))
section
variable {X : Cx}
theorem cr_sortedDt (hu : X.A.units + 64 < cLine) : CallR X (.builtin "sorted") (rSortedDt X.K) := by
  intro pins s σ H vs us Q I r h
  obtain ⟨a, bs, rfl, hs, hd, al, so, dp, q⟩ := h
  rw [Vals.ref1 r]
  obtain ⟨its, T, o, n, rv, hT, ho, hc, hd', hz⟩ : ∃ (its : List Value) (T : String) (o : Obj) (n : Nat), Vals (bs.map (·.1)) its ∧ (T = "list" ∨ T = "tuple") ∧ s.heap.get? a = some o ∧ o.cls = .type T ∧ o.data = .seq its.toArray n ∧ bs.length ≤ sizeLine := by
    rcases hs with hs | hs
    · obtain ⟨its, rv, pl, hz⟩ := I.list hs
      obtain ⟨o, ho, hc, n, hd⟩ := pl.isList
      rw [List.length_map] at hz
      exact ⟨its, _, o, n, rv, .inl rfl, ho, hc, hd, hz⟩
    · obtain ⟨its, rv, ⟨o, ho, hc, n, hd⟩, hz⟩ := I.tuple hs
      rw [List.length_map] at hz
      exact ⟨its, _, o, n, rv, .inr rfl, ho, hc, hd, hz⟩
  have e := each_vals rv
  refine sorted_gathered (R := fun v b => RelV b.1 v) (enc := (·.2)) (Mid := fun s1 => ∃ h', s1 = { s with heap := h' }) (fun A' Q' k => ?_) (args_sorted1 _) e (each_reads I _ _ hd e) al so hz (fun b hb => by have := dp b hb; omega) fun out ep s1 h2 ⟨h1, e1⟩ k1 hs g k => ?_
  · refine wpAny_collect_seq a hT ho hc hd' (fun h' hk => ?_) (by rw [List.size_toArray, e.length]; exact hz)
    rw [show its.toArray.toList = its by simp]
    exact k { s with heap := h' } hk ⟨h', rfl⟩
  · subst e1
    have I1 : Inv X pins σ H { s with heap := h1 } := I.kept (t' := s.toks) k1
    have hl2 : ((bs.mergeSort (dataLe false (·.2))).map (·.1)).length ≤ sizeLine := by
      rw [List.length_map, List.length_mergeSort]
      exact hz
    exact ⟨.ref h1.objs.size, upd H h1.objs.size (.lst ((bs.mergeSort (dataLe false (·.2))).map (·.1))), I1.laid (t' := s.toks) k (Nat.le_refl _) ⟨hl2, out, ep, vals_each hs, g⟩, rfl, q _ (I1.hok.fresh (Nat.le_refl _))⟩
end
end QN

/-! sets of texts with their members' order: what a set of texts is, and one more member -/
namespace QN
open PySem PySem.Spec PyProof.Rows L2
def txOf : Value → Str
  | .str x _ => x
  | _ => ""
/-- an entry that holds a text -/
def TxE (P : Program) (w : World) (e : Int × Value) : Prop := ∃ x t, e.2 = Value.str x t ∧ e.1 = (strKind P w).hash x
/-- the set at a holds the texts of l, each once; its table can be walked -/
def TxSet (P : Program) (w : World) (h : Heap) (a : Addr) (l : List Str) : Prop :=
  ∃ (o : Obj) (es : Array (Int × Value)) (ep : Nat) (t : SetTable), h.get? a = some o ∧ o.ExactSet ∧ o.data = .set es ep t ∧
    (∀ e ∈ es.toList, TxE P w e) ∧ (es.toList.map fun e => txOf e.2).Perm l ∧ l.Nodup ∧ es.size < scanBound ∧ t.fits es.size = true ∧ Ris t.place.toList ∧
    (w.params.followText "set-order" = true ∨ t.led = true)
section
variable {P : Program} {w : World} {h h' : Heap} {a : Addr} {l : List Str}
theorem TxSet.at (R : TxSet P w h a l) (k : ∀ o, h.get? a = some o → h'.get? a = some o) : TxSet P w h' a l := by
  obtain ⟨o, es, ep, t, g, r⟩ := R
  exact ⟨o, es, ep, t, k o g, r⟩
theorem TxSet.perm {m : List Str} (R : TxSet P w h a l) (p : l.Perm m) : TxSet P w h a m := by
  obtain ⟨o, es, ep, t, g, g1, g2, g3, g4, g5, r⟩ := R
  exact ⟨o, es, ep, t, g, g1, g2, g3, g4.trans p, p.nodup_iff.mp g5, r⟩
theorem txE_elems {es : List (Int × Value)} (g : ∀ e ∈ es, TxE P w e) : ElemsOf (strKind P w) es := fun e m => by
  obtain ⟨x, t, e1, e2⟩ := g e m
  refine ⟨⟨x, ?_, e2⟩, ?_⟩
  · rw [e1]
    exact strKind_is P w x t
  · rw [e1]
    rfl
theorem txE_is {e : Int × Value} (g : TxE P w e) (x : Str) : (strKind P w).is x e.2 = true ↔ txOf e.2 = x := by
  obtain ⟨y, t, e1, _⟩ := g
  rw [e1]
  constructor
  · intro z
    exact (strKind P w).inj _ y x (strKind_is P w y t) z
  · intro z
    have z' : y = x := z
    rw [← z']
    exact strKind_is P w y t
theorem TxSet.setOf (R : TxSet P w h a l) : h.SetOf (strKind P w) a (fun x => decide (x ∈ l)) l.length := by
  obtain ⟨o, es, ep, t, g, g1, g2, g3, g4, g5, g6, g7, _⟩ := R
  refine ⟨o, es, ep, t, g, g1, g2, txE_elems g3, fun x => ?_, g6, g7, ?_⟩
  · rw [decide_eq_true_iff, ← g4.mem_iff, List.mem_map]
    exact ⟨fun ⟨e, m, z⟩ => ⟨e, m, (txE_is (g3 e m) x).mpr z⟩, fun ⟨e, m, z⟩ => ⟨e, m, (txE_is (g3 e m) x).mp z⟩⟩
  · have := g4.length_eq
    rw [List.length_map, Array.length_toList] at this
    exact this
theorem txSet_fresh : TxSet P w (h.push { cls := .type "set", dict := none, data := .set #[] 0 (.fresh 0 0 (!w.params.followText "set-order")) }) h.objs.size [] := by
  refine ⟨_, #[], 0, _, Heap.get?_push_size _ rfl, ⟨rfl, rfl, rfl⟩, rfl, by simp, by simp, List.nodup_nil, by decide, by rfl, List.Pairwise.nil, ?_⟩
  cases c : w.params.followText "set-order" with
  | true => exact .inl rfl
  | false => exact .inr rfl
end
section
variable {P : Program} {w : World} {A : Around} {E : Value → Shared → Prop} {s : Shared} {a : Addr} {l : List Str}
/-- the entries of a table, once they are stored -/
theorem txs_stored {g : Bool → Sem Unit} (hg : ∀ (b : Bool) (u : Shared) (Q' : Unit → Shared → Prop), Q' () u → wpAny (model P w) A (g b) Q' E u) {o : Obj} {es es1 : Array (Int × Value)} {ep : Nat} {t t2 : SetTable} (ho : s.heap.get? a = some o) (hx : o.ExactSet) (hd : o.data = .set es ep t)
    (g1 : ∀ e ∈ es1.toList, TxE P w e) (p1 : (es1.toList.map fun e => txOf e.2).Perm l) (nd : l.Nodup) (hb : es1.size < scanBound) (hf : t2.fits es1.size = true) (hr : Ris t2.place.toList) (hl : w.params.followText "set-order" = true ∨ t2.led = true) {dummy : Bool} {R : Option Bool → Shared → Prop}
    (hR : ∀ h', Heap.SameBut a s.heap h' → TxSet P w h' a l → R (some true) { s with heap := h' }) :
    wpAny (model P w) A (do
      storeSet a es1 t2
      if (!dummy && t2.tooFull) = true then do
        g (relayAll t2 es1 (SetTable.grown es1.size)).2.2
        storeSet a (relayAll t2 es1 (SetTable.grown es1.size)).1 (relayAll t2 es1 (SetTable.grown es1.size)).2.1
        pure (some true)
      else pure (some true)) R E s := by
  have b1 := Heap.SameBut.update s.heap a (Obj.putSet es1 t2)
  have o1 := store_at (es' := es1) (t' := t2) ho hd
  refine wpAny_bind (wpAny_storeSet_of ho hd ?_ (fits_of_scanBound hb))
  by_cases c : (!dummy && t2.tooFull) = true
  · rw [if_pos c]
    obtain ⟨q1, q2, q3, q4⟩ := And.intro (relayAll_perm t2 es1 (SetTable.grown es1.size)) (And.intro (relayAll_fits t2 es1 (SetTable.grown es1.size)) (And.intro (relayAll_ris t2 es1 (SetTable.grown es1.size)) (relayAll_led t2 es1 (SetTable.grown es1.size))))
    obtain ⟨⟨es2, t3, gave⟩, hZ⟩ : ∃ Z, relayAll t2 es1 (SetTable.grown es1.size) = Z := ⟨_, rfl⟩
    rw [hZ] at q1 q2 q3 q4 ⊢
    have sz : es2.size = es1.size := by
      have := q1.length_eq
      rw [Array.length_toList, Array.length_toList] at this
      exact this
    refine wpAny_bind (hg _ _ _ (wpAny_bind (wpAny_storeSet_of o1 rfl ?_ (fits_of_scanBound (by rw [sz]; exact hb)))))
    have o2 := store_at (es' := es2) (t' := t3) o1 rfl
    refine wpAny_pure (hR _ (b1.trans (Heap.SameBut.update _ a _)) ⟨_, es2, _, t3, o2, hx, rfl, fun e m => g1 e (q1.mem_iff.mp m), (q1.map _).trans p1, nd, by rw [sz]; exact hb, q2, q3, ?_⟩)
    rcases hl with z | z
    · exact .inl z
    · exact .inr (q4.trans z)
  · rw [if_neg c]
    exact wpAny_pure (hR _ b1 ⟨_, es1, _, t2, o1, hx, rfl, g1, p1, nd, hb, hf, hr, hl⟩)
/-- one more member -/
theorem txs_add {x : Str} {tk : Tok} {Q : Bool → Shared → Prop} (R : TxSet P w s.heap a l) (room : l.length + 1 < scanBound)
    (hQ : ∀ (b : Bool) h', Heap.SameBut a s.heap h' → TxSet P w h' a (if x ∈ l then l else l ++ [x]) → Q b { s with heap := h' }) :
    wpAny (model P w) A (setAddHashed a (.str x tk) ((strKind P w).hash x)) Q E s := by
  obtain ⟨o, es, ep, t, ho, hx, hd, g, pm, nd, hb, hf, hr, hl⟩ := R
  have is : (strKind P w).is x (.str x tk) = true := strKind_is P w x tk
  have el := txE_elems g
  have sl : es.size = l.length := by
    have := pm.length_eq
    rw [List.length_map, Array.length_toList] at this
    exact this
  unfold setAddHashed setAddHashedIn
  refine wpAny_holding (wpAny_bind (wpAny_setState_of ho hd hf ?_))
  dsimp only
  rw [byScan_of (x := .str x tk) rfl hb el, if_pos rfl]
  unfold setAddByScan
  refine wpAny_bind (wpAny_bind (wpAny_rule (wpAny_bind (wpAny_setScan_of is ho hd hf el ?_))))
  cases found : List.findIdx? (fun e => (strKind P w).is x e.2) es.toList with
  | some j =>
    obtain ⟨hj, pj, _⟩ := List.findIdx?_eq_some_iff_getElem.mp found
    have hin : x ∈ l := pm.mem_iff.mp (List.mem_map.mpr ⟨_, List.getElem_mem hj, (txE_is (g _ (List.getElem_mem hj)) x).mp pj⟩)
    dsimp only
    have q := hQ false s.heap (Heap.SameBut.refl a s.heap) (by rw [if_pos hin]; exact ⟨o, es, ep, t, ho, hx, hd, g, pm, nd, hb, hf, hr, hl⟩)
    exact wpAny_pure (wpAny_pure q)
  | none =>
    have hout : x ∉ l := fun z => by
      obtain ⟨e, m, q⟩ := List.mem_map.mp (pm.mem_iff.mpr z)
      have := List.findIdx?_eq_none_iff.mp found e m
      rw [(txE_is (g e m) x).mpr q] at this
      cases this
    dsimp only
    have gave : ∀ (b : Bool) {u : Shared} {Q' : Unit → Shared → Prop}, Q' () u → wpAny (model P w) A (match b with | true => rule "set.scan.the-table-gave-way" | false => pure ()) Q' E u := fun b u Q' q => by
      cases b
      · exact wpAny_pure q
      · exact wpAny_rule q
    obtain ⟨q1, q2, q3, q4⟩ := And.intro (layNew_perm t es ((strKind P w).hash x) (.str x tk)) (And.intro (layNew_fits t es ((strKind P w).hash x) (.str x tk)) (And.intro (layNew_ris t es ((strKind P w).hash x) (.str x tk) hr) (layNew_led t es ((strKind P w).hash x) (.str x tk))))
    obtain ⟨⟨es1, t1, dummy, way⟩, hZ⟩ : ∃ Z, layNew t es ((strKind P w).hash x) (.str x tk) = Z := ⟨_, rfl⟩
    rw [hZ] at q1 q2 q3 q4 ⊢
    dsimp only at q1 q2 q3 q4 ⊢
    rw [Array.toList_push] at q1
    have pc : es1.toList.Perm (((strKind P w).hash x, Value.str x tk) :: es.toList) := q1.trans (List.perm_append_singleton _ _)
    have g1 : ∀ e ∈ es1.toList, TxE P w e := fun e m => by
      rcases List.mem_cons.mp (pc.mem_iff.mp m) with z | z
      · exact ⟨x, tk, by rw [z], by rw [z]⟩
      · exact g e z
    have p1 : (es1.toList.map fun e => txOf e.2).Perm (l ++ [x]) := (pc.map _).trans ((List.Perm.cons x pm).trans (List.perm_append_singleton x l).symm)
    have n1 : (l ++ [x]).Nodup := (List.perm_append_singleton x l).nodup_iff.mpr (List.nodup_cons.mpr ⟨hout, nd⟩)
    have s1 : es1.size < scanBound := by
      have := p1.length_eq
      rw [List.length_map, Array.length_toList, List.length_append, List.length_singleton] at this
      rw [this]
      exact room
    have l1 : w.params.followText "set-order" = true ∨ t1.led = true := by
      rcases hl with z | z
      · exact .inl z
      · exact .inr (q4.trans z)
    have fin : ∀ h', Heap.SameBut a s.heap h' → TxSet P w h' a (l ++ [x]) → Q true { s with heap := h' } := fun h' sb r => hQ true h' sb (by rw [if_neg hout]; exact r)
    refine wpAny_bind (gave _ ?_)
    split
    · rw [hashByValue_scannable 8 (x := .str x tk) rfl]
      refine wpAny_bind (wpAny_pure ?_)
      refine txs_stored (fun b u Q' q => gave b q) ho hx hd g1 p1 n1 s1 ?_ ?_ ?_ fun h' sb r => wpAny_pure (fin h' sb r)
      · first | exact SetTable.fits_plain_off q2 | exact q2
      · exact q3
      · exact l1
    · refine wpAny_bind (wpAny_pure ?_)
      rw [if_pos rfl]
      exact txs_stored (fun b u Q' q => gave b q) ho hx hd g1 p1 n1 s1 q2 q3 l1 fun h' sb r => wpAny_pure (fin h' sb r)
end
end QN

/-! set(xs) of texts, xs a list or a tuple -/
namespace QN
open PySem PySem.Spec PyProof.Rows L2
section
variable {P : Program} {w : World} {A : Around} {E : Value → Shared → Prop} {s : Shared} {a : Addr} {l : List Str}
theorem txs_fill {I : Addr} {fp wr : List Addr} {G : Array GenState → Array GenState → Prop} {n : Nat} {Pv : Nat → Value → Prop} {St : Nat → Shared → Prop} {R : Result → Shared → Prop} (W : WalksS P w A.in1 I fp wr G n Pv St) (S : Addr) (out : S ∉ fp)
    (xs : List Str) (hn : n = xs.length) (few : xs.length + 1 < scanBound) (hv : ∀ i v, Pv i v → ∃ x t, xs[i]? = some x ∧ v = Value.str x t) :
    ∀ (k i : Nat) (s : Shared) (l : List Str), n - i = k → i ≤ n → St i s → TxSet P w s.heap S l → l.length ≤ i → (∀ x, x ∈ l ↔ x ∈ xs.take i) →
      (∀ s' l', Moved (S :: wr) G s s' → TxSet P w s'.heap S l' → l'.length ≤ n → (∀ x, x ∈ l' ↔ x ∈ xs) → R (.ok (.ret .none)) s') →
      codeAny (model P w) A (.builtin "set.update.loop" ⟨[.ref S, .ref I], []⟩) R s := by
  have nw : S ∉ wr := fun z => out (W.sub _ z)
  have sub : ∀ b ∈ wr, b ∈ S :: wr := fun b z => List.mem_cons_of_mem _ z
  intro k
  induction k with
  | zero =>
    intro i s l e hi st R0 hl hm fin
    obtain rfl : i = n := by omega
    refine codeAny_builtin PyProof.Rows.F.entry_set_update_loop ?_
    rw [Around.under_plainId PyProof.Rows.F.plain_set_update_loop _]
    show wpAny _ A.in1 (pyNext (.ref I) >>= _) _ _ s
    refine wpAny_bind (W.done s _ _ st fun s' mv => ?_)
    rw [hn, List.take_length] at hm
    exact wpAny_pure (fin s' l (mv.mono sub) (R0.at fun o g => mv.heap S o nw g) hl hm)
  | succ k ih =>
    intro i s l e hi st R0 hl hm fin
    have lt : i < n := by omega
    refine codeAny_builtin PyProof.Rows.F.entry_set_update_loop ?_
    rw [Around.under_plainId PyProof.Rows.F.plain_set_update_loop _]
    show wpAny _ A.in1 (pyNext (.ref I) >>= _) _ _ s
    refine wpAny_bind (W.item i s _ _ lt st fun v s' pv st' mv => ?_)
    obtain ⟨x, t, hx, rfl⟩ := hv i v pv
    have R1 := R0.at fun o g => mv.heap S o nw g
    show wpAny _ A.in1 (holding [Value.str x t] (setAdd S (.str x t)) >>= _) _ _ s'
    unfold setAdd
    refine wpAny_bind (wpAny_holding (wpAny_holding (wpAny_bind ((strKind P w).pyHash (k := x) (strKind_is P w x t) (txs_add (s := { s' with toks := s'.toks + 1 }) R1 (by omega) fun b h' sb R2 => ?_)))))
    have e1 : xs.take (i + 1) = xs.take i ++ [x] := by rw [List.take_add_one, hx]; rfl
    refine wpAny_pure ⟨plainId_quiet PyProof.Rows.F.plain_set_update_loop _, ih (i + 1) _ _ (by omega) lt (W.frame _ s' _ _ st' (Nat.le_succ _) fun b m o g => ?_) R2 ?_ (fun y => ?_) fun s2 l2 mv2 R3 z1 z2 => ?_⟩
    · rw [sb.2 b fun c => out (c ▸ m)]
      exact g
    · split
      · omega
      · rw [List.length_append, List.length_singleton]
        omega
    · rw [e1, List.mem_append, List.mem_singleton, ← hm y]
      split
      · rename_i c
        exact ⟨.inl, fun z => z.elim id fun q => q ▸ c⟩
      · rw [List.mem_append, List.mem_singleton]
    · refine fin s2 l2 (Moved.trans W.gtrans ((mv.mono sub).then_heap (Nat.le_succ _) fun b o m g => ?_) mv2) R3 z1 z2
      rw [sb.2 b fun c => m (c ▸ List.mem_cons_self)]
      exact g
/-- the items of a list or a tuple -/
def SeqAt2 (h : Heap) (q : Addr) (its : Array Value) : Prop := h.IsList q its ∨ h.IsTuple q its
set_option maxRecDepth 100000 in
set_option maxHeartbeats 3200000 in
theorem call_set_txs {q : Addr} {its : Array Value} (xs : List Str) {Q : Value → Shared → Prop} (hh : A.handled = none) (hl : SeqAt2 s.heap q its) (hn : its.size = xs.length) (hv : ∀ (i : Nat) v, its[i]? = some v → ∃ x t, xs[i]? = some x ∧ v = Value.str x t) (few : xs.length + 1 < scanBound)
    (h : ∀ (h' : Heap) (tk : Nat) l, TxSet P w h' s.heap.objs.size l → l.length ≤ xs.length → (∀ x, x ∈ l ↔ x ∈ xs) → (∀ b o, s.heap.get? b = some o → h'.get? b = some o) → Q (.ref s.heap.objs.size) { s with heap := h', toks := tk }) :
    wpAny (model P w) A (call (.type "set") [.ref q]) Q E s := by
  obtain ⟨c, tl, hmro⟩ := F.called_set.mro
  have hmade := F.called_set.made
  have hsub := F.called_set.sub
  have m1 := F.called_set.notType
  have m2 := F.called_set.canCreate
  have m3 := F.typeCall_set_1 (.ref q)
  refine wpAny_call (codeAny_of_tree (?_ : wpAny _ _ (callAny (.type "set") _) _ _ _))
  refine wpAny_pure ⟨Code.quiet_builtin _ (by decide +kernel), codeAny_builtin F.entry_type_call ?_⟩
  rw [Around.under_plain (weight_type_call_type "set" [.ref q] []) rfl]
  repeat (any_goals (first | assumption | wp_step))
  obtain ⟨fresh, hfr⟩ : ∃ o : Obj, o = { cls := .type "set", dict := none, data := .set #[] 0 (.fresh 0 0 (!w.params.followText "set-order")) } := ⟨_, rfl⟩
  refine codeAny_mono (code_set_led1 (.ref q) (E := E) (Q₁ := fun obj u => obj = .ref s.heap.objs.size ∧ u = { s with heap := s.heap.push fresh }) ⟨rfl, by rw [hfr]⟩) fun r u hr => ?_
  have R0 : TxSet P w (s.heap.push fresh) s.heap.objs.size [] := by
    rw [hfr]
    exact txSet_fresh
  have g0 : (s.heap.push fresh).get? s.heap.objs.size = some fresh := Heap.get?_push_size _ (by rw [hfr]; rfl)
  match r, hr with
  | .error e, hr => exact hr
  | .ok (.ret obj), hr =>
    obtain ⟨rfl, rfl⟩ := hr
    have hT : Shared.TypeIs { s with heap := s.heap.push fresh } (.ref s.heap.objs.size) "set" := ⟨_, g0, by rw [hfr]⟩
    have hli := F.called_set.init.lookup
    have hbi := F.called_set.init.bind (.ref s.heap.objs.size)
    repeat (any_goals (first | assumption | wp_step))
    refine codeAny_mono (codeAny_call_builtin (R := wants (fun r u => r = .none ∧ ∃ h' tk l', u = { s with heap := h', toks := tk } ∧ TxSet P w h' s.heap.objs.size l' ∧ l'.length ≤ xs.length ∧ (∀ x, x ∈ l' ↔ x ∈ xs) ∧ (∀ b o, s.heap.get? b = some o → h'.get? b = some o)) E)
      F.called_set.init.plain F.entry_set_init (check_set_init_1 hT ?_)) fun r2 u2 hr2 => ?_
    · subst hfr
      rcases hl with hl | hl
      · obtain ⟨⟨oc, od, odt, osl⟩, ho, hc, n, hd⟩ := id hl
        simp only at hc hd
        subst hc
        subst hd
        have hl1 := hl.push { cls := .type "set", dict := none, data := .set #[] 0 (.fresh 0 0 (!w.params.followText "set-order")) }
        have ho1 : (s.heap.push { cls := .type "set", dict := none, data := .set #[] 0 (.fresh 0 0 (!w.params.followText "set-order")) }).get? q = some { cls := .type "list", dict := od, data := .seq its n, slots := osl } := Heap.get?_push_of_some _ ho
        have k1 := F.sub_list_set
        have k2 := F.sub_list_frozenset
        have k3 : (Value.type "list" == Value.type "dict") = false := by decide
        unfold Builtin.«set.__init__» noKeywords Builtin.Frozenset.updateFrom
        generalize hPI : pyIter = PI
        wp_walk
        subst hPI
        have sz : (s.heap.push { cls := .type "set", dict := none, data := .set #[] 0 (.fresh 0 0 (!w.params.followText "set-order")) }).objs.size = s.heap.objs.size + 1 := Heap.size_push ..
        have qs : q < s.heap.objs.size := Heap.lt_size ho
        refine wpAny_pyIter_list hl1 (wpAny_bind (wpAny_runValue (txs_fill ((Walks.list (prog := P) (w := w) (A := A.in1.in1.in1) (by simp [hh]) _ q (by rw [sz]; exact Nat.ne_of_lt (Nat.lt_succ_of_lt qs)) its).toS) s.heap.objs.size (by rw [sz]; simp only [List.mem_cons, List.not_mem_nil, or_false, not_or]; exact ⟨Nat.ne_of_lt (Nat.lt_succ_self _), Nat.ne_of_gt qs⟩)
          xs hn few hv (its.size - 0) 0 _ [] (by omega) (Nat.zero_le _) ⟨⟨_, Heap.get?_push_size _ rfl, rfl, rfl⟩, hl1.push _⟩ (R0.at fun o g => Heap.get?_push_of_some _ g) (Nat.le_refl _) (by simp) fun s' l' mv R1 z1 z2 => ?_)))
        obtain ⟨h', g2, d', tk', os'⟩ := s'
        have eg : g2 = s.gens := mv.gens
        have ed : d' = s.drawn := mv.drawn
        have eo : os' = s.os := mv.os
        subst eg
        subst ed
        subst eo
        show wpAny _ _ _ _ _ _
        refine wpAny_pure ?_
        show wpAny _ _ (ret Value.none) _ _ _
        refine wpAny_pure ⟨rfl, h', tk', l', rfl, R1, by rw [← hn]; exact z1, z2, fun b o g => ?_⟩
        have bs := Heap.lt_size g
        refine mv.heap b o ?_ (Heap.get?_push_of_some _ (Heap.get?_push_of_some _ g))
        rw [sz]
        simp only [List.mem_cons, List.not_mem_nil, or_false, not_or]
        exact ⟨Nat.ne_of_lt bs, Nat.ne_of_lt (Nat.lt_succ_of_lt bs)⟩
      · obtain ⟨⟨oc, od, odt, osl⟩, ho, hc, n, hd⟩ := id hl
        simp only at hc hd
        subst hc
        subst hd
        have hl1 := hl.push { cls := .type "set", dict := none, data := .set #[] 0 (.fresh 0 0 (!w.params.followText "set-order")) }
        have ho1 : (s.heap.push { cls := .type "set", dict := none, data := .set #[] 0 (.fresh 0 0 (!w.params.followText "set-order")) }).get? q = some { cls := .type "tuple", dict := od, data := .seq its n, slots := osl } := Heap.get?_push_of_some _ ho
        have k1 := F.sub_tuple_set
        have k2 := F.sub_tuple_frozenset
        have k3 : (Value.type "tuple" == Value.type "dict") = false := by decide
        unfold Builtin.«set.__init__» noKeywords Builtin.Frozenset.updateFrom
        generalize hPI : pyIter = PI
        wp_walk
        subst hPI
        have sz : (s.heap.push { cls := .type "set", dict := none, data := .set #[] 0 (.fresh 0 0 (!w.params.followText "set-order")) }).objs.size = s.heap.objs.size + 1 := Heap.size_push ..
        have qs : q < s.heap.objs.size := Heap.lt_size ho
        refine wpAny_pyIter_tuple hl1 (wpAny_bind (wpAny_runValue (txs_fill ((Walks.tuple (prog := P) (w := w) (A := A.in1.in1.in1) (by simp [hh]) _ q (by rw [sz]; exact Nat.ne_of_lt (Nat.lt_succ_of_lt qs)) its).toS) s.heap.objs.size (by rw [sz]; simp only [List.mem_cons, List.not_mem_nil, or_false, not_or]; exact ⟨Nat.ne_of_lt (Nat.lt_succ_self _), Nat.ne_of_gt qs⟩)
          xs hn few hv (its.size - 0) 0 _ [] (by omega) (Nat.zero_le _) ⟨⟨_, Heap.get?_push_size _ rfl, rfl, rfl⟩, hl1.push _⟩ (R0.at fun o g => Heap.get?_push_of_some _ g) (Nat.le_refl _) (by simp) fun s' l' mv R1 z1 z2 => ?_)))
        obtain ⟨h', g2, d', tk', os'⟩ := s'
        have eg : g2 = s.gens := mv.gens
        have ed : d' = s.drawn := mv.drawn
        have eo : os' = s.os := mv.os
        subst eg
        subst ed
        subst eo
        show wpAny _ _ _ _ _ _
        refine wpAny_pure ?_
        show wpAny _ _ (ret Value.none) _ _ _
        refine wpAny_pure ⟨rfl, h', tk', l', rfl, R1, by rw [← hn]; exact z1, z2, fun b o g => ?_⟩
        have bs := Heap.lt_size g
        refine mv.heap b o ?_ (Heap.get?_push_of_some _ (Heap.get?_push_of_some _ g))
        rw [sz]
        simp only [List.mem_cons, List.not_mem_nil, or_false, not_or]
        exact ⟨Nat.ne_of_lt bs, Nat.ne_of_lt (Nat.lt_succ_of_lt bs)⟩
    · match r2, hr2 with
      | .error e, hr2 => exact hr2
      | .ok (.ret v), hr2 =>
        obtain ⟨rfl, h', tk, l', rfl, z1, z2, z3, z4⟩ := hr2
        repeat (any_goals (first | assumption | wp_step))
        exact h _ _ _ z1 z2 z3 z4
end
end QN

/-! the rules: set(xs), sorted(s), len(s) of texts -/
namespace QN
open PySem PySem.Spec PyProof.Rows L2 PySem.W PySem.Calls
/-- the set of the texts of l (each once, in no order) -/
def TxSetO (P : Program) (w : World) (a : Addr) (l : List Str) : HO := .ext fun h => TxSet P w h a l
theorem txSetO_new {P : Program} {w : World} {H : Hp} {h : Heap} {a : Addr} {l : List Str} (R : TxSet P w h a l) : ObjOk P w H h a (TxSetO P w a l) := by
  have ⟨o, _, _, _, ho, _⟩ := R
  exact ⟨R, ⟨o, ho⟩, fun h1 h2 p k => TxSet.at p k⟩
theorem txSetO_get {X : Cx} {pins : List (Addr × Obj)} {σ : L2.St} {H : Hp} {s : Shared} {a : Addr} {l : List Str} (I : Inv X pins σ H s) (ha : H a = some (TxSetO X.prog X.w a l)) : TxSet X.prog X.w s.heap a l := (I.hok a _ ha).1
/-- the order of texts -/
def sortTx (l : List Str) : List Str := l.mergeSort (dataLe false fun x => .str x)
theorem sortTx_perm (l : List Str) : (sortTx l).Perm l := List.mergeSort_perm l _
/-- sorted's own sort of the list that it has made -/
theorem sorted_tail {prog : Program} {w : World} {A : Around} {E : Value → Shared → Prop} {s : Shared} {β : Type} {R : Value → β → Prop} {enc : β → PyData} {vs : List Value} {bs : List β} {Q : Value → Shared → Prop}
    (e : EachIs R vs bs) (er : EachIs (fun v b => ∃ as, Reads s.heap v (enc b) as) vs bs) (hal : AllAlike (bs.map enc)) (hk : Sortable (bs.map enc)) (hL : bs.length ≤ sizeLine) (hu : ∀ b, b ∈ bs → A.units + 2 + (enc b).depth < cLine)
    (h : ∀ out ep (h2 : Heap), EachIs R out (bs.mergeSort (dataLe false enc)) → h2.get? s.heap.objs.size = some (seqObj "list" out.toArray ep) → (∀ b o, s.heap.get? b = some o → h2.get? b = some o) → Q (.ref s.heap.objs.size) { s with heap := h2 }) :
    wpAny (model prog w) A (do
      let l ← newList vs
      let _ ← holding [l] (call (.builtin "list.sort") [l] [])
      ret l) (fun fin s' => ∃ v, fin = .done (.ret v) ∧ Q v s') E s := by
  have hn : (s.heap.push (seqObj "list" vs.toArray 0)).get? s.heap.objs.size = some (seqObj "list" vs.toArray 0) := Heap.get?_push_size _ rfl
  have old : ∀ b o, s.heap.get? b = some o → (s.heap.push (seqObj "list" vs.toArray 0)).get? b = some o := fun b o g => Heap.get?_push_of_some _ g
  have er2 : EachIs (fun v b => ∃ as, Reads (s.heap.push (seqObj "list" vs.toArray 0)) v (enc b) as ∧ s.heap.objs.size ∉ as) vs bs := er.mono fun v b q => by
    obtain ⟨as, r⟩ := q
    exact ⟨as, PyProof.Rows.Reads.keeps old r, fun m => Nat.lt_irrefl _ (reads_lt r _ m)⟩
  refine wpAny_bind (wpAny_newList ?_ (by rw [e.length]; exact hL))
  refine wpAny_bind (wpAny_holding (list_sort_data (A := A) (s := { s with heap := s.heap.push (seqObj "list" vs.toArray 0) }) (n := 0) hn e er2 hal hk hL (fun b hb => by have := hu b hb; omega) fun out ho hs => ?_))
  obtain ⟨ep, g⟩ := PyProof.Rows.sortedHeap_at (vs := vs) (out := out.toArray) hn
  refine wpAny_pure ⟨_, rfl, h out ep _ hs g fun b o q => ?_⟩
  rw [PyProof.Rows.sortedHeap_old (Nat.ne_of_lt (Heap.lt_size q)) (Heap.lt_size (old b o q))]
  exact old b o q
def rSetTx (K : PySem.W.Frag) (P : Program) (w : World) : List V → Hp → VK → Prop := fun xs H Q => ∃ (q : Addr) (us : List Str), xs = [V.ref q] ∧ (SqL K H q (us.map V.str) ∨ SqT K H q (us.map V.str)) ∧ us.length + 1 < scanBound ∧
  ∀ p l, H p = none → l.Nodup → l.length ≤ us.length → (∀ x, x ∈ l ↔ x ∈ us) → Q (.ref p) (upd H p (TxSetO P w p l))
def rSortedTx (P : Program) (w : World) : List V → Hp → VK → Prop := fun xs H Q => ∃ (q : Addr) (l : List Str), xs = [V.ref q] ∧ H q = some (TxSetO P w q l) ∧ l.length < 4000 ∧
  ∀ p m, H p = none → m.Perm l → Q (.ref p) (upd H p (.lst ((sortTx m).map V.str)))
def rLenTx (P : Program) (w : World) : List V → Hp → VK → Prop := fun xs H Q => ∃ (q : Addr) (l : List Str), xs = [V.ref q] ∧ H q = some (TxSetO P w q l) ∧ Q (.int l.length) H
section
variable {X : Cx}
theorem vals_strs : ∀ {us : List Str} {its : List Value}, Vals (us.map V.str) its → its.length = us.length ∧ ∀ (i : Nat) v, its[i]? = some v → ∃ x t, us[i]? = some x ∧ v = Value.str x t
  | [], _, r => by
    cases r
    exact ⟨rfl, fun i v e => by simp at e⟩
  | x :: us, _, r => by
    cases r with
    | cons a b =>
      obtain ⟨h1, h2⟩ := vals_strs b
      obtain ⟨t, rfl⟩ := a
      refine ⟨by rw [List.length_cons, List.length_cons, h1], fun i v e => ?_⟩
      cases i with
      | zero =>
        simp only [List.getElem?_cons_zero, Option.some.injEq] at e
        exact ⟨x, t, rfl, e.symm⟩
      | succ i =>
        rw [List.getElem?_cons_succ] at e
        obtain ⟨y, t, e1, e2⟩ := h2 i v e
        exact ⟨y, t, by rw [List.getElem?_cons_succ]; exact e1, e2⟩
theorem cr_setTx (hc : X.calm = true) : CallR X (.type "set") (rSetTx X.K X.prog X.w) := by
  intro pins s σ H xs us Q I r h
  obtain ⟨q, zs, rfl, hs, few, k⟩ := h
  rw [Vals.ref1 r]
  obtain ⟨its, rv, sq⟩ : ∃ its : List Value, Vals (zs.map V.str) its ∧ SeqAt2 s.heap q its.toArray := by
    rcases hs with hs | hs
    · obtain ⟨its, rv, pl, _⟩ := I.list hs
      exact ⟨its, rv, .inl pl.isList⟩
    · obtain ⟨its, rv, pl, _⟩ := I.tuple hs
      exact ⟨its, rv, .inr pl⟩
  obtain ⟨ln, at_⟩ := vals_strs rv
  refine call_set_txs (P := X.prog) (w := X.w) zs (I.ok.hd hc) sq (by rw [List.size_toArray]; exact ln) (fun i v e => at_ i v (by simpa using e)) few fun h' tk l R z1 z2 keep => ?_
  have nd : l.Nodup := by
    obtain ⟨_, _, _, _, _, _, _, _, _, nd, _⟩ := R
    exact nd
  exact ⟨.ref s.heap.objs.size, upd H s.heap.objs.size (TxSetO X.prog X.w s.heap.objs.size l), I.laid (t' := tk) keep (Nat.le_refl _) (txSetO_new R), rfl, k _ l (I.hok.fresh (Nat.le_refl _)) nd z1 z2⟩
theorem cr_lenTx : CallR X (.builtin "len") (rLenTx X.prog X.w) := by
  intro pins s σ H xs us Q I r h
  obtain ⟨q, l, rfl, ha, k⟩ := h
  rw [Vals.ref1 r]
  have R := (txSetO_get I ha).setOf
  obtain ⟨o, es, ep, t, ho, hex, hd, _, _, hb, hf, hn⟩ := R
  refine call_len_set ho hex hd hf (by rw [hn] at hb; rw [hn]; unfold scanBound at hb; omega) ⟨.int l.length, H, I.tok _, ⟨_, by rw [hn]⟩, k⟩
theorem each_txs : ∀ {vs : List Value}, (∀ v ∈ vs, ∃ x t, v = Value.str x t) → EachIs (fun v (x : Str) => ∃ t, v = Value.str x t) vs (vs.map txOf)
  | [], _ => .nil
  | v :: vs, h => by
    obtain ⟨x, t, e⟩ := h v (List.mem_cons_self ..)
    refine .cons ⟨t, ?_⟩ (each_txs fun u m => h u (List.mem_cons_of_mem _ m))
    rw [e]
    rfl
theorem txs_vals : ∀ {vs : List Value} {xs : List Str}, EachIs (fun v (x : Str) => ∃ t, v = Value.str x t) vs xs → Vals (xs.map V.str) vs
  | _, _, .nil => .nil
  | _, _, .cons h t => .cons h (txs_vals t)
theorem cr_sortedTx (hc : X.calm = true) (hu : X.A.units + 64 < cLine) : CallR X (.builtin "sorted") (rSortedTx X.prog X.w) := by
  intro pins s σ H xs us Q I r h
  obtain ⟨q, l, rfl, ha, few, k⟩ := h
  rw [Vals.ref1 r]
  obtain ⟨o, es, ep, t, ho, hex, hd, g, pm, nd, hb, hf, hr, hl⟩ := txSetO_get I ha
  refine call_function_entry kind_sorted plain_sorted
    entry_sorted (args_sorted1 _) ?_
  unfold Builtin.«sorted»
  refine wpAny_bind (m := checkCount "sorted" 1 1 _) (wpAny_pure (wpAny_bind (collect_set (A := X.A.in1) (I.ok.hd hc) ⟨o, ho, hex.1, hd⟩ hf hb hr hl fun s1 vs k1 hz g1 o1 p1 => ?_)))
  have tx : ∀ v ∈ vs, ∃ x t, v = Value.str x t := fun v m => by
    obtain ⟨e, me, q⟩ := List.mem_map.mp (p1.mem_iff.mp m)
    obtain ⟨x, t, e1, _⟩ := g e me
    exact ⟨x, t, by rw [← q]; exact e1⟩
  have p2 : (vs.map txOf).Perm l := by
    have := p1.map txOf
    rw [List.map_map] at this
    exact this.trans pm
  have ln : (vs.map txOf).length < 4000 := by rw [p2.length_eq]; exact few
  have e := each_txs tx
  refine sorted_tail (A := X.A.in1) (enc := fun x : Str => PyData.str x) e (e.mono fun v x z => by obtain ⟨t, rfl⟩ := z; exact ⟨_, Reads.str x t⟩) (AllAlike.of fun _ _ => rfl) (Sortable.others fun b => ⟨(fun c => by cases c), (fun xs c => by cases c)⟩) (by rw [sizeLine_eq]; omega) (fun b hb => ?_) fun out ep2 h2 hs g2 keep => ?_
  · show X.A.units + 1 + 2 + 0 < cLine
    omega
  · have hp : H s1.heap.objs.size = none := I.hok.fresh hz
    have l2 : ((sortTx (vs.map txOf)).map V.str).length ≤ sizeLine := by
      unfold sortTx
      rw [List.length_map, List.length_mergeSort, sizeLine_eq]
      omega
    have keep2 : ∀ b o, s.heap.get? b = some o → h2.get? b = some o := fun b o g => keep b o (k1 b o g)
    have J : Inv X pins σ (upd H s1.heap.objs.size (.lst ((sortTx (vs.map txOf)).map V.str))) { s with heap := h2, gens := s1.gens, drawn := s1.drawn, toks := s1.toks } :=
      I.call (ch := []) (Un.laid keep2 hz hp) (I.hok.laid keep2 hz ⟨l2, out, ep2, txs_vals hs, g2⟩) (by rw [g1]; exact I.bare) (fun _ z => nomatch z)
    have e1 : ({ s1 with heap := h2 } : Shared) = { s with heap := h2, gens := s1.gens, drawn := s1.drawn, toks := s1.toks } := by
      cases s1
      cases s
      cases o1
      rfl
    rw [e1]
    exact ⟨.ref s1.heap.objs.size, _, J, rfl, k _ _ hp p2⟩
end
end QN

/-! all states, in their order -/
namespace Qp
open PySem PySem.Spec PyProof.Rows L2 QN
abbrev sAll : Stmt := top 25 -- _all_states
abbrev aNames : List Str := ["transitions", "states", "touched", "_", "source", "target", "state"]
theorem scAll : FnScope aNames ["transitions", "states"] (defScope sAll) := ⟨rfl, rfl, rfl, by decide +kernel, rfl, by decide +kernel, by decide +kernel⟩
/-- x < y as texts -/
def lts (x y : Str) : Prop := x.cps.toList < y.cps.toList
theorem str_ext {x y : Str} (h : x.cps.toList = y.cps.toList) : x = y := by
  cases x
  cases y
  congr
  exact Array.toList_inj.mp h
theorem lts_irrefl (x : Str) : ¬ lts x x := List.lt_irrefl _
theorem lts_trans {x y z : Str} (a : lts x y) (b : lts y z) : lts x z := List.lt_trans a b
theorem lts_asymm {x y : Str} (a : lts x y) : ¬ lts y x := fun b => lts_irrefl x (lts_trans a b)
/-- two strictly ascending rows of the same texts are one -/
theorem asc_unique : ∀ {xs ys : List Str}, xs.Pairwise lts → ys.Pairwise lts → (∀ z, z ∈ xs ↔ z ∈ ys) → xs = ys
  | [], [], _, _, _ => rfl
  | [], y :: ys, _, _, h => absurd ((h y).mpr (List.mem_cons_self ..)) (by simp)
  | x :: xs, [], _, _, h => absurd ((h x).mp (List.mem_cons_self ..)) (by simp)
  | x :: xs, y :: ys, a, b, h => by
    rw [List.pairwise_cons] at a b
    have e : x = y := by
      rcases List.mem_cons.mp ((h x).mp (List.mem_cons_self ..)) with e | m1
      · exact e
      · rcases List.mem_cons.mp ((h y).mpr (List.mem_cons_self ..)) with e | m2
        · exact e.symm
        · exact absurd (a.1 y m2) (lts_asymm (b.1 x m1))
    subst e
    have r := asc_unique a.2 b.2 fun z => by
      constructor
      · intro m
        rcases List.mem_cons.mp ((h z).mp (List.mem_cons_of_mem _ m)) with e | m2
        · rw [e] at m
          exact absurd (a.1 x m) (lts_irrefl x)
        · exact m2
      · intro m
        rcases List.mem_cons.mp ((h z).mpr (List.mem_cons_of_mem _ m)) with e | m2
        · rw [e] at m
          exact absurd (b.1 x m) (lts_irrefl x)
        · exact m2
    rw [r]
theorem sortTx_asc {l : List Str} (nd : l.Nodup) : (sortTx l).Pairwise lts := by
  have s : (sortTx l).Pairwise fun a b => decide (a.cps.toList ≤ b.cps.toList) = true := by
    unfold sortTx
    rw [PySem.W.dataLe_str]
    exact List.pairwise_mergeSort (le := fun a b : Str => decide (a.cps.toList ≤ b.cps.toList)) (fun a b c h1 h2 => decide_eq_true (List.le_trans (of_decide_eq_true h1) (of_decide_eq_true h2))) (fun a b => by
      rcases List.le_total a.cps.toList b.cps.toList with h | h
      · show (decide (a.cps.toList ≤ b.cps.toList) || decide (b.cps.toList ≤ a.cps.toList)) = true
        rw [decide_eq_true h]
        rfl
      · show (decide (a.cps.toList ≤ b.cps.toList) || decide (b.cps.toList ≤ a.cps.toList)) = true
        rw [decide_eq_true h, Bool.or_true]) l
  have n : (sortTx l).Nodup := (sortTx_perm l).nodup_iff.mpr nd
  refine (s.and n).imp fun {a b} h => ?_
  have h1 : a.cps.toList ≤ b.cps.toList := of_decide_eq_true h.1
  rcases Classical.em (lts a b) with c | c
  · exact c
  · exact absurd (str_ext (List.le_antisymm h1 (List.not_lt.mp c))) h.2
/-- the states that transitions touch -/
def touched (rs : List Row) : List Str := rs.flatMap fun r => [r.s, r.t]
def spAll (K : PySem.W.Frag) : Sp := fun vs H Q _ => ∃ (v : V) (b : Addr) (rs : List Row) (ns st : List Str), vs = [v, .ref b] ∧ Dp K H v (.tuple (rs.map rowD)) ∧ SqT K H b (ns.map V.str) ∧ st.Pairwise lts ∧ (∀ x, x ∈ st ↔ x ∈ ns ∨ x ∈ touched rs) ∧ rs.length ≤ 100 ∧ ns.length ≤ 100 ∧
  ∀ p H', Same H H' → H' p = some (.lst (st.map V.str)) → Q (.ref p) H'
/-- the inner walk of a comprehension, from any heap -/
theorem lc_inner {J : It} {n : Nat} {G : Hp → Prop} {Y : Nat → Hp → V → Hp → Prop} (w : Walk J n G Y) {g : TG} {tt : TT} {te : TE} {vs : List Nat} {σ : L2.St} {H1 : Hp} {D : Addr} {Qd : Hp → Prop} (Pv : Nat → Hp → Prop) (h0 : Pv 0 H1) (hG : ∀ i H, i ≤ n → Pv i H → G H)
    (hs : ∀ i x H H', i < n → Pv i H → Y i H x H' → g x (wipe σ vs) H' fun σ2 H2 => wipe σ2 vs = wipe σ vs ∧ tt σ2 H2 fun b H3 =>
      if b = true then te σ2 H3 fun y H4 => ∃ acc, H4 D = some (.lst acc) ∧ acc.length < sizeLine ∧ Pv (i + 1) (upd H4 D (.lst (acc ++ [y]))) else Pv (i + 1) H3) (hd : ∀ H, Pv n H → Qd H) :
    ∃ W : Nat → Nat → Hp → Prop, (∃ m, W 0 m H1) ∧ ∀ i m H, W i m H →
      (J.stop i H ∧ Qd H) ∨ (J.go i H ∧ ∃ Nx : Hp → Prop, (∀ H', Nx H' → ∃ m', m' < m ∧ W (i + 1) m' H') ∧ ∀ x H', J.yld i H x H' → g x (wipe σ vs) H' fun σ2 H2 => wipe σ2 vs = wipe σ vs ∧ tt σ2 H2 fun b H3 =>
        if b = true then te σ2 H3 fun y H4 => ∃ acc, H4 D = some (.lst acc) ∧ acc.length < sizeLine ∧ Nx (upd H4 D (.lst (acc ++ [y]))) else Nx H3) := by
  refine ⟨fun i m H => m = n - i ∧ i ≤ n ∧ Pv i H, ⟨n, by rw [Nat.sub_zero], Nat.zero_le _, h0⟩, ?_⟩
  rintro i m H ⟨rfl, hi, p⟩
  have q := hG i H hi p
  rcases Nat.lt_or_ge i n with lt | ge
  · exact .inr ⟨w.goes i H lt q, Pv (i + 1), fun H' p' => ⟨n - (i + 1), by omega, rfl, lt, p'⟩, fun x H' y => hs i x H H' lt p (w.yields i H x H' lt q y)⟩
  · obtain rfl : i = n := Nat.le_antisymm hi ge
    exact .inl ⟨w.stops H q, hd H p⟩
section
variable {P : Program} {w : World} {K : PySem.W.Frag} {mg : Str → Option Value} {base : Heap}
theorem ok_all {f : Addr} {fd : FuncData} (F : Fun K "_all_states" "_all_states" sAll f fd) (se : mg "set" = none) (so : mg "sorted" = none) : FnOk P w K mg base CX0 1 f fd ["transitions", "states"] (spAll K) := by
  refine F.ok scAll (fun vs H Q E h => ?_) (fun cdv A outer s H vs Q E hr h => ?_)
  · obtain ⟨v, b, rs, ns, st, rfl, _⟩ := h
    rfl
  · obtain ⟨v, b, rs, ns, st, rfl, hd, hb, asc, mem, few, few2, k⟩ := h
    obtain ⟨a, us, rfl, ha, hu⟩ := dp_tup hd
    have ul : us.length = rs.length := by rw [dpAll_len hu, List.length_map]
    have hu1 : (A.deeper (envOfC "_all_states" (defScope sAll) s.heap.objs.size f cdv)).units + 64 < cLine := by
      have := hr.un
      omega
    refine ⟨_, pss_cons (ps_setLc2 (i := 2) (own := [("_", 3), ("source", 4), ("target", 5), ("state", 6)]) (vs1 := [6]) (g := gTup K 4 (gCons (gName 3) (gCons (gName 4) (gCons (gName 5) (gCons (gName 3) gNil))))) (tt := tYes) (wi1 := iTup K (tTup (tCons (tVar 4) (tCons (tVar 5) tNil)))) (g1 := gName 6) (tt1 := tYes) (te := tVar 6) rfl scAll.nd rfl rfl (sw_true rfl rfl rfl (by decide +kernel)) (pi_tup (pv 0)) (blkOk_by (N := aNames) (sc := defScope sAll) (by decide +kernel)) (by decide)
        (fun _ _ _ _ _ => pg_tup (by rfl) (pgs_cons (pg_name (i := 3) scAll.nd rfl (.inl rfl)) (pgs_cons (pg_name (i := 4) scAll.nd rfl (.inl rfl)) (pgs_cons (pg_name (i := 5) scAll.nd rfl (.inl rfl)) (pgs_cons (pg_name (i := 3) scAll.nd rfl (.inl rfl)) pgs_nil))))) (fun _ _ _ _ _ => pts_nil) (fun _ _ _ _ _ => pi_tup (pe_tup (pa_cons (pv 4) (pa_cons (pv 5) pa_nil)))) (fun _ _ _ _ _ => pg_name (i := 6) scAll.nd rfl (.inl rfl)) (fun _ _ _ _ _ => pts_nil) (fun _ _ _ _ _ => pv 6))
      (pss_one (ps_ret (pe_callB (cr_sortedTx rfl hu1) (by rfl) so (by decide +kernel) (pa_cons (pe_callTy (cr_setTx rfl) (by rfl) se (by decide +kernel) (pa_cons (pe_lst (StX.pa_star (pv 1) (StX.pa_star (pv 2) pa_nil))) pa_nil)) pa_nil)))), ?_⟩
    refine ⟨_, rfl, a, rfl, ⟨_, ha⟩, fun D hD => ?_⟩
    refine ⟨fun i m H' => m = us.length - i ∧ i ≤ us.length ∧ Same H H' ∧ H' D = some (.lst ((touched (rs.take i)).map V.str)), ⟨us.length, by rw [Nat.sub_zero], Nat.zero_le _, same_new hD, upd_same⟩, ?_⟩
    rintro i m H' ⟨rfl, hi, sm, hw⟩
    have tl : ∀ j, (touched (rs.take j)).length ≤ 200 := fun j => by
      have e : ∀ l : List Row, (touched l).length = 2 * l.length := fun l => by
        induction l with
        | nil => rfl
        | cons r l ih =>
          show ([r.s, r.t] ++ touched l).length = 2 * (l.length + 1)
          rw [List.length_append, ih]
          show 2 + 2 * l.length = 2 * (l.length + 1)
          omega
      rw [e, List.length_take]
      omega
    rcases Nat.lt_or_ge i us.length with lt | ge
    · refine .inr ⟨(walk_tup (xs := us)).goes i H' lt (sqT_same sm ha), fun H2 => Same H H2 ∧ H2 D = some (.lst ((touched (rs.take (i + 1))).map V.str)), fun H2 q => ⟨us.length - (i + 1), by omega, rfl, lt, q⟩, fun z H2 y => ?_⟩
      obtain ⟨rfl, hz⟩ := (walk_tup (xs := us)).yields i H' z H2 lt (sqT_same sm ha) y
      obtain ⟨d, hd', dz⟩ := dpAll_at (dpAll_same sm _ _ hu) hz
      rw [List.getElem?_map] at hd'
      cases hc : rs[i]? with
      | none => rw [hc] at hd'; cases hd'
      | some r =>
        rw [hc] at hd'
        cases (Option.some.inj hd' : rowD r = d)
        obtain ⟨q, c, rfl, hq, _⟩ := dp_row dz
        have e1 : touched (rs.take (i + 1)) = touched (rs.take i) ++ [r.s, r.t] := by
          unfold touched
          rw [List.take_add_one, hc, List.flatMap_append]
          rfl
        refine ⟨q, _, rfl, hq, rfl, _, _, rfl, _, _, rfl, _, _, rfl, _, _, rfl, rfl, rfl, yes_if ⟨_, rfl, _, rfl, (by show 2 ≤ sizeLine; decide), fun t ht => ⟨t, rfl, ⟨_, .inl (.inl upd_same)⟩, ?_⟩⟩⟩
        have st := same_new (o := .tup [.str r.s, .str r.t]) ht
        refine lc_inner (walk_tup (xs := [V.str r.s, .str r.t])) (fun j H5 => Same H H5 ∧ H5 t = some (.tup [.str r.s, .str r.t]) ∧ H5 D = some (.lst ((touched (rs.take i) ++ [r.s, r.t].take j).map V.str))) ⟨sm.trans st, upd_same, by rw [List.take_zero, List.append_nil]; exact st _ _ hw⟩ (fun j H5 _ p => .inl (.inl p.2.1)) (fun j z5 H5 H6 hj p y5 => ?_) fun H5 p => ⟨p.1, by rw [e1]; exact p.2.2⟩
        obtain ⟨rfl, hz5⟩ := y5
        obtain ⟨p1, p2, p3⟩ := p
        have ntD : t ≠ D := fun e => by rw [e, p3] at p2; cases p2
        have nD : ∀ o, Same H (upd H6 D o) := fun o => same_upd' p1 hD
        have lk : ((touched (rs.take i) ++ [r.s, r.t].take j).map V.str).length < sizeLine := by
          have := tl i
          rw [List.length_map, List.length_append, List.length_take, sizeLine_eq]
          show (touched (rs.take i)).length + min j 2 < 16777216
          omega
        match j, hz5, p3, lk with
        | 0, hz5, p3, lk =>
          cases hz5
          exact ⟨rfl, yes_if ⟨_, rfl, _, p3, lk, nD _, by rw [upd_ne ntD]; exact p2, by rw [upd_same, List.map_append, List.map_append]; simp⟩⟩
        | 1, hz5, p3, lk =>
          cases hz5
          exact ⟨rfl, yes_if ⟨_, rfl, _, p3, lk, nD _, by rw [upd_ne ntD]; exact p2, by rw [upd_same, List.map_append, List.map_append]; simp⟩⟩
    · obtain rfl : i = us.length := Nat.le_antisymm hi ge
      have er : rs.take us.length = rs := by rw [ul, List.take_length]
      rw [er] at hw
      have t2 := tl us.length
      rw [er] at t2
      refine .inl ⟨(walk_tup (xs := us)).stops H' (sqT_same sm ha), ?_⟩
      have el : (ns.map V.str ++ ((touched rs).map V.str ++ [])) = (ns ++ touched rs).map V.str := by rw [List.append_nil, List.map_append]
      refine ⟨_, rfl, b, _, rfl, .inl (sqT_same sm hb), _, rfl, D, _, rfl, .inr (.inl (.inl hw)), ?_, fun L hL => ⟨L, ns ++ touched rs, rfl, .inl (.inl (.inl (by rw [upd_same, el]))), ?_, fun p l hp nd ll me => ⟨p, l, rfl, upd_same, ?_, fun p2 m hp2 pm => ?_⟩⟩⟩
      · rw [el, List.length_map, List.length_append, sizeLine_eq]
        omega
      · rw [List.length_append]
        show ns.length + (touched rs).length + 1 < 4096
        omega
      · rw [List.length_append] at ll
        omega
      · have sq : sortTx m = st := asc_unique (sortTx_asc (pm.nodup_iff.mpr nd)) asc fun z => by
          rw [(sortTx_perm m).mem_iff, pm.mem_iff, me, mem, List.mem_append]
        rw [sq]
        exact k p2 _ (sm.trans ((same_new hL).trans ((same_new hp).trans (same_new hp2)))) upd_same
end
end Qp

/-! whether there is such a graph -/
namespace Qp
open PySem PySem.Spec PyProof.Rows L2 QN
abbrev sIsG : Stmt := top 24 -- _is_graph
abbrev gNames : List Str := ["counters", "transitions", "states", "one", "every_counter", "every_state", "things", "name", "_", "change", "counter"]
theorem scIsG : FnScope gNames ["counters", "transitions", "states"] (defScope sIsG) := ⟨rfl, rfl, rfl, by decide +kernel, rfl, by decide +kernel, by decide +kernel⟩
structure Lim3 (mg : Str → Option Value) : Prop where
  mc : ∃ t, mg "_MAX_COUNTERS" = some (.int 5 t)
  ms : ∃ t, mg "_MAX_STATES" = some (.int 8 t)
  mt : ∃ t, mg "_MAX_TRANSITIONS" = some (.int 16 t)
  se : mg "set" = none
  so : mg "sorted" = none
/-- a graph's parts as the document asks: its counters, states and rows -/
structure GOk (cs ns : List Str) (rs : List Row) (ec : List Str) (x : Str) (st : List Str) : Prop where
  cn : ∀ c ∈ cs, NameOk c
  nn : ∀ c ∈ ns, NameOk c
  ro : ∀ r ∈ rs, RowOk r
  ea : ec.Pairwise lts
  em : ∀ z, z ∈ ec ↔ z ∈ cs
  el : 1 ≤ ec.length ∧ ec.length ≤ 5
  sa : (x :: st).Pairwise lts
  sm : ∀ z, z ∈ x :: st ↔ z ∈ ns ∨ z ∈ touched rs
  sl : (x :: st).length ≤ 8
  rl : rs.length ≤ 16
  cl : cs.length ≤ 16
  nl : ns.length ≤ 16
  nd : (ec ++ rs.map (·.n)).Nodup
  cc : ∀ r ∈ rs, ∀ p ∈ r.c, p.1 ∈ ec
  rf : Reach x (fwd rs) (x :: st)
  rb : Reach x (bwd rs) (x :: st)
def spIsG (K : PySem.W.Frag) : Sp := fun vs H Q _ => ∃ (a b : Addr) (v : V) (cs ns : List Str) (rs : List Row) (ec : List Str) (x : Str) (st : List Str), vs = [.ref a, v, .ref b] ∧ SqT K H a (cs.map V.str) ∧ Dp K H v (.tuple (rs.map rowD)) ∧ SqT K H b (ns.map V.str) ∧ GOk cs ns rs ec x st ∧ ∀ H', Same H H' → Q (.bl true) H'
theorem ec_of {l ec cs : List Str} (nd : l.Nodup) (ea : ec.Pairwise lts) (em : ∀ z, z ∈ ec ↔ z ∈ cs) {m : List Str} (pm : m.Perm l) (me : ∀ z, z ∈ l ↔ z ∈ cs) : sortTx m = ec := asc_unique (sortTx_asc (pm.nodup_iff.mpr nd)) ea fun z => by rw [(sortTx_perm m).mem_iff, pm.mem_iff, me, em]
theorem wipe_set_out (σ : L2.St) (i : Nat) (x : Option V) : ∀ vs : List Nat, i ∉ vs → wipe (σ.set i x) vs = (wipe σ vs).set i x
  | [], _ => rfl
  | j :: vs, h => by
    have h1 : i ≠ j := fun e => h (by rw [e]; exact List.mem_cons_self ..)
    have h2 : i ∉ vs := fun m => h (List.mem_cons_of_mem _ m)
    show (wipe (σ.set i x) vs).set j none = ((wipe σ vs).set j none).set i x
    rw [wipe_set_out σ i x vs h2, List.set_comm _ _ h1]
theorem wipe_set (σ : L2.St) (i : Nat) (x : Option V) : ∀ vs : List Nat, i ∈ vs → wipe (σ.set i x) vs = wipe σ vs
  | [], h => by cases h
  | j :: vs, h => by
    show (wipe (σ.set i x) vs).set j none = (wipe σ vs).set j none
    by_cases m : i ∈ vs
    · rw [wipe_set σ i x vs m]
    · have e : i = j := by
        rcases List.mem_cons.mp h with z | z
        · exact z
        · exact absurd z m
      rw [wipe_set_out σ i x vs m, e, List.set_set]
theorem in_strs {x : Str} {xs : List Str} (h : x ∈ xs) : inV (.str x) (xs.map V.str) = true := by
  unfold inV
  rw [List.any_map, List.any_eq_true]
  exact ⟨x, h, by simp [eqV]⟩
theorem in_elem {K : PySem.W.Frag} {σ : L2.St} {H : Hp} {i j : Nat} {c : Str} {ce : Addr} {xs : List Str} {Q : VK} (hi : σ[i]? = some (some (.str c))) (hj : σ[j]? = some (some (.ref ce))) (hr : H ce = some (.lst (xs.map V.str))) (m : c ∈ xs) (k : Q (.bl true) H) : tOp (rIn K false) (tVar i) (tVar j) σ H Q := by
  refine ⟨_, hi, _, hj, ce, _, rfl, .inl (.inl (.inl hr)), rfl, ?_, ?_⟩
  · rw [List.all_map]
    exact List.all_eq_true.mpr fun _ _ => rfl
  · rw [if_neg Bool.false_ne_true, in_strs m]
    exact k
theorem reps (m : Nat) : (List.replicate m true).map V.bl ++ [V.bl true] = (List.replicate (m + 1) true).map V.bl := by
  rw [List.replicate_succ', List.map_append]
  rfl
section
variable {P : Program} {w : World} {K : PySem.W.Frag} {mg : Str → Option Value} {base : Heap}
theorem ok_isG {f fT fR fA fC : Addr} {fd fdT fdR fdA fdC : FuncData} (F : Fun K "_is_graph" "_is_graph" sIsG f fd) (GT : FnOk P w K mg base CX0 2 fT fdT ["value"] (spIsToN K)) (kT : PySem.W.keepIn K (.ref fT) = true) (bT : L2.Binds K fdT ["value"] []) (gT : mg "is_tuple_of_names" = some (.ref fT))
    (GR : FnOk P w K mg base CX0 5 fR fdR ["value"] (spIsTr K)) (kR : PySem.W.keepIn K (.ref fR) = true) (bR : L2.Binds K fdR ["value"] []) (gR : mg "is_transition" = some (.ref fR))
    (GA : FnOk P w K mg base CX0 1 fA fdA ["transitions", "states"] (spAll K)) (kA : PySem.W.keepIn K (.ref fA) = true) (bA : L2.Binds K fdA ["transitions", "states"] []) (gA : mg "_all_states" = some (.ref fA))
    (GC : FnOk P w K mg base CX0 2 fC fdC ["states", "transitions"] (spConn K)) (kC : PySem.W.keepIn K (.ref fC) = true) (bC : L2.Binds K fdC ["states", "transitions"] []) (gC : mg "_are_connected" = some (.ref fC)) (B : BltP mg) (L : Lim3 mg) :
    FnOk P w K mg base CX0 6 f fd ["counters", "transitions", "states"] (spIsG K) := by
  refine F.ok scIsG (fun vs H Q E h => ?_) (fun cdv A outer s H vs Q E hr h => ?_)
  · obtain ⟨a, b, v, cs, ns, rs, ec, x, st, rfl, _⟩ := h
    rfl
  · obtain ⟨a, b, v, cs, ns, rs, ec, x, st, rfl, ha, hd, hb, G, k⟩ := h
    obtain ⟨t, us, rfl, ht, hu⟩ := dp_tup hd
    have ul : us.length = rs.length := by rw [dpAll_len hu, List.length_map]
    obtain ⟨t1, m1⟩ := L.mc
    obtain ⟨t2, m2⟩ := L.ms
    obtain ⟨t3, m3⟩ := L.mt
    have hu1 : (A.deeper (envOfC "_is_graph" (defScope sIsG) s.heap.objs.size f cdv)).units + 64 < cLine := by
      have := hr.un
      omega
    have r2 := hr.mono (by decide : 2 ≤ 5)
    have r1 := hr.mono (by decide : 1 ≤ 5)
    refine ⟨_, pss_cons (ps_if (PW.pt (pw_or (pt_not (pt_val (pe_call GT r2 (by rfl) gT kT bT .nil pass0 (pa_cons (pv 0) pa_nil)))) (pw_or1 (pt_not (pt_val (pe_call GT r2 (by rfl) gT kT bT .nil pass0 (pa_cons (pv 2) pa_nil))))))) (pss_one (ps_ret pe_bl)) pss_nil)
      (pss_cons (ps_if (pt_not (pt_val (pe_callB (cr_all rfl) (by rfl) B.all (by decide +kernel) (pa_cons (pe_lc (own := [("one", 3)]) (g := gName 3) (tt := tYes) rfl scIsG.nd (pi_tup (pv 1)) (blkOk_by (N := gNames) (sc := defScope sIsG) (by decide +kernel))
          (fun _ _ _ _ _ => pg_name (i := 3) scIsG.nd rfl (.inl rfl)) (fun _ _ _ _ _ => pts_nil) (fun _ _ _ _ _ => pe_call GR hr (by rfl) gR kR bR .nil pass0 (pa_cons (pv 3) pa_nil))) pa_nil)))) (pss_one (ps_ret pe_bl)) pss_nil)
      (pss_cons (ps_set (i := 4) scIsG.nd rfl (.inr rfl) (pe_callB (cr_sortedTx rfl hu1) (by rfl) L.so (by decide +kernel) (pa_cons (pe_callTy (cr_setTx rfl) (by rfl) L.se (by decide +kernel) (pa_cons (pv 0) pa_nil)) pa_nil)))
      (pss_cons (ps_set (i := 5) scIsG.nd rfl (.inl rfl) (pe_call GA r1 (by rfl) gA kA bA .nil pass0 (pa_cons (pv 1) (pa_cons (pv 2) pa_nil))))
      (pss_cons (ps_set (i := 6) scIsG.nd rfl (.inl rfl) (pe_op op_cat (pv 4) (pe_lc (own := [("name", 7), ("_", 8)]) (g := gTup K 4 (gCons (gName 7) (gCons (gName 8) (gCons (gName 8) (gCons (gName 8) gNil))))) (tt := tYes) (te := tVar 7) rfl scIsG.nd (pi_tup (pv 1)) (blkOk_by (N := gNames) (sc := defScope sIsG) (by decide +kernel))
          (fun _ _ _ _ _ => pg_tup (by rfl) (pgs_cons (pg_name (i := 7) scIsG.nd rfl (.inl rfl)) (pgs_cons (pg_name (i := 8) scIsG.nd rfl (.inl rfl)) (pgs_cons (pg_name (i := 8) scIsG.nd rfl (.inl rfl)) (pgs_cons (pg_name (i := 8) scIsG.nd rfl (.inl rfl)) pgs_nil))))) (fun _ _ _ _ _ => pts_nil) (fun _ _ _ _ _ => pv 7))))
      (pss_cons (ps_if (PW.pt (pw_or (pt_not (pt_chain op_le op_le pe_int (pe_callB call_len_seq (by rfl) B.len PySem.boot_len (pa_cons (pv 4) pa_nil)) (pe_glob (v := .int 5) (by rfl) m1 ⟨_, rfl⟩))) (pw_or1 (pt_not (pt_chain op_le op_le pe_int (pe_callB call_len_seq (by rfl) B.len PySem.boot_len (pa_cons (pv 5) pa_nil)) (pe_glob (v := .int 8) (by rfl) m2 ⟨_, rfl⟩)))))) (pss_one (ps_ret pe_bl)) pss_nil)
      (pss_cons (ps_if (PW.pt (pw_or (pt_cmpR op_gt (pe_callB call_len_seq (by rfl) B.len PySem.boot_len (pa_cons (pv 1) pa_nil)) (pe_glob (v := .int 16) (by rfl) m3 ⟨_, rfl⟩) (nomark _)) (pw_or1 (pt_cmpR op_lt (pe_callB cr_lenTx (by rfl) B.len PySem.boot_len (pa_cons (pe_callTy (cr_setTx rfl) (by rfl) L.se (by decide +kernel) (pa_cons (pv 6) pa_nil)) pa_nil)) (pe_callB call_len_seq (by rfl) B.len PySem.boot_len (pa_cons (pv 6) pa_nil)) (nomark _))))) (pss_one (ps_ret pe_bl)) pss_nil)
      (pss_cons (ps_if (pt_not (pt_val (pe_callB (cr_all rfl) (by rfl) B.all (by decide +kernel) (pa_cons (pe_lc2 (own := [("_", 8), ("change", 9), ("counter", 10)]) (vs1 := [10, 8]) (g := gTup K 4 (gCons (gName 8) (gCons (gName 8) (gCons (gName 8) (gCons (gName 9) gNil))))) (tt := tYes) (wi1 := iTup K (tVar 9)) (g1 := gTup K 2 (gCons (gName 10) (gCons (gName 8) gNil))) (tt1 := tYes) (te := tOp (rIn K false) (tVar 10) (tVar 4)) rfl scIsG.nd (pi_tup (pv 1)) (blkOk_by (N := gNames) (sc := defScope sIsG) (by decide +kernel)) (by decide)
          (fun _ _ _ _ _ => pg_tup (by rfl) (pgs_cons (pg_name (i := 8) scIsG.nd rfl (.inl rfl)) (pgs_cons (pg_name (i := 8) scIsG.nd rfl (.inl rfl)) (pgs_cons (pg_name (i := 8) scIsG.nd rfl (.inl rfl)) (pgs_cons (pg_name (i := 9) scIsG.nd rfl (.inl rfl)) pgs_nil))))) (fun _ _ _ _ _ => pts_nil) (fun _ _ _ _ _ => pi_tup (pv 9)) (fun _ _ _ _ _ => pg_tup (by rfl) (pgs_cons (pg_name (i := 10) scIsG.nd rfl (.inl rfl)) (pgs_cons (pg_name (i := 8) scIsG.nd rfl (.inl rfl)) pgs_nil))) (fun _ _ _ _ _ => pts_nil) (fun _ _ _ _ _ => pe_cmpR op_in_seq (pv 10) (pv 4) rfl)) pa_nil)))) (pss_one (ps_ret pe_bl)) pss_nil)
      (pss_one (ps_ret (pe_call GC r2 (by rfl) gC kC bC .nil pass0 (pa_cons (pv 5) (pa_cons (pv 1) pa_nil)))))))))))), ?_⟩
    have cl1 : cs.length ≤ 1000 := by have := G.cl; omega
    have nl1 : ns.length ≤ 1000 := by have := G.nl; omega
    have rl1 := G.rl
    refine ⟨_, rfl, a, cs, rfl, ha, G.cn, cl1, fun H1 s1 => ⟨_, rfl, if_no (by decide) ⟨_, rfl, b, ns, rfl, sqT_same s1 hb, G.nn, nl1, fun H2 s2 => ⟨_, rfl, if_no (by decide) ?_⟩⟩⟩⟩
    have s12 := s1.trans s2
    have ht2 := sqT_same s12 ht
    have hu2 := dpAll_same s12 _ _ hu
    refine ⟨_, rfl, t, rfl, ⟨_, ht2⟩, fun D hD => ?_⟩
    refine all_true (walk_tup (xs := us)) hD (fun _ s' => sqT_same s' ht2) (by omega) (fun i z Ha QK Ff hi sa y q => ?_) fun H3 s3 hD3 => ⟨D, _, rfl, .inl (.inl hD3), ?_⟩
    · obtain ⟨d, hd', dz⟩ := dpAll_at hu2 y
      rw [List.getElem?_map] at hd'
      cases hc : rs[i]? with
      | none => rw [hc] at hd'; cases hd'
      | some r =>
        rw [hc] at hd'
        cases (Option.some.inj hd' : rowD r = d)
        exact ⟨rfl, yes_if ⟨_, rfl, z, r, rfl, dp_same sa _ _ dz, G.ro r (List.mem_of_getElem? hc), q⟩⟩
    rw [all_rep]
    refine ⟨_, rfl, if_no (by decide) ?_⟩
    have s13 := s12.trans s3
    -- every_counter = sorted(set(counters))
    refine ⟨_, rfl, a, cs, rfl, .inr (sqT_same s13 ha), (by show cs.length + 1 < 4096; omega), fun p l hp nd ll me => ⟨p, l, rfl, upd_same, (by omega), fun ce m hce pm => ?_⟩⟩
    rw [ec_of nd G.ea G.em pm me]
    have s4 := (same_new (o := TxSetO P w p l) hp).trans (same_new (o := .lst (ec.map V.str)) hce)
    have hce4 : (upd (upd H3 p (TxSetO P w p l)) ce (.lst (ec.map V.str))) ce = some (.lst (ec.map V.str)) := upd_same
    have s14 := s13.trans s4
    dsimp only [gName]
    -- every_state = _all_states(transitions, states)
    refine ⟨_, rfl, _, rfl, .ref t, b, rs, ns, x :: st, rfl, dp_same s14 _ _ hd, sqT_same s14 hb, G.sa, G.sm, by omega, by have := G.nl; omega, fun es H5 s5 hes => ?_⟩
    have s15 := s14.trans s5
    have hce5 := s5 _ _ hce4
    have ht5 := sqT_same s15 ht
    have hu5 := dpAll_same s15 _ _ hu
    -- things = every_counter + [name for name, _, _, _ in transitions]
    refine ⟨_, rfl, _, rfl, t, rfl, ⟨_, ht5⟩, fun D2 hD2 => ?_⟩
    refine lc_tup (xs := us) (fun i H' => Same H5 H' ∧ H' D2 = some (.lst (((rs.map (·.n)).take i).map V.str))) ⟨same_new hD2, upd_same⟩ (fun i H' _ p => sqT_same p.1 ht5) (fun i z H' hz p => ?_) fun H6 p => ?_
    · obtain ⟨d, hd', dz⟩ := dpAll_at (dpAll_same p.1 _ _ hu5) hz
      rw [List.getElem?_map] at hd'
      cases hc : rs[i]? with
      | none => rw [hc] at hd'; cases hd'
      | some r =>
        rw [hc] at hd'
        cases (Option.some.inj hd' : rowD r = d)
        obtain ⟨q, c, rfl, hq, _⟩ := dp_row dz
        refine ⟨q, _, rfl, hq, rfl, _, _, rfl, _, _, rfl, _, _, rfl, _, _, rfl, rfl, rfl, yes_if ⟨_, rfl, _, p.2, ?_, same_at p.1 hD2 (Same.refl _) p.2, ?_⟩⟩
        · rw [List.length_map, List.length_take, List.length_map, sizeLine_eq]
          omega
        · rw [upd_same, List.take_add_one, List.getElem?_map, hc, List.map_append]
          rfl
    obtain ⟨s6, hD6⟩ := p
    rw [ul, List.take_of_length_le (by rw [List.length_map]; exact Nat.le_refl _)] at hD6
    have hce6 := s6 _ _ hce5
    have hes6 := s6 _ _ hes
    refine ⟨ce, D2, _, _, rfl, rfl, hce6, hD6, (by rw [List.length_map, List.length_map, List.length_map, sizeLine_eq]; have := G.el; omega), fun th hth => ?_⟩
    have s7 := same_new (o := .lst (ec.map V.str ++ (rs.map (·.n)).map V.str)) hth
    have hth7 : (upd H6 th (.lst (ec.map V.str ++ (rs.map (·.n)).map V.str))) th = some (.lst ((ec ++ rs.map (·.n)).map V.str)) := by rw [upd_same, List.map_append]
    have s17 := s15.trans (s6.trans s7)
    have hce7 := s7 _ _ hce6
    have hes7 := s7 _ _ hes6
    obtain ⟨H7, hh⟩ : ∃ H7, upd H6 th (.lst (ec.map V.str ++ (rs.map (·.n)).map V.str)) = H7 := ⟨_, rfl⟩
    dsimp only [gName]
    rw [hh] at s17 hth7 hce7 hes7
    rw [hh]
    clear hh
    -- the numbers
    refine ⟨_, rfl, ce, _, rfl, .inl (.inl (.inl hce7)), _, _, rfl, rfl, _, rfl, if_yes (by rw [List.length_map]; exact decide_eq_true (by have := G.el; omega)) ⟨_, _, rfl, rfl, _, rfl, if_no (by rw [List.length_map, decide_eq_true (by have := G.el; omega)]; decide) ?_⟩⟩
    refine ⟨_, rfl, es, _, rfl, .inl (.inl (.inl hes7)), _, _, rfl, rfl, _, rfl, if_yes (by rw [List.length_map]; exact decide_eq_true (by rw [List.length_cons]; omega)) ⟨_, _, rfl, rfl, _, rfl, if_no (by rw [List.length_map, decide_eq_true (by have := G.sl; omega)]; decide) ?_⟩⟩
    have tlen : (ec ++ rs.map (·.n)).length ≤ 21 := by
      rw [List.length_append, List.length_map]
      have := G.el
      omega
    refine ⟨_, rfl, t, _, rfl, .inr (sqT_same s17 ht), _, _, rfl, rfl, _, rfl, if_no (by rw [ul]; simp; omega) ?_⟩
    refine ⟨_, rfl, th, ec ++ rs.map (·.n), rfl, .inl (.inl (.inl hth7)), (by show _ + 1 < 4096; omega), fun p8 l8 hp8 nd8 ll8 me8 => ⟨p8, l8, rfl, upd_same, ?_⟩⟩
    have s8 := same_new (o := TxSetO P w p8 l8) hp8
    have s18 := s17.trans s8
    have eq8 : l8.length = (ec ++ rs.map (·.n)).length := Nat.le_antisymm (nodup_le nd8 fun y hy => (me8 y).mp hy) (nodup_le G.nd fun y hy => (me8 y).mpr hy)
    refine ⟨_, rfl, th, _, rfl, .inl (.inl (.inl (s8 _ _ hth7))), _, _, rfl, rfl, _, rfl, if_no (by rw [List.length_map, eq8]; simp) ?_⟩
    have hce8 := s8 _ _ hce7
    have hes8 := s8 _ _ hes7
    have ht8 := sqT_same s18 ht
    have hu8 := dpAll_same s18 _ _ hu
    have H8e : ∃ H8, upd H7 p8 (TxSetO P w p8 l8) = H8 := ⟨_, rfl⟩
    refine ⟨_, rfl, t, rfl, ⟨_, ht8⟩, fun D3 hD3 => ?_⟩
    refine ⟨fun i m H' => m = us.length - i ∧ i ≤ us.length ∧ Same (upd H7 p8 (TxSetO P w p8 l8)) H' ∧ ∃ j, j ≤ i * 100 ∧ H' D3 = some (.lst ((List.replicate j true).map V.bl)), ⟨us.length, by rw [Nat.sub_zero], Nat.zero_le _, same_new hD3, 0, Nat.zero_le _, upd_same⟩, ?_⟩
    rintro i m H' ⟨rfl, hi, sm, j, hj, hw⟩
    rcases Nat.lt_or_ge i us.length with lt | ge
    · refine .inr ⟨(walk_tup (xs := us)).goes i H' lt (sqT_same sm ht8), fun H2 => Same (upd H7 p8 (TxSetO P w p8 l8)) H2 ∧ ∃ j, j ≤ (i + 1) * 100 ∧ H2 D3 = some (.lst ((List.replicate j true).map V.bl)), fun H2 q => ⟨us.length - (i + 1), by omega, rfl, lt, q⟩, fun z H2 y => ?_⟩
      obtain ⟨rfl, hz⟩ := (walk_tup (xs := us)).yields i H' z H2 lt (sqT_same sm ht8) y
      obtain ⟨d, hd', dz⟩ := dpAll_at hu8 hz
      rw [List.getElem?_map] at hd'
      cases hc : rs[i]? with
      | none => rw [hc] at hd'; cases hd'
      | some r =>
        rw [hc] at hd'
        cases (Option.some.inj hd' : rowD r = d)
        obtain ⟨q, cv, rfl, hq, hcv⟩ := dp_row dz
        obtain ⟨ca, cus, rfl, hca, hcu⟩ := dp_tup hcv
        have hr : r ∈ rs := List.mem_of_getElem? hc
        have cl : cus.length ≤ 100 := by
          rw [dpAll_len hcu, List.length_map]
          exact (G.ro r hr).c.2.2
        refine ⟨q, _, rfl, sqT_same sm hq, rfl, _, _, rfl, _, _, rfl, _, _, rfl, _, _, rfl, rfl, rfl, yes_if ⟨_, rfl, ca, rfl, ⟨_, sqT_same sm hca⟩, ?_⟩⟩
        refine lc_inner (walk_tup (xs := cus)) (fun e H5 => Same (upd H7 p8 (TxSetO P w p8 l8)) H5 ∧ H5 D3 = some (.lst ((List.replicate (j + e) true).map V.bl))) ⟨sm, hw⟩ (fun e H5 _ p => sqT_same p.1 hca) (fun e z5 H5 H6 he p y5 => ?_) fun H5 p => ⟨p.1, j + cus.length, by omega, p.2⟩
        obtain ⟨rfl, hz5⟩ := y5
        obtain ⟨p1, p2⟩ := p
        obtain ⟨d5, hd5, dz5⟩ := dpAll_at (dpAll_same p1 _ _ hcu) hz5
        rw [List.getElem?_map] at hd5
        cases hc5 : r.c[e]? with
        | none => rw [hc5] at hd5; cases hd5
        | some pr =>
          rw [hc5] at hd5
          cases (Option.some.inj hd5 : pairD pr = d5)
          obtain ⟨t5, rfl, ht5'⟩ := dp_pair dz5
          refine ⟨t5, _, rfl, ht5', rfl, _, _, rfl, _, _, rfl, rfl, ?_, yes_if ?_⟩
          · exact (wipe_set _ 8 _ [10, 8] (by decide)).trans (wipe_set _ 10 _ [10, 8] (by decide))
          have more : Same (upd H7 p8 (TxSetO P w p8 l8)) (upd H6 D3 (.lst ((List.replicate (j + e) true).map V.bl ++ [V.bl true]))) := same_upd' p1 hD3
          have len : ((List.replicate (j + e) true).map V.bl).length < sizeLine := by
            rw [List.length_map, List.length_replicate, sizeLine_eq]
            omega
          have here : (upd H6 D3 (.lst ((List.replicate (j + e) true).map V.bl ++ [V.bl true]))) D3 = some (.lst ((List.replicate (j + (e + 1)) true).map V.bl)) := by
            rw [upd_same, reps]
            rfl
          exact in_elem (c := pr.1) (ce := ce) (xs := ec) rfl rfl (p1 _ _ hce8) (G.cc r hr pr (List.mem_of_getElem? hc5)) ⟨_, p2, len, more, here⟩
    · obtain rfl : i = us.length := Nat.le_antisymm hi ge
      refine .inl ⟨(walk_tup (xs := us)).stops H' (sqT_same sm ht8), D3, _, rfl, .inl (.inl hw), ?_⟩
      rw [all_rep]
      refine ⟨_, rfl, if_no (by decide) ?_⟩
      have s19 := s18.trans sm
      have nds : (x :: st).Nodup := List.Pairwise.imp (R := lts) (S := fun a b => a ≠ b) (fun h e => by subst e; exact lts_irrefl _ h) G.sa
      have few : st.length ≤ 900 := by
        have := G.sl
        rw [List.length_cons] at this
        omega
      refine ⟨_, rfl, _, rfl, es, .ref t, rs, x, st, rfl, .inl (.inl (sm _ _ hes8)), dp_same s19 _ _ hd, nds, (fun r hr => ⟨(G.sm _).mpr (.inr (List.mem_flatMap.mpr ⟨r, hr, by simp⟩)), (G.sm _).mpr (.inr (List.mem_flatMap.mpr ⟨r, hr, by simp⟩))⟩), G.rf, G.rb, few, by omega, fun H9 s9 => k H9 (s19.trans s9)⟩
end
end Qp

/-! a generator expression over any walk, with any target: what each turn owes -/
namespace QN
open PySem PySem.Spec PyProof.Rows L2
abbrev NoX : Value → Shared → Prop := fun _ _ => False
/-- one turn's debt at the value v: the target is bound, the tests answer b, the element (where b) has F -/
def TurnG (prog : Program) (w : World) (cenv : Env) (target : Expr) (ifs : List Expr) (elt : Expr) (b : Bool) (F : Value → Prop) (v : Value) (s : Shared) : Prop :=
  ∀ A0 : Around, A0.handled = none → wpAny (model prog w) A0 (assign target cenv v) (fun _ s1 => GenSince cenv.locals [] s s1 ∧ (∃ m, s1.heap.Ns cenv.locals m) ∧
    ∀ A1 : Around, A1.handled = none → wpAny (model prog w) A1 (testsOf ifs cenv) (fun ok s2 => ok = b ∧ Keeps s1 s2 ∧
      (b = true → ∀ A2 : Around, A2.handled = none → wpAny (model prog w) A2 (eval elt cenv) (fun y s3 => F y ∧ Keeps s2 s3) NoX s2)) NoX s1) NoX s
section
variable {prog : Program} {w : World} {A : Around} {elt target iter : Expr} {ifs : List Expr} {scope : Scope} {pos : Pos} {I : Addr} {fp wr : List Addr} {n : Nat} {Y : Nat → Value → Heap → Prop} {St : Nat → Heap → Prop} {cenv : Env} {pz : Nat → Bool} {F : Nat → Value → Prop} {href : Heap}
/-- the turns' debts -/
def DebtG (prog : Program) (w : World) (cenv : Env) (target : Expr) (ifs : List Expr) (elt : Expr) (fp wr : List Addr) (n : Nat) (Y : Nat → Value → Heap → Prop) (pz : Nat → Bool) (F : Nat → Value → Prop) (href : Heap) : Prop :=
  ∀ i v (s : Shared) m, i < n → Y i v s.heap → s.heap.Ns cenv.locals m → (∀ b ∈ fp, b ∉ wr → ∀ o, href.get? b = some o → s.heap.get? b = some o) → TurnG prog w cenv target ifs elt (pz i) (F i) v s
abbrev GExp (elt target iter : Expr) (ifs : List Expr) (scope : Scope) (pos : Pos) : Expr := .GeneratorExp elt [⟨target, iter, ifs, 0⟩] scope pos
abbrev EndG (C : Addr) (wr : List Addr) : GenEnd := fun n s0 r s1 => r = .ok .next ∧ (n = 0 ∧ GenSince C wr s0 s1)
theorem seg_turns (hh : A.handled = none) (W : ∀ A' : Around, A'.handled = none → Goes prog w A' target I fp wr n Y St) (hco : cenv.scope.isCoroutine = false) (hC : cenv.locals ∉ fp) (q : DebtG prog w cenv target ifs elt fp wr n Y pz F href) :
    ∀ (k i : Nat) (s0 s : Shared) (m : Str → Option Value), n - i = k → i ≤ n → St i s.heap → s.heap.Ns cenv.locals m → GenSince cenv.locals wr s0 s → (∀ b ∈ fp, b ∉ wr → ∀ o, href.get? b = some o → s.heap.get? b = some o) →
      Seg (model prog w) A (EndG cenv.locals wr) (genProto cenv.locals fp wr pz n F) (passing pz n i).length s0 (.compLoop (GExp elt target iter ifs scope pos) 0 (.ref I) .none cenv)
        ((model prog w).den (.compLoop (GExp elt target iter ifs scope pos) 0 (.ref I) .none cenv)) [] s := by
  have calm : (A.over (.compLoop (GExp elt target iter ifs scope pos) 0 (.ref I) .none cenv) []).handled = none := hh
  have apart : cenv.locals ∉ wr := fun z => hC ((W A hh).sub _ z)
  intro k
  induction k with
  | zero =>
    intro i s0 s m ek le st ns since old
    obtain rfl : i = n := by omega
    show Seg _ A _ _ _ s0 _ ((compTurn (GExp elt target iter ifs scope pos) 0 (.ref I) .none cenv).onRaise (leaving cenv)) [] s
    rw [compTurn_gen, Sem.onRaise_eq_wrap]
    refine seg_bind_wrap (wpAny_standAt (seg_bind_wrap (wpAny_mono ((W _ calm).stops s (fun s1 => GenSince cenv.locals wr s0 s1) (fun _ _ => False) st fun h' tk keep _ => since.step fun b o _ nw e => keep b o nw e) (fun r s1 ⟨er, g⟩ => ?_) fun _ _ z => z.elim)))
    subst er
    exact seg_end (.ok .next) ⟨rfl, by rw [passing_end]; rfl, g⟩
  | succ k ih =>
    intro i s0 s m ek le st ns since old
    have lt : i < n := by omega
    show Seg _ A _ _ _ s0 _ ((compTurn (GExp elt target iter ifs scope pos) 0 (.ref I) .none cenv).onRaise (leaving cenv)) [] s
    rw [compTurn_gen, Sem.onRaise_eq_wrap]
    refine seg_bind_wrap (wpAny_standAt (seg_bind_wrap (wpAny_mono ((W _ calm).goes i s (fun v s1 => Y i v s1.heap ∧ St (i + 1) s1.heap ∧ ∃ h' tk, s1 = { s with heap := h', toks := tk } ∧ ∀ b o, b ∉ wr → s.heap.get? b = some o → h'.get? b = some o) (fun _ _ => False) lt st fun v h' tk y st' keep _ => ⟨y, st', ⟨h', tk, rfl, keep⟩⟩) (fun r s1 ⟨v, er, g⟩ => ?_) fun _ _ z => z.elim)))
    subst er
    refine seg_bind_wrap (wpAny_mono g (fun _ s2 ⟨y, st', h2, tk2, e2, up2⟩ => ?_) fun _ _ z => z.elim)
    subst e2
    have y : Y i v h2 := y
    have st2 : St (i + 1) h2 := st'
    have old2 : ∀ b ∈ fp, b ∉ wr → ∀ o, href.get? b = some o → h2.get? b = some o := fun b hb nw o e => up2 b o nw (old b hb nw o e)
    have ns2 : h2.Ns cenv.locals m := ns.at' fun o e => up2 _ o apart e
    have since2 : GenSince cenv.locals wr s0 { s with heap := h2, toks := tk2 } := since.step fun b o _ nw e => up2 b o nw e
    refine seg_bind_wrap (wpAny_mono (q i v { s with heap := h2, toks := tk2 } m lt y ns2 old2 _ calm) (fun _ s3 ⟨⟨h3, tk3, e3, up3⟩, ⟨m3, ns3⟩, tests⟩ => ?_) fun _ _ z => z.elim)
    subst e3
    have up3 : ∀ b o, b ≠ cenv.locals → h2.get? b = some o → h3.get? b = some o := fun b o nc e => up3 b o nc (by simp) e
    have in3 : ∀ b ∈ fp, ∀ o, h2.get? b = some o → h3.get? b = some o := fun b hb o e => up3 b o (fun z => hC (z ▸ hb)) e
    have since3 := since2.step (h' := h3) (tk := tk3) fun b o nc _ e => up3 b o nc e
    refine seg_bind_wrap (wpAny_mono (tests _ calm) (fun ok s4 ⟨e4, ⟨h4, tk4, e5, up4⟩, element⟩ => ?_) fun _ _ z => z.elim)
    subst e4 e5
    have up4 : ∀ b o, h3.get? b = some o → h4.get? b = some o := up4
    have st4 : St (i + 1) h4 := (W A hh).frame _ _ _ st2 fun b hb o e => up4 b o (in3 b hb o e)
    have old4 : ∀ b ∈ fp, b ∉ wr → ∀ o, href.get? b = some o → h4.get? b = some o := fun b hb nw o e => up4 b o (in3 b hb o (old2 b hb nw o e))
    have since4 := since3.step (h' := h4) (tk := tk4) fun b o _ _ e => up4 b o e
    have ns4 : h4.Ns cenv.locals m3 := ns3.keeps up4
    cases hb : pz i with
    | false =>
      rw [passing_false lt hb]
      simp only [Bool.false_eq_true, if_false]
      exact seg_again rfl (ih (i + 1) s0 _ m3 (by omega) lt st4 ns4 since4 old4)
    | true =>
      rw [passing_true lt hb, List.length_cons]
      simp only [if_true]
      have plain : ∀ z, yieldOut cenv z = yieldValue z := fun z => by simp only [yieldOut, hco, Bool.false_eq_true, if_false]
      simp only [plain]
      rw [Sem.bind_eq_wrap', Sem.bind_eq_wrap', Sem.wrap_wrap, Sem.wrap_wrap]
      refine seg_wrap (wpAny_mono (element hb _ calm) (fun z s5 ⟨fz, h5, tk5, e6, up5⟩ => ?_) fun _ _ z => z.elim)
      subst e6
      have up5 : ∀ b o, h4.get? b = some o → h5.get? b = some o := up5
      refine seg_at (seg_yield rfl rfl rfl ⟨⟨i, passing_here lt hb, fz⟩, since4.step fun b o _ _ e => up5 b o e, fun s6 more => seg_again rfl ?_⟩)
      have more : ∀ b ∈ cenv.locals :: fp, ∀ o, h5.get? b = some o → s6.heap.get? b = some o := more
      exact ih (i + 1) s6 s6 m3 (by omega) lt ((W A hh).frame _ _ _ st4 fun b hb o e => more b (List.mem_cons_of_mem _ hb) o (up5 b o e))
        ((ns4.keeps up5).at' fun o e => more _ List.mem_cons_self o e) (GenSince.refl _ _ _) fun b hb nw o e => more b (List.mem_cons_of_mem _ hb) o (up5 b o (old4 b hb nw o e))
theorem seg_begin (hh : A.handled = none) (W : ∀ A' : Around, A'.handled = none → Goes prog w A' target I fp wr n Y St) (hco : cenv.scope.isCoroutine = false) (hC : cenv.locals ∉ fp) (q : DebtG prog w cenv target ifs elt fp wr n Y pz F href)
    (s0 s : Shared) (m : Str → Option Value) (st : St 0 s.heap) (ns : s.heap.Ns cenv.locals m) (since : GenSince cenv.locals wr s0 s) (old : ∀ b ∈ fp, b ∉ wr → ∀ o, href.get? b = some o → s.heap.get? b = some o) :
    Seg (model prog w) A (EndG cenv.locals wr) (genProto cenv.locals fp wr pz n F) (passing pz n 0).length s0 (.compStart (GExp elt target iter ifs scope pos) 0 (.ref I) .none cenv)
      ((model prog w).den (.compStart (GExp elt target iter ifs scope pos) 0 (.ref I) .none cenv)) [] s := by
  have calm : (A.over (.compStart (GExp elt target iter ifs scope pos) 0 (.ref I) .none cenv) []).handled = none := hh
  have turns := seg_turns (iter := iter) (scope := scope) (pos := pos) hh W hco hC q n 0 s0 s m (Nat.sub_zero _) (Nat.zero_le _) st ns since old
  show Seg _ A _ _ _ s0 _ ((compStart (GExp elt target iter ifs scope pos) 0 (.ref I) .none cenv).onRaise (leaving cenv)) [] s
  unfold compStart
  rw [Sem.onRaise_eq_wrap]
  show Seg _ A _ _ _ s0 _ ((ask >>= _).wrap _ _ _ _) [] s
  refine seg_bind_wrap (wpAny_askSetting ?_)
  split
  · exact seg_again rfl turns
  · refine seg_bind_wrap (wpAny_rule ?_)
    show Seg _ A _ _ _ s0 _ ((standAt iter.pos >>= _).wrap _ _ _ _) [] s
    exact seg_bind_wrap (wpAny_standAt (seg_bind_wrap ((W _ calm).self 0 s _ _ st (seg_again rfl turns))))
theorem genAt_new {a : Addr} {g : Nat} {s : Shared} {m : Str → Option Value} (hh : A.handled = none) (W : ∀ A' : Around, A'.handled = none → Goes prog w A' target I fp wr n Y St) (hco : cenv.scope.isCoroutine = false) (hC : cenv.locals ∉ fp)
    (q : DebtG prog w cenv target ifs elt fp wr n Y pz F s.heap) (hg : s.heap.IsGen a g) (hs : s.gens[g]? = some (.fresh (.compStart (GExp elt target iter ifs scope pos) 0 (.ref I) .none cenv)))
    (st : St 0 s.heap) (ns : s.heap.Ns cenv.locals m) (nl : s.heap.NoLimit) : GenAt prog w A a g cenv.locals fp wr pz n F 0 s :=
  ⟨hg, nl, _, hs, fun s2 more => ⟨rfl, seg_begin (A := A.in1) hh W hco hC q s2 s2 m ((W A hh).frame _ _ _ st fun b hb o e => more b (List.mem_cons_of_mem _ hb) o e) (ns.at' fun o e => more _ List.mem_cons_self o e) (GenSince.refl _ _ _)
    fun b hb _ o e => more b (List.mem_cons_of_mem _ hb) o e⟩⟩
end
end QN

/-! tuple(element for target in t if ..), t a tuple; the def's code table may grow -/
namespace QN
open PySem PySem.Spec PyProof.Rows L2
theorem goes_fp {prog : Program} {w : World} {A : Around} {target : Expr} {I : Addr} {fp fq wr : List Addr} {n : Nat} {Y : Nat → Value → Heap → Prop} {St : Nat → Heap → Prop} (W : Goes prog w A target I fp wr n Y St) (h : ∀ b ∈ fp, b ∈ fq) : Goes prog w A target I fq wr n Y St :=
  ⟨fun b hb => h b (W.sub b hb), fun i h1 h2 st k => W.frame i h1 h2 st fun b hb o e => k b (h b hb) o e, W.goes, W.stops, W.self⟩
/-- the scope of the generator expression's own block -/
structure ScG (sc scope : Scope) : Prop where
  kind : scope.kind = .function
  co : scope.isCoroutine = false
  cell : ∀ y ∈ scope.names, y.2 ≠ .cell
  dot : scope.names.lookup (".0" : Str) = some NameKind.local
  free : ∀ y ∈ scope.names, y.2 = .free → sc.names.lookup y.1 = some .cell ∨ sc.names.lookup y.1 = some .free
/-- what the block does at each of xs, said of the state in which the walk begins -/
def BodyG (X : Cx) (P : Addr) (scope : Scope) (target : Expr) (ifs : List Expr) (elt : Expr) (σ : L2.St) (H : Hp) (xs : List V) (pz : Nat → Bool) (fv : Nat → V) : Prop :=
  ∀ (pins : List (Addr × Obj)) (s1 : Shared) (its : List Value) (cenv : Env), Inv X pins σ H s1 → Vals xs its → cenv.scope = scope → cenv.cells = cloFrom X.env.cells scope.names [] →
    ∀ i v (s : Shared) m, its[i]? = some v → s.heap.Ns cenv.locals m → (∀ b o, b ≠ P → s1.heap.get? b = some o → s.heap.get? b = some o) → TurnG X.prog X.w cenv target ifs elt (pz i) (RelV (fv i)) v s
def keptG (n : Nat) (pz : Nat → Bool) (fv : Nat → V) : List V := ((List.range n).filter pz).map fv
def tTupG (X : Cx) (P : Addr) (scope : Scope) (target : Expr) (ifs : List Expr) (elt : Expr) (te : TE) : TE := fun σ H Q => te σ H fun v H1 => ∃ (yl : Addr) (xs : List V) (pz : Nat → Bool) (fv : Nat → V), v = .ref yl ∧ SqT X.K H1 yl xs ∧ GxR.TabG H1 P ∧
  BodyG X P scope target ifs elt σ H1 xs pz fv ∧ ∀ H2 t, GxR.Tabbed P H1 H2 → H2 t = none → Q (.ref t) (upd H2 t (.tup (keptG xs.length pz fv)))
theorem vals_kept {n : Nat} {pz : Nat → Bool} {fv : Nat → V} {acc : Array Value} (h : ItemsOf (fun j y => ∃ i, (passing pz n 0)[j]? = some i ∧ RelV (fv i) y) acc (passing pz n 0).length) : Vals (keptG n pz fv) acc.toList := by
  have e : keptG n pz fv = (passing pz n 0).map fv := by
    unfold keptG passing
    rw [List.drop_zero]
  rw [e]
  obtain ⟨sz, at_⟩ := h
  have sz2 : acc.toList.length = (passing pz n 0).length := by simpa using sz
  have at2 : ∀ (j : Nat) (v : Value), acc.toList[j]? = some v → ∃ i, (passing pz n 0)[j]? = some i ∧ RelV (fv i) v := fun j v hv => at_ j v (by simpa using hv)
  generalize acc.toList = vs at *
  generalize passing pz n 0 = is at *
  clear at_ sz e acc
  induction is generalizing vs with
  | nil =>
    cases vs with
    | nil => exact .nil
    | cons v vs => cases sz2
  | cons i is ih =>
    cases vs with
    | nil => cases sz2
    | cons v vs =>
      obtain ⟨k, hk, r⟩ := at2 0 v rfl
      cases (show some i = some k from hk)
      exact .cons r (ih vs (by simpa using sz2) fun j u hu => at2 (j + 1) u hu)
section
variable {X : Cx} {c P : Addr} {elt target iter : Expr} {ifs : List Expr} {scope : Scope} {p pos gpos : Pos} {te : TE} {k : Nat}
theorem pe_tupG (hr : Room k X.A) (hg : Gl X "tuple") (hm : X.mg "tuple" = none) (TB : GxR.TabB X.base X.mg c P) (hcode : X.env.code = .ref c) {sc : Scope} (hsc : X.env.scope = sc) (S : ScG sc scope) (hi : PE X iter te) (hs : ∀ v, genFold iter X.env v = pure v)
    (hb : bootBuiltins "tuple" = some (.type "tuple"))
    (he : starEach [GExp elt target iter ifs scope gpos] X.env = (false, eval (GExp elt target iter ifs scope gpos) X.env) :: starEach [] X.env := by rfl) :
    PE X (.Call (.Name "tuple" p) [GExp elt target iter ifs scope gpos] [] pos) (tTupG X P scope target ifs elt te) := by
  refine ⟨fun pins s σ H Q I h => ?_⟩
  refine wpAny_Call_Name_kw (ld_blt I hg hm hb ?_ (by decide) (by decide))
  refine PyProof.Rows.callWith_type1 ?_ he (by rfl)
  rw [he]
  show wpAny _ _ (spliced ((false, eval (GExp elt target iter ifs scope gpos) X.env) :: backTo pos (starEach [] X.env))) _ _ s
  refine Calls.spliced_cons ?_
  refine wpAny_GeneratorExp_make S.co (closure_ok fun y hy e => I.ok.has _ (by subst hsc; exact S.free y hy e)) S.cell S.dot S.kind (by have := hr.dp; omega) ?_ hs
  refine thn (hi.run pins s σ H _ I h) fun xv s1 ⟨v, H1, I1, r1, q1⟩ => ?_
  obtain ⟨yl, xs, pz, fv, rfl, hyl, ⟨ps, hP, ht⟩, body, out⟩ := q1
  obtain rfl : xv = Value.ref yl := r1
  obtain ⟨its, rv, tup, hz⟩ := I1.tuple hyl
  have len : its.length = xs.length := by rw [← rv.length]
  refine wpAny_pyIter_tuple tup ?_
  generalize ho : ({ cls := .type "tuple_iterator", data := .fields #[.ref yl, .int 0 0] } : Obj) = o
  have itr : (s1.heap.push o).IsTupleIter s1.heap.objs.size yl 0 := by
    subst ho
    exact ⟨_, Heap.get?_push_size _ rfl, rfl, rfl⟩
  have ylt : yl < s1.heap.objs.size := by
    obtain ⟨_, e, _⟩ := _root_.id tup
    exact Heap.lt_size e
  have hPs : s1.heap.get? P = some { cls := .none, data := .fields ps } := I1.hok P _ hP
  have Plt : P < s1.heap.objs.size := Heap.lt_size hPs
  have hP2 : (s1.heap.push o).get? P = some { cls := .none, data := .fields ps } := Heap.get?_push_of_some _ hPs
  have cd : PySem.W.CodeHd (s1.heap.push o) c P := TB.code.keeps fun b u e => Heap.get?_push_of_some _ (I1.bk b u e)
  have lim : (s1.heap.push o).NoLimit := I1.nolimit.push o
  have ylP : yl ≠ P := fun z => by
    obtain ⟨_, e, _, _, d⟩ := _root_.id tup
    rw [z, hPs] at e
    cases e
    cases d
  have rest : ∀ (code : Value) (h3 : Heap) (tk : Nat) (more : Array Value), Heap.ExtBut P (s1.heap.push o) h3 → (s1.heap.push o).objs.size ≤ h3.objs.size → h3.get? P = some { cls := .none, data := .fields (ps ++ more) } → TriplesOk (ps ++ more).toList →
      wpAny (model X.prog X.w) X.A (builtinsFor X.env.globals X.env.builtins) (fun bi s4 => ∀ h4 : Heap, h4.Ns s4.heap.objs.size (fun y => if y = ".0" then some (.ref s1.heap.objs.size) else none) → Heap.SameBut s4.heap.objs.size (s4.heap.push { cls := .type "frame", data := .dict #[] }) h4 →
        wpAny (model X.prog X.w) X.A (spliced (backTo pos (starEach [] X.env))) (fun vs s5 => wpAny (model X.prog X.w) X.A (call (.type "tuple") (.ref h4.objs.size :: vs)) (EP X pins σ Q) X.xe s5) X.xe { s4 with
            gens := s4.gens.push (.fresh (.compStart (GExp elt target iter ifs scope gpos) 0 (.ref s1.heap.objs.size) .none (genEnv scope (cloFrom X.env.cells scope.names []) s4.heap.objs.size code bi X.env))),
            toks := s4.toks + 1 + 1 + 1,
            heap := h4.push { cls := .type "generator", data := .fields #[.int s4.gens.size 0, .str "<genexpr>" (s4.toks + 1), .str (X.env.qual ++ "<genexpr>") (s4.toks + 1 + 1)] } }) X.xe { s1 with heap := h3, toks := tk } := by
    intro code h3 tk more hx hsz hP3 ht3
    obtain ⟨bm, ob, e1, e2, e3, e4, e5, e6, e7, e8⟩ := TB.bm
    have csP : cStatics ≠ P := fun e => by
      obtain ⟨_, hns, _⟩ := I1.nolimit
      obtain ⟨o', es, ep, ho, hd, _⟩ := hns
      rw [e, hPs] at ho
      cases ho
      cases hd
    have csl : cStatics < s1.heap.objs.size := let ⟨_, hns, _⟩ := I1.nolimit; hns.lt
    have sz2 : (s1.heap.push o).objs.size = s1.heap.objs.size + 1 := Heap.size_push ..
    have keep3 : ∀ b u, b ≠ P → s1.heap.get? b = some u → h3.get? b = some u := fun b u hb e => hx b u hb (Heap.get?_push_of_some _ e)
    refine wpAny_builtinsFor (m := X.mg) (by rw [I1.ok.glob]; exact ((I1.mod.glob.keeps I1.bk).push o).extBut hx TB.gP) e1 e2 (keep3 _ _ e4 (I1.bk _ _ e5)) e6 e7 e8 ?_
    intro h4 ns4 same4
    have tup3 : h3.IsTuple yl its.toArray := by
      obtain ⟨u, e, r⟩ := _root_.id tup
      exact ⟨u, keep3 _ _ ylP e, r⟩
    have itr3 : h3.IsTupleIter s1.heap.objs.size yl 0 := itr.at fun u e => hx _ u (Nat.ne_of_gt Plt) e
    have lim3 : h3.NoLimit := lim.extBut hx csP
    have le3 : s1.heap.objs.size < h3.objs.size := Nat.lt_of_lt_of_le (by rw [sz2]; exact Nat.lt_succ_self _) hsz
    have csl3 : cStatics < h3.objs.size := Nat.lt_trans csl le3
    have sz4 : h4.objs.size = h3.objs.size + 1 := by rw [same4.1, Heap.size_push]
    have keep4 : ∀ b u, h3.get? b = some u → h4.get? b = some u := fun b u e => same4.extBut b u (Nat.ne_of_lt (Heap.lt_size e)) (Heap.get?_push_of_some _ e)
    generalize hgo : ({ cls := .type "generator", data := .fields #[.int s1.gens.size 0, .str "<genexpr>" (tk + 1), .str (X.env.qual ++ "<genexpr>") (tk + 1 + 1)] } : Obj) = go
    have keep5 : ∀ b u, h3.get? b = some u → (h4.push go).get? b = some u := fun b u e => Heap.get?_push_of_some _ (keep4 b u e)
    have gen5 : (h4.push go).IsGen h4.objs.size s1.gens.size := by
      subst hgo
      exact ⟨_, _, _, Heap.get?_push_size _ rfl, rfl, rfl, rfl⟩
    have W : ∀ A' : Around, A'.handled = none → Goes X.prog X.w A' target s1.heap.objs.size (List.range h3.objs.size) [s1.heap.objs.size] its.toArray.size (fun i v _ => its.toArray[i]? = some v) (fun i h => h.IsTupleIter s1.heap.objs.size yl i ∧ h.IsTuple yl its.toArray) := fun A' hA =>
      goes_fp (Goes.tuple hA _ _ (Nat.ne_of_lt ylt) _) fun b hb => List.mem_range.mpr (by
        rcases List.mem_cons.mp hb with z | z
        · rw [z]
          exact le3
        · rcases List.mem_cons.mp z with z | z
          · rw [z]
            exact Nat.lt_trans ylt le3
          · cases z)
    refine Calls.spliced_nil ?_
    have notin : h4.objs.size ∉ List.range h3.objs.size := fun z => by
      have z2 := List.mem_range.mp z
      rw [sz4] at z2
      exact Nat.lt_irrefl _ (Nat.lt_trans (Nat.lt_succ_self _) z2)
    have sub1 : ∀ b ∈ ([s1.heap.objs.size] : List Addr), b ∈ List.range h3.objs.size := fun b hb => by
      rcases List.mem_cons.mp hb with z | z
      · rw [z]
        exact List.mem_range.mpr le3
      · cases z
    have cs1 : cStatics ∉ ([s1.heap.objs.size] : List Addr) := fun z => by
      rcases List.mem_cons.mp z with z | z
      · exact Nat.ne_of_lt csl z
      · cases z
    have W5 := WalksS.genexpQ (prog := X.prog) (w := X.w) (A := X.A.in4) hr.hd h4.objs.size s1.gens.size h3.objs.size (List.range h3.objs.size) [s1.heap.objs.size] pz its.toArray.size (fun i y => RelV (fv i) y) (by rw [sz4]; exact Nat.succ_ne_self _) notin sub1 hr.depth (List.mem_range.mpr csl3) (Nat.ne_of_lt csl3) cs1
    have old5 : ∀ b u, b ≠ P → s1.heap.get? b = some u → (h4.push go).get? b = some u := fun b u hb e => keep5 b u (keep3 b u hb e)
    have debt : DebtG X.prog X.w (genEnv scope (cloFrom X.env.cells scope.names []) h3.objs.size code builtinsNs X.env) target ifs elt (List.range h3.objs.size) [s1.heap.objs.size] its.toArray.size (fun i v _ => its.toArray[i]? = some v) pz (fun i y => RelV (fv i) y) (h4.push go) := fun i v s m hlt hv hns hold =>
      body pins s1 its _ I1 rv rfl rfl i v s m (by simpa using hv) hns fun b u hb e => hold b (List.mem_range.mpr (Nat.lt_trans (Heap.lt_size e) le3)) (fun z => by
        rcases List.mem_cons.mp z with z | z
        · rw [z] at e
          exact Nat.lt_irrefl _ (Heap.lt_size e)
        · cases z) u (old5 b u hb e)
    have kl : (keptG xs.length pz fv).length ≤ sizeLine := by
      unfold keptG
      rw [List.length_map]
      refine Nat.le_trans (List.length_filter_le _ _) ?_
      rw [List.length_range]
      exact hz
    refine call_tuple_gen (hsz := ?size) (WalksS.in4_3 W5) (fun i s9 h9 => h9.1.typeIs) (genAt_new (A := X.A.in4) (cenv := genEnv scope (cloFrom X.env.cells scope.names []) h3.objs.size code builtinsNs X.env) hr.hd W S.co (fun z => Nat.lt_irrefl _ (List.mem_range.mp z)) debt gen5 (Array.getElem?_push_size ..)
      ⟨itr3.at fun u e => keep5 _ u e, tup3.at fun u e => keep5 _ u e⟩ (ns4.push _) (lim3.keeps keep5)) (fun b hb => ?_) List.mem_cons_self (fun s6 acc moved items => ?_)
    case size =>
      have e : (passing pz its.toArray.size 0).length = (keptG xs.length pz fv).length := by
        unfold keptG passing
        rw [List.drop_zero, List.length_map, List.size_toArray, len]
      rw [e]
      exact kl
    · show b < (h4.push go).objs.size
      rw [Heap.size_push]
      rcases List.mem_cons.mp hb with z | z
      · rw [z]
        exact Nat.lt_succ_self _
      · rcases List.mem_cons.mp z with z | z
        · rw [z, sz4]
          exact Nat.lt_trans (Nat.lt_succ_self _) (Nat.lt_succ_self _)
        · have z2 := List.mem_range.mp z
          rw [sz4]
          exact Nat.lt_trans z2 (Nat.lt_trans (Nat.lt_succ_self _) (Nat.lt_succ_self _))
    · have nwr : ∀ b u, s1.heap.get? b = some u → b ∉ h3.objs.size :: [s1.heap.objs.size] := fun b u e hb => by
        have hl := Heap.lt_size e
        rcases List.mem_cons.mp hb with z | z
        · rw [z] at hl
          exact Nat.lt_irrefl _ (Nat.lt_trans hl le3)
        · rcases List.mem_cons.mp z with z | z
          · rw [z] at hl
            exact Nat.lt_irrefl _ hl
          · cases z
      have J := GxR.inv_tab (more := more) (h' := s6.heap) (g' := s6.gens) (d' := s6.drawn) (t' := s6.toks) I1 hP (fun b u hb e => moved.heap b u (nwr b u e) (old5 b u hb e)) (moved.heap P _ (nwr P _ hPs) (keep5 P _ hP3)) (AllBare.movedS (I1.bare.push rfl) moved)
      rw [GxR.sh_eta s1 s6 moved.os] at J
      have items2 : ItemsOf (fun j y => ∃ i, (passing pz xs.length 0)[j]? = some i ∧ RelV (fv i) y) acc (passing pz xs.length 0).length := by
        have e : its.toArray.size = xs.length := by rw [List.size_toArray, len]
        rw [← e]
        exact items
      exact ⟨.ref s6.heap.objs.size, upd (upd H1 P (.tbl (ps ++ more))) s6.heap.objs.size (.tup (keptG xs.length pz fv)), J.laid (t' := s6.toks) (fun b u e => Heap.get?_push_of_some _ e) (Nat.le_refl _) ⟨kl, acc.toList, vals_kept items2, ⟨_, Heap.get?_push_size _ rfl, rfl, 0, by simp⟩⟩, rfl,
        out _ _ ⟨⟨_, upd_same, ht3⟩, fun b hb => upd_ne hb⟩ (J.hok.fresh (Nat.le_refl _))⟩
  refine ⟨lim, ?_⟩
  cases hf : codeAmong gpos ps.toList with
  | none =>
    refine wpAny_genexprCodeX hcode (cd.code hP2 ht) (cd.tab hP2) hf fun c' h' tk hx hge hlt hco' _ htab' _ => ?_
    obtain ⟨o1, vs, f1, tf, fl, tg, inF, tx, tt, op, _, _, _, _, _, _, _, _, _, htr, _⟩ := hco'
    exact rest _ h' tk _ hx (Nat.le_trans hge (Nat.le_of_lt hlt)) htab'.2 htr
  | some cv =>
    refine wpAny_genexprCode_hit hcode (cd.code hP2 ht) hf ?_
    exact rest cv (s1.heap.push o) s1.toks #[] (Heap.ExtBut.refl _ _) (Nat.le_refl _) (by simpa using hP2) (by simpa using ht)
end
end QN

/-! what such a block does at each turn: x[i] for x in t; x for x, y, .. in t if y == z, z of the def around -/
namespace QN
open PySem PySem.Spec PyProof.Rows L2
section
variable {X : Cx} {P : Addr} {scope : Scope} {target elt : Expr} {ifs : List Expr} {σ : L2.St} {H : Hp} {xs : List V} {pz : Nat → Bool} {fv : Nat → V}
theorem tup_not_tab {h : Heap} {a P : Addr} {us ps : Array Value} (t : IsTup h a us) (e : h.get? P = some { cls := .none, data := .fields ps }) : a ≠ P := fun z => by
  obtain ⟨o, e2, _, n, d⟩ := t
  rw [z, e] at e2
  cases e2
  cases d
theorem cell_not_tab {h : Heap} {c P : Addr} {v : Option Value} {ps : Array Value} (t : h.IsCell c v) (e : h.get? P = some { cls := .none, data := .fields ps }) : c ≠ P := fun z => by
  obtain ⟨o, e2, d⟩ := t
  rw [z, e] at e2
  cases e2
  cases d
theorem vals_back {i : Nat} {v : Value} : ∀ {zs : List V} {us : List Value}, Vals zs us → us[i]? = some v → ∃ z, zs[i]? = some z ∧ RelV z v := fun {zs us} r e => by
  have l := r.length
  have hi := (List.getElem?_eq_some_iff.mp e).1
  have hz : zs[i]? = some (zs[i]'(by omega)) := List.getElem?_eq_getElem _
  obtain ⟨u, eu, ru⟩ := r.get hz
  rw [e] at eu
  cases eu
  exact ⟨_, hz, ru⟩
/-- the names' values, one bound behind the other -/
def bound : List (Str × Pos) → List Value → (Str → Option Value) → Str → Option Value
  | n :: ns, v :: vs, m => bound ns vs fun y => if y = n.1 then some v else m y
  | _, _, m => m
def nameEs (ns : List (Str × Pos)) : List Expr := ns.map fun n => .Name n.1 n.2
theorem bind_names {prog : Program} {w : World} {A : Around} {cenv : Env} (hp : cenv.scope.kind = .function) : ∀ {ns : List (Str × Pos)} {us : List Value} {s : Shared} {m : Str → Option Value}, us.length = ns.length → (∀ n ∈ ns, cenv.kindOf n.1 = some .local) → s.heap.Ns cenv.locals m →
    wpAny (model prog w) A (assignInOrder ((assignEach (nameEs ns) cenv).map (·.2)) us) (fun _ s1 => GenSince cenv.locals [] s s1 ∧ s1.heap.Ns cenv.locals (bound ns us m)) NoX s
  | [], us, s, m, hl, _, hn => by
    cases us with
    | nil => exact assignInOrder_nil ⟨GenSince.refl _ _ _, hn⟩
    | cons u us => cases hl
  | n :: ns, us, s, m, hl, hk, hn => by
    cases us with
    | nil => cases hl
    | cons u us =>
      show wpAny _ A (assignInOrder (assign (.Name n.1 n.2) cenv :: (assignEach (nameEs ns) cenv).map (·.2)) (u :: us)) _ _ s
      refine assignInOrder_cons (wpAny_assign_Name (wpAny_storeName_local (hk n List.mem_cons_self) hn (fun h2 hn2 sb => ?_) (by rw [hp]; rfl)))
      refine wpAny_mono (bind_names hp (by simpa using hl) (fun k hk2 => hk k (List.mem_cons_of_mem _ hk2)) hn2) (fun _ s1 ⟨⟨h3, tk3, e3, up3⟩, ns3⟩ => ?_) fun _ _ z => z
      subst e3
      exact ⟨⟨h3, tk3, rfl, fun b o nb nw e => up3 b o nb nw (sb.extBut b o nb e)⟩, ns3⟩
/-- x[i] for x in t -/
theorem body_ix {i : Int} {kd : Nat} {x : Str} {px p1 p2 p3 : Pos} (tab : GxR.TabG H P) (hk : scope.kind = .function) (hl : scope.names.lookup x = some .local) (hd : (x == ("__debug__" : Str)) = false)
    (hx : ∀ j z, xs[j]? = some z → ∃ (a : Addr) (zs : List V), z = .ref a ∧ SqT X.K H a zs ∧ atI zs i = some (fv j)) : BodyG X P scope (.Name x px) [] (.Subscript (.Name x p1) (.Constant (.int i) kd p2) p3) σ H xs (fun _ => true) fv := by
  intro pins s1 its cenv I rv hsc hcl j v s m hv hn old A0 h0
  obtain ⟨ps, hP, _⟩ := tab
  have hPs : s1.heap.get? P = some { cls := .none, data := .fields ps } := I.hok P _ hP
  obtain ⟨z, hz, rz⟩ := vals_back rv hv
  obtain ⟨a, zs, rfl, hq, hat⟩ := hx j z hz
  obtain rfl : v = Value.ref a := rz
  obtain ⟨us, ru, tup, lim⟩ := I.tuple hq
  have tup2 : IsTup s.heap a us.toArray := by
    obtain ⟨o, e, r⟩ := _root_.id tup
    exact ⟨o, old a o (tup_not_tab tup hPs) e, r⟩
  have loc : cenv.kindOf x = some .local := by
    show cenv.scope.names.lookup x = _
    rw [hsc, hl]
  have kf : cenv.scope.kind = .function := by rw [hsc, hk]
  refine wpAny_assign_Name (wpAny_storeName_local loc hn (fun h2 hn2 sb => ?_) (by rw [kf]; rfl))
  have nC : a ≠ cenv.locals := fun z => by
    obtain ⟨o, e, _, n, d⟩ := tup2
    obtain ⟨o2, es, ep, e2, d2, _⟩ := hn
    rw [z, e2] at e
    cases e
    rw [d2] at d
    cases d
  have tup3 : IsTup h2 a us.toArray := tup2.extBut sb.extBut nC
  refine ⟨⟨h2, s.toks + 1, rfl, fun b o nb _ e => sb.extBut b o nb e⟩, ⟨_, hn2⟩, fun A1 h1 => wpAny_tests_nil ⟨rfl, GxR.keeps_refl _, fun _ A2 _ => ?_⟩⟩
  obtain ⟨k, k1, k2, k3, k4, k5⟩ := atI_get hat
  obtain ⟨u, eu, ru'⟩ := ru.get k2
  have ll := ru.length
  have l63 := line63
  refine Subscript_Constant (wpAny_Name (wpAny_loadName_local kf loc hn2 (v := .ref a) (by simp) (wpAny_Constant_int ⟨"tuple", _, slot_tuple_getitem.lookup, tup3.typeIs, ?_⟩)) hd)
  exact getItem_tuple (j := k) tup3 (by omega) (by omega) (by rw [List.size_toArray, ← ll]; exact k1) (by simpa using eu) ⟨ru', GxR.keeps_tok _ _⟩
/-- what a name is bound to at the end -/
def lastV : List (Str × Pos) → List V → Str → Option V
  | n :: ns, z :: zs, y => match lastV ns zs y with
    | some u => some u
    | none => if y = n.1 then some z else none
  | _, _, _ => none
theorem bound_old : ∀ {ns : List (Str × Pos)} {us : List Value} {m : Str → Option Value} {y : Str} {zs : List V}, Vals zs us → lastV ns zs y = none → bound ns us m y = m y
  | [], us, m, y, zs, r, h => by cases us <;> rfl
  | n :: ns, _, m, y, _, .nil, h => rfl
  | n :: ns, u :: us, m, y, z :: zs, .cons r t, h => by
    unfold lastV at h
    cases e : lastV ns zs y with
    | some w =>
      rw [e] at h
      cases h
    | none =>
      rw [e] at h
      have ne : ¬ y = n.1 := fun q => by
        rw [if_pos q] at h
        cases h
      show bound ns us _ y = _
      rw [bound_old t e, if_neg ne]
theorem bound_last : ∀ {ns : List (Str × Pos)} {us : List Value} {m : Str → Option Value} {y : Str} {zs : List V} {w : V}, Vals zs us → lastV ns zs y = some w → ∃ u, bound ns us m y = some u ∧ RelV w u
  | [], us, m, y, zs, w, r, h => by cases h
  | n :: ns, _, m, y, _, w, .nil, h => by cases h
  | n :: ns, u :: us, m, y, z :: zs, w, .cons r t, h => by
    unfold lastV at h
    cases e : lastV ns zs y with
    | some w2 =>
      rw [e] at h
      cases h
      show ∃ v, bound ns us (fun y => if y = n.1 then some u else m y) y = some v ∧ RelV w v
      exact bound_last t e
    | none =>
      rw [e] at h
      by_cases q : y = n.1
      · rw [if_pos q] at h
        cases h
        refine ⟨u, ?_, r⟩
        show bound ns us _ y = _
        rw [bound_old t e, if_pos q]
      · rw [if_neg q] at h
        cases h
/-- c for .., a, .., c, .. in t if a == b: b of the def around, a text -/
theorem body_eq {ns : List (Str × Pos)} {a b c : Str} {kt q : Nat} {tp pa pb pc pd : Pos} {st : Str} (tab : GxR.TabG H P) (hk : scope.kind = .function) (hns : ∀ n ∈ ns, scope.names.lookup n.1 = some .local) (ha : scope.names.lookup a = some .local) (hc : scope.names.lookup c = some .local)
    (hb : scope.names.lookup b = some .free) (hcl : (cloFrom X.env.cells scope.names []).lookup b = some ((X.env.cells.lookup b).getD 0)) (hN : X.N[q]? = some b) (hσ : σ[q]? = some (some (.str st))) (hB : X.env.scope.names.lookup b = some .cell)
    (da : (a == ("__debug__" : Str)) = false) (db : (b == ("__debug__" : Str)) = false) (dc : (c == ("__debug__" : Str)) = false) (db2 : (b == ("__classdict__" : Str)) = false)
    (hx : ∀ j z, xs[j]? = some z → ∃ (p : Addr) (zs : List V) (src : Str), z = .ref p ∧ SqT X.K H p zs ∧ zs.length = ns.length ∧ lastV ns zs a = some (.str src) ∧ lastV ns zs c = some (fv j) ∧ pz j = (src == st)) :
    BodyG X P scope (.Tuple (nameEs ns) kt tp) [.Compare (.Name a pa) [.Eq] [.Name b pb] pc] (.Name c pd) σ H xs pz fv := by
  intro pins s1 its cenv I rv hsc hcells j v s m hv hn old A0 h0
  obtain ⟨ps, hP, _⟩ := tab
  have hPs : s1.heap.get? P = some { cls := .none, data := .fields ps } := I.hok P _ hP
  obtain ⟨z, hz, rz⟩ := vals_back rv hv
  obtain ⟨p, zs, src, rfl, hq, hlen, l1, l2, hpz⟩ := hx j z hz
  obtain rfl : v = Value.ref p := rz
  obtain ⟨us, ru, tup, lim⟩ := I.tuple hq
  have tup2 : IsTup s.heap p us.toArray := by
    obtain ⟨o, e, r⟩ := _root_.id tup
    exact ⟨o, old p o (tup_not_tab tup hPs) e, r⟩
  have kf : cenv.scope.kind = .function := by rw [hsc, hk]
  have kl : ∀ {y : Str}, scope.names.lookup y = some .local → cenv.kindOf y = some .local := fun {y} h => by
    show cenv.scope.names.lookup y = _
    rw [hsc, h]
  -- the captured name
  obtain ⟨ml, _, look⟩ := I.loc
  obtain ⟨ub, rb, lb⟩ := look q b _ hN hσ (.inr (.inl hB))
  obtain ⟨tb, rfl⟩ := (show ∃ t, ub = Value.str st t from rb)
  obtain ⟨cc, ec, cell⟩ : ∃ cc, X.env.cells.lookup b = some cc ∧ s1.heap.IsCell cc (some (.str st tb)) := by
    rcases lb with ⟨h, _⟩ | ⟨_, h⟩
    · rw [show X.env.kindOf b = some .cell from hB] at h
      cases h
    · exact h
  have hcc : cenv.cells.lookup b = some cc := by
    rw [hcells, hcl, ec]
    rfl
  have cell2 : s.heap.IsCell cc (some (.str st tb)) := by
    obtain ⟨o, e, d⟩ := _root_.id cell
    exact ⟨o, old cc o (cell_not_tab cell hPs) e, d⟩
  have nC : cc ≠ cenv.locals := fun z => by
    obtain ⟨o, e, d⟩ := cell2
    obtain ⟨o2, es, ep, e2, d2, _⟩ := hn
    rw [z, e2] at e
    cases e
    rw [d2] at d
    cases d
  have ll := ru.length
  have aeq : ∀ ns : List (Str × Pos), (assignEach (nameEs ns) cenv).length = ns.length ∧ (assignEach (nameEs ns) cenv).findIdx? (·.1) = none := fun ns => by
    induction ns with
    | nil => exact ⟨rfl, rfl⟩
    | cons n ns ih =>
      have e : assignEach (nameEs (n :: ns)) cenv = (false, assign (.Name n.1 n.2) cenv) :: assignEach (nameEs ns) cenv := rfl
      rw [e]
      exact ⟨by rw [List.length_cons, List.length_cons, ih.1], by rw [List.findIdx?_cons, ih.2]; rfl⟩
  refine assign_Tuple_tuple h0 tup2 (by rw [(aeq ns).1, List.size_toArray, ← ll, hlen]) (aeq ns).2 fun h' hx' => ?_
  have old' : ∀ b o, s.heap.get? b = some o → h'.get? b = some o := fun b o e => hx' b o (Nat.ne_of_lt (Heap.lt_size e)) e
  have e0 : us.toArray.toList = us := by simp
  rw [e0]
  refine wpAny_mono (bind_names kf (by rw [← ll, hlen]) (fun n hn2 => kl (hns n hn2)) (hn.keeps old')) (fun _ s2 ⟨⟨h2, tk2, e2, up2⟩, ns2⟩ => ?_) fun _ _ z => z
  subst e2
  have cell3 : h2.IsCell cc (some (.str st tb)) := by
    obtain ⟨o, e, d⟩ := cell2
    exact ⟨o, up2 cc o nC (by simp) (old' cc o e), d⟩
  obtain ⟨u1, b1, r1⟩ := bound_last (m := m) ru l1
  obtain ⟨t1, rfl⟩ := (show ∃ t, u1 = Value.str src t from r1)
  obtain ⟨u2, b2, r2⟩ := bound_last (m := m) ru l2
  refine ⟨⟨h2, tk2, rfl, fun b o nb nw e => up2 b o nb nw (old' b o e)⟩, ⟨_, ns2⟩, fun A1 h1 => wpAny_tests_one (wpAny_isTrue_Compare1 (wpAny_Name (wpAny_loadName_local kf (kl ha) ns2 b1 (wpAny_Name (wpAny_loadName_free kf (by
    show cenv.scope.names.lookup b = _
    rw [hsc, hb]) hcc cell3 (eq_str (wpAny_truthy_bool ⟨hpz.symm, GxR.keeps_refl _, fun _ A2 h2 => wpAny_Name (wpAny_loadName_local kf (kl hc) ns2 b2 ⟨r2, GxR.keeps_refl _⟩) dc⟩)) db2) db)) da))⟩
end
end QN

/-! an own class whose __init__ takes (self, a, .., *b, k=..): C(a, *b, k=v) and cls(a, *b, k=v) -/
namespace QN
open PySem PySem.Spec PyProof.Rows L2 PySem.W
/-- a promise about a call with keywords named ks -/
def FnRK (P : Program) (w : World) (K : PySem.W.Frag) (mg : Str → Option Value) (base : Heap) (CX : CXT) (k : Nat) (f : Addr) (ks : List Str) (sp : List V → List V → Hp → VK → XK → Prop) : Prop :=
  ∀ (A : Around) (outer : List Env) (s : Shared) (H : Hp) (us ws : List Value) (vs zs : List V) (Q : VK) (E : XK), Room k A → Env0 P w K mg base A outer s H → Vals vs us → Vals zs ws → zs.length = ks.length → sp vs zs H Q E →
    codeAny (model P w) A (.call (.ref f) ⟨us, ks.zip ws⟩) (CR CX outer P w H s Q E) s
theorem FnRK.imp {P : Program} {w : World} {K : PySem.W.Frag} {mg : Str → Option Value} {base : Heap} {CX : CXT} {k : Nat} {f : Addr} {ks : List Str} {sp sp' : List V → List V → Hp → VK → XK → Prop} (F : FnRK P w K mg base CX k f ks sp) (h : ∀ vs zs H Q E, sp' vs zs H Q E → sp vs zs H Q E) : FnRK P w K mg base CX k f ks sp' :=
  fun A outer s H us ws vs zs Q E hr e0 r rz l q => F A outer s H us ws vs zs Q E hr e0 r rz l (h _ _ _ _ _ q)
/-- a call with stars and keywords of a thing that is kept -/
theorem callWith_starKW {M : Model} {A : Around} {E : Value → Shared → Prop} {s : Shared} {K : Frag} {env : Env} {pos : Pos} {f : Value} {first : List Value} {Q : Value → Shared → Prop} {e : Expr} {rest : List Expr} {kws : List Keyword} (hk : keepIn K f = true)
    (hall : (backToKw pos (keywordEach kws env)).all (·.1.isSome) = true)
    (h : wpAny M A (spliced (backTo pos (starEach (e :: rest) env))) (fun vs s₁ => wpAny M A (evalAll ((backToKw pos (keywordEach kws env)).map (·.2)))
      (fun ks s₂ => K.In s₂.heap ∧ wpAny M A (call f (first ++ vs) (((backToKw pos (keywordEach kws env)).filterMap (·.1)).zip ks)) Q E s₂) E s₁) E s)
    (he : starEach (e :: rest) env = (false, eval e env) :: starEach rest env := by rfl) (hst : (backTo pos (starEach rest env)).any (·.1) = true := by rfl) :
    wpAny M A (callWith pos f first (backTo pos (starEach (e :: rest) env)) (backToKw pos (keywordEach kws env))) Q E s := by
  have st : (backTo pos (starEach (e :: rest) env)).any (·.1) = true := by
    rw [he]
    show (false || (backTo pos (starEach rest env)).any (·.1)) = true
    rw [hst]
    rfl
  have z : wpAny M A (evalArgs f true (backTo pos (starEach (e :: rest) env)) (backToKw pos (keywordEach kws env))) (fun a s₁ => K.In s₁.heap ∧ wpAny M A (call f (first ++ a.pos) a.kw) Q E s₁) E s := evalArgs_kw2 hall h he
  unfold callWith
  refine wpAny_bind (wpAny_holding (wpAny_mono z (fun a u q => wpAny_bind (wpAny_standAt ?_)) fun _ _ x => x))
  obtain ⟨kp, hkp, lk⟩ := keeps_K hk _ q.1
  simp only [st, Bool.true_or]
  refine wpAny_bind (lk.here ?_)
  have out : ∀ {t : Sem Value}, wpAny M A t Q E u → wpAny M A (t >>= fun r => holding [r] point >>= fun _ => pure r) Q E u := fun ht =>
    wpAny_bind (wpAny_mono ht (fun r v hr => wpAny_bind (wpAny_holding (wpAny_point (wpAny_pure hr)))) fun _ _ x => x)
  have mk : ∀ m : Value, wpAny M A (callMarked m f (first ++ a.pos) a.kw) Q E u := fun m => by
    unfold callMarked
    exact Calls.wpAny_keep q.2
  rcases hkp with rfl | rfl | rfl
  · first | exact out (mk _) | exact out (wpAny_operating q.2)
  · first | exact out (mk _) | exact out (wpAny_operating q.2)
  · first | exact out (mk _) | exact out (wpAny_operating q.2)
section
variable {X : Cx} {CX : CXT} {k n i : Nat} {f C : Addr} {ks : List Str} {sp : List V → List V → Hp → VK → XK → Prop} {E : XK} {x : Str} {p pos : Pos} {e : Expr} {es : List Expr} {kws : List Keyword} {t tk : TA}
theorem run_makeVK {pins : List (Addr × Obj)} {σ : L2.St} {H : Hp} {s : Shared} {Q : VK} {us ws : List Value} {vs zs : List V} (M : Mk X.K C f) (F : FnRK X.prog X.w X.K X.mg X.base CX k f ks sp) (hr : Room (k + 1) X.A) (hx : Passes CX X E)
    (I : Inv X pins σ H s) (r : Vals vs us) (rz : Vals zs ws) (l : zs.length = ks.length)
    (h : ∀ x dx, H x = none → H dx = none → dx ≠ x → sp (.ref x :: vs) zs (upd (upd H dx (.own x)) x (.ins C dx [])) (fun v H2 => v = .non ∧ Q (.ref x) H2) E) :
    wpAny (model X.prog X.w) X.A (call (.ref C) us (ks.zip ws)) (EP X pins σ Q) X.xe s := by
  have q := h (s.heap.objs.size + 1) s.heap.objs.size (I.hok.fresh (Nat.le_succ _)) (I.hok.fresh (Nat.le_refl _)) (Nat.ne_of_lt (Nat.lt_succ_self _))
  have J := Inv.made (C := C) I
  have ok := F (X.A.under (.builtin "type.__call__" ⟨.ref C :: us, ks.zip ws⟩)) X.stack _ _ (Value.ref (s.heap.objs.size + 1) :: us) ws (V.ref (s.heap.objs.size + 1) :: vs) zs _ E (hr.make C us (ks.zip ws)) (J.env0.make C us (ks.zip ws)) (.cons rfl r) rz l q
  refine wpAny_call (make_map (f := f) I.kIn M.makes M.init (beq_iff_eq.mp M.fn) (codeAny_mono ok fun r s' done => ?_))
  match r, done with
  | .error e, done => exact hx pins σ _ _ e s' J done
  | .ok (.ret u), done =>
    obtain ⟨v, H', J2, rv, ev, q3⟩ := J.after done
    subst ev
    exact ⟨rv, ⟨V.ref (s.heap.objs.size + 1), H', J2, rfl, q3⟩⟩
  | .ok .next, done => exact False.elim done
  | .ok .brk, done => exact False.elim done
  | .ok .cont, done => exact False.elim done
def tMakeVK (i : Nat) (C : Addr) (m : Nat) (sp : List V → List V → Hp → VK → XK → Prop) (E : XK) (t tk : TA) : TE := fun σ H Q => σ[i]? = some (some (.ref C)) ∧ t σ H fun vs H1 => tk σ H1 fun zs H2 => zs.length = m ∧
  ∀ x dx, H2 x = none → H2 dx = none → dx ≠ x → sp (.ref x :: vs) zs (upd (upd H2 dx (.own x)) x (.ins C dx [])) (fun v H3 => v = .non ∧ Q (.ref x) H3) E
/-- cls(a, *b, k=v), cls the class C in the slot i -/
theorem pe_makeVK (M : Mk X.K C f) (F : FnRK X.prog X.w X.K X.mg X.base CX k f ks sp) (hr : Room (k + 1) X.A) (hN : X.N[i]? = some x) (hv : Vis X.env.scope x) (hx : Passes CX X E) (ha : PA X (e :: es) t) (hkw : PK X kws tk)
    (hall : (backToKw pos (keywordEach kws X.env)).all (·.1.isSome) = true := by rfl) (hks : (backToKw pos (keywordEach kws X.env)).filterMap (·.1) = ks := by rfl) (hdb : (x == ("__debug__" : Str)) = false := by decide) (hcd : (x == ("__classdict__" : Str)) = false := by decide)
    (he : starEach (e :: es) X.env = (false, eval e X.env) :: starEach es X.env := by rfl) (hst : (backTo pos (starEach es X.env)).any (·.1) = true := by rfl) :
    PE X (.Call (.Name x p) (e :: es) kws pos) (tMakeVK i C ks.length sp E t tk) := by
  refine ⟨fun pins s σ H Q I h => ?_⟩
  obtain ⟨hs, ht⟩ := h
  refine wpAny_Call_Name_kw (thn ((pe_var (pos := p) hN hv hdb hcd).run pins s σ H (fun v H1 => v = .ref C ∧ H1 = H) I ⟨.ref C, hs, rfl, rfl⟩) fun u s1 ⟨v, H1, I1, r1, q1⟩ => ?_)
  obtain ⟨rfl, rfl⟩ := q1
  cases r1
  refine callWith_starKW (K := X.K) M.kp hall (thn (ha.run pos pins s1 σ _ _ I1 ht) fun us s2 ⟨vs, H2, I2, r, q⟩ => ?_) he hst
  refine thn (hkw.run pos pins s2 σ H2 _ I2 q) fun ws s3 ⟨zs, H3, I3, rz, l, q2⟩ => ⟨I3.kIn, ?_⟩
  rw [hks]
  exact run_makeVK M F hr hx I3 r rz l q2
end
section
variable {CX : CXT} {P : Program} {w : World} {K : Frag} {mg : Str → Option Value} {base : Heap} {k n : Nat} {f : Addr} {name qual : Str} {params : Arguments} {body : List Stmt} {scope : Scope} {dV kV doc pm cdv ct oc : Value} {an od : Option Addr}
  {osl : Array (Option Value)} {N qs ks : List Str} {sp : Sp}
/-- a def (a, .., *b, k=..), called with the keywords ks; dvs: what the others are by default -/
theorem fn_starK {pv : Str} {dvs : List V} {dv : List Value} (lk : K.lookup f = some ⟨oc, od, .func (fnOf name qual params body scope dV kV doc pm an cdv ct), osl⟩) (hcd : codeIn K cdv qual = true) (S : FnScope N (qs ++ [pv]) scope) (hCX : StX.CXUp CX)
    (hq : qs.length = n + ks.length + dvs.length) (rd : Vals dvs dv)
    (hb : ∀ us rest ws : List Value, us.length = n → ws.length = ks.length → ∃ c : Sem (List (Str × Value)), bindArgs (fnOf name qual params body scope dV kV doc pm an cdv ct) ⟨us ++ rest, ks.zip ws⟩ = (c >>= fun l => newTuple rest >>= fun t => pure (l ++ [(pv, t)])) ∧
      ∀ (M : Model) (h : Heap), K.In h → Looks M h c (qs.zip (us ++ ws ++ dv)))
    (hbody : ∀ (A : Around) (outer : List Env) (s : Shared) (H : Hp) (vs : List V) (Q : VK) (E : XK), Room k (A.deeper (envOfC qual scope s.heap.objs.size f cdv)) → sp vs H Q E →
      ∃ t, PSs (cxOf CX P w K mg base N qual scope f cdv A outer s H E) body t ∧ t { nx := fun _ H' => Q .non H', rt := Q } (start N vs) H) :
    FnRK P w K mg base CX (k + 1) f ks (fun vs zs H Q E => ∃ wa rest, vs = wa ++ rest ∧ wa.length = n ∧ rest.length ≤ sizeLine ∧ ∀ p, H p = Option.none → sp (wa ++ zs ++ dvs ++ [V.ref p]) (upd H p (.tup rest)) Q E) := by
  intro A outer s H us ws vs zs Q E hr e0 r rz lz hsp
  obtain ⟨wa, rest, ev, hl, hz, hq2⟩ := hsp
  subst ev
  obtain ⟨u1, u2, eu, r1, r2⟩ := StX.vals_split r
  subst eu
  have hn : H s.heap.objs.size = Option.none := e0.hok.fresh (Nat.le_refl _)
  have l1 : u1.length = n := by rw [← r1.length]; exact hl
  have l2 : u2.length ≤ sizeLine := by rw [← r2.length]; exact hz
  have l3 : ws.length = ks.length := by rw [← rz.length]; exact lz
  have ld := rd.length
  obtain ⟨c, eb, lc⟩ := hb u1 u2 ws l1 l3
  have rr : Vals (wa ++ zs ++ dvs) (u1 ++ ws ++ dv) := (r1.append rz).append rd
  refine StX.run_bnd lk hcd S hr e0 (G := fun xs H2 => ∃ p, H p = Option.none ∧ xs = wa ++ zs ++ dvs ++ [V.ref p] ∧ H2 = upd H p (.tup rest)) (fun A' Ex Q' h => ?_) fun s2 H2 xs ⟨p, hp, ex, eH⟩ hr' => ?_
  · have KX : K.In s.heap := e0.mod.kin.keeps fun b o e => (e0.bs b o e).1
    rw [eb]
    refine wpAny_bind (lc _ _ KX _ _ _ _ (fun _ _ z => z) (wpAny_bind (wpAny_newTuple (wpAny_pure ?_) l2)))
    have new : ObjOk P w (upd H s.heap.objs.size (.tup rest)) (s.heap.push ({ cls := .type "tuple", data := .seq u2.toArray } : Obj)) s.heap.objs.size (.tup rest) := ⟨hz, u2, r2, ⟨_, Heap.get?_push_size _ rfl, rfl, _, rfl⟩⟩
    have un := StX.un_laid (fs := frs outer) (s := s) (o := ({ cls := .type "tuple", data := .seq u2.toArray } : Obj)) (u := .tup rest) hn
    have lq : qs.length = (u1 ++ ws ++ dv).length := by
      rw [List.length_append, List.length_append, hq, l1, l3, ld]
    have z := h _ _ (wa ++ zs ++ dvs ++ [V.ref s.heap.objs.size]) (u1 ++ ws ++ dv ++ [Value.ref s.heap.objs.size]) (StX.env0_laid e0 new) un rfl (fun e s' => hCX outer s H _ _ E e s' un (fun b o q => Heap.get?_push_of_some _ q) rfl) (rr.append (.cons rfl .nil))
      (by have := rr.length; simp only [List.length_append, List.length_singleton] at this lq ⊢; omega) ⟨_, hn, rfl, rfl⟩
    rw [List.zip_append lq] at z
    exact z
  · subst ex eH
    exact hbody A outer s2 _ _ Q E hr' (hq2 p hp)
theorem FnRK.toR {sp : List V → List V → Hp → VK → XK → Prop} (F : FnRK P w K mg base CX k f [] sp) : FnR P w K mg base CX k f (fun vs H Q E => sp vs [] H Q E) := fun A outer s H us vs Q E hr e0 r q => F A outer s H us [] vs [] Q E hr e0 r .nil rfl q
end
end QN

/-! rows sorted by their names -/
namespace Qp
open PySem PySem.Spec PyProof.Rows L2 QN
open PySem.W PySem.SeqAt
theorem alike_ch : ∀ c d : List (Str × Int), alikeAll (c.map pairD) (d.map pairD) = true
  | [], _ => by simp [alikeAll]
  | _ :: _, [] => by simp [alikeAll]
  | p :: c, q :: d => by
    show alikeAll (pairD p :: c.map pairD) (pairD q :: d.map pairD) = true
    rw [alikeAll, alike_ch c d]
    simp [alike, alikeAll, pairD]
theorem alike_row (a b : Row) : alike (rowD a) (rowD b) = true := by
  have h := alike_ch a.c b.c
  simp [rowD, chD, alike, alikeAll, h]
theorem depth_ch : ∀ c : List (Str × Int), PyData.depthAll (c.map pairD) ≤ 1
  | [] => by simp [PyData.depthAll]
  | p :: c => by
    have h := depth_ch c
    show PyData.depthAll (pairD p :: c.map pairD) ≤ 1
    simp [PyData.depthAll, PyData.depth, pairD]
    omega
theorem depth_row (r : Row) : (rowD r).depth ≤ 10 := by
  have h := depth_ch r.c
  simp [rowD, chD, PyData.depth, PyData.depthAll]
  omega
theorem name_inj : ∀ {rs : List Row}, (rs.map (·.n)).Nodup → ∀ a ∈ rs, ∀ b ∈ rs, a.n = b.n → a = b
  | [], _, a, ha, _, _, _ => by cases ha
  | r :: rs, nd, a, ha, b, hb, e => by
    have nd2 := List.nodup_cons.mp nd
    rcases List.mem_cons.mp ha with ea | ha2
    · rcases List.mem_cons.mp hb with eb | hb2
      · rw [ea, eb]
      · refine absurd (List.mem_map.mpr ⟨b, hb2, ?_⟩) nd2.1
        rw [← e, ea]
    · rcases List.mem_cons.mp hb with eb | hb2
      · refine absurd (List.mem_map.mpr ⟨a, ha2, ?_⟩) nd2.1
        rw [e, eb]
      · exact name_inj nd2.2 a ha2 b hb2 e
theorem data_irrefl (x : PyData) : dataLt x x = false := lex_irrefl _
theorem le_row {rs : List Row} (nd : (rs.map (·.n)).Nodup) (a : Row) (ha : a ∈ rs) (b : Row) (hb : b ∈ rs) : dataLe false rowD a b = dataLe false (fun x : Str => PyData.str x) a.n b.n := by
  show (!dataLt (rowD b) (rowD a)) = !dataLt (.str b.n) (.str a.n)
  by_cases e : a.n = b.n
  · rw [name_inj nd a ha b hb e, data_irrefl, data_irrefl]
  · congr 1
    unfold rowD
    have ne : PyData.eqv (.str b.n) (.str a.n) = false := by
      simp only [PyData.eqv]
      exact beq_eq_false_iff_ne.mpr fun z => e z.symm
    rw [dataLt_tuple, dataLt_cons (by simp [alike]), ne, if_neg Bool.false_ne_true]
theorem sort_rows0 {rs srt : List Row} (nd : (rs.map (·.n)).Nodup) (pm : srt.Perm rs) (asc : (srt.map (·.n)).Pairwise lts) : rs.mergeSort (dataLe false rowD) = srt := by
  have e1 : (rs.mergeSort (dataLe false rowD)).map (·.n) = srt.map (·.n) := by
    rw [List.map_mergeSort (s := dataLe false fun x : Str => PyData.str x) (le_row nd)]
    exact asc_unique (sortTx_asc nd) asc fun z => by
      show z ∈ sortTx (rs.map (·.n)) ↔ _
      rw [(sortTx_perm _).mem_iff]
      exact ⟨fun m => by obtain ⟨r, hr, e⟩ := List.mem_map.mp m; exact List.mem_map.mpr ⟨r, pm.mem_iff.mpr hr, e⟩, fun m => by obtain ⟨r, hr, e⟩ := List.mem_map.mp m; exact List.mem_map.mpr ⟨r, pm.mem_iff.mp hr, e⟩⟩
  have a1 : (rs.mergeSort (dataLe false rowD)).Pairwise fun a b => lts a.n b.n := List.pairwise_map.mp (by rw [e1]; exact asc)
  have a2 : srt.Pairwise fun a b => lts a.n b.n := List.pairwise_map.mp asc
  exact List.Perm.eq_of_pairwise (fun a b _ _ h1 h2 => absurd h2 (lts_asymm h1)) a1 a2 ((List.mergeSort_perm _ _).trans pm.symm)
theorem snd_zip {α β : Type} : ∀ {us : List α} {ds : List β}, us.length = ds.length → (us.zip ds).map (·.2) = ds
  | [], [], _ => rfl
  | [], _ :: _, h => by cases h
  | _ :: _, [], h => by cases h
  | u :: us, d :: ds, h => by
    rw [List.zip_cons_cons, List.map_cons, snd_zip (by simpa using h)]
theorem fst_zip {α β : Type} : ∀ {us : List α} {ds : List β}, us.length = ds.length → (us.zip ds).map (·.1) = us
  | [], [], _ => rfl
  | [], _ :: _, h => by cases h
  | _ :: _, [], h => by cases h
  | u :: us, d :: ds, h => by
    rw [List.zip_cons_cons, List.map_cons, fst_zip (by simpa using h)]
theorem sort_rows {us : List V} {rs srt : List Row} (hl : us.length = rs.length) (nd : (rs.map (·.n)).Nodup) (pm : srt.Perm rs) (asc : (srt.map (·.n)).Pairwise lts) : ((us.zip (rs.map rowD)).mergeSort (dataLe false (·.2))).map (·.2) = srt.map rowD := by
  rw [List.map_mergeSort (r := dataLe false fun b : V × PyData => b.2) (s := dataLe false id) (fun _ _ _ _ => rfl), snd_zip (by rw [List.length_map]; exact hl), ← sort_rows0 nd pm asc]
  exact (List.map_mergeSort (f := rowD) (r := dataLe false rowD) (s := dataLe false id) (fun _ _ _ _ => rfl)).symm
/-- what is gathered in a list or tuple of data -/
theorem dpAll_zip {K : PySem.W.Frag} {H : Hp} : ∀ {bs : List (V × PyData)}, (∀ b ∈ bs, Dp K H b.1 b.2) → DpAll K H (bs.map (·.1)) (bs.map (·.2))
  | [], _ => .nil
  | b :: bs, h => .cons (h b List.mem_cons_self) (dpAll_zip fun c hc => h c (List.mem_cons_of_mem _ hc))
theorem zip_dpAll {K : PySem.W.Frag} {H : Hp} : ∀ {us : List V} {ds : List PyData}, DpAll K H us ds → ∀ b ∈ us.zip ds, Dp K H b.1 b.2
  | _, _, .nil, b, hb => by cases hb
  | _, _, .cons h t, b, hb => by
    rcases List.mem_cons.mp hb with rfl | hb
    · exact h
    · exact zip_dpAll t b hb
end Qp

/-! dict(t), t a tuple of pairs of which is known that it has no dict of its own; tuples that keep that knowledge -/
namespace QN
open PySem PySem.Spec PyProof.Rows L2 PySem.W
/-- a tuple without a dict -/
def PlT (K : Frag) (H : Hp) (a : Addr) (xs : List V) : Prop := SqT K H a xs ∧ ((∃ o, H a = some (.frz o (.tup xs)) ∧ o.dict = none) ∨ ∃ o, K.lookup a = some o ∧ o.dict = none)
theorem PlT.at_ {X : Cx} {pins : List (Addr × Obj)} {σ : L2.St} {H : Hp} {s : Shared} {a : Addr} {xs : List V} (I : Inv X pins σ H s) (h : PlT X.K H a xs) : ∃ its : List Value, Vals xs its ∧ PlainSeq "tuple" s.heap a its.toArray ∧ xs.length ≤ sizeLine := by
  obtain ⟨its, rv, ⟨o, ho, hc, n, hd⟩, hz⟩ := I.tuple h.1
  refine ⟨its, rv, ⟨o, n, ho, hc, ?_, hd⟩, hz⟩
  rcases h.2 with ⟨o2, h2, d2⟩ | ⟨o2, h2, d2⟩
  · have e : s.heap.get? a = some o2 := (I.hok a _ h2).1
    rw [ho] at e
    cases e
    exact d2
  · have e := I.kIn a o2 h2
    rw [ho] at e
    cases e
    exact d2
section
variable {X : Cx}
/-- tuple(l), l a list -/
theorem call_tuple_ofZ : CallR X (.type "tuple") (fun xs H Q => ∃ p ys, xs = [.ref p] ∧ SqL X.K H p ys ∧ ∀ l o, H l = none → o.dict = none → Q (.ref l) (upd H l (.frz o (.tup ys)))) := by
  intro pins s σ H xs us Q I r ⟨p, ys, ex, hq, q⟩
  subst ex
  obtain ⟨u, rfl, rx⟩ := vals1 r
  cases rx
  obtain ⟨its, rl, pl, hz⟩ := I.list hq
  refine call_tuple_list pl.isList (fun h' kp => ?_) (by rw [List.size_toArray, ← rl.length]; exact hz)
  have J : Inv X pins σ H { s with heap := h' } := I.kept (t' := s.toks) kp
  exact ⟨.ref h'.objs.size, upd H h'.objs.size (.frz { cls := .type "tuple", data := .seq its.toArray } (.tup ys)), J.laid (t' := s.toks) (fun b o e => Heap.get?_push_of_some _ e) (Nat.le_refl _) ⟨Heap.get?_push_size _ rfl, hz, its, rl, IsTup.new _ _⟩, rfl,
    q _ _ (J.hok.fresh (Nat.le_refl _)) rfl⟩
def tTupZ (t : TA) : TE := fun σ H Q => t σ H fun xs H1 => xs.length ≤ sizeLine ∧ ∀ p o, H1 p = none → o.dict = none → Q (.ref p) (upd H1 p (.frz o (.tup xs)))
/-- (e, ..) -/
theorem pe_tupZ {es : List Expr} {t : TA} {pos : Pos} {x1} (h : PA X es t) : PE X (.Tuple es x1 pos) (tTupZ t) := by
  refine ⟨fun pins s σ H Q I hq => wpAny_Tuple_spliced (thn (h.run pos pins s σ H _ I hq) fun us s1 ⟨xs, H1, I1, r, z, q⟩ => ⟨by rw [← r.length]; exact z, ?_⟩)⟩
  exact ⟨.ref s1.heap.objs.size, upd H1 s1.heap.objs.size (.frz { cls := .type "tuple", data := .seq us.toArray } (.tup xs)), I1.laid (t' := s1.toks) (fun b u e => Heap.get?_push_of_some _ e) (Nat.le_refl _) ⟨Heap.get?_push_size _ rfl, z, us, r, ⟨_, Heap.get?_push_size _ rfl, rfl, _, rfl⟩⟩, rfl,
    q _ _ (I1.hok.fresh (Nat.le_refl _)) rfl⟩
theorem each_at {ps : List Addr} {kvs : List (Key × V)} {F : Addr → Key × V → Prop} (h : Paired F ps kvs) : ps.length = kvs.length := h.length
/-- dict(t) -/
theorem call_dictTP (hcalm : X.calm = true) : CallR X (.type "dict") (fun xs H Q => ∃ (a : Addr) (ps : List Addr) (kvs : List (Key × V)), xs = [.ref a] ∧ PlT X.K H a (ps.map V.ref) ∧ Paired (fun p kv => SqT X.K H p [kV kv.1, kv.2]) ps kvs ∧
    ∀ p, H p = none → Q (.ref p) (upd H p (.dK (mergeK [] kvs)))) := by
  intro pins s σ H xs us Q I r ⟨a, ps, kvs, ex, hq, hp, q⟩
  subst ex
  obtain ⟨u, rfl, rx⟩ := vals1 r
  cases rx
  obtain ⟨its, rv, pl, hz⟩ := PlT.at_ I hq
  have ei := refs_at rv
  subst ei
  rw [List.length_map] at hz
  obtain ⟨prs, rel, hl, hpr⟩ := pairs_of I hp
  -- the pairs as values
  obtain ⟨raw, hraw⟩ : ∃ raw : List (Value × Value), raw.length = prs.length ∧ ∀ (j : Nat) (p : Key × Value), prs[j]? = some p → ∃ (b : Addr) (u : Value), ps[j]? = some b ∧ raw[j]? = some (u, p.2) ∧ IsTup s.heap b #[u, p.2] ∧ keyIs p.1 u = true := by
    clear rel q hp
    revert hl hpr
    generalize ps = qs
    induction prs generalizing qs with
    | nil => exact fun _ _ => ⟨[], rfl, fun j p e => by cases e⟩
    | cons p prs ih =>
      intro hl hpr
      cases qs with
      | nil => cases hl
      | cons b qs =>
        obtain ⟨raw, h1, h2⟩ := ih qs (by simpa using hl) fun j z e => by
          obtain ⟨b2, u2, e1, e2⟩ := hpr (j + 1) z e
          exact ⟨b2, u2, e1, e2⟩
        obtain ⟨b0, u0, e0, e1, e2⟩ := hpr 0 p rfl
        refine ⟨(u0, p.2) :: raw, by rw [List.length_cons, List.length_cons, h1], fun j z e => ?_⟩
        cases j with
        | zero =>
          cases e
          exact ⟨b0, u0, e0, rfl, e1, e2⟩
        | succ j => exact h2 j z e
  obtain ⟨rl, hraw⟩ := hraw
  have items : PairItems s.heap (ps.map Value.ref).toArray (fun j => ps.getD j 0) raw := by
    refine ⟨by rw [List.size_toArray, List.length_map, rl, hl], fun j k v e => ?_⟩
    have hj := (List.getElem?_eq_some_iff.mp e).1
    obtain ⟨b, u, e1, e2, e3, e4⟩ := hraw j (prs[j]'(by omega)) (List.getElem?_eq_getElem _)
    rw [e] at e2
    cases e2
    have eb : ps.getD j 0 = b := by rw [List.getD_eq_getElem?_getD, e1]; rfl
    exact ⟨by show (ps.map Value.ref).toArray[j]? = some (.ref (ps.getD j 0)); rw [eb]; simp [e1], .inl (by show IsTup s.heap (ps.getD j 0) _; rw [eb]; exact e3)⟩
  have have_ : PairsHave (mixKind X.prog X.w) raw.length (PairRel raw) prs := by
    refine ⟨rl.symm, fun i key v e => ?_⟩
    have hi := (List.getElem?_eq_some_iff.mp e).1
    obtain ⟨b, u, e1, e2, e3, e4⟩ := hraw i (prs[i]'(by omega)) (List.getElem?_eq_getElem _)
    rw [show raw[i]? = some (key, v) from e] at e2
    cases e2
    exact ⟨(prs[i]'(by omega)).1, List.getElem?_eq_getElem _, e4⟩
  refine PySem.call_dict_pairs (PairArg.tuple a (ps.map Value.ref).toArray (fun j => ps.getD j 0) raw) (I.ok.hd hcalm) ⟨pl, items⟩ have_ (by rw [rl, hl]; exact hz) fun h' tk hd' k => ?_
  have hm : (s.heap.objs.size == sysModules) = false := beq_eq_false_iff_ne.mpr (Nat.ne_of_gt I.big)
  have hlen : (mergeK [] kvs).length ≤ sizeLine := by
    refine Nat.le_trans (length_mergeK kvs []) ?_
    rw [List.length_nil, Nat.zero_add, rel.length, hl]
    exact hz
  exact ⟨.ref s.heap.objs.size, upd H s.heap.objs.size (.dK (mergeK [] kvs)), I.laid (t' := tk) (fun b o e => k b o (by simp) e) (Nat.le_refl _) (show ObjOk X.prog X.w _ _ _ (.dK (mergeK [] kvs)) from ⟨hlen, hm, merged [] prs, KV.merge rel .nil, hd'⟩), rfl, q _ (I.hok.fresh (Nat.le_refl _))⟩
end
end QN

/-! heaps that differ in new things and in what the code tables hold -/
namespace Qp
open PySem PySem.Spec PyProof.Rows L2 QN
def NoTb (o : HO) : Prop := ∀ ps, o ≠ .tbl ps
/-- what is no table stands as it stood, tables are tables -/
structure Sim (H H' : Hp) : Prop where
  st : ∀ b o, NoTb o → H b = some o → H' b = some o
  tb : ∀ b, GxR.TabG H b → GxR.TabG H' b
theorem Sim.refl (H : Hp) : Sim H H := ⟨fun _ _ _ e => e, fun _ e => e⟩
theorem Sim.trans {H H1 H2 : Hp} (a : Sim H H1) (b : Sim H1 H2) : Sim H H2 := ⟨fun c o n e => b.st c o n (a.st c o n e), fun c e => b.tb c (a.tb c e)⟩
theorem tabG_same {H H' : Hp} {b : Addr} (s : Same H H') (h : GxR.TabG H b) : GxR.TabG H' b := by
  obtain ⟨ps, e, t⟩ := h
  exact ⟨ps, s _ _ e, t⟩
theorem Sim.of {H H' : Hp} (s : Same H H') : Sim H H' := ⟨fun _ _ _ e => s _ _ e, fun _ e => tabG_same s e⟩
theorem Sim.tabbed {H H' : Hp} {P : Addr} (g : GxR.TabG H P) (h : GxR.Tabbed P H H') : Sim H H' := by
  obtain ⟨t, k⟩ := h
  refine ⟨fun b o n e => ?_, fun b e => ?_⟩
  · by_cases z : b = P
    · obtain ⟨ps, e2, _⟩ := g
      rw [z, e2] at e
      cases e
      exact absurd rfl (n ps)
    · rw [k b z]
      exact e
  · by_cases z : b = P
    · rw [z]
      exact t
    · obtain ⟨ps, e2, t2⟩ := e
      exact ⟨ps, by rw [k b z]; exact e2, t2⟩
theorem nt_lst (xs : List V) : NoTb (.lst xs) := fun _ e => by cases e
theorem nt_tup (xs : List V) : NoTb (.tup xs) := fun _ e => by cases e
theorem nt_frz (o : Obj) (u : HO) : NoTb (.frz o u) := fun _ e => by cases e
theorem nt_ins (C dx : Addr) (fs : List (Str × V)) : NoTb (.ins C dx fs) := fun _ e => by cases e
theorem nt_dK (kvs : List (Key × V)) : NoTb (.dK kvs) := fun _ e => by cases e
theorem sqT_sim {K : PySem.W.Frag} {H H' : Hp} (s : Sim H H') {q : Addr} {xs : List V} (h : SqT K H q xs) : SqT K H' q xs := by
  rcases h with (h | ⟨o, h⟩) | h
  · exact .inl (.inl (s.st _ _ (nt_tup _) h))
  · exact .inl (.inr ⟨o, s.st _ _ (nt_frz _ _) h⟩)
  · exact .inr h
theorem sqL_sim {K : PySem.W.Frag} {H H' : Hp} (s : Sim H H') {q : Addr} {xs : List V} (h : SqL K H q xs) : SqL K H' q xs := by
  rcases h with (h | ⟨o, h⟩) | h
  · exact .inl (.inl (s.st _ _ (nt_lst _) h))
  · exact .inl (.inr ⟨o, s.st _ _ (nt_frz _ _) h⟩)
  · exact .inr h
mutual
theorem dp_sim {K : PySem.W.Frag} {H H' : Hp} (s : Sim H H') : ∀ (d : PyData) (v : V), Dp K H v d → Dp K H' v d
  | .none, _, h => by cases h; exact .non
  | .bool b, _, h => by cases h; exact .bl b
  | .int i, _, h => by cases h; exact .int i
  | .str x, _, h => by cases h; exact .str x
  | .list ds, _, h => by
    cases h with
    | lst a b => exact .lst (sqL_sim s a) (dpAll_sim s ds _ b)
  | .tuple ds, _, h => by
    cases h with
    | tup a b => exact .tup (sqT_sim s a) (dpAll_sim s ds _ b)
  | .dict _, _, h => by cases h
theorem dpAll_sim {K : PySem.W.Frag} {H H' : Hp} (s : Sim H H') : ∀ (ds : List PyData) (vs : List V), DpAll K H vs ds → DpAll K H' vs ds
  | [], _, h => by cases h; exact .nil
  | d :: ds, _, h => by
    cases h with
    | cons a b => exact .cons (dp_sim s d _ a) (dpAll_sim s ds _ b)
end
/-- the same, but for what stands at x -/
structure SimX (x : Addr) (H H' : Hp) : Prop where
  st : ∀ b o, b ≠ x → NoTb o → H b = some o → H' b = some o
  tb : ∀ b, b ≠ x → GxR.TabG H b → GxR.TabG H' b
theorem SimX.of {x : Addr} {H H' : Hp} (s : Sim H H') : SimX x H H' := ⟨fun b o _ n e => s.st b o n e, fun b _ e => s.tb b e⟩
theorem SimX.trans {x : Addr} {H H1 H2 : Hp} (a : SimX x H H1) (b : SimX x H1 H2) : SimX x H H2 := ⟨fun c o z n e => b.st c o z n (a.st c o z n e), fun c z e => b.tb c z (a.tb c z e)⟩
theorem simX_upd {x : Addr} {H : Hp} {o : HO} : SimX x H (upd H x o) := ⟨fun b u z _ e => by rw [upd_ne z]; exact e, fun b z ⟨ps, e, t⟩ => ⟨ps, by rw [upd_ne z]; exact e, t⟩⟩
/-- behind a new object at x with its dict at dx -/
theorem sim_made {H H' : Hp} {x dx C : Addr} (hx : H x = none) (hd : H dx = none) (s : SimX x (upd (upd H dx (.own x)) x (.ins C dx [])) H') : Sim H H' := by
  have ne : ∀ c o, H c = some o → c ≠ x ∧ c ≠ dx := fun c o e => ⟨fun z => (by rw [z, hx] at e; cases e), fun z => (by rw [z, hd] at e; cases e)⟩
  refine ⟨fun c o n e => ?_, fun c ⟨ps, e, t⟩ => ?_⟩
  · obtain ⟨n1, n2⟩ := ne c o e
    exact s.st c o n1 n (by rw [upd_ne n1, upd_ne n2]; exact e)
  · obtain ⟨n1, n2⟩ := ne c _ e
    exact s.tb c n1 ⟨ps, by rw [upd_ne n1, upd_ne n2]; exact e, t⟩
theorem sqT_simX {K : PySem.W.Frag} {x : Addr} {H H' : Hp} {o : HO} (s : SimX x H H') (hx : H x = some o) (n1 : ∀ xs, o ≠ .tup xs) (n2 : ∀ b u, o ≠ .frz b u) {q : Addr} {xs : List V} (h : SqT K H q xs) : SqT K H' q xs := by
  rcases h with (h | ⟨b, h⟩) | h
  · exact .inl (.inl (s.st _ _ (fun z => by rw [z, hx] at h; exact n1 _ (Option.some.inj h)) (nt_tup _) h))
  · exact .inl (.inr ⟨b, s.st _ _ (fun z => by rw [z, hx] at h; exact n2 _ _ (Option.some.inj h)) (nt_frz _ _) h⟩)
  · exact .inr h
theorem sqL_simX {K : PySem.W.Frag} {x : Addr} {H H' : Hp} {o : HO} (s : SimX x H H') (hx : H x = some o) (n1 : ∀ xs, o ≠ .lst xs) (n2 : ∀ b u, o ≠ .frz b u) {q : Addr} {xs : List V} (h : SqL K H q xs) : SqL K H' q xs := by
  rcases h with (h | ⟨b, h⟩) | h
  · exact .inl (.inl (s.st _ _ (fun z => by rw [z, hx] at h; exact n1 _ (Option.some.inj h)) (nt_lst _) h))
  · exact .inl (.inr ⟨b, s.st _ _ (fun z => by rw [z, hx] at h; exact n2 _ _ (Option.some.inj h)) (nt_frz _ _) h⟩)
  · exact .inr h
/-- a row's tuple, its change a tuple without a dict -/
def PlRow (K : PySem.W.Frag) (H : Hp) (u : V) (r : Row) : Prop := ∃ (a c : Addr) (xs : List V), u = .ref a ∧ SqT K H a [.str r.n, .str r.s, .str r.t, .ref c] ∧ PlT K H c xs ∧ DpAll K H xs (r.c.map pairD)
theorem plRow_dp {K : PySem.W.Frag} {H : Hp} {u : V} {r : Row} (h : PlRow K H u r) : Dp K H u (rowD r) := by
  obtain ⟨a, c, xs, rfl, h1, h2, h3⟩ := h
  exact .tup h1 (.cons (.str _) (.cons (.str _) (.cons (.str _) (.cons (.tup h2.1 h3) .nil))))
theorem plAll_dp {K : PySem.W.Frag} {H : Hp} : ∀ {us : List V} {rs : List Row}, Paired (PlRow K H) us rs → DpAll K H us (rs.map rowD)
  | _, _, .nil => .nil
  | _, _, .cons h t => .cons (plRow_dp h) (plAll_dp t)
theorem pairD_inj {p q : Str × Int} (h : pairD p = pairD q) : p = q := by
  unfold pairD at h
  injection h with h
  injection h with h1 h
  injection h with h2 _
  injection h1 with h1
  injection h2 with h2
  exact Prod.ext h1 h2
theorem chD_inj : ∀ {c d : List (Str × Int)}, c.map pairD = d.map pairD → c = d
  | [], [], _ => rfl
  | [], _ :: _, h => by cases h
  | _ :: _, [], h => by cases h
  | p :: c, q :: d, h => by
    rw [List.map_cons, List.map_cons] at h
    injection h with h1 h2
    rw [pairD_inj h1, chD_inj h2]
theorem rowD_inj {p q : Row} (h : rowD p = rowD q) : p = q := by
  unfold rowD chD at h
  injection h with h
  injection h with h1 h
  injection h with h2 h
  injection h with h3 h
  injection h with h4 _
  injection h1 with h1
  injection h2 with h2
  injection h3 with h3
  injection h4 with h4
  cases p
  cases q
  cases h1
  cases h2
  cases h3
  cases (chD_inj h4)
  rfl
theorem plAll_zip {K : PySem.W.Frag} {H : Hp} : ∀ {us : List V} {rs : List Row}, Paired (PlRow K H) us rs → ∀ b ∈ us.zip (rs.map rowD), ∃ r, b.2 = rowD r ∧ PlRow K H b.1 r
  | _, _, .nil, b, hb => by cases hb
  | _, _, .cons (b := r) h t, b, hb => by
    rcases List.mem_cons.mp hb with rfl | hb
    · exact ⟨r, rfl, h⟩
    · exact plAll_zip t b hb
theorem zip_plAll {K : PySem.W.Frag} {H : Hp} : ∀ {bs : List (V × PyData)} {rs : List Row}, bs.map (·.2) = rs.map rowD → (∀ b ∈ bs, ∃ r, b.2 = rowD r ∧ PlRow K H b.1 r) → Paired (PlRow K H) (bs.map (·.1)) rs
  | [], [], _, _ => .nil
  | [], _ :: _, h, _ => by cases h
  | _ :: _, [], h, _ => by cases h
  | b :: bs, r :: rs, h, k => by
    rw [List.map_cons, List.map_cons] at h
    injection h with h1 h2
    obtain ⟨r', e, p⟩ := k b List.mem_cons_self
    have er : r' = r := rowD_inj (e.symm.trans h1)
    subst er
    exact .cons p (zip_plAll h2 fun c hc => k c (List.mem_cons_of_mem _ hc))
theorem plT_sim {K : PySem.W.Frag} {H H' : Hp} (s : Sim H H') {a : Addr} {xs : List V} (h : PlT K H a xs) : PlT K H' a xs := by
  obtain ⟨h1, h2⟩ := h
  refine ⟨sqT_sim s h1, ?_⟩
  rcases h2 with ⟨o, h, d⟩ | h
  · exact .inl ⟨o, s.st _ _ (nt_frz _ _) h, d⟩
  · exact .inr h
theorem plT_simX {K : PySem.W.Frag} {x : Addr} {H H' : Hp} {o : HO} (s : SimX x H H') (hx : H x = some o) (n1 : ∀ xs, o ≠ .tup xs) (n2 : ∀ b u, o ≠ .frz b u) {q : Addr} {xs : List V} (h : PlT K H q xs) : PlT K H' q xs := by
  obtain ⟨h1, h2⟩ := h
  refine ⟨sqT_simX s hx n1 n2 h1, ?_⟩
  rcases h2 with ⟨b, h, d⟩ | h
  · exact .inl ⟨b, s.st _ _ (fun z => by rw [z, hx] at h; exact n2 _ _ (Option.some.inj h)) (nt_frz _ _) h, d⟩
  · exact .inr h
mutual
/-- data stay, whatever becomes of an instance -/
theorem dp_simX {K : PySem.W.Frag} {x C dx : Addr} {fs : List (Str × V)} {H H' : Hp} (s : SimX x H H') (hx : H x = some (.ins C dx fs)) : ∀ (d : PyData) (v : V), Dp K H v d → Dp K H' v d
  | .none, _, h => by cases h; exact .non
  | .bool b, _, h => by cases h; exact .bl b
  | .int i, _, h => by cases h; exact .int i
  | .str x, _, h => by cases h; exact .str x
  | .list ds, _, h => by
    cases h with
    | lst a b => exact .lst (sqL_simX s hx (fun _ e => by cases e) (fun _ _ e => by cases e) a) (dpAll_simX s hx ds _ b)
  | .tuple ds, _, h => by
    cases h with
    | tup a b => exact .tup (sqT_simX s hx (fun _ e => by cases e) (fun _ _ e => by cases e) a) (dpAll_simX s hx ds _ b)
  | .dict _, _, h => by cases h
theorem dpAll_simX {K : PySem.W.Frag} {x C dx : Addr} {fs : List (Str × V)} {H H' : Hp} (s : SimX x H H') (hx : H x = some (.ins C dx fs)) : ∀ (ds : List PyData) (vs : List V), DpAll K H vs ds → DpAll K H' vs ds
  | [], _, h => by cases h; exact .nil
  | d :: ds, _, h => by
    cases h with
    | cons a b => exact .cons (dp_simX s hx d _ a) (dpAll_simX s hx ds _ b)
end
theorem plRow_sim {K : PySem.W.Frag} {H H' : Hp} (s : Sim H H') {u : V} {r : Row} (h : PlRow K H u r) : PlRow K H' u r := by
  obtain ⟨a, c, xs, rfl, h1, h2, h3⟩ := h
  exact ⟨a, c, xs, rfl, sqT_sim s h1, plT_sim s h2, dpAll_sim s _ _ h3⟩
theorem plRow_simX {K : PySem.W.Frag} {x C dx : Addr} {fs : List (Str × V)} {H H' : Hp} (s : SimX x H H') (hx : H x = some (.ins C dx fs)) {u : V} {r : Row} (h : PlRow K H u r) : PlRow K H' u r := by
  obtain ⟨a, c, xs, rfl, h1, h2, h3⟩ := h
  exact ⟨a, c, xs, rfl, sqT_simX s hx (fun _ e => by cases e) (fun _ _ e => by cases e) h1, plT_simX s hx (fun _ e => by cases e) (fun _ _ e => by cases e) h2, dpAll_simX s hx _ _ h3⟩
theorem plAll_sim {K : PySem.W.Frag} {H H' : Hp} (s : Sim H H') {us : List V} {rs : List Row} (h : Paired (PlRow K H) us rs) : Paired (PlRow K H') us rs := Paired.mapP h fun _ _ p => plRow_sim s p
theorem plAll_simX {K : PySem.W.Frag} {x C dx : Addr} {fs : List (Str × V)} {H H' : Hp} (s : SimX x H H') (hx : H x = some (.ins C dx fs)) {us : List V} {rs : List Row} (h : Paired (PlRow K H) us rs) : Paired (PlRow K H') us rs := Paired.mapP h fun _ _ p => plRow_simX s hx p
end Qp

/-! the class Graph: a graph is made -/
namespace Qp
open PySem PySem.Spec PyProof.Rows L2 QN
open PySem.W PySem.SeqAt
abbrev cGraph : Stmt := top 26 -- Graph
abbrev sGInit : Stmt := inClass cGraph 0 -- Graph.__init__
abbrev gInames : List Str := ["self", "counters", "states", "transitions", "row"]
theorem scGI : FnScope gInames ["self", "counters", "states", "transitions"] (defScope sGInit) := ⟨rfl, rfl, rfl, by decide +kernel, rfl, by decide +kernel, by decide +kernel⟩
/-- what the class has -/
structure GraphC (K : PySem.W.Frag) (mg : Str → Option Value) (C : Addr) : Prop where
  gC : mg "Graph" = some (.ref C)
  cls : Cls K C
  n1 : NoAttr K C "_counters"
  n2 : NoAttr K C "_states"
  n3 : NoAttr K C "_rows"
  n4 : NoAttr K C "_names"
  n5 : NoAttr K C "_by_name"
  n6 : NoAttr K C "_kept"
/-- a graph: its counters, its states, its rows by their names -/
structure Gr where
  cs : List Str
  ns : List Str
  rs : List Row
structure Gr.Ok (G : Gr) : Prop where
  ca : G.cs.Pairwise lts
  na : G.ns.Pairwise lts
  ra : (G.rs.map (·.n)).Pairwise lts
  cl : G.cs.length ≤ 5
  nl : G.ns.length ≤ 8
  rl : G.rs.length ≤ 16
  ro : ∀ r ∈ G.rs, RowOk r
  cn : ∀ c ∈ G.cs, NameOk c
  nn : ∀ c ∈ G.ns, NameOk c
def gFields (c t r n b k : Addr) : List (Str × V) := [("_counters", .ref c), ("_states", .ref t), ("_rows", .ref r), ("_names", .ref n), ("_by_name", .ref b), ("_kept", .ref k)]
def byName (rs : List Row) (us : List V) : List (Key × V) := (rs.zip us).map fun p => (Sum.inr p.1.n, p.2)
theorem byName_len (rs : List Row) (us : List V) : (byName rs us).length ≤ rs.length := by
  unfold byName
  rw [List.length_map, List.length_zip]
  exact Nat.min_le_left _ _
theorem byName_put {rs : List Row} {us : List V} {i : Nat} {r : Row} {u : V} (nd : (rs.map (·.n)).Nodup) (hr : rs[i]? = some r) (hu : us[i]? = some u) :
    putK (byName (rs.take i) (us.take i)) (Sum.inr r.n) u = byName (rs.take (i + 1)) (us.take (i + 1)) := by
  have hi := (List.getElem?_eq_some_iff.mp hr).1
  have hj := (List.getElem?_eq_some_iff.mp hu).1
  have e : byName (rs.take (i + 1)) (us.take (i + 1)) = byName (rs.take i) (us.take i) ++ [(Sum.inr r.n, u)] := by
    unfold byName
    rw [List.take_add_one, List.take_add_one, hr, hu, List.zip_append (by rw [List.length_take, List.length_take]; omega), List.map_append]
    rfl
  rw [e]
  unfold putK
  rw [if_neg]
  unfold byName
  rw [List.any_map]
  simp only [List.any_eq_true, Function.comp_apply, decide_eq_true_eq, not_exists, not_and]
  rintro ⟨q, w⟩ hq c
  have c2 : q.n = r.n := Sum.inr.inj c
  have m := (List.of_mem_zip hq).1
  have s : rs = rs.take i ++ rs.drop i := (List.take_append_drop i rs).symm
  rw [s, List.map_append] at nd
  have d := (List.nodup_append.mp nd).2.2
  refine d q.n (List.mem_map.mpr ⟨q, m, rfl⟩) r.n (List.mem_map.mpr ⟨r, ?_, rfl⟩) c2
  refine List.mem_of_getElem? (i := 0) ?_
  rw [List.getElem?_drop, Nat.add_zero]
  exact hr
/-- what the fields of a graph hold -/
structure GHas (K : PySem.W.Frag) (H : Hp) (G : Gr) (c t r n b k : Addr) (us : List V) : Prop where
  hc : SqT K H c (G.cs.map V.str)
  ht : SqT K H t (G.ns.map V.str)
  hr : SqT K H r us
  hp : Paired (PlRow K H) us G.rs
  hn : SqT K H n ((G.rs.map (·.n)).map V.str)
  hb : H b = some (.dK (byName G.rs us))
  hk : H k = some (.dK [])
def GraphAt (K : PySem.W.Frag) (C : Addr) (H : Hp) (g : Addr) (G : Gr) : Prop := ∃ dx c t r n b k us, H g = some (.ins C dx (gFields c t r n b k)) ∧ GHas K H G c t r n b k us
theorem GHas.hu {K : PySem.W.Frag} {H : Hp} {G : Gr} {c t r n b k : Addr} {us : List V} (h : GHas K H G c t r n b k us) : DpAll K H us (G.rs.map rowD) := plAll_dp h.hp
theorem gHas_sim {K : PySem.W.Frag} {H H' : Hp} {G : Gr} {c t r n b k : Addr} {us : List V} (s : Sim H H') (h : GHas K H G c t r n b k us) : GHas K H' G c t r n b k us :=
  ⟨sqT_sim s h.hc, sqT_sim s h.ht, sqT_sim s h.hr, plAll_sim s h.hp, sqT_sim s h.hn, s.st _ _ (nt_dK _) h.hb, s.st _ _ (nt_dK _) h.hk⟩
theorem graphAt_sim {K : PySem.W.Frag} {C : Addr} {H H' : Hp} {g : Addr} {G : Gr} (s : Sim H H') (h : GraphAt K C H g G) : GraphAt K C H' g G := by
  obtain ⟨dx, c, t, r, n, b, k, us, h1, h2⟩ := h
  exact ⟨dx, c, t, r, n, b, k, us, s.st _ _ (nt_ins _ _ _) h1, gHas_sim s h2⟩
/-- the parts that __init__ is given, and the graph that they make -/
structure Makes (cs ns : List Str) (rs : List Row) (G : Gr) : Prop where
  ok : ∃ x st, G.ns = x :: st ∧ GOk cs ns rs G.cs x st
  pm : G.rs.Perm rs
  as : (G.rs.map (·.n)).Pairwise lts
/-- __init__'s body: the object at x, still without fields; PI the def's table -/
def spGInit (K : PySem.W.Frag) (C PI : Addr) : Sp := fun vs H Q _ => ∃ (x dx a b v : Addr) (ps : List V) (cs ns : List Str) (rs : List Row) (G : Gr), vs = [.ref x, .ref a, .ref b, .ref v] ∧ H x = some (.ins C dx []) ∧ SqT K H a (cs.map V.str) ∧ SqT K H b (ns.map V.str) ∧ SqT K H v ps ∧ Paired (PlRow K H) ps rs ∧ GxR.TabG H PI ∧ Makes cs ns rs G ∧
  ∀ (c t r n d k : Addr) (us : List V) (H' : Hp), H' x = some (.ins C dx (gFields c t r n d k)) → GHas K H' G c t r n d k us → SimX x H H' → Q .non H'
section
variable {P : Program} {w : World} {K : PySem.W.Frag} {mg : Str → Option Value} {base : Heap}
theorem body_init {fA fI f cI PI C : Addr} {fdA fdI : FuncData} (GA : FnOk P w K mg base CX0 1 fA fdA ["transitions", "states"] (spAll K)) (kA : PySem.W.keepIn K (.ref fA) = true) (bA : L2.Binds K fdA ["transitions", "states"] []) (gA : mg "_all_states" = some (.ref fA))
    (GI : FnOk P w K mg base CX0 6 fI fdI ["counters", "transitions", "states"] (spIsG K)) (kI : PySem.W.keepIn K (.ref fI) = true) (bI : L2.Binds K fdI ["counters", "transitions", "states"] []) (gI : mg "_is_graph" = some (.ref fI)) (B : BltP mg) (L : Lim3 mg) (T : GraphC K mg C) (TB : GxR.TabB base mg cI PI)
    (A : Around) (outer : List Env) (s : Shared) (H : Hp) (vs : List V) (Q : VK) (E : XK) (hr : Room 6 (A.deeper (envOfC "Graph.__init__" (defScope sGInit) s.heap.objs.size f (.ref cI)))) (h : spGInit K C PI vs H Q E) :
    ∃ t, PSs (cxOf CX0 P w K mg base gInames "Graph.__init__" (defScope sGInit) f (.ref cI) A outer s H E) (defBody sGInit) t ∧ t { nx := fun _ H' => Q .non H', rt := Q } (start gInames vs) H := by
  obtain ⟨x, dx, a, b, v, us, cs, ns, rs, G, rfl, hx, ha, hb, hv, hpl, tab, M, k⟩ := h
  have hu := plAll_dp hpl
  have hd : Dp K H (.ref v) (.tuple (rs.map rowD)) := .tup hv hu
  have hu1 : (A.deeper (envOfC "Graph.__init__" (defScope sGInit) s.heap.objs.size f (.ref cI))).units + 64 < cLine := by
    have := hr.un
    omega
  have r1 := hr.mono (by decide : 1 ≤ 6)
  refine ⟨_, pss_cons (ps_if (pt_not (pt_val (pe_call GI hr (by rfl) gI kI bI .nil pass0 (pa_cons (pv 1) (pa_cons (pv 3) (pa_cons (pv 2) pa_nil)))))) (pss_one ps_never) pss_nil)
    (pss_cons (ps_fld (pv 0) (pe_callTy call_tuple_of (by rfl) B.tuple (by decide +kernel) (pa_cons (pe_callB (r := rSortedTx P w) (cr_sortedTx rfl hu1) (by rfl) L.so (by decide +kernel) (pa_cons (pe_callTy (r := rSetTx K P w) (cr_setTx rfl) (by rfl) L.se (by decide +kernel) (pa_cons (pv 1) pa_nil)) pa_nil)) pa_nil)) rfl)
    (pss_cons (ps_fld (pv 0) (pe_callTy call_tuple_of (by rfl) B.tuple (by decide +kernel) (pa_cons (pe_call GA r1 (by rfl) gA kA bA .nil pass0 (pa_cons (pv 3) (pa_cons (pv 2) pa_nil))) pa_nil)) rfl)
    (pss_cons (ps_fld (pv 0) (pe_callTy call_tuple_of (by rfl) B.tuple (by decide +kernel) (pa_cons (pe_callB (r := rSortedDt K) (cr_sortedDt hu1) (by rfl) L.so (by decide +kernel) (pa_cons (pv 3) pa_nil)) pa_nil)) rfl)
    (pss_cons (ps_fld (pv 0) (pe_tupG hr (by rfl) B.tuple TB rfl (sc := defScope sGInit) rfl ⟨rfl, rfl, by decide +kernel, by rfl, by decide +kernel⟩ (pe_fld (pv 0) rfl) (fun _ => rfl) (by decide +kernel)) rfl)
    (pss_cons (ps_fld (pv 0) (pe_dc (own := [("row", 4)]) (g := gName 4) (tt := tYes) (tk := tOp (rIxT K) (tVar 4) (tC (.int 0))) (tv := tVar 4) rfl scGI.nd (pi_tup (pe_fld (pv 0) rfl)) (blkOk_by (N := gInames) (sc := defScope sGInit) (by decide +kernel))
      (fun _ _ _ _ _ => pg_name (i := 4) scGI.nd rfl (.inl rfl)) (fun _ _ _ _ _ => pts_nil) (fun _ _ _ _ _ => pe_ix ix_tup (pv 4) pe_int (fun _ _ => rfl)) (fun _ _ _ _ _ => pv 4)) rfl)
    (pss_one (ps_fld (pv 0) pe_dnewK rfl))))))), ?_⟩
  obtain ⟨⟨x0, st0, eN, GO⟩, pm, as⟩ := M
  have ul : us.length = rs.length := by rw [dpAll_len hu, List.length_map]
  have c16 := GO.cl
  have n16 := GO.nl
  have r16 := GO.rl
  have NT : NoTb (.ins C dx []) := nt_ins _ _ _
  refine ⟨_, rfl, _, rfl, _, rfl, a, b, .ref v, cs, ns, rs, G.cs, x0, st0, rfl, ha, hd, hb, GO, fun H1 s1 => ⟨_, rfl, if_no (by decide) ?_⟩⟩
  -- the counters
  refine ⟨_, rfl, a, cs, rfl, .inr (sqT_same s1 ha), (by show cs.length + 1 < 4096; omega), fun p l hp nd ll me => ⟨p, l, rfl, upd_same, (by omega), fun ce m hce pm2 => ?_⟩⟩
  rw [ec_of nd GO.ea GO.em pm2 me]
  refine ⟨ce, _, rfl, .inl ⟨.inl (.inl upd_same), fun c hc => ⟨_, rfl, x, C, dx, [], rfl, ?_, T.cls, T.n1, by decide, ?_⟩⟩⟩
  · exact (s1.trans ((same_new hp).trans ((same_new hce).trans (same_new hc)))) _ _ hx
  have sA := s1.trans ((same_new (o := TxSetO P w p l) hp).trans ((same_new (o := .lst (G.cs.map V.str)) hce).trans (same_new (o := .tup (G.cs.map V.str)) hc)))
  have fc : SqT K (upd (upd (upd H1 p (TxSetO P w p l)) ce (.lst (G.cs.map V.str))) c (.tup (G.cs.map V.str))) c (G.cs.map V.str) := .inl (.inl upd_same)
  generalize upd (upd (upd H1 p (TxSetO P w p l)) ce (.lst (G.cs.map V.str))) c (.tup (G.cs.map V.str)) = HA at sA fc
  clear hp hce hc me nd ll pm2 s1
  have xA := sA _ _ hx
  have sB : SimX x HA (upd HA x (.ins C dx (putF "_counters" (.ref c) []))) := simX_upd
  have xB : (upd HA x (.ins C dx (putF "_counters" (.ref c) []))) x = some (.ins C dx [("_counters", .ref c)]) := upd_same
  generalize upd HA x (.ins C dx (putF "_counters" (.ref c) [])) = HB at sB xB
  have fcB := sqT_simX sB xA (fun _ e => by cases e) (fun _ _ e => by cases e) fc
  have SB : SimX x H HB := (SimX.of (Sim.of sA)).trans sB
  have nxt : ∀ {xs : List V} {q : Addr}, SqT K H q xs → SqT K HB q xs := fun h => sqT_simX SB hx (fun _ e => by cases e) (fun _ _ e => by cases e) h
  have nxd : ∀ {d : PyData} {v : V}, Dp K H v d → Dp K HB v d := fun h => dp_simX SB hx _ _ h
  -- the states
  refine ⟨_, rfl, _, rfl, .ref v, b, rs, ns, x0 :: st0, rfl, nxd hd, nxt hb, GO.sa, GO.sm, by omega, by omega, fun es H5 s5 hes => ⟨es, _, rfl, .inl ⟨.inl (.inl hes), fun t ht => ⟨_, rfl, x, C, dx, [("_counters", .ref c)], rfl, ?_, T.cls, T.n2, (by show (1 : Nat) < 1000; decide), ?_⟩⟩⟩⟩
  · exact (s5.trans (same_new ht)) _ _ xB
  have sC := s5.trans (same_new (o := .tup ((x0 :: st0).map V.str)) ht)
  have ft : SqT K (upd H5 t (.tup ((x0 :: st0).map V.str))) t (G.ns.map V.str) := by
    rw [eN]
    exact .inl (.inl upd_same)
  generalize upd H5 t (.tup ((x0 :: st0).map V.str)) = HC at sC ft
  clear ht hes s5
  have xC := sC _ _ xB
  have fcC := sqT_same sC fcB
  have sD : SimX x HC (upd HC x (.ins C dx (putF "_states" (.ref t) [("_counters", .ref c)]))) := simX_upd
  have xD : (upd HC x (.ins C dx (putF "_states" (.ref t) [("_counters", .ref c)]))) x = some (.ins C dx [("_counters", .ref c), ("_states", .ref t)]) := upd_same
  generalize upd HC x (.ins C dx (putF "_states" (.ref t) [("_counters", .ref c)])) = HD at sD xD
  have fcD := sqT_simX sD xC (fun _ e => by cases e) (fun _ _ e => by cases e) fcC
  have ftD := sqT_simX sD xC (fun _ e => by cases e) (fun _ _ e => by cases e) ft
  have SD := SB.trans ((SimX.of (Sim.of sC)).trans sD)
  clear nxt nxd
  have nxt : ∀ {xs : List V} {q : Addr}, SqT K H q xs → SqT K HD q xs := fun h => sqT_simX SD hx (fun _ e => by cases e) (fun _ _ e => by cases e) h
  have nxa : ∀ {ds : List PyData} {vs : List V}, DpAll K H vs ds → DpAll K HD vs ds := fun h => dpAll_simX SD hx _ _ h
  -- the rows
  have nd : (rs.map (·.n)).Nodup := (List.nodup_append.mp GO.nd).2.1
  have bz1 : (us.zip (rs.map rowD)).map (·.1) = us := fst_zip (by rw [List.length_map]; exact ul)
  have bz2 : (us.zip (rs.map rowD)).map (·.2) = rs.map rowD := snd_zip (by rw [List.length_map]; exact ul)
  refine ⟨_, rfl, v, us.zip (rs.map rowD), rfl, .inr (by rw [bz1]; exact nxt hv), zip_dpAll (nxa hu), (by rw [bz2]; exact AllAlike.of alike_row), (by rw [bz2]; exact Sortable.tuples fun r => ⟨_, _, rfl⟩), fun p hp => ?_, fun rl hrl => ⟨rl, _, rfl, .inl ⟨.inl (.inl upd_same), fun r hr2 => ⟨_, rfl, x, C, dx, [("_counters", .ref c), ("_states", .ref t)], rfl, ?_, T.cls, T.n3, (by show (2 : Nat) < 1000; decide), ?_⟩⟩⟩⟩
  · have m : p.2 ∈ rs.map rowD := by
      rw [← bz2]
      exact List.mem_map.mpr ⟨p, hp, rfl⟩
    obtain ⟨q, _, e⟩ := List.mem_map.mp m
    rw [← e]
    have := depth_row q
    omega
  · exact ((same_new hrl).trans (same_new hr2)) _ _ xD
  have hu2 : DpAll K HD (((us.zip (rs.map rowD)).mergeSort (dataLe false (·.2))).map (·.1)) (G.rs.map rowD) := by
    have z := dpAll_zip (bs := (us.zip (rs.map rowD)).mergeSort (dataLe false (·.2))) fun q hq => zip_dpAll (nxa hu) q ((List.mergeSort_perm _ _).mem_iff.mp hq)
    rw [sort_rows ul nd pm as] at z
    exact z
  have hws : Paired (PlRow K HD) (((us.zip (rs.map rowD)).mergeSort (dataLe false (·.2))).map (·.1)) G.rs := zip_plAll (sort_rows ul nd pm as) fun q hq => by
    obtain ⟨r, e, p⟩ := plAll_zip hpl q ((List.mergeSort_perm _ _).mem_iff.mp hq)
    exact ⟨r, e, plRow_simX SD hx p⟩
  generalize ((us.zip (rs.map rowD)).mergeSort (dataLe false (·.2))).map (·.1) = ws at hu2 hr2 hws
  have wl : ws.length = G.rs.length := by rw [dpAll_len hu2, List.length_map]
  have sE := (same_new (o := .lst ws) hrl).trans (same_new (o := .tup ws) hr2)
  have fr : SqT K (upd (upd HD rl (.lst ws)) r (.tup ws)) r ws := .inl (.inl upd_same)
  generalize upd (upd HD rl (.lst ws)) r (.tup ws) = HE at sE fr
  clear hrl hr2 bz1 bz2
  have xE := sE _ _ xD
  have fcE := sqT_same sE fcD
  have ftE := sqT_same sE ftD
  have huE := dpAll_same sE _ _ hu2
  have hwE := plAll_sim (Sim.of sE) hws
  have sF : SimX x HE (upd HE x (.ins C dx (putF "_rows" (.ref r) [("_counters", .ref c), ("_states", .ref t)]))) := simX_upd
  have xF : (upd HE x (.ins C dx (putF "_rows" (.ref r) [("_counters", .ref c), ("_states", .ref t)]))) x = some (.ins C dx [("_counters", .ref c), ("_states", .ref t), ("_rows", .ref r)]) := upd_same
  generalize upd HE x (.ins C dx (putF "_rows" (.ref r) [("_counters", .ref c), ("_states", .ref t)])) = HF at sF xF
  have fcF := sqT_simX sF xE (fun _ e => by cases e) (fun _ _ e => by cases e) fcE
  have ftF := sqT_simX sF xE (fun _ e => by cases e) (fun _ _ e => by cases e) ftE
  have frF := sqT_simX sF xE (fun _ e => by cases e) (fun _ _ e => by cases e) fr
  have huF := dpAll_simX sF xE _ _ huE
  have hwF := plAll_simX sF xE hwE
  have SF := SD.trans ((SimX.of (Sim.of sE)).trans sF)
  clear nxt nxa
  have nxP : PI ≠ x := fun z => by
    obtain ⟨ps, e, _⟩ := tab
    rw [z, hx] at e
    cases e
  have tabF := SF.tb _ nxP tab
  -- the names
  have rows : ∀ j z, ws[j]? = some z → ∃ (q : Addr) (zs : List V), z = .ref q ∧ SqT K HF q zs ∧ atI zs 0 = some (.str ((G.rs.map (fun r : Row => r.n)).getD j "")) := fun j z hz => by
    obtain ⟨d, hd', dz⟩ := dpAll_at huF hz
    rw [List.getElem?_map] at hd'
    cases hc : G.rs[j]? with
    | none => rw [hc] at hd'; cases hd'
    | some row =>
      rw [hc] at hd'
      cases (Option.some.inj hd' : rowD row = d)
      obtain ⟨q, cv, rfl, hq, _⟩ := dp_row dz
      refine ⟨q, _, rfl, hq, ?_⟩
      rw [List.getD_eq_getElem?_getD, List.getElem?_map, hc]
      rfl
  refine ⟨_, rfl, x, C, dx, _, _, rfl, xF, T.cls, T.n3, rfl, r, ws, fun _ => true, fun j => .str ((G.rs.map (fun r : Row => r.n)).getD j ""), rfl, frF, tabF, body_ix tabF rfl rfl rfl rows, fun H2 n TT hn2 => ⟨_, rfl, x, C, dx, [("_counters", .ref c), ("_states", .ref t), ("_rows", .ref r)], rfl, ?_, T.cls, T.n4, (by show (3 : Nat) < 1000; decide), ?_⟩⟩
  · exact same_new hn2 _ _ ((Sim.tabbed tabF TT).st _ _ (nt_ins _ _ _) xF)
  have kept : keptG ws.length (fun _ => true) (fun j => V.str ((G.rs.map (fun r : Row => r.n)).getD j "")) = (G.rs.map (·.n)).map V.str := by
    unfold keptG
    rw [List.filter_eq_self.mpr (fun _ _ => rfl), wl]
    refine List.ext_getElem? fun i => ?_
    rw [List.getElem?_map, List.getElem?_map]
    rcases Nat.lt_or_ge i G.rs.length with lt | ge
    · rw [List.getElem?_range lt, Option.map_some, List.getD_eq_getElem?_getD, List.getElem?_map, List.getElem?_eq_getElem lt]
      rfl
    · rw [List.getElem?_eq_none (by rw [List.length_range]; exact ge), List.getElem?_eq_none (by rw [List.length_map]; exact ge)]
      rfl
  rw [kept]
  have sG := (Sim.tabbed tabF TT).trans (Sim.of (same_new (o := .tup ((G.rs.map (·.n)).map V.str)) hn2))
  have fn : SqT K (upd H2 n (.tup ((G.rs.map (·.n)).map V.str))) n ((G.rs.map (·.n)).map V.str) := .inl (.inl upd_same)
  generalize upd H2 n (.tup ((G.rs.map (·.n)).map V.str)) = HG at sG fn
  clear hn2 TT
  have xG := sG.st _ _ (nt_ins _ _ _) xF
  have sH : SimX x HG (upd HG x (.ins C dx (putF "_names" (.ref n) [("_counters", .ref c), ("_states", .ref t), ("_rows", .ref r)]))) := simX_upd
  have xH : (upd HG x (.ins C dx (putF "_names" (.ref n) [("_counters", .ref c), ("_states", .ref t), ("_rows", .ref r)]))) x = some (.ins C dx [("_counters", .ref c), ("_states", .ref t), ("_rows", .ref r), ("_names", .ref n)]) := upd_same
  generalize upd HG x (.ins C dx (putF "_names" (.ref n) [("_counters", .ref c), ("_states", .ref t), ("_rows", .ref r)])) = HH at sH xH
  have fcH := sqT_simX sH xG (fun _ e => by cases e) (fun _ _ e => by cases e) (sqT_sim sG fcF)
  have ftH := sqT_simX sH xG (fun _ e => by cases e) (fun _ _ e => by cases e) (sqT_sim sG ftF)
  have frH := sqT_simX sH xG (fun _ e => by cases e) (fun _ _ e => by cases e) (sqT_sim sG frF)
  have huH := dpAll_simX sH xG _ _ (dpAll_sim sG _ _ huF)
  have hwH := plAll_simX sH xG (plAll_sim sG hwF)
  have fnH := sqT_simX sH xG (fun _ e => by cases e) (fun _ _ e => by cases e) fn
  have SH := SF.trans ((SimX.of sG).trans sH)
  -- the rows by their names
  have nd2 : (G.rs.map (·.n)).Nodup := (pm.map _).nodup_iff.mpr nd
  refine ⟨_, rfl, x, C, dx, _, _, rfl, xH, T.cls, T.n3, rfl, r, rfl, ⟨_, frH⟩, fun D hD => ?_⟩
  refine dc_tup (xs := ws) (fun i H' => Same HH H' ∧ H' D = some (.dK (byName (G.rs.take i) (ws.take i)))) ⟨same_new hD, upd_same⟩ (fun i H' _ p => sqT_same p.1 frH) (fun i z H' hz p => ?_) fun H' p => ?_
  · obtain ⟨p1, p2⟩ := p
    obtain ⟨d, hd', dz⟩ := dpAll_at (dpAll_same p1 _ _ huH) hz
    rw [List.getElem?_map] at hd'
    cases hc : G.rs[i]? with
    | none => rw [hc] at hd'; cases hd'
    | some row =>
      rw [hc] at hd'
      cases (Option.some.inj hd' : rowD row = d)
      obtain ⟨q, cv, rfl, hq, _⟩ := dp_row dz
      refine ⟨rfl, yes_if ⟨_, rfl, q, _, 0, .str row.n, rfl, rfl, hq, rfl, _, rfl, byName (G.rs.take i) (ws.take i), Sum.inr row.n, rfl, p2, ?_, same_upd' p1 hD, ?_⟩⟩
      · refine Nat.lt_of_le_of_lt (byName_len _ _) ?_
        rw [List.length_take, sizeLine_eq, pm.length_eq]
        omega
      · rw [upd_same, byName_put nd2 hc hz]
  obtain ⟨sm, hb2⟩ := p
  rw [List.take_of_length_le (by rw [wl]; exact Nat.le_refl _), List.take_of_length_le (Nat.le_refl _)] at hb2
  refine ⟨_, rfl, x, C, dx, [("_counters", .ref c), ("_states", .ref t), ("_rows", .ref r), ("_names", .ref n)], rfl, sm _ _ xH, T.cls, T.n5, (by show (4 : Nat) < 1000; decide), ?_⟩
  have xI := sm _ _ xH
  have sJ : SimX x H' (upd H' x (.ins C dx (putF "_by_name" (.ref D) [("_counters", .ref c), ("_states", .ref t), ("_rows", .ref r), ("_names", .ref n)]))) := simX_upd
  have xJ : (upd H' x (.ins C dx (putF "_by_name" (.ref D) [("_counters", .ref c), ("_states", .ref t), ("_rows", .ref r), ("_names", .ref n)]))) x = some (.ins C dx [("_counters", .ref c), ("_states", .ref t), ("_rows", .ref r), ("_names", .ref n), ("_by_name", .ref D)]) := upd_same
  generalize upd H' x (.ins C dx (putF "_by_name" (.ref D) [("_counters", .ref c), ("_states", .ref t), ("_rows", .ref r), ("_names", .ref n)])) = HJ at sJ xJ
  -- what is kept
  refine fun kp hkp => ⟨_, rfl, x, C, dx, [("_counters", .ref c), ("_states", .ref t), ("_rows", .ref r), ("_names", .ref n), ("_by_name", .ref D)], rfl, same_new hkp _ _ xJ, T.cls, T.n6, (by show (5 : Nat) < 1000; decide), ?_⟩
  have nx : kp ≠ x := fun z => by rw [z, xJ] at hkp; cases hkp
  have sK : SimX x HJ (upd (upd HJ kp (.dK [])) x (.ins C dx (gFields c t r n D kp))) := (SimX.of (Sim.of (same_new hkp))).trans simX_upd
  have sZ := (SimX.of (Sim.of sm)).trans (sJ.trans sK)
  have nD : D ≠ x := fun z => by
    rw [z, xH] at hD
    cases hD
  refine k c t r n D kp ws (upd (upd HJ kp (.dK [])) x (.ins C dx (gFields c t r n D kp))) upd_same ⟨?_, ?_, ?_, ?_, ?_, ?_, ?_⟩ (SH.trans sZ)
  · exact sqT_simX sZ xH (fun _ e => by cases e) (fun _ _ e => by cases e) fcH
  · exact sqT_simX sZ xH (fun _ e => by cases e) (fun _ _ e => by cases e) ftH
  · exact sqT_simX sZ xH (fun _ e => by cases e) (fun _ _ e => by cases e) frH
  · exact plAll_simX sZ xH hwH
  · exact sqT_simX sZ xH (fun _ e => by cases e) (fun _ _ e => by cases e) fnH
  · exact (sJ.trans sK).st _ _ nD (nt_dK _) hb2
  · rw [upd_ne nx, upd_same]
end
end Qp

/-! a def (a, .., *b, k=..) called without some of its keywords: the defaults stand in the def's dict -/
namespace QN
open PySem PySem.Spec PyProof.Rows L2 PySem.W
/-- t leads to t' where all of h stands -/
def Leads {α : Type} (M : Model) (h : Heap) (t t' : Sem α) : Prop := ∀ (A : Around) (Q : α → Shared → Prop) (E : Value → Shared → Prop) (s : Shared), (∀ b o, h.get? b = some o → s.heap.get? b = some o) → wpAny M A t' Q E s → wpAny M A t Q E s
theorem Leads.of {α : Type} {M : Model} {h : Heap} {t t' : Sem α} (e : t = t') : Leads M h t t' := fun _ _ _ _ _ q => by
  rw [e]
  exact q
theorem Leads.kw {α β γ : Type} {K : Frag} {M : Model} {h : Heap} {D : Addr} {x : Str} {v : Value} {t t' : Sem α} {k1 : Option Value → Sem β} {k2 : β → Sem γ} {k3 : γ → Sem α} {a : β} (X : K.In h) (hv : nsIn K D x = some (some v)) (e1 : t = ((nsGet D x >>= k1) >>= k2) >>= k3)
    (e2 : k1 (some v) = pure a) (e3 : (k2 a >>= k3) = t') : Leads M h t t' := fun A Q E s k q => by
  rw [e1, bind_assoc]
  have l1 : Looks M h (nsGet D x >>= k1) a := (looks_nsIn X hv).andThen (Looks.of_pure e2)
  exact wpAny_bind (l1 A _ E s k (by rw [e3]; exact q))
section
variable {CX : CXT} {P : Program} {w : World} {K : Frag} {mg : Str → Option Value} {base : Heap} {k n : Nat} {f : Addr} {name qual : Str} {params : Arguments} {body : List Stmt} {scope : Scope} {dV kV doc pm cdv ct oc : Value} {an od : Option Addr}
  {osl : Array (Option Value)} {N qs ks : List Str} {sp : Sp}
theorem fn_starL {pv : Str} {dvs : List V} {dv : List Value} (lk : K.lookup f = some ⟨oc, od, .func (fnOf name qual params body scope dV kV doc pm an cdv ct), osl⟩) (hcd : codeIn K cdv qual = true) (S : FnScope N (qs ++ [pv]) scope) (hCX : StX.CXUp CX)
    (hq : qs.length = n + ks.length + dvs.length) (rd : Vals dvs dv)
    (hb : ∀ us rest ws : List Value, us.length = n → ws.length = ks.length → ∀ (M : Model) (h : Heap), K.In h → Leads M h (bindArgs (fnOf name qual params body scope dV kV doc pm an cdv ct) ⟨us ++ rest, ks.zip ws⟩) (newTuple rest >>= fun t => pure (qs.zip (us ++ ws ++ dv) ++ [(pv, t)])))
    (hbody : ∀ (A : Around) (outer : List Env) (s : Shared) (H : Hp) (vs : List V) (Q : VK) (E : XK), Room k (A.deeper (envOfC qual scope s.heap.objs.size f cdv)) → sp vs H Q E →
      ∃ t, PSs (cxOf CX P w K mg base N qual scope f cdv A outer s H E) body t ∧ t { nx := fun _ H' => Q .non H', rt := Q } (start N vs) H) :
    FnRK P w K mg base CX (k + 1) f ks (fun vs zs H Q E => ∃ wa rest, vs = wa ++ rest ∧ wa.length = n ∧ rest.length ≤ sizeLine ∧ ∀ p, H p = Option.none → sp (wa ++ zs ++ dvs ++ [V.ref p]) (upd H p (.tup rest)) Q E) := by
  intro A outer s H us ws vs zs Q E hr e0 r rz lz ⟨wa, rest, ev, la, lr, go⟩
  subst ev
  obtain ⟨u1, u2, eu, r1, r2⟩ := StX.vals_split r
  subst eu
  have hn : H s.heap.objs.size = Option.none := e0.hok.fresh (Nat.le_refl _)
  have n1 : u1.length = n := r1.length.symm.trans la
  have n2 : u2.length ≤ sizeLine := by rw [← r2.length]; exact lr
  have n3 : ws.length = ks.length := rz.length.symm.trans lz
  have nd := rd.length
  have all := (r1.append rz).append rd
  refine StX.run_bnd lk hcd S hr e0 (G := fun xs H2 => ∃ p, H p = Option.none ∧ xs = wa ++ zs ++ dvs ++ [V.ref p] ∧ H2 = upd H p (.tup rest)) (fun A' Ex Q' h => ?_) fun s2 H2 xs ⟨p, hp, ex, eH⟩ hr' => ?_
  · have inK : K.In s.heap := e0.mod.kin.keeps fun b o e => (e0.bs b o e).1
    refine hb u1 u2 ws n1 n3 _ _ inK _ _ _ _ (fun _ _ z => z) (wpAny_bind (wpAny_newTuple (wpAny_pure ?_) n2))
    have laid : ObjOk P w (upd H s.heap.objs.size (.tup rest)) (s.heap.push ({ cls := .type "tuple", data := .seq u2.toArray } : Obj)) s.heap.objs.size (.tup rest) := ⟨lr, u2, r2, ⟨_, Heap.get?_push_size _ rfl, rfl, _, rfl⟩⟩
    have un := StX.un_laid (fs := frs outer) (s := s) (o := ({ cls := .type "tuple", data := .seq u2.toArray } : Obj)) (u := .tup rest) hn
    have ql : qs.length = (u1 ++ ws ++ dv).length := by
      rw [List.length_append, List.length_append, hq, n1, n3, nd]
    have done := h _ _ (wa ++ zs ++ dvs ++ [V.ref s.heap.objs.size]) (u1 ++ ws ++ dv ++ [Value.ref s.heap.objs.size]) (StX.env0_laid e0 laid) un rfl (fun e s' => hCX outer s H _ _ E e s' un (fun b o q => Heap.get?_push_of_some _ q) rfl) (all.append (.cons rfl .nil))
      (by have z := all.length; simp only [List.length_append, List.length_singleton] at z ql ⊢; omega) ⟨_, hn, rfl, rfl⟩
    rw [List.zip_append ql] at done
    exact done
  · subst ex eH
    exact hbody A outer s2 _ _ Q E hr' (go p hp)
end
end QN

/-! Graph(..) and Graph.of(..) -/
namespace Qp
open PySem PySem.Spec PyProof.Rows L2 QN
abbrev sGOf : Stmt := inClass cGraph 1 -- Graph.of
abbrev gOnames : List Str := ["cls", "counters", "transitions", "states"]
theorem scGOf : FnScope gOnames gOnames (defScope sGOf) := ⟨rfl, rfl, rfl, by decide +kernel, rfl, by decide +kernel, by decide +kernel⟩
/-- the new object at x: what is made of the parts -/
def spMk (K : PySem.W.Frag) (C PI : Addr) : List V → List V → Hp → VK → XK → Prop := fun vs zs H Q _ => ∃ (x dx a b : Addr) (us : List V) (cs ns : List Str) (rs : List Row) (G : Gr), vs = .ref x :: .ref a :: us ∧ zs = [.ref b] ∧ H x = some (.ins C dx []) ∧ SqT K H a (cs.map V.str) ∧ SqT K H b (ns.map V.str) ∧
  Paired (PlRow K H) us rs ∧ GxR.TabG H PI ∧ Makes cs ns rs G ∧ ∀ (H' : Hp), GraphAt K C H' x G → SimX x H H' → Q .non H'
def spGOf (K : PySem.W.Frag) (C PI : Addr) : Sp := fun vs H Q _ => ∃ (a b v : Addr) (us : List V) (cs ns : List Str) (rs : List Row) (G : Gr), vs = [.ref C, .ref a, .ref v, .ref b] ∧ SqT K H a (cs.map V.str) ∧ SqT K H b (ns.map V.str) ∧ SqT K H v us ∧ Paired (PlRow K H) us rs ∧ GxR.TabG H PI ∧ Makes cs ns rs G ∧
  ∀ (g : Addr) (H' : Hp), Sim H H' → GraphAt K C H' g G → Q (.ref g) H'
section
variable {P : Program} {w : World} {K : PySem.W.Frag} {mg : Str → Option Value} {base : Heap}
/-- __init__ of a, *us with states = b -/
theorem init_kw {oc : Value} {od : Option Addr} {doc pm ct : Value} {an : Option Addr} {osl : Array (Option Value)} {f fA fI cI PI C D : Addr} {fdA fdI : FuncData}
    (lk : K.lookup f = some ⟨oc, od, .func (PySem.W.fnOf "__init__" "Graph.__init__" (defArgs sGInit) (defBody sGInit) (defScope sGInit) .none (.ref D) doc pm an (.ref cI) ct), osl⟩) (hcd : PySem.W.codeIn K (.ref cI) "Graph.__init__" = true)
    (GA : FnOk P w K mg base CX0 1 fA fdA ["transitions", "states"] (spAll K)) (kA : PySem.W.keepIn K (.ref fA) = true) (bA : L2.Binds K fdA ["transitions", "states"] []) (gA : mg "_all_states" = some (.ref fA))
    (GI : FnOk P w K mg base CX0 6 fI fdI ["counters", "transitions", "states"] (spIsG K)) (kI : PySem.W.keepIn K (.ref fI) = true) (bI : L2.Binds K fdI ["counters", "transitions", "states"] []) (gI : mg "_is_graph" = some (.ref fI)) (B : BltP mg) (L : Lim3 mg) (T : GraphC K mg C) (TB : GxR.TabB base mg cI PI) :
    FnRK P w K mg base CX0 7 f ["states"] (spMk K C PI) := by
  refine FnRK.imp (fn_starK (n := 2) (qs := ["self", "counters", "states"]) (pv := "transitions") (dvs := []) (dv := []) (sp := spGInit K C PI) lk hcd scGI StX.cxUp_none rfl .nil (fun us rest ws hl hw => ?bind) fun A outer s H vs Q E hr h => body_init GA kA bA gA GI kI bI gI B L T TB A outer s H vs Q E hr h) ?imp
  case bind =>
    match us, ws, hl, hw with
    | [u1, u2], [u3], _, _ =>
      refine ⟨pure [("self", u1), ("counters", u2), ("states", u3)], ?_, fun M h _ => ?_⟩
      · cases rest with
        | nil => with_unfolding_all rfl
        | cons r rs => with_unfolding_all rfl
      · exact PySem.W.Looks.now
  case imp =>
    intro vs zs H Q E h
    obtain ⟨x, dx, a, b, us, cs, ns, rs, G, rfl, rfl, hx, ha, hb, hpl, tab, M, k⟩ := h
    have hu := plAll_dp hpl
    have hl : us.length ≤ sizeLine := by
      rw [dpAll_len hu, List.length_map, ← M.pm.length_eq, sizeLine_eq]
      obtain ⟨x0, st, _, GO⟩ := M.ok
      have := GO.rl
      rw [M.pm.length_eq]
      omega
    refine ⟨[.ref x, .ref a], us, rfl, rfl, hl, fun p hp => ?_⟩
    have sm := same_new (o := .tup us) hp
    exact ⟨x, dx, a, b, p, us, cs, ns, rs, G, rfl, sm _ _ hx, sqT_same sm ha, sqT_same sm hb, .inl (.inl upd_same), plAll_sim (Sim.of sm) hpl, tabG_same sm tab, M, fun c t r n d k2 us' H' h1 h2 s2 => k H' ⟨dx, c, t, r, n, d, k2, us', h1, h2⟩ ((SimX.of (Sim.of sm)).trans s2)⟩
/-- without states -/
def spMk0 (K : PySem.W.Frag) (C PI : Addr) : Sp := fun vs H Q _ => ∃ (x dx a : Addr) (us : List V) (cs : List Str) (rs : List Row) (G : Gr), vs = .ref x :: .ref a :: us ∧ H x = some (.ins C dx []) ∧ SqT K H a (cs.map V.str) ∧
  Paired (PlRow K H) us rs ∧ GxR.TabG H PI ∧ Makes cs [] rs G ∧ ∀ (H' : Hp), GraphAt K C H' x G → SimX x H H' → Q .non H'
theorem init_kw0 {oc : Value} {od : Option Addr} {doc pm ct : Value} {an : Option Addr} {osl : Array (Option Value)} {f fA fI cI PI C D e : Addr} {fdA fdI : FuncData}
    (lk : K.lookup f = some ⟨oc, od, .func (PySem.W.fnOf "__init__" "Graph.__init__" (defArgs sGInit) (defBody sGInit) (defScope sGInit) .none (.ref D) doc pm an (.ref cI) ct), osl⟩) (hcd : PySem.W.codeIn K (.ref cI) "Graph.__init__" = true)
    (hD : PySem.W.nsIn K D "states" = some (some (.ref e))) (he : ∀ H, SqT K H e [])
    (GA : FnOk P w K mg base CX0 1 fA fdA ["transitions", "states"] (spAll K)) (kA : PySem.W.keepIn K (.ref fA) = true) (bA : L2.Binds K fdA ["transitions", "states"] []) (gA : mg "_all_states" = some (.ref fA))
    (GI : FnOk P w K mg base CX0 6 fI fdI ["counters", "transitions", "states"] (spIsG K)) (kI : PySem.W.keepIn K (.ref fI) = true) (bI : L2.Binds K fdI ["counters", "transitions", "states"] []) (gI : mg "_is_graph" = some (.ref fI)) (B : BltP mg) (L : Lim3 mg) (T : GraphC K mg C) (TB : GxR.TabB base mg cI PI) :
    FnR P w K mg base CX0 7 f (spMk0 K C PI) := by
  refine FnR.imp (FnRK.toR (fn_starL (n := 2) (ks := []) (qs := ["self", "counters", "states"]) (pv := "transitions") (dvs := [.ref e]) (dv := [.ref e]) (sp := spGInit K C PI) lk hcd scGI StX.cxUp_none rfl (.cons rfl .nil) (fun us rest ws hl hw M h X => ?bind) fun A outer s H vs Q E hr h => body_init GA kA bA gA GI kI bI gI B L T TB A outer s H vs Q E hr h)) ?imp
  case bind =>
    match us, ws, hl, hw with
    | [u1, u2], [], _, _ =>
      cases rest with
      | nil => exact Leads.kw (D := D) (x := "states") X hD (by with_unfolding_all rfl) (by with_unfolding_all rfl) (by with_unfolding_all rfl)
      | cons r rs => exact Leads.kw (D := D) (x := "states") X hD (by with_unfolding_all rfl) (by with_unfolding_all rfl) (by with_unfolding_all rfl)
  case imp =>
    intro vs H Q E h
    obtain ⟨x, dx, a, us, cs, rs, G, rfl, hx, ha, hpl, tab, M, k⟩ := h
    have hu := plAll_dp hpl
    have hl : us.length ≤ sizeLine := by
      rw [dpAll_len hu, List.length_map, sizeLine_eq]
      obtain ⟨x0, st, _, GO⟩ := M.ok
      have := GO.rl
      omega
    refine ⟨[.ref x, .ref a], us, rfl, rfl, hl, fun p hp => ?_⟩
    have sm := same_new (o := .tup us) hp
    exact ⟨x, dx, a, e, p, us, cs, [], rs, G, rfl, sm _ _ hx, sqT_same sm ha, he _, .inl (.inl upd_same), plAll_sim (Sim.of sm) hpl, tabG_same sm tab, M, fun c t r n d k2 us' H' h1 h2 s2 => k H' ⟨dx, c, t, r, n, d, k2, us', h1, h2⟩ ((SimX.of (Sim.of sm)).trans s2)⟩
/-- of -/
theorem ok_gof {f fI PI C : Addr} {fd : FuncData} {dvs : List V} (F : FunD K "of" "Graph.of" (defArgs sGOf) (defBody sGOf) (defScope sGOf) dvs [] f fd) (M : Mk K C fI) (GI : FnRK P w K mg base CX0 7 fI ["states"] (spMk K C PI)) (B : BltP mg) : FnOk P w K mg base CX0 9 f fd gOnames (spGOf K C PI) := by
  refine FunD.ok F scGOf (fun vs H Q E h => ?_) (fun cdv A outer s H vs Q E hr h => ?_)
  · obtain ⟨a, b, v, us, cs, ns, rs, G, rfl, _⟩ := h
    rfl
  · obtain ⟨a, b, v, us, cs, ns, rs, G, rfl, ha, hb, hv, hpl, tab, Mk, k⟩ := h
    refine ⟨_, pss_cons (ps_if (pt_not (pt_val (pe_callB call_isi (by rfl) B.isi (by decide +kernel) (pa_cons (pv 2) (pa_cons (pe_bltn (v := .ty "tuple") (by rfl) B.tuple (by decide +kernel) rfl) pa_nil))))) (pss_one ps_never) pss_nil)
      (pss_one (ps_ret (pe_makeVK (i := 0) M GI hr rfl (.inl rfl) pass0 (pa_cons (pv 1) (StX.pa_star (pv 2) pa_nil)) (pk_cons (pv 3) pk_nil)))), ?_⟩
    refine ⟨_, rfl, _, _, _, _, true, rfl, .ty _, tyx_tup hv, kit_ty (by decide +kernel), _, rfl, if_no (by decide) ?_⟩
    refine ⟨rfl, _, rfl, _, rfl, v, us, rfl, .inl hv, _, rfl, rfl, fun x dx hx hdx ne => ?_⟩
    have sm : Same H (upd (upd H dx (.own x)) x (.ins C dx [])) := fun c o e => by
      have n1 : c ≠ x := fun z => by rw [z, hx] at e; cases e
      have n2 : c ≠ dx := fun z => by rw [z, hdx] at e; cases e
      rw [upd_ne n1, upd_ne n2]
      exact e
    refine ⟨x, dx, a, b, us, cs, ns, rs, G, by rw [List.append_nil], rfl, upd_same, sqT_same sm ha, sqT_same sm hb, plAll_sim (Sim.of sm) hpl, tabG_same sm tab, Mk, fun H' h1 h2 => ⟨rfl, k x H' (sim_made hx hdx h2) h1⟩⟩
end
end Qp

/-! own classes by Python's signs: x in o, o[i], len(o), truth, ==, +, * -/
namespace QN
open PySem PySem.Spec PyProof.Rows L2
section
variable {X : Cx} {pins : List (Addr × Obj)} {σ : L2.St} {H : Hp} {s : Shared} {CX : CXT} {k : Nat} {C g : Addr} {sp : Sp} {E : XK} {Q : VK} {us : List Value} {vs : List V}
theorem rv_ref (a : Addr) : L2.RelV (V.ref a) (Value.ref a) := rfl
/-- a def with its promise, called in a deeper place -/
theorem run_deep {A' : Around} (F : FnR X.prog X.w X.K X.mg X.base CX k g sp) (hr : Room k A') (e0 : Env0 X.prog X.w X.K X.mg X.base A' X.stack s H) (hx : Passes CX X E) (I : Inv X pins σ H s) (r : Vals vs us) (h : sp vs H Q E) :
    wpAny (model X.prog X.w) A' (call (.ref g) us) (EP X pins σ Q) X.xe s := by
  refine wpAny_call (codeAny_mono (F A' X.stack s H us vs Q E hr e0 r h) fun out s' got => ?_)
  match out, got with
  | .error e, got => exact hx pins σ H s e s' I got
  | .ok (.ret u), got => exact I.after got
  | .ok .next, got => exact got.elim
  | .ok .brk, got => exact got.elim
  | .ok .cont, got => exact got.elim
/-- an own method that a sign calls -/
structure OMeth (K : PySem.W.Frag) (C : Addr) (m : Str) (g : Addr) : Prop where
  at_ : PySem.W.findIn K (.ref C) m = some (some (.ref g))
  fn : PySem.W.isFn K (.ref g) = true
/-- an instance of C stands at a -/
def OAt (C : Addr) (H : Hp) (a : Addr) : Prop := ∃ dx fs, H a = some (.ins C dx fs)
theorem OAt.inst {a : Addr} (I : Inv X pins σ H s) (h : OAt C H a) : ∃ ox od, PySem.W.InstAt s.heap a ox C od := by
  obtain ⟨ox, od, J, _⟩ := StX.insC_at I (.inr h)
  exact ⟨ox, od, J⟩
end
section
variable {X : Cx} {CX : CXT} {k : Nat} {C g : Addr} {sp : Sp} {E : XK}
/-- v in o -/
def rInO (C : Addr) (sp : Sp) (E : XK) (yes : Bool) : R2 := fun v o H Q => ∃ a, o = .ref a ∧ OAt C H a ∧ sp [.ref a, v] H (fun u H' => ∃ b, u = .bl b ∧ Q (.bl (if yes then b else !b)) H') E
theorem op_inO (M : OMeth X.K C "__contains__" g) (F : FnR X.prog X.w X.K X.mg X.base CX k g sp) (hr : Room k X.A) (hx : Passes CX X E) : OpR X (compareOp .In) (rInO C sp E true) := by
  intro pins s σ H x y v u Q I rx ry h
  obtain ⟨a, rfl, ha, q⟩ := h
  obtain rfl : u = Value.ref a := ry
  obtain ⟨ox, od, J⟩ := OAt.inst I ha
  obtain ⟨m, fr⟩ := I.fr
  refine PySem.W.in_K fr I.ok.mod.kin J M.at_ M.fn (wpAny_mono (run_deep F hr I.env0 hx I (.cons (rv_ref _) (.cons rx .nil)) q) (fun w1 s1 got => ?_) fun _ _ z => z)
  obtain ⟨v1, H1, I1, r1, b, rfl, q1⟩ := got
  obtain rfl : w1 = Value.bool b := r1
  exact wpAny_truthy_bool ⟨.bl b, H1, I1, rfl, q1⟩
theorem op_notInO (M : OMeth X.K C "__contains__" g) (F : FnR X.prog X.w X.K X.mg X.base CX k g sp) (hr : Room k X.A) (hx : Passes CX X E) : OpR X (compareOp .NotIn) (rInO C sp E false) := by
  intro pins s σ H x y v u Q I rx ry h
  obtain ⟨a, rfl, ha, q⟩ := h
  obtain rfl : u = Value.ref a := ry
  obtain ⟨ox, od, J⟩ := OAt.inst I ha
  obtain ⟨m, fr⟩ := I.fr
  refine PySem.W.notIn_K fr I.ok.mod.kin J M.at_ M.fn (wpAny_mono (run_deep F hr I.env0 hx I (.cons (rv_ref _) (.cons rx .nil)) q) (fun w1 s1 got => ?_) fun _ _ z => z)
  obtain ⟨v1, H1, I1, r1, b, rfl, q1⟩ := got
  obtain rfl : w1 = Value.bool b := r1
  exact wpAny_truthy_bool ⟨.bl !b, H1, I1, rfl, q1⟩
/-- o[e] -/
def tItemO (C : Addr) (sp : Sp) (E : XK) (ta tb : TE) : TE := fun σ H Q => ta σ H fun x H1 => tb σ H1 fun y H2 => ∃ a, x = .ref a ∧ OAt C H2 a ∧ sp [.ref a, y] H2 Q E
theorem pe_itemO {a b : Expr} {ta tb : TE} {pos : Pos} (M : OMeth X.K C "__getitem__" g) (fi : PySem.W.fnIn X.K g = true) (F : FnR X.prog X.w X.K X.mg X.base CX k g sp) (hr : Room (k + 1) X.A) (hx : Passes CX X E) (ha : PE X a ta) (hb : PE X b tb)
    (hsl : ∀ o i, subscripted b true o i = runValue (.builtin "lifetime.subscript" ⟨[o, i], []⟩)) : PE X (.Subscript a b pos) (tItemO C sp E ta tb) := by
  refine ⟨fun pins s σ H Q I h => ?_⟩
  refine Subscript_ (binT ha hb I h fun v u s2 x y H2 I2 rx ry q => ?_)
  obtain ⟨p, rfl, hp, q⟩ := q
  obtain rfl : v = Value.ref p := rx
  obtain ⟨ox, od, J⟩ := OAt.inst I2 hp
  obtain ⟨m, fr⟩ := I2.fr
  exact PySem.W.sub_K fr I2.ok.mod.kin J M.at_ fi M.fn (run_deep F hr.in1 I2.env0.in1 hx I2 (.cons (rv_ref _) (.cons ry .nil)) q) (hsl _ _)
/-- len(o) -/
theorem call_lenO (M : OMeth X.K C "__len__" g) (F : FnR X.prog X.w X.K X.mg X.base CX k g sp) (hr : Room (k + 1) X.A) (hx : Passes CX X E) :
    CallR X (.builtin "len") (fun xs H Q => ∃ a, xs = [.ref a] ∧ OAt C H a ∧ sp [.ref a] H (fun u H' => ∃ n : Nat, u = .int n ∧ n ≤ sizeLine ∧ Q (.int n) H') E) := by
  intro pins s σ H xs us Q I r h
  obtain ⟨a, rfl, ha, q⟩ := h
  obtain ⟨u, rfl, ru⟩ := vals1 r
  obtain rfl : u = Value.ref a := ru
  obtain ⟨ox, od, J⟩ := OAt.inst I ha
  obtain ⟨m, fr⟩ := I.fr
  refine PySem.W.len_K fr I.ok.mod.kin J M.at_ M.fn (wpAny_mono (run_deep F hr.in1 I.env0.in1 hx I (.cons (rv_ref _) .nil) q) (fun w1 s1 got => ?_) fun _ _ z => z)
  obtain ⟨v1, H1, I1, r1, n, rfl, hn, q1⟩ := got
  obtain ⟨t, rfl⟩ := (show ∃ t, w1 = Value.int n t from r1)
  rw [sizeLine_eq] at hn
  exact ⟨⟨by omega, by omega⟩, .int n, H1, I1.tok _, ⟨_, rfl⟩, q1⟩
/-- o's truth -/
theorem tru_O (M : OMeth X.K C "__bool__" g) (F : FnR X.prog X.w X.K X.mg X.base CX k g sp) (hr : Room k X.A) (hx : Passes CX X E) :
    TruR X (fun x H Q => ∃ a, x = .ref a ∧ OAt C H a ∧ sp [.ref a] H (fun u H' => ∃ b, u = .bl b ∧ Q b H') E) := by
  intro pins s σ H x v Q I rx h
  obtain ⟨a, rfl, ha, q⟩ := h
  obtain rfl : v = Value.ref a := rx
  obtain ⟨ox, od, J⟩ := OAt.inst I ha
  obtain ⟨m, fr⟩ := I.fr
  refine PySem.W.truthy_K fr I.ok.mod.kin J M.at_ M.fn (wpAny_mono (run_deep F hr I.env0 hx I (.cons (rv_ref _) .nil) q) (fun w1 s1 got => ?_) fun _ _ z => z)
  obtain ⟨v1, H1, I1, r1, b, rfl, q1⟩ := got
  obtain rfl : w1 = Value.bool b := r1
  exact ⟨H1, I1, q1⟩
end
end QN

/-! own classes by Python's signs: ==, != -/
namespace QN
open PySem PySem.Spec PyProof.Rows L2
section
variable {prog : Program} {w : World} {A : Around} {E : Value → Shared → Prop} {s : Shared} {K : PySem.W.Frag} {x C f : Addr} {b tb : Value} {ox : Obj} {od : Option Obj}
/-- o != b by the class's own ==: what object's != makes of it -/
theorem ne_road (hu : A.units + 1 < cLine) (KX : K.In s.heap) (I : PySem.W.InstAt s.heap x ox C od) (hb : PySem.W.Looks (model prog w) s.heap (typeOf b) tb) (hn : PySem.W.notFirst K C tb = true) (hm : PySem.W.mroIn K C (.type "object") = some true)
    (hne : PySem.W.findIn K (.ref C) "__ne__" = some (some (.builtin "object.__ne__"))) (heq : PySem.W.findIn K (.ref C) "__eq__" = some (some (.ref f))) (hf : PySem.W.isFn K (.ref f) = true) {Q : Value → Shared → Prop}
    (h : wpAny (model prog w) A.in1 (call (.ref f) [.ref x, b]) (fun v s' => ∃ c, v = .bool c ∧ Q (.bool (!c)) s') E s) : wpAny (model prog w) A (richCompare .NotEq (.ref x) b) Q E s := by
  have inner : wpAny (model prog w) A (call (.builtin "object.__ne__") [.ref x, b]) (fun v s' => ∃ c, v = .bool (!c) ∧ Q (.bool (!c)) s') E s := by
    refine wpAny_call (codeAny_call_builtin PySem.F.cmp_object.ne.plain PySem.F.cmpEntry_ne (PySem.W.check_slot PySem.F.cmpKind_ne PySem.F.cmpSplit_ne (I.type.andThen (PySem.W.looks_mroIn KX hm)) (PySem.F.cmpArgs_ne _ _) ?_))
    unfold Builtin.«object.__ne__»
    repeat (first
      | with_reducible refine wpAny_cRoomFor hu ?_
      | (refine wpAny_bind (m := callSpecialIfBound? (.ref x) (Str.ofString "__eq__") [b]) (PySem.W.ifBound_K KX I heq hf (wpAny_mono h (fun r s' got => ?_) fun _ _ z => z))
         obtain ⟨c, rfl, q⟩ := got)
      | (refine wpAny_bind (m := truthy (.bool _)) (wpAny_truthy_bool ?_))
      | wp_step)
    exact ⟨_, rfl, q⟩
  have bound : wpAny (model prog w) A (callSpecialIfBound? (.ref x) "__ne__" [b]) (fun r s' => ∃ c, r = some (.bool (!c)) ∧ Q (.bool (!c)) s') E s := by
    simp only [callSpecialIfBound?, bindSpecialIfBound?]
    have last : wpAny (model prog w) A (call (.builtin "object.__ne__") ([.ref x] ++ [b]) >>= fun v => pure (some v)) (fun r s' => ∃ c, r = some (.bool (!c)) ∧ Q (.bool (!c)) s') E s :=
      wpAny_bind (wpAny_mono inner (fun v s' ⟨c, e, q⟩ => wpAny_pure ⟨c, by rw [e], q⟩) fun _ _ z => z)
    refine wpAny_holding (wpAny_bind (wpAny_bind (wpAny_bind (I.type.here ((PySem.W.looks_findIn KX hne).here (wpAny_bind (wpAny_askSetting (wpAny_ite ?_))))))))
    split
    · exact wpAny_bind (wpAny_of_eq (PySem.F.cmp_object.ne.bind _) (wpAny_pure (by exact last)))
    · exact wpAny_tryCatch (wpAny_bind (wpAny_of_eq (PySem.F.cmp_object.ne.bind _) (wpAny_pure (by exact last))))
  have tried : wpAny (model prog w) A (tryCompare (.ref x) "__ne__" b) (fun r s' => ∃ v, r = some v ∧ Q v s') E s := by
    unfold tryCompare
    exact wpAny_bind (wpAny_mono bound (fun r s' ⟨c, e, q⟩ => by subst e; exact wpAny_pure ⟨_, rfl, q⟩) fun _ _ z => z)
  unfold richCompare
  simp only [oneThing_ref, cmpInfo_NotEq]
  refine wpAny_holding (wpAny_bind (wpAny_cRoomFor (Nat.lt_of_succ_lt hu) (wpAny_bind (I.type.here (wpAny_bind (hb.here ?_))))))
  split
  · rename_i differ
    have below : PySem.W.subIn K tb (.ref C) = some false := by
      rcases Bool.or_eq_true_iff.mp hn with e | e
      · rw [beq_iff_eq.mp e] at differ
        simp at differ
      · exact beq_iff_eq.mp e
    refine wpAny_bind ((PySem.W.looks_subIn KX below).here ?_)
    simp only [Bool.false_eq_true, if_false]
    exact wpAny_bind (wpAny_mono tried (fun r s' ⟨v, e, q⟩ => by subst e; exact wpAny_pure q) fun _ _ z => z)
  · refine wpAny_bind (wpAny_pure ?_)
    simp only [Bool.false_eq_true, if_false]
    exact wpAny_bind (wpAny_mono tried (fun r s' ⟨v, e, q⟩ => by subst e; exact wpAny_pure q) fun _ _ z => z)
end
section
variable {X : Cx} {CX : CXT} {k : Nat} {C g : Addr} {sp : Sp} {E : XK}
/-- the other side of a sign: a value of another kind, or an instance of C itself -/
def Side (K : PySem.W.Frag) (C : Addr) (H : Hp) (y : V) : Prop := (∃ t, TyX K H y t ∧ PySem.W.subIn K t (.ref C) = some false) ∨ ∃ b, y = .ref b ∧ OAt C H b
theorem Side.looks {pins : List (Addr × Obj)} {σ : L2.St} {H : Hp} {s : Shared} {y : V} {u : Value} (I : Inv X pins σ H s) (ry : L2.RelV y u) (h : Side X.K C H y) :
    ∃ t, PySem.W.Looks (model X.prog X.w) s.heap (typeOf u) t ∧ PySem.W.notFirst X.K C t = true := by
  rcases h with ⟨t, ty, hs⟩ | ⟨b, rfl, hb⟩
  · obtain ⟨P, Z, hP, _⟩ := kit_of I ry ty
    refine ⟨t, Z.ty _ _ I.kIn hP, ?_⟩
    unfold PySem.W.notFirst
    rw [hs]
    simp
  · obtain ⟨ox, od, J⟩ := OAt.inst I hb
    obtain rfl : u = Value.ref b := ry
    exact ⟨.ref C, J.type, by simp [PySem.W.notFirst]⟩
def rEqO (K : PySem.W.Frag) (C : Addr) (sp : Sp) (E : XK) (yes : Bool) : R2 := fun x y H Q => ∃ a, x = .ref a ∧ OAt C H a ∧ Side K C H y ∧ sp [.ref a, y] H (fun u H' => ∃ b, u = .bl b ∧ Q (.bl (if yes then b else !b)) H') E
/-- o == y -/
theorem op_eqO (M : OMeth X.K C "__eq__" g) (F : FnR X.prog X.w X.K X.mg X.base CX k g sp) (hr : Room k X.A) (hx : Passes CX X E) : OpR X (compareOp .Eq) (rEqO X.K C sp E true) := by
  intro pins s σ H x y v u Q I rx ry h
  obtain ⟨a, rfl, ha, hy, q⟩ := h
  obtain rfl : v = Value.ref a := rx
  obtain ⟨ox, od, J⟩ := OAt.inst I ha
  obtain ⟨m, fr⟩ := I.fr
  obtain ⟨t, ht, hn⟩ := Side.looks I ry hy
  refine PySem.W.cmp_K (op := .Eq) hr.units0 fr I.ok.mod.kin J ht hn M.at_ M.fn (wpAny_mono (run_deep F hr I.env0 hx I (.cons (rv_ref _) (.cons ry .nil)) q) (fun w1 s1 got => ?_) fun _ _ z => z)
  obtain ⟨v1, H1, I1, r1, b, rfl, q1⟩ := got
  obtain rfl : w1 = Value.bool b := r1
  exact ⟨.bl b, H1, I1, rfl, q1⟩
/-- o != y -/
theorem op_neO (M : OMeth X.K C "__eq__" g) (hm : PySem.W.mroIn X.K C (.type "object") = some true) (hne : PySem.W.findIn X.K (.ref C) "__ne__" = some (some (.builtin "object.__ne__"))) (F : FnR X.prog X.w X.K X.mg X.base CX k g sp) (hr : Room (k + 1) X.A)
    (hx : Passes CX X E) : OpR X (compareOp .NotEq) (rEqO X.K C sp E false) := by
  intro pins s σ H x y v u Q I rx ry h
  obtain ⟨a, rfl, ha, hy, q⟩ := h
  obtain rfl : v = Value.ref a := rx
  obtain ⟨ox, od, J⟩ := OAt.inst I ha
  obtain ⟨t, ht, hn⟩ := Side.looks I ry hy
  have hu : X.A.units + 1 < cLine := hu_of hr
  refine ne_road hu I.kIn J ht hn hm hne M.at_ M.fn (wpAny_mono (run_deep F hr.in1 I.env0.in1 hx I (.cons (rv_ref _) (.cons ry .nil)) q) (fun w1 s1 got => ?_) fun _ _ z => z)
  obtain ⟨v1, H1, I1, r1, b, rfl, q1⟩ := got
  obtain rfl : w1 = Value.bool b := r1
  exact ⟨b, rfl, .bl !b, H1, I1, rfl, q1⟩
end
end QN

/-! what a graph answers -/
namespace Qp
open PySem PySem.Spec PyProof.Rows L2 QN
abbrev sGNames : Stmt := inClass cGraph 4 -- Graph.names
abbrev sGTrans : Stmt := inClass cGraph 5 -- Graph.transitions
abbrev sGGet : Stmt := inClass cGraph 6 -- Graph.__getitem__
abbrev sGCon : Stmt := inClass cGraph 7 -- Graph.__contains__
abbrev sGEq : Stmt := inClass cGraph 11 -- Graph.__eq__
abbrev sGChk : Stmt := inClass cGraph 16 -- Graph._check_state
theorem scGNames : FnScope ["self"] ["self"] (defScope sGNames) := ⟨rfl, rfl, rfl, by decide +kernel, rfl, by decide +kernel, by decide +kernel⟩
theorem scGTrans : FnScope ["self"] ["self"] (defScope sGTrans) := ⟨rfl, rfl, rfl, by decide +kernel, rfl, by decide +kernel, by decide +kernel⟩
theorem scGGet : FnScope ["self", "at"] ["self", "at"] (defScope sGGet) := ⟨rfl, rfl, rfl, by decide +kernel, rfl, by decide +kernel, by decide +kernel⟩
theorem scGCon : FnScope ["self", "x"] ["self", "x"] (defScope sGCon) := ⟨rfl, rfl, rfl, by decide +kernel, rfl, by decide +kernel, by decide +kernel⟩
theorem scGEq : FnScope ["self", "other"] ["self", "other"] (defScope sGEq) := ⟨rfl, rfl, rfl, by decide +kernel, rfl, by decide +kernel, by decide +kernel⟩
theorem scGChk : FnScope ["self", "state"] ["self", "state"] (defScope sGChk) := ⟨rfl, rfl, rfl, by decide +kernel, rfl, by decide +kernel, by decide +kernel⟩
theorem FnOk.toR0 {P : Program} {w : World} {K : PySem.W.Frag} {mg : Str → Option Value} {base : Heap} {CX : CXT} {k : Nat} {f : Addr} {fd : FuncData} {ps : List Str} {sp : Sp} (F : FnOk P w K mg base CX k f fd ps sp) (hb : L2.Binds K fd ps []) : FnR P w K mg base CX k f sp :=
  FnR.imp (FnOk.raw F hb .nil) fun vs H Q E h => by rw [List.append_nil]; exact h
/-- of the class as such -/
structure GraphO (K : PySem.W.Frag) (C : Addr) : Prop where
  isC : PySem.W.kitOne K (.ref C) (.ref C) = some true
  c1 : PySem.W.findIn K (.ref C) "__class__" = some (some (.builtin "object.__class__"))
  c2 : PySem.W.specialIn K (.builtin "object.__class__") "__get__" = some (some (.builtin "getset_descriptor.__get__"))
  c3 : PySem.W.takesIn K (.builtin "object.__class__") = some true
  c4 : PySem.W.mroIn K C (.type "object") = some true
theorem tyx_graph {K : PySem.W.Frag} {mg : Str → Option Value} {C g : Addr} {H : Hp} {G : Gr} (T : GraphC K mg C) (O : GraphO K C) (h : GraphAt K C H g G) : TyX K H (.ref g) (.ref C) := by
  obtain ⟨dx, c, t, r, n, b, k, us, h1, _⟩ := h
  exact .base (.ins h1 T.cls O.c1 O.c2 O.c3 O.c4)
theorem oat_graph {K : PySem.W.Frag} {C g : Addr} {H : Hp} {G : Gr} (h : GraphAt K C H g G) : OAt C H g := by
  obtain ⟨dx, c, t, r, n, b, k, us, h1, _⟩ := h
  exact ⟨dx, _, h1⟩
def spGNames (K : PySem.W.Frag) (C : Addr) : Sp := fun vs H Q _ => ∃ (g : Addr) (G : Gr), vs = [.ref g] ∧ GraphAt K C H g G ∧ ∀ n, SqT K H n ((G.rs.map (·.n)).map V.str) → Q (.ref n) H
def spGTrans (K : PySem.W.Frag) (C : Addr) : Sp := fun vs H Q _ => ∃ (g : Addr) (G : Gr), vs = [.ref g] ∧ GraphAt K C H g G ∧ ∀ r, Dp K H (.ref r) (.tuple (G.rs.map rowD)) → Q (.ref r) H
def spGCon (K : PySem.W.Frag) (C : Addr) : Sp := fun vs H Q _ => ∃ (g : Addr) (G : Gr) (x : Str), vs = [.ref g, .str x] ∧ GraphAt K C H g G ∧ x ∈ G.rs.map (·.n) ∧ Q (.bl true) H
def spGGet (K : PySem.W.Frag) (C : Addr) : Sp := fun vs H Q _ => ∃ (g : Addr) (G : Gr) (r : Row), vs = [.ref g, .str r.n] ∧ GraphAt K C H g G ∧ (G.rs.map (·.n)).Pairwise lts ∧ r ∈ G.rs ∧ ∀ u, PlRow K H u r → Q u H
def spGEq (K : PySem.W.Frag) (C : Addr) : Sp := fun vs H Q _ => ∃ (g o : Addr) (G : Gr), vs = [.ref g, .ref o] ∧ GraphAt K C H g G ∧ GraphAt K C H o G ∧ G.Ok ∧ Q (.bl true) H
def spGChk (K : PySem.W.Frag) (C : Addr) : Sp := fun vs H Q _ => ∃ (g : Addr) (G : Gr) (x : Str), vs = [.ref g, .str x] ∧ GraphAt K C H g G ∧ x ∈ G.ns ∧ Q .non H
theorem byName_at : ∀ {rs : List Row} {us : List V} {r : Row} {i : Nat}, (rs.map (·.n)).Nodup → us.length = rs.length → rs[i]? = some r → ∃ u, us[i]? = some u ∧ valV (byName rs us) (Sum.inr r.n : Key) = some u
  | [], _, r, i, _, _, h => by simp at h
  | q :: rs, [], r, i, _, hl, h => by cases hl
  | q :: rs, u :: us, r, 0, nd, hl, h => by
    cases h
    exact ⟨u, rfl, valV_pos rfl⟩
  | q :: rs, u :: us, r, i + 1, nd, hl, h => by
    have nd2 := List.nodup_cons.mp nd
    obtain ⟨w, h1, h2⟩ := byName_at (i := i) nd2.2 (by simpa using hl) (by simpa using h)
    refine ⟨w, h1, ?_⟩
    have ne : q.n ≠ r.n := fun e => nd2.1 (List.mem_map.mpr ⟨r, List.mem_of_getElem? (by simpa using h), e.symm⟩)
    have e2 : valV ((Sum.inr q.n, u) :: byName rs us) (Sum.inr r.n : Key) = valV (byName rs us) (Sum.inr r.n) := by
      unfold valV
      rw [List.find?_cons_of_neg (by simpa using ne)]
    show valV ((Sum.inr q.n, u) :: byName rs us) (Sum.inr r.n : Key) = some w
    rw [e2, h2]
theorem paired_at {α β : Type} {F : α → β → Prop} : ∀ {xs : List α} {ys : List β} {i : Nat} {x : α} {y : β}, Paired F xs ys → xs[i]? = some x → ys[i]? = some y → F x y
  | _, _, _, _, _, .nil, h, _ => by simp at h
  | _, _, 0, _, _, .cons r _, h1, h2 => by
    cases h1
    cases h2
    exact r
  | _, _, i + 1, _, _, .cons _ t, h1, h2 => paired_at (i := i) t (by simpa using h1) (by simpa using h2)
theorem nodup_lts {xs : List Str} (h : xs.Pairwise lts) : xs.Nodup := List.Pairwise.imp (R := lts) (S := fun a b => a ≠ b) (fun h e => by subst e; exact lts_irrefl _ h) h
theorem mem_at {α : Type} {xs : List α} {x : α} (h : x ∈ xs) : ∃ i : Nat, xs[i]? = some x := by
  obtain ⟨i, hi, e⟩ := List.getElem_of_mem h
  exact ⟨i, by rw [List.getElem?_eq_getElem hi, e]⟩
section
variable {P : Program} {w : World} {K : PySem.W.Frag} {mg : Str → Option Value} {base : Heap}
theorem ok_gnames {f C : Addr} {fd : FuncData} (F : Fun K "names" "Graph.names" sGNames f fd) (T : GraphC K mg C) : FnOk P w K mg base CX0 1 f fd ["self"] (spGNames K C) := by
  refine F.ok scGNames (fun vs H Q E h => ?_) (fun cdv A outer s H vs Q E hr h => ?_)
  · obtain ⟨g, G, rfl, _⟩ := h
    rfl
  · obtain ⟨g, G, rfl, ⟨dx, c, t, r, n, b, kp, us, h1, h2⟩, k⟩ := h
    refine ⟨_, pss_one (ps_ret (pe_fld (pv 0) rfl)), ?_⟩
    exact ⟨_, rfl, g, C, dx, _, _, rfl, h1, T.cls, T.n4, rfl, k n h2.hn⟩
theorem ok_gtrans {f C : Addr} {fd : FuncData} (F : Fun K "transitions" "Graph.transitions" sGTrans f fd) (T : GraphC K mg C) : FnOk P w K mg base CX0 1 f fd ["self"] (spGTrans K C) := by
  refine F.ok scGTrans (fun vs H Q E h => ?_) (fun cdv A outer s H vs Q E hr h => ?_)
  · obtain ⟨g, G, rfl, _⟩ := h
    rfl
  · obtain ⟨g, G, rfl, ⟨dx, c, t, r, n, b, kp, us, h1, h2⟩, k⟩ := h
    refine ⟨_, pss_one (ps_ret (pe_fld (pv 0) rfl)), ?_⟩
    exact ⟨_, rfl, g, C, dx, _, _, rfl, h1, T.cls, T.n3, rfl, k r (.tup h2.hr h2.hu)⟩
theorem ok_gcon {f C : Addr} {fd : FuncData} (F : Fun K "__contains__" "Graph.__contains__" sGCon f fd) (T : GraphC K mg C) (B : BltP mg) (st : mg "str" = none) : FnOk P w K mg base CX0 1 f fd ["self", "x"] (spGCon K C) := by
  refine F.ok scGCon (fun vs H Q E h => ?_) (fun cdv A outer s H vs Q E hr h => ?_)
  · obtain ⟨g, G, x, rfl, _⟩ := h
    rfl
  · obtain ⟨g, G, x, rfl, ⟨dx, c, t, r, n, b, kp, us, h1, h2⟩, hx, k⟩ := h
    have hu1 : (A.deeper (envOfC "Graph.__contains__" (defScope sGCon) s.heap.objs.size f cdv)).units + 1 < cLine := by
      have := hr.un
      omega
    refine ⟨_, pss_one (ps_ret (pe_and (pe_callB call_isi (by rfl) B.isi (by decide +kernel) (pa_cons (pv 1) (pa_cons (pe_bltn (v := .ty "str") (by rfl) st (by decide +kernel) rfl) pa_nil))) (pe_one (pe_cmp (pc_din hu1 (pv 1) (pe_fld (pv 0) rfl)))))), ?_⟩
    refine ⟨_, rfl, _, _, _, _, true, rfl, .ty _, .base (.str x), kit_ty (by decide +kernel), _, rfl, if_yes rfl ?_⟩
    have ul : us.length = G.rs.length := by rw [dpAll_len h2.hu, List.length_map]
    have has : (valV (byName G.rs us) (Sum.inr x : Key)).isSome = true := by
      obtain ⟨row, hrow, e⟩ := List.mem_map.mp hx
      unfold valV
      rw [Option.isSome_map, List.find?_isSome]
      obtain ⟨i, hi⟩ := mem_at hrow
      have lt := (List.getElem?_eq_some_iff.mp hi).1
      obtain ⟨u, hu⟩ : ∃ u, us[i]? = some u := ⟨us[i]'(by omega), List.getElem?_eq_getElem _⟩
      refine ⟨(Sum.inr row.n, u), ?_, by rw [e]; exact decide_eq_true rfl⟩
      unfold byName
      exact List.mem_map.mpr ⟨(row, u), List.mem_of_getElem? (i := i) (by rw [List.getElem?_zip_eq_some]; exact ⟨hi, hu⟩), rfl⟩
    refine ⟨_, rfl, _, rfl, g, C, dx, _, _, rfl, h1, T.cls, T.n5, rfl, b, _, rfl, DGet.k (k := Sum.inr x) h2.hb, ?_⟩
    rw [has]
    exact k
theorem ok_gchk {f C : Addr} {fd : FuncData} (F : Fun K "_check_state" "Graph._check_state" sGChk f fd) (T : GraphC K mg C) : FnOk P w K mg base CX0 1 f fd ["self", "state"] (spGChk K C) := by
  refine F.ok scGChk (fun vs H Q E h => ?_) (fun cdv A outer s H vs Q E hr h => ?_)
  · obtain ⟨g, G, x, rfl, _⟩ := h
    rfl
  · obtain ⟨g, G, x, rfl, ⟨dx, c, t, r, n, b, kp, us, h1, h2⟩, hx, k⟩ := h
    refine ⟨_, pss_one (ps_if (pt_cmpR op_notIn_seq (pv 1) (pe_fld (pv 0) rfl) rfl) (pss_one ps_never) pss_nil), ?_⟩
    refine ⟨_, rfl, _, rfl, g, C, dx, _, _, rfl, h1, T.cls, T.n2, rfl, t, _, rfl, .inr h2.ht, rfl, ?_, _, rfl, if_no ?_ k⟩
    · rw [List.all_map]
      exact List.all_eq_true.mpr fun _ _ => rfl
    · rw [if_pos rfl, in_strs hx]
      decide
theorem ok_gget {f fC C : Addr} {fd : FuncData} (F : Fun K "__getitem__" "Graph.__getitem__" sGGet f fd) (T : GraphC K mg C) (MC : OMeth K C "__contains__" fC) (GC : FnR P w K mg base CX0 1 fC (spGCon K C)) : FnOk P w K mg base CX0 2 f fd ["self", "at"] (spGGet K C) := by
  refine F.ok scGGet (fun vs H Q E h => ?_) (fun cdv A outer s H vs Q E hr h => ?_)
  · obtain ⟨g, G, r, rfl, _⟩ := h
    rfl
  · obtain ⟨g, G, row, rfl, hg, asc, hrow, k⟩ := h
    have hu1 : (A.deeper (envOfC "Graph.__getitem__" (defScope sGGet) s.heap.objs.size f cdv)).units + 1 < cLine := by
      have := hr.un
      omega
    refine ⟨_, pss_cons (ps_if (pt_cmpR (op_notInO MC GC hr pass0) (pv 1) (pv 0) rfl) (pss_one ps_never) pss_nil)
      (pss_one (ps_ret (pe_dget hu1 (pe_fld (pv 0) rfl) (pv 1) (fun _ _ => rfl)))), ?_⟩
    refine ⟨_, rfl, _, rfl, g, rfl, oat_graph hg, g, G, row.n, rfl, hg, List.mem_map.mpr ⟨row, hrow, rfl⟩, true, rfl, _, rfl, if_no (by decide) ?_⟩
    obtain ⟨dx, c, t, r, n, b, kp, us, h1, h2⟩ := hg
    obtain ⟨i, hi⟩ := mem_at hrow
    have ul : us.length = G.rs.length := by rw [dpAll_len h2.hu, List.length_map]
    obtain ⟨u, hu, hv⟩ := byName_at (nodup_lts asc) ul hi
    have pu : PlRow K H u row := paired_at h2.hp hu hi
    refine ⟨_, rfl, g, C, dx, _, _, rfl, h1, T.cls, T.n5, rfl, _, rfl, b, u, rfl, ?_, k u pu⟩
    rw [← hv]
    exact DGet.k (k := Sum.inr row.n) h2.hb
theorem strs_dp {K : PySem.W.Frag} {H : Hp} : ∀ xs : List Str, DpAll K H (xs.map V.str) (xs.map PyData.str)
  | [] => .nil
  | x :: xs => .cons (.str x) (strs_dp xs)
theorem name_strOk {x : Str} (h : NameOk x) : PyData.strOk x = true := by
  unfold PyData.strOk
  rw [← Array.all_toList]
  refine List.all_eq_true.mpr fun c hc => decide_eq_true ?_
  have all : ∀ c ∈ letters.cps.toList, c < 0x110000 := by decide +kernel
  exact all c (h.2.2 c hc)
theorem lay_strs : ∀ xs : List Str, (∀ x ∈ xs, NameOk x) → PyData.canLayAll0 (xs.map PyData.str) = true
  | [], _ => rfl
  | x :: xs, h => by
    show (PyData.strOk x && PyData.canLayAll0 (xs.map PyData.str)) = true
    rw [lay_strs xs fun y hy => h y (List.mem_cons_of_mem _ hy), name_strOk (h x List.mem_cons_self)]
    rfl
theorem depth_strs : ∀ xs : List Str, PyData.depthAll (xs.map PyData.str) = 0
  | [] => by simp [PyData.depthAll]
  | x :: xs => by
    show PyData.depthAll (.str x :: xs.map PyData.str) = 0
    simp [PyData.depthAll, PyData.depth, depth_strs xs]
theorem shaped_strs {xs : List Str} (h : ∀ x ∈ xs, NameOk x) : SeqAt.shaped (.tuple (xs.map PyData.str)) = true := by
  show (PyData.canLayAll0 (xs.map PyData.str) && decide (PyData.depthAll (xs.map PyData.str) + 1 ≤ 64)) = true
  rw [lay_strs xs h, depth_strs]
  rfl
theorem lay_ch : ∀ c : List (Str × Int), (∀ p ∈ c, NameOk p.1) → PyData.canLayAll0 (c.map pairD) = true
  | [], _ => rfl
  | p :: c, h => by
    show ((PyData.strOk p.1 && (true && true)) && PyData.canLayAll0 (c.map pairD)) = true
    rw [lay_ch c fun y hy => h y (List.mem_cons_of_mem _ hy), name_strOk (h p List.mem_cons_self)]
    rfl
theorem lay_row {r : Row} (h : RowOk r) : PyData.canLay0 (rowD r) = true := by
  show (PyData.strOk r.n && (PyData.strOk r.s && (PyData.strOk r.t && (PyData.canLayAll0 (r.c.map pairD) && true)))) = true
  rw [name_strOk h.n, name_strOk h.s, name_strOk h.t, lay_ch r.c fun p hp => (h.c.1 p hp).1]
  rfl
theorem lay_rows : ∀ rs : List Row, (∀ r ∈ rs, RowOk r) → PyData.canLayAll0 (rs.map rowD) = true
  | [], _ => rfl
  | r :: rs, h => by
    show (PyData.canLay0 (rowD r) && PyData.canLayAll0 (rs.map rowD)) = true
    rw [lay_rows rs fun y hy => h y (List.mem_cons_of_mem _ hy), lay_row (h r List.mem_cons_self)]
    rfl
theorem depth_rows : ∀ rs : List Row, PyData.depthAll (rs.map rowD) ≤ 10
  | [] => by simp [PyData.depthAll]
  | r :: rs => by
    have h := depth_rows rs
    have h2 := depth_row r
    show PyData.depthAll (rowD r :: rs.map rowD) ≤ 10
    simp only [PyData.depthAll]
    omega
theorem shaped_rows {rs : List Row} (ok : ∀ r ∈ rs, RowOk r) : SeqAt.shaped (.tuple (rs.map rowD)) = true := by
  show (PyData.canLayAll0 (rs.map rowD) && decide (PyData.depthAll (rs.map rowD) + 1 ≤ 64)) = true
  have h := depth_rows rs
  rw [lay_rows rs ok, decide_eq_true (by omega)]
  rfl
theorem ok_geq {f C : Addr} {fd : FuncData} (F : Fun K "__eq__" "Graph.__eq__" sGEq f fd) (T : GraphC K mg C) (O : GraphO K C) (B : BltP mg) : FnOk P w K mg base CX0 1 f fd ["self", "other"] (spGEq K C) := by
  refine F.ok scGEq (fun vs H Q E h => ?_) (fun cdv A outer s H vs Q E hr h => ?_)
  · obtain ⟨g, o, G, rfl, _⟩ := h
    rfl
  · obtain ⟨g, o, G, rfl, hg, ho, ok, k⟩ := h
    have hu : (A.deeper (envOfC "Graph.__eq__" (defScope sGEq) s.heap.objs.size f cdv)).units + 64 < cLine := by
      have := hr.un
      omega
    have ty := tyx_graph T O ho
    obtain ⟨dx, c, t, r, n, b, kp, us, h1, h2⟩ := hg
    obtain ⟨dx', c', t', r', n', b', kp', us', j1, j2⟩ := ho
    refine ⟨_, pss_one (ps_ret (pe_and (pe_callB call_isi (by rfl) B.isi (by decide +kernel) (pa_cons (pv 1) (pa_cons (pe_glob (v := .ref C) (by rfl) T.gC rfl) pa_nil)))
      (pe_and (pe_cmpR (op_eqD hu) (pe_fld (pv 0) rfl) (pe_fld (pv 1) rfl) (nomark _)) (pe_and (pe_cmpR (op_eqD hu) (pe_fld (pv 0) rfl) (pe_fld (pv 1) rfl) (nomark _)) (pe_one (pe_cmpR (op_eqD hu) (pe_fld (pv 0) rfl) (pe_fld (pv 1) rfl) (nomark _))))))), ?_⟩
    refine ⟨_, rfl, _, _, _, _, true, rfl, .own C, ty, O.isC, _, rfl, if_yes rfl ?_⟩
    refine ⟨_, rfl, g, C, dx, _, _, rfl, h1, T.cls, T.n1, rfl, _, rfl, o, C, dx', _, _, rfl, j1, T.cls, T.n1, rfl, _, _, .tup h2.hc (strs_dp _), .tup j2.hc (strs_dp _), shaped_strs ok.cn, shaped_strs ok.cn, ?_⟩
    have e1 : PyData.eqv (.tuple (G.cs.map PyData.str)) (.tuple (G.cs.map PyData.str)) = true := PySem.SeqAt.eqv_refl _ (lay_strs _ ok.cn)
    have e2 : PyData.eqv (.tuple (G.ns.map PyData.str)) (.tuple (G.ns.map PyData.str)) = true := PySem.SeqAt.eqv_refl _ (lay_strs _ ok.nn)
    have e3 : PyData.eqv (.tuple (G.rs.map rowD)) (.tuple (G.rs.map rowD)) = true := PySem.SeqAt.eqv_refl _ (lay_rows _ ok.ro)
    rw [e1]
    refine ⟨_, rfl, if_yes rfl ?_⟩
    refine ⟨_, rfl, g, C, dx, _, _, rfl, h1, T.cls, T.n2, rfl, _, rfl, o, C, dx', _, _, rfl, j1, T.cls, T.n2, rfl, _, _, .tup h2.ht (strs_dp _), .tup j2.ht (strs_dp _), shaped_strs ok.nn, shaped_strs ok.nn, ?_⟩
    rw [e2]
    refine ⟨_, rfl, if_yes rfl ?_⟩
    refine ⟨_, rfl, g, C, dx, _, _, rfl, h1, T.cls, T.n3, rfl, _, rfl, o, C, dx', _, _, rfl, j1, T.cls, T.n3, rfl, _, _, .tup h2.hr h2.hu, .tup j2.hr j2.hu, shaped_rows ok.ro, shaped_rows ok.ro, ?_⟩
    rw [e3]
    exact k
end
end Qp

/-! bool(x) of what is no number -/
namespace QN
open PySem PySem.Spec PyProof.Rows L2
section
variable {prog : Program} {w : World} {A : Around} {E : Value → Shared → Prop} {s : Shared}
theorem call_bool_at {x : Value} {Q : Value → Shared → Prop} (h : wpAny (model prog w) A.in1.in1 (truthy x) (fun b s' => Q (.bool b) s') E s) : wpAny (model prog w) A (call (.type "bool") [x]) Q E s := by
  refine callType_codes (T := "bool") (Bi := Builtin.«object.__init__») (Q₁ := fun r s₁ => ∃ b, r = .bool b ∧ Q r s₁) PySem.F.called_bool (PySem.F.typeCall_bool_1 _) PySem.F.entry_object_init ?_ ?_
  · refine codeAny_of_tree ?_
    show wpAny _ A.in1.in1 (do checkBuiltinCall "bool.__new__" ⟨[.type "bool", x], []⟩; again (.builtin "bool.__new__" ⟨[.type "bool", x], []⟩)) _ _ s
    refine wpAny_bind (wpAny_of_eq (PySem.F.newCall_bool_1 _) (wpAny_pure ⟨plainId_quiet (by decide +kernel) _, codeAny_builtin PySem.F.entry_bool_new ?_⟩))
    rw [Around.under_plainId (by decide +kernel) _]
    have f1 := PySem.F.conv_sub_bool
    have h' : wpAny (model prog w) A.in1.in1 (truthy x) (fun b s' => ∃ c, Value.bool b = .bool c ∧ Q (.bool b) s') E s := wpAny_mono h (fun b s' q => ⟨b, rfl, q⟩) fun _ _ y => y
    repeat (any_goals (first | assumption | (with_reducible refine wpAny_mono h' ?_ fun _ _ y => y) | wp_step))
    exact fun a s1 hs => wpAny_pure hs
  · rintro obj s₁ ⟨y, rfl, hq⟩
    exact ⟨rfl, PySem.F.args_object_init_2 _ _, object_init_meets PySem.F.called_bool.init.lookup PySem.F.called_bool.made (by decide) prog w A.in1 _ s₁ ⟨rfl, rfl, hq⟩⟩
end
section
variable {X : Cx} {CX : CXT} {k : Nat} {g C : Addr} {sp : Sp} {E : XK}
/-- bool(a tuple) -/
theorem call_boolT : CallR X (.type "bool") (fun xs H Q => ∃ (a : Addr) (zs : List V), xs = [.ref a] ∧ SqT X.K H a zs ∧ Q (.bl (!zs.isEmpty)) H) := by
  intro pins s σ H xs us Q I r h
  obtain ⟨a, zs, rfl, hq, q⟩ := h
  obtain rfl := Vals.ref1 r
  obtain ⟨its, rv, pl, hz⟩ := I.tuple hq
  have hlen := rv.length
  rw [sizeLine_eq] at hz
  refine call_bool_at (truthy_tuple pl (by simp only [List.size_toArray]; omega) ?_)
  exact ⟨.bl (!zs.isEmpty), H, I.tok _, by rw [isEmpty_of rv]; rfl, q⟩
/-- bool(o) -/
theorem call_boolO (M : OMeth X.K C "__bool__" g) (F : FnR X.prog X.w X.K X.mg X.base CX k g sp) (hr : Room (k + 2) X.A) (hx : Passes CX X E) :
    CallR X (.type "bool") (fun xs H Q => ∃ a, xs = [.ref a] ∧ OAt C H a ∧ sp [.ref a] H (fun u H' => ∃ b, u = .bl b ∧ Q (.bl b) H') E) := by
  intro pins s σ H xs us Q I r h
  obtain ⟨a, rfl, ha, q⟩ := h
  obtain rfl := Vals.ref1 r
  obtain ⟨ox, od, J⟩ := OAt.inst I ha
  obtain ⟨m, fr⟩ := I.fr
  refine call_bool_at (PySem.W.truthy_K fr I.ok.mod.kin J M.at_ M.fn (wpAny_mono (run_deep F (hr.in1.in1) I.env0.in1.in1 hx I (.cons (rv_ref _) .nil) q) (fun w1 s1 got => ?_) fun _ _ z => z))
  obtain ⟨v1, H1, I1, r1, b, rfl, q1⟩ := got
  obtain rfl : w1 = Value.bool b := r1
  exact ⟨.bl b, H1, I1, rfl, q1⟩
end
end QN

/-! str(o) of an own class with __str__ -/
namespace QN
open PySem PySem.Spec PyProof.Rows L2
section
variable {X : Cx} {CX : CXT} {k : Nat} {g C : Addr} {sp : Sp} {E : XK}
theorem call_strO (M : OMeth X.K C "__str__" g) (F : FnR X.prog X.w X.K X.mg X.base CX k g sp) (hr : Room (k + 2) X.A) (hx : Passes CX X E) :
    CallR X (.type "str") (fun xs H Q => ∃ a, xs = [.ref a] ∧ OAt C H a ∧ sp [.ref a] H (fun u H' => ∃ z, u = .str z ∧ Q (.str z) H') E) := by
  intro pins s σ H xs us Q I r h
  obtain ⟨a, rfl, ha, q⟩ := h
  obtain rfl := Vals.ref1 r
  obtain ⟨ox, od, J⟩ := OAt.inst I ha
  obtain ⟨m, fr⟩ := I.fr
  refine PySem.W.kso_call (by have := hr.in1.in1.un; omega) I.kIn J M.at_ M.fn (wpAny_mono (run_deep F (hr.in1.in1) I.env0.in1.in1 hx I (.cons (rv_ref _) .nil) q) (fun w1 s1 got => ?_) fun _ _ z => z)
  obtain ⟨v1, H1, I1, r1, z, rfl, q1⟩ := got
  obtain ⟨t, rfl⟩ := (show ∃ t, w1 = Value.str z t from r1)
  exact ⟨.str z, H1, I1, ⟨_, rfl⟩, q1⟩
end
end QN

/-! iter(a tuple) as a value; walks over an own class whose __iter__ returns such a one -/
namespace QN
open PySem PySem.Spec PyProof.Rows L2
def ttObj (t : Addr) : Obj := { cls := .type "tuple_iterator", data := .fields #[.ref t, .int 0 0] }
/-- the iterator at it, at the beginning of the tuple at t -/
def TtO (t it : Addr) : HO := .ext fun h => h.get? it = some (ttObj t)
theorem ttO_ok {P : Program} {w : World} {H : Hp} {h : Heap} {t it : Addr} (e : h.get? it = some (ttObj t)) : ObjOk P w H h it (TtO t it) := ⟨e, ⟨_, e⟩, fun h1 h2 q k => k _ q⟩
section
variable {prog : Program} {w : World} {A : Around} {E : Value → Shared → Prop} {s : Shared} {t : Addr} {items : Array Value}
theorem call_iter_tup {Q : Value → Shared → Prop} (hl : s.heap.IsTuple t items) (h : Q (.ref s.heap.objs.size) { s with heap := s.heap.push (ttObj t) }) : wpAny (model prog w) A (call (.builtin "iter") [.ref t]) Q E s := by
  refine Calls.call_function_entry (by decide +kernel) (by decide +kernel) PySem.W.kdk_entry_iter (PySem.W.kdk_args_iter _) ?_
  unfold Builtin.«iter»
  refine wpAny_bind (m := someArgs "iter" 1 2 _) (wpAny_of_eq (a := [Value.ref t]) (by first | rfl | kernel_rfl!) ?_)
  show wpAny _ _ (pyIter (.ref t) >>= _) _ _ _
  refine wpAny_bind (wpAny_pyIter_tuple hl ?_)
  exact wpAny_pure ⟨_, rfl, h⟩
end
section
variable {X : Cx}
theorem call_iterT : CallR X (.builtin "iter") (fun xs H Q => ∃ (t : Addr) (zs : List V), xs = [.ref t] ∧ SqT X.K H t zs ∧ ∀ it, H it = none → X.s_0.heap.objs.size ≤ it → Q (.ref it) (upd H it (TtO t it))) := by
  intro pins s σ H xs us Q I r h
  obtain ⟨l, zs, rfl, hq, q⟩ := h
  obtain rfl := Vals.ref1 r
  obtain ⟨its, rv, pl, hz⟩ := I.tuple hq
  refine call_iter_tup pl ?_
  exact ⟨.ref s.heap.objs.size, _, I.laid (t' := s.toks) (fun b u e => Heap.get?_push_of_some _ e) (Nat.le_refl _) (ttO_ok (Heap.get?_push_size _ rfl)), rfl, q _ (I.hok.fresh (Nat.le_refl _)) I.sz⟩
end
/-- the promise of a def at f, that knows how many objects there were when it was called -/
structure FnN (P : Program) (w : World) (K : PySem.W.Frag) (mg : Str → Option Value) (base : Heap) (k : Nat) (f : Addr) (fd : FuncData) (ps : List Str) (sp : Nat → Sp) : Prop where
  len : ∀ n vs H Q E, sp n vs H Q E → vs.length = ps.length
  go : ∀ (A : Around) (outer : List Env) (s : Shared) (H : Hp) (args : Args) (us : List Value) (vs : List V) (Q : VK) (E : XK), Room k A → Env0 P w K mg base A outer s H → BindsTo s fd args (ps.zip us) → Vals vs us → sp s.heap.objs.size vs H Q E →
    codeAny (model P w) A (.call (.ref f) args) (CR L2.CX0 outer P w H s Q E) s
theorem Fun_okN {P : Program} {w : World} {K : PySem.W.Frag} {mg : Str → Option Value} {base : Heap} {x qual : Str} {st : Stmt} {f : Addr} {fd : FuncData} {N ps : List Str} {k : Nat} {sp : Nat → Sp}
    (F : Fun K x qual st f fd) (S : FnScope N ps (defScope st)) (len : ∀ n vs H Q E, sp n vs H Q E → vs.length = ps.length)
    (body : ∀ (cdv : Value) (A : Around) (outer : List Env) (s : Shared) (H : Hp) (vs : List V) (Q : VK) (E : XK), Room k (A.deeper (envOfC qual (defScope st) s.heap.objs.size f cdv)) → sp s.heap.objs.size vs H Q E →
      ∃ t, PSs (cxOf L2.CX0 P w K mg base N qual (defScope st) f cdv A outer s H E).nox (defBody st) t ∧ t { nx := fun _ H' => Q .non H', rt := Q } (start N vs) H) :
    FnN P w K mg base (k + 1) f fd ps sp := by
  obtain ⟨oc, od, kV, doc, pm, an, cdv, ct, osl, rfl, lk, hcd⟩ := F.ex
  refine ⟨len, fun A outer s H args us vs Q E room env0 hbind rv hsp => ?_⟩
  have nvs := len _ _ _ _ _ hsp
  have inK : K.In s.heap := env0.mod.kin.keeps fun b o e => (env0.bs b o e).1
  have nolim : s.heap.NoLimit := env0.mod.nolimit.keeps fun b o e => (env0.bs b o e).1
  have kinds : ∀ y ∈ ps.zip us, (defScope st).names.lookup y.1 = some .local ∨ ((defScope st).names.lookup y.1 = some .cell ∧ ((cellsFrom (s.heap.objs.size + 1) (defScope st).names []).lookup y.1).isSome = true) := fun ⟨n, v⟩ hy => by
    rcases S.par n (List.of_mem_zip hy).1 with c | c
    · exact Or.inl c
    · exact Or.inr ⟨c, PySem.W.cellsFrom_some _ _ _ (Or.inl c)⟩
  refine codeAny_call_function room.depth (inK _ _ lk) rfl S.co S.gen rfl (PySem.W.codeRec_of inK hcd) (hbind _ _ _ _ ?_)
  refine wpAny_newFunctionEnv_cells S.kind kinds fun env he s1 entered => ?_
  subst he
  refine ⟨nolim.keeps entered.toInCall.keep, codeAny_func ?_⟩
  obtain ⟨t, ht, hq⟩ := body cdv A outer s H vs Q E (room.deeper _) hsp
  have I0 := inv_start (CX := L2.CX0) (E := E) S room.hd env0 nvs rv entered
  refine wpAny_mono (ht.nox.run [] s1 (start N vs) H _ I0 hq) (fun fl s' hs => ?_) fun e s' hs => hs
  have close : ∀ {σ' : L2.St} {H' : Hp} {v : V} {u : Value}, Inv (cxOf L2.CX0 P w K mg base N qual (defScope st) f cdv A outer s H E) [] σ' H' s' → RelV v u → Q v H' → CE outer P w H s Q u s' :=
    fun {σ' H' v u} J r q => ⟨v, H', J.os, J.bare, J.base, J.hok, r, q⟩
  cases fl with
  | ret u =>
    obtain ⟨v, σ', H', J, r, q⟩ := hs
    exact close J r q
  | next =>
    obtain ⟨σ', H', J, q⟩ := hs
    exact close (v := V.non) (u := Value.none) J rfl q
  | brk => exact False.elim hs.choose_spec.choose_spec.2
  | cont => exact False.elim hs.choose_spec.choose_spec.2
def iOwnT (K : PySem.W.Frag) (C : Addr) (te : TE) (its : Hp → Addr → Addr → Prop) : TI := fun σ H R => te σ H fun x H1 => ∃ a, x = .ref a ∧ OAt C H1 a ∧ ∃ t, its H1 a t ∧ ∀ H2, (∀ b o, H1 b = some o → H2 b = some o) → R (Itt K t) H2
section
variable {X : Cx} {k : Nat} {C g : Addr} {fd : FuncData} {ps : List Str} {tg e : Expr} {te : TE} {its : Hp → Addr → Addr → Prop}
/-- what __iter__ of an own class promises that returns iter(a tuple) -/
def spIterT (its : Hp → Addr → Addr → Prop) : Nat → Sp := fun n vs H Q _ => ∃ a t, vs = [.ref a] ∧ its H a t ∧ ∀ it, H it = none → n ≤ it → Q (.ref it) (upd H it (TtO t it))
theorem pi_ownT (M : OMeth X.K C "__iter__" g) (F : FnN X.prog X.w X.K X.mg X.base k g fd ps (spIterT its)) (hb : L2.Binds X.K fd ps []) (hr : Room k X.A) (he : PE X e te) : PI X tg e (iOwnT X.K C te its) := by
  refine ⟨fun pins s σ H R I h => ?_⟩
  refine thn (he.run pins s σ H _ I h) fun v s1 ⟨x, H1, I1, r1, a, ex, ha, t, hi, q⟩ => ?_
  subst ex
  obtain rfl : v = Value.ref a := r1
  obtain ⟨ox, od, J⟩ := OAt.inst I1 ha
  obtain ⟨m, fr⟩ := I1.fr
  refine PySem.W.owit_iter fr I1.ok.mod.kin J M.at_ M.fn ?_
  have hsp : spIterT its s1.heap.objs.size [.ref a] H1 (fun u H2 => ∃ it, u = .ref it ∧ H1 it = none ∧ s1.heap.objs.size ≤ it ∧ H2 = upd H1 it (TtO t it)) L2.E0 := ⟨a, t, rfl, hi, fun it h1 h2 => ⟨it, rfl, h1, h2, rfl⟩⟩
  have n1 : [Value.ref a].length = ps.length := F.len _ _ _ _ _ hsp
  have bind := hb s1 [.ref a] I1.kIn (by rw [List.append_nil]; exact n1)
  rw [List.append_nil] at bind
  refine wpAny_call (codeAny_mono (F.go X.A X.stack s1 H1 ⟨[.ref a], []⟩ [.ref a] [.ref a] _ L2.E0 hr I1.env0 bind (.cons (rv_ref _) .nil) hsp) fun out s' got => ?_)
  match out, got with
  | .error e, got => exact got.elim
  | .ok .next, got => exact got.elim
  | .ok .brk, got => exact got.elim
  | .ok .cont, got => exact got.elim
  | .ok (.ret u), got =>
    obtain ⟨v, H2, I2, r, it, ev, hn, young, eH⟩ := I1.after got
    subst ev
    subst eH
    obtain rfl : u = Value.ref it := r
    have hit : (upd H1 it (TtO t it)) it = some (TtO t it) := upd_same
    have eo : s'.heap.get? it = some (ttObj t) := (I2.hok it _ hit).1
    have st : s'.heap.IsTupleIter it t 0 := ⟨_, eo, rfl, rfl⟩
    refine wpAny_specialOf (name := Str.ofString "__next__") (show Shared.TypeIs s' (.ref it) "tuple_iterator" from ⟨_, eo, rfl⟩) PySem.F.slot_tuple_iterator_next.lookup ?_
    have hit' := hit
    unfold TtO at hit'
    have eq : ItX.dropH (upd H1 it (TtO t it)) it = H1 := ItX.dropH_upd hn
    refine ⟨it, [it], _, _, ItX.dropH (upd H1 it (TtO t it)) it, rfl, ItX.inv_drop I2 hit', turn_tuple t it, st, fun b hb => ?_, q _ (by rw [eq]; exact fun _ _ e => e)⟩
    have e : b = it := by simpa using hb
    rw [e]
    exact ItX.inv_fp I2 hit (Nat.le_trans I1.sz young)
end
end QN

/-! what else a graph answers: counters, states, len, truth, iteration, its text, == with anything -/
namespace Qp
open PySem PySem.Spec PyProof.Rows L2 QN
abbrev sGCtrs : Stmt := inClass cGraph 2 -- Graph.counters
abbrev sGSts : Stmt := inClass cGraph 3 -- Graph.states
abbrev sGLen : Stmt := inClass cGraph 8 -- Graph.__len__
abbrev sGBool : Stmt := inClass cGraph 9 -- Graph.__bool__
abbrev sGIter : Stmt := inClass cGraph 10 -- Graph.__iter__
abbrev sGStr : Stmt := inClass cGraph 12 -- Graph.__str__
theorem scGCtrs : FnScope ["self"] ["self"] (defScope sGCtrs) := ⟨rfl, rfl, rfl, by decide +kernel, rfl, by decide +kernel, by decide +kernel⟩
theorem scGSts : FnScope ["self"] ["self"] (defScope sGSts) := ⟨rfl, rfl, rfl, by decide +kernel, rfl, by decide +kernel, by decide +kernel⟩
theorem scGLen : FnScope ["self"] ["self"] (defScope sGLen) := ⟨rfl, rfl, rfl, by decide +kernel, rfl, by decide +kernel, by decide +kernel⟩
theorem scGBool : FnScope ["self"] ["self"] (defScope sGBool) := ⟨rfl, rfl, rfl, by decide +kernel, rfl, by decide +kernel, by decide +kernel⟩
theorem scGIter : FnScope ["self"] ["self"] (defScope sGIter) := ⟨rfl, rfl, rfl, by decide +kernel, rfl, by decide +kernel, by decide +kernel⟩
theorem scGStr : FnScope ["self"] ["self"] (defScope sGStr) := ⟨rfl, rfl, rfl, by decide +kernel, rfl, by decide +kernel, by decide +kernel⟩
def spGCtrs (K : PySem.W.Frag) (C : Addr) : Sp := fun vs H Q _ => ∃ (g : Addr) (G : Gr), vs = [.ref g] ∧ GraphAt K C H g G ∧ ∀ n, SqT K H n (G.cs.map V.str) → Q (.ref n) H
def spGSts (K : PySem.W.Frag) (C : Addr) : Sp := fun vs H Q _ => ∃ (g : Addr) (G : Gr), vs = [.ref g] ∧ GraphAt K C H g G ∧ ∀ n, SqT K H n (G.ns.map V.str) → Q (.ref n) H
def spGLen (K : PySem.W.Frag) (C : Addr) : Sp := fun vs H Q _ => ∃ (g : Addr) (G : Gr), vs = [.ref g] ∧ GraphAt K C H g G ∧ Q (.int (G.rs.length : Nat)) H
def spGBool (K : PySem.W.Frag) (C : Addr) : Sp := fun vs H Q _ => ∃ (g : Addr) (G : Gr), vs = [.ref g] ∧ GraphAt K C H g G ∧ Q (.bl (!G.rs.isEmpty)) H
/-- its rows stand at t -/
def itsGraph (K : PySem.W.Frag) (C : Addr) (H : Hp) (g t : Addr) : Prop := ∃ (G : Gr) (dx c st n b k : Addr) (us : List V), H g = some (.ins C dx (gFields c st t n b k)) ∧ SqT K H t us ∧ Paired (PlRow K H) us G.rs ∧ GraphAt K C H g G
/-- the text of a graph -/
def gText (G : Gr) : Str := ("" : Str) ++ ("graph of " : Str) ++ Str.ofString (toString ((G.ns.length : Nat) : Int)) ++ (" states, " : Str) ++ Str.ofString (toString ((G.cs.length : Nat) : Int)) ++ (" counters, " : Str) ++ Str.ofString (toString ((G.rs.length : Nat) : Int)) ++ (" transitions" : Str)
def spGStr (K : PySem.W.Frag) (C : Addr) : Sp := fun vs H Q _ => ∃ (g : Addr) (G : Gr), vs = [.ref g] ∧ GraphAt K C H g G ∧ G.Ok ∧ Q (.str (gText G)) H
section
variable {P : Program} {w : World} {K : PySem.W.Frag} {mg : Str → Option Value} {base : Heap}
theorem ok_gctrs {f C : Addr} {fd : FuncData} (F : Fun K "counters" "Graph.counters" sGCtrs f fd) (T : GraphC K mg C) : FnOk P w K mg base CX0 1 f fd ["self"] (spGCtrs K C) := by
  refine F.ok scGCtrs (fun vs H Q E h => ?_) (fun cdv A outer s H vs Q E hr h => ?_)
  · obtain ⟨g, G, rfl, _⟩ := h
    rfl
  · obtain ⟨g, G, rfl, ⟨dx, c, t, r, n, b, kp, us, h1, h2⟩, k⟩ := h
    refine ⟨_, pss_one (ps_ret (pe_fld (pv 0) rfl)), ?_⟩
    exact ⟨_, rfl, g, C, dx, _, _, rfl, h1, T.cls, T.n1, rfl, k c h2.hc⟩
theorem ok_gsts {f C : Addr} {fd : FuncData} (F : Fun K "states" "Graph.states" sGSts f fd) (T : GraphC K mg C) : FnOk P w K mg base CX0 1 f fd ["self"] (spGSts K C) := by
  refine F.ok scGSts (fun vs H Q E h => ?_) (fun cdv A outer s H vs Q E hr h => ?_)
  · obtain ⟨g, G, rfl, _⟩ := h
    rfl
  · obtain ⟨g, G, rfl, ⟨dx, c, t, r, n, b, kp, us, h1, h2⟩, k⟩ := h
    refine ⟨_, pss_one (ps_ret (pe_fld (pv 0) rfl)), ?_⟩
    exact ⟨_, rfl, g, C, dx, _, _, rfl, h1, T.cls, T.n2, rfl, k t h2.ht⟩
theorem ok_glen {f C : Addr} {fd : FuncData} (F : Fun K "__len__" "Graph.__len__" sGLen f fd) (T : GraphC K mg C) (B : BltP mg) : FnOk P w K mg base CX0 1 f fd ["self"] (spGLen K C) := by
  refine F.ok scGLen (fun vs H Q E h => ?_) (fun cdv A outer s H vs Q E hr h => ?_)
  · obtain ⟨g, G, rfl, _⟩ := h
    rfl
  · obtain ⟨g, G, rfl, ⟨dx, c, t, r, n, b, kp, us, h1, h2⟩, k⟩ := h
    refine ⟨_, pss_one (ps_ret (pe_callB call_len_seq (by rfl) B.len PySem.boot_len (pa_cons (pe_fld (pv 0) rfl) pa_nil))), ?_⟩
    refine ⟨_, rfl, g, C, dx, _, _, rfl, h1, T.cls, T.n3, rfl, r, _, rfl, .inr h2.hr, ?_⟩
    rw [h2.hp.length]
    exact k
theorem ok_gbool {f C : Addr} {fd : FuncData} (F : Fun K "__bool__" "Graph.__bool__" sGBool f fd) (T : GraphC K mg C) (B : BltP mg) : FnOk P w K mg base CX0 1 f fd ["self"] (spGBool K C) := by
  refine F.ok scGBool (fun vs H Q E h => ?_) (fun cdv A outer s H vs Q E hr h => ?_)
  · obtain ⟨g, G, rfl, _⟩ := h
    rfl
  · obtain ⟨g, G, rfl, ⟨dx, c, t, r, n, b, kp, us, h1, h2⟩, k⟩ := h
    refine ⟨_, pss_one (ps_ret (pe_callTy call_boolT (by rfl) B.bool (by decide +kernel) (pa_cons (pe_fld (pv 0) rfl) pa_nil))), ?_⟩
    refine ⟨_, rfl, g, C, dx, _, _, rfl, h1, T.cls, T.n3, rfl, r, _, rfl, h2.hr, ?_⟩
    have l := h2.hp.length
    have e : us.isEmpty = G.rs.isEmpty := by
      cases us with
      | nil => cases e : G.rs with
        | nil => rfl
        | cons x y => rw [e] at l; cases l
      | cons u v => cases e : G.rs with
        | nil => rw [e] at l; cases l
        | cons x y => rfl
    rw [e]
    exact k
theorem ok_giter {f C : Addr} {fd : FuncData} (F : Fun K "__iter__" "Graph.__iter__" sGIter f fd) (T : GraphC K mg C) (it : mg "iter" = none) : FnN P w K mg base 1 f fd ["self"] (spIterT (itsGraph K C)) := by
  refine Fun_okN F scGIter (fun n vs H Q E h => ?_) (fun cdv A outer s H vs Q E hr h => ?_)
  · obtain ⟨a, t, rfl, _⟩ := h
    rfl
  · obtain ⟨a, t, rfl, ⟨G, dx, c, st, n, b, k2, us, h1, h2, _, _⟩, k⟩ := h
    refine ⟨_, pss_one (ps_ret (pe_callB call_iterT (by rfl) it (by decide +kernel) (pa_cons (pe_fld (pv 0) rfl) pa_nil))), ?_⟩
    exact ⟨_, rfl, a, C, dx, _, _, rfl, h1, T.cls, T.n3, rfl, t, _, rfl, h2, fun it h1 h2 => k it h1 h2⟩
theorem short_len {n : Nat} (h : n ≤ 100) : (Str.ofString (toString ((n : Nat) : Int))).length ≤ 4 ∧ (((n : Nat) : Int)).natAbs.log2 < 1920 := by
  refine ⟨?_, ?_⟩
  · have e := int_text_length_le10 (a := ((n : Nat) : Int)) (k := 3) (by decide) (by omega)
    rw [PySem.ofString_length]
    exact e
  · by_cases z : ((n : Nat) : Int).natAbs = 0
    · rw [z]
      decide
    · exact (Nat.log2_lt z).mpr (Nat.lt_of_le_of_lt (show ((n : Nat) : Int).natAbs ≤ 100 by omega) (by decide +kernel))
theorem ok_gstr {f C : Addr} {fd : FuncData} (F : Fun K "__str__" "Graph.__str__" sGStr f fd) (T : GraphC K mg C) (B : BltP mg) : FnOk P w K mg base CX0 1 f fd ["self"] (spGStr K C) := by
  refine F.ok scGStr (fun vs H Q E h => ?_) (fun cdv A outer s H vs Q E hr h => ?_)
  · obtain ⟨g, G, rfl, _⟩ := h
    rfl
  · obtain ⟨g, G, rfl, ⟨dx, c, t, r, n, b, kp, us, h1, h2⟩, ok, k⟩ := h
    refine ⟨_, pss_one (ps_ret (pe_joined (.cons pe_str (.cons (pe_fmt (pe_callB call_len_seq (by rfl) B.len PySem.boot_len (pa_cons (pe_fld (pv 0) rfl) pa_nil))) (.cons pe_str (.cons (pe_fmt (pe_callB call_len_seq (by rfl) B.len PySem.boot_len (pa_cons (pe_fld (pv 0) rfl) pa_nil))) (.cons pe_str (.cons (pe_fmt (pe_callB call_len_seq (by rfl) B.len PySem.boot_len (pa_cons (pe_fld (pv 0) rfl) pa_nil))) (.cons pe_str .nil))))))))), ?_⟩
    obtain ⟨l1, g1⟩ := short_len (n := G.ns.length) (by have := ok.nl; omega)
    obtain ⟨l2, g2⟩ := short_len (n := G.cs.length) (by have := ok.cl; omega)
    obtain ⟨l3, g3⟩ := short_len (n := G.rs.length) (by have := ok.rl; omega)
    have e1 : (Str.empty).length = 0 := rfl
    have e2 : (("graph of " : Str)).length = 9 := rfl
    have e3 : ((" states, " : Str)).length = 9 := rfl
    have e4 : ((" counters, " : Str)).length = 11 := rfl
    have e5 : ((" transitions" : Str)).length = 12 := rfl
    have sz := sizeLine_eq
    refine ⟨_, rfl, ?_, _, rfl, g, C, dx, _, _, rfl, h1, T.cls, T.n2, rfl, t, _, rfl, .inr h2.ht, .inr ⟨_, rfl, by rw [List.length_map]; exact g1, ?_⟩⟩
    · simp only [strLen_append, e1, e2]
      omega
    rw [List.length_map]
    refine ⟨_, rfl, ?_, _, rfl, ?_, _, rfl, g, C, dx, _, _, rfl, h1, T.cls, T.n1, rfl, c, _, rfl, .inr h2.hc, .inr ⟨_, rfl, by rw [List.length_map]; exact g2, ?_⟩⟩
    · simp only [strLen_append, e1, e2, e3, e4, e5]
      omega
    · simp only [strLen_append, e1, e2, e3, e4, e5]
      omega
    rw [List.length_map]
    refine ⟨_, rfl, ?_, _, rfl, ?_, _, rfl, g, C, dx, _, _, rfl, h1, T.cls, T.n3, rfl, r, _, rfl, .inr h2.hr, .inr ⟨_, rfl, by rw [h2.hp.length]; exact g3, ?_⟩⟩
    · simp only [strLen_append, e1, e2, e3, e4, e5]
      omega
    · simp only [strLen_append, e1, e2, e3, e4, e5]
      omega
    rw [h2.hp.length]
    refine ⟨_, rfl, ?_, _, rfl, ?_, ?_⟩
    · simp only [strLen_append, e1, e2, e3, e4, e5]
      omega
    · simp only [strLen_append, e1, e2, e3, e4, e5]
      omega
    exact k
end
end Qp

/-! == of a graph with anything, x in a graph -/
namespace Qp
open PySem PySem.Spec PyProof.Rows L2 QN
theorem eqv_str (x y : Str) : PyData.eqv (.str x) (.str y) = decide (x = y) := by
  simp only [PyData.eqv]
  by_cases e : x = y
  · rw [decide_eq_true e]
    exact beq_iff_eq.mpr e
  · rw [decide_eq_false e]
    exact beq_eq_false_iff_ne.mpr e
theorem eqv_int (x y : Int) : PyData.eqv (.int x) (.int y) = decide (x = y) := by
  simp only [PyData.eqv]
  by_cases e : x = y
  · subst e
    simp
  · simp [e]
/-- == is sameness, piece by piece -/
theorem eqvAll_map {α : Type} [DecidableEq α] {f : α → PyData} (h : ∀ a b, PyData.eqv (f a) (f b) = decide (a = b)) : ∀ xs ys : List α, PyData.eqvAll (xs.map f) (ys.map f) = decide (xs = ys)
  | [], [] => by simp [PyData.eqvAll]
  | [], y :: ys => by simp [PyData.eqvAll]
  | x :: xs, [] => by simp [PyData.eqvAll]
  | x :: xs, y :: ys => by
    rw [List.map_cons, List.map_cons]
    simp only [PyData.eqvAll, h, eqvAll_map h xs ys]
    by_cases a : x = y
    · subst a
      simp
    · simp [a]
theorem eqv_pairD (p q : Str × Int) : PyData.eqv (pairD p) (pairD q) = decide (p = q) := by
  unfold pairD
  simp only [PyData.eqv, PyData.eqvAll]
  have h1 := eqv_str p.1 q.1
  have h2 := eqv_int p.2 q.2
  simp only [PyData.eqv] at h1 h2
  obtain ⟨a, b⟩ := p
  obtain ⟨c, d⟩ := q
  simp only at h1 h2 ⊢
  by_cases e1 : a = c
  · by_cases e2 : b = d
    · subst e1 e2
      simp
    · subst e1
      simp [e2]
  · simp [e1]
instance : DecidableEq Row := fun p q =>
  if h : p.n = q.n ∧ p.s = q.s ∧ p.t = q.t ∧ p.c = q.c then isTrue (by
    obtain ⟨a, b, c, d⟩ := p
    obtain ⟨a', b', c', d'⟩ := q
    obtain ⟨rfl, rfl, rfl, rfl⟩ := h
    rfl) else isFalse fun e => h (by rw [e]; exact ⟨rfl, rfl, rfl, rfl⟩)
instance : DecidableEq Gr := fun p q =>
  if h : p.cs = q.cs ∧ p.ns = q.ns ∧ p.rs = q.rs then isTrue (by
    obtain ⟨a, b, c⟩ := p
    obtain ⟨a', b', c'⟩ := q
    obtain ⟨rfl, rfl, rfl⟩ := h
    rfl) else isFalse fun e => h (by rw [e]; exact ⟨rfl, rfl, rfl⟩)
theorem eqv_rowD (p q : Row) : PyData.eqv (rowD p) (rowD q) = decide (p = q) := by
  have h4 : PyData.eqv (chD p.c) (chD q.c) = decide (p.c = q.c) := by
    unfold chD
    simp only [PyData.eqv]
    exact eqvAll_map eqv_pairD _ _
  have e : PyData.eqv (rowD p) (rowD q) = (PyData.eqv (.str p.n) (.str q.n) && (PyData.eqv (.str p.s) (.str q.s) && (PyData.eqv (.str p.t) (.str q.t) && (PyData.eqv (chD p.c) (chD q.c) && true)))) := by
    unfold rowD
    simp only [PyData.eqv, PyData.eqvAll]
  rw [e, eqv_str, eqv_str, eqv_str, h4]
  obtain ⟨a, b, c, d⟩ := p
  obtain ⟨a', b', c', d'⟩ := q
  by_cases e1 : a = a'
  · by_cases e2 : b = b'
    · by_cases e3 : c = c'
      · by_cases e4 : d = d'
        · subst e1 e2 e3 e4
          simp
        · simp [e4]
      · simp [e3]
    · simp [e2]
  · simp [e1]
theorem eqv_strs (xs ys : List Str) : PyData.eqv (.tuple (xs.map PyData.str)) (.tuple (ys.map PyData.str)) = decide (xs = ys) := by
  simp only [PyData.eqv]
  exact eqvAll_map eqv_str xs ys
theorem eqv_rows (xs ys : List Row) : PyData.eqv (.tuple (xs.map rowD)) (.tuple (ys.map rowD)) = decide (xs = ys) := by
  simp only [PyData.eqv]
  exact eqvAll_map eqv_rowD xs ys
/-- what == says of a graph and anything -/
def EqG (K : PySem.W.Frag) (C : Addr) (H : Hp) (G : Gr) (o : V) (b : Bool) : Prop := (∃ (q : Addr) (G' : Gr), o = .ref q ∧ GraphAt K C H q G' ∧ G'.Ok ∧ b = decide (G = G')) ∨ (b = false ∧ ∃ t, TyX K H o t ∧ PySem.W.kitOne K t (.ref C) = some false)
def spGEqV (K : PySem.W.Frag) (C : Addr) : Sp := fun vs H Q _ => ∃ (g : Addr) (o : V) (G : Gr) (b : Bool), vs = [.ref g, o] ∧ GraphAt K C H g G ∧ G.Ok ∧ EqG K C H G o b ∧ Q (.bl b) H
/-- what `in` says -/
def InG (K : PySem.W.Frag) (H : Hp) (G : Gr) (o : V) (b : Bool) : Prop := (∃ x : Str, o = .str x ∧ b = decide (x ∈ G.rs.map (·.n))) ∨ (b = false ∧ ∃ t, TyX K H o t ∧ PySem.W.kitOne K t (.type "str") = some false)
def spGConV (K : PySem.W.Frag) (C : Addr) : Sp := fun vs H Q _ => ∃ (g : Addr) (o : V) (G : Gr) (b : Bool), vs = [.ref g, o] ∧ GraphAt K C H g G ∧ InG K H G o b ∧ Q (.bl b) H
section
variable {P : Program} {w : World} {K : PySem.W.Frag} {mg : Str → Option Value} {base : Heap}
theorem ok_geqV {f C : Addr} {fd : FuncData} (F : Fun K "__eq__" "Graph.__eq__" sGEq f fd) (T : GraphC K mg C) (O : GraphO K C) (B : BltP mg) : FnOk P w K mg base CX0 1 f fd ["self", "other"] (spGEqV K C) := by
  refine F.ok scGEq (fun vs H Q E h => ?_) (fun cdv A outer s H vs Q E hr h => ?_)
  · obtain ⟨g, o, G, b, rfl, _⟩ := h
    rfl
  · obtain ⟨g, o, G, b0, rfl, hg, ok, he, k⟩ := h
    have hu : (A.deeper (envOfC "Graph.__eq__" (defScope sGEq) s.heap.objs.size f cdv)).units + 64 < cLine := by
      have := hr.un
      omega
    refine ⟨_, pss_one (ps_ret (pe_and (pe_callB call_isi (by rfl) B.isi (by decide +kernel) (pa_cons (pv 1) (pa_cons (pe_glob (v := .ref C) (by rfl) T.gC rfl) pa_nil)))
      (pe_and (pe_cmpR (op_eqD hu) (pe_fld (pv 0) rfl) (pe_fld (pv 1) rfl) (nomark _)) (pe_and (pe_cmpR (op_eqD hu) (pe_fld (pv 0) rfl) (pe_fld (pv 1) rfl) (nomark _)) (pe_one (pe_cmpR (op_eqD hu) (pe_fld (pv 0) rfl) (pe_fld (pv 1) rfl) (nomark _))))))), ?_⟩
    rcases he with ⟨q, G', rfl, hq, ok', rfl⟩ | ⟨rfl, t, ty, nk⟩
    · have ty := tyx_graph T O hq
      obtain ⟨dx, c, t, r, n, b, kp, us, h1, h2⟩ := hg
      obtain ⟨dx', c', t', r', n', b', kp', us', j1, j2⟩ := hq
      refine ⟨_, rfl, _, _, _, _, true, rfl, .own C, ty, O.isC, _, rfl, if_yes rfl ?_⟩
      refine ⟨_, rfl, g, C, dx, _, _, rfl, h1, T.cls, T.n1, rfl, _, rfl, q, C, dx', _, _, rfl, j1, T.cls, T.n1, rfl, _, _, .tup h2.hc (strs_dp _), .tup j2.hc (strs_dp _), shaped_strs ok.cn, shaped_strs ok'.cn, ?_⟩
      rw [eqv_strs]
      refine ⟨_, rfl, ?_⟩
      by_cases e1 : G.cs = G'.cs
      · refine if_yes (decide_eq_true e1) ?_
        refine ⟨_, rfl, g, C, dx, _, _, rfl, h1, T.cls, T.n2, rfl, _, rfl, q, C, dx', _, _, rfl, j1, T.cls, T.n2, rfl, _, _, .tup h2.ht (strs_dp _), .tup j2.ht (strs_dp _), shaped_strs ok.nn, shaped_strs ok'.nn, ?_⟩
        rw [eqv_strs]
        refine ⟨_, rfl, ?_⟩
        by_cases e2 : G.ns = G'.ns
        · refine if_yes (decide_eq_true e2) ?_
          refine ⟨_, rfl, g, C, dx, _, _, rfl, h1, T.cls, T.n3, rfl, _, rfl, q, C, dx', _, _, rfl, j1, T.cls, T.n3, rfl, _, _, .tup h2.hr h2.hu, .tup j2.hr j2.hu, shaped_rows ok.ro, shaped_rows ok'.ro, ?_⟩
          rw [eqv_rows]
          have e : decide (G = G') = decide (G.rs = G'.rs) := by
            by_cases e3 : G.rs = G'.rs
            · have : G = G' := by
                obtain ⟨a, b, c⟩ := G
                obtain ⟨a', b', c'⟩ := G'
                cases e1
                cases e2
                cases e3
                rfl
              rw [decide_eq_true this, decide_eq_true e3]
            · rw [decide_eq_false e3, decide_eq_false fun z => e3 (by rw [z])]
          rw [← e]
          exact k
        · have z : decide (G = G') = false := decide_eq_false fun z => e2 (by rw [z])
          rw [z] at k
          exact if_no (by simpa using e2) k
      · have z : decide (G = G') = false := decide_eq_false fun z => e1 (by rw [z])
        rw [z] at k
        exact if_no (by simpa using e1) k
    · exact ⟨_, rfl, _, _, _, _, false, rfl, .own C, ty, nk, _, rfl, if_no (by decide) k⟩
theorem ok_gconV {f C : Addr} {fd : FuncData} (F : Fun K "__contains__" "Graph.__contains__" sGCon f fd) (T : GraphC K mg C) (B : BltP mg) (st : mg "str" = none) : FnOk P w K mg base CX0 1 f fd ["self", "x"] (spGConV K C) := by
  refine F.ok scGCon (fun vs H Q E h => ?_) (fun cdv A outer s H vs Q E hr h => ?_)
  · obtain ⟨g, o, G, b, rfl, _⟩ := h
    rfl
  · obtain ⟨g, o, G, b0, rfl, ⟨dx, c, t, r, n, b, kp, us, h1, h2⟩, hx, k⟩ := h
    have hu1 : (A.deeper (envOfC "Graph.__contains__" (defScope sGCon) s.heap.objs.size f cdv)).units + 1 < cLine := by
      have := hr.un
      omega
    refine ⟨_, pss_one (ps_ret (pe_and (pe_callB call_isi (by rfl) B.isi (by decide +kernel) (pa_cons (pv 1) (pa_cons (pe_bltn (v := .ty "str") (by rfl) st (by decide +kernel) rfl) pa_nil))) (pe_one (pe_cmp (pc_din hu1 (pv 1) (pe_fld (pv 0) rfl)))))), ?_⟩
    rcases hx with ⟨x, rfl, rfl⟩ | ⟨rfl, ty, hty, nk⟩
    · refine ⟨_, rfl, _, _, _, _, true, rfl, .ty _, .base (.str x), kit_ty (by decide +kernel), _, rfl, if_yes rfl ?_⟩
      have ul : us.length = G.rs.length := by rw [dpAll_len h2.hu, List.length_map]
      have has : (valV (byName G.rs us) (Sum.inr x : Key)).isSome = decide (x ∈ G.rs.map (·.n)) := by
        unfold valV
        rw [Option.isSome_map]
        by_cases m : x ∈ G.rs.map (·.n)
        · rw [decide_eq_true m, List.find?_isSome]
          obtain ⟨row, hrow, e⟩ := List.mem_map.mp m
          obtain ⟨i, hi⟩ := mem_at hrow
          have lt := (List.getElem?_eq_some_iff.mp hi).1
          obtain ⟨u, hu⟩ : ∃ u, us[i]? = some u := ⟨us[i]'(by omega), List.getElem?_eq_getElem _⟩
          refine ⟨(Sum.inr row.n, u), ?_, by rw [e]; exact decide_eq_true rfl⟩
          unfold byName
          exact List.mem_map.mpr ⟨(row, u), List.mem_of_getElem? (i := i) (by rw [List.getElem?_zip_eq_some]; exact ⟨hi, hu⟩), rfl⟩
        · rw [decide_eq_false m, Option.isSome_eq_false_iff, Option.isNone_iff_eq_none, List.find?_eq_none]
          intro q hq
          unfold byName at hq
          obtain ⟨z, hz, rfl⟩ := List.mem_map.mp hq
          simp only [decide_eq_true_eq]
          intro e
          exact m (List.mem_map.mpr ⟨z.1, (List.of_mem_zip hz).1, Sum.inr.inj e⟩)
      refine ⟨_, rfl, _, rfl, g, C, dx, _, _, rfl, h1, T.cls, T.n5, rfl, b, _, rfl, DGet.k (k := Sum.inr x) h2.hb, ?_⟩
      rw [has]
      exact k
    · exact ⟨_, rfl, _, _, _, _, false, rfl, .ty _, hty, nk, _, rfl, if_no (by decide) k⟩
end
end Qp

/-! change, leaving, entering -/
namespace Qp
open PySem PySem.Spec PyProof.Rows L2 QN
abbrev sGChg : Stmt := inClass cGraph 13 -- Graph.change
abbrev sGLv : Stmt := inClass cGraph 14 -- Graph.leaving
abbrev sGEn : Stmt := inClass cGraph 15 -- Graph.entering
abbrev gChgN : List Str := ["self", "name", "told", "counter"]
theorem scGChg : FnScope gChgN ["self", "name"] (defScope sGChg) := ⟨rfl, rfl, rfl, by decide +kernel, rfl, by decide +kernel, by decide +kernel⟩
theorem scGLv : FnScope ["self", "state"] ["self", "state"] (defScope sGLv) := ⟨rfl, rfl, rfl, by decide +kernel, rfl, by decide +kernel, by decide +kernel⟩
theorem scGEn : FnScope ["self", "state"] ["self", "state"] (defScope sGEn) := ⟨rfl, rfl, rfl, by decide +kernel, rfl, by decide +kernel, by decide +kernel⟩
/-- a change as a dict's pairs -/
def chK (c : List (Str × Int)) : List (Key × V) := c.map fun p => (Sum.inr p.1, V.int p.2)
def amountOf (c : List (Str × Int)) (x : Str) : Int := ((c.find? fun p => decide (p.1 = x)).map (·.2)).getD 0
def toldK (cs : List Str) (c : List (Str × Int)) : List (Key × V) := cs.map fun x => (Sum.inr x, V.int (amountOf c x))
theorem putK_new {kvs : List (Key × V)} {k : Key} {v : V} (h : k ∉ kvs.map (·.1)) : putK kvs k v = kvs ++ [(k, v)] := by
  unfold putK
  rw [if_neg]
  simp only [List.any_eq_true, decide_eq_true_eq, not_exists, not_and]
  exact fun p hp e => h (List.mem_map.mpr ⟨p, hp, e⟩)
theorem merge_new : ∀ {more acc : List (Key × V)}, ((acc ++ more).map (·.1)).Nodup → mergeK acc more = acc ++ more
  | [], acc, _ => by
    rw [List.append_nil]
    rfl
  | q :: more, acc, nd => by
    have e : acc ++ q :: more = (acc ++ [q]) ++ more := by simp
    show mergeK (putK acc q.1 q.2) more = _
    rw [putK_new, merge_new (by rw [← e]; exact nd), ← e]
    intro m
    rw [List.map_append, List.map_cons] at nd
    exact (List.nodup_append.mp nd).2.2 _ m _ List.mem_cons_self rfl
theorem chK_val (c : List (Str × Int)) (x : Str) : (valV (chK c) (Sum.inr x : Key)).getD (V.int 0) = V.int (amountOf c x) := by
  unfold amountOf
  induction c with
  | nil => rfl
  | cons p c ih =>
    by_cases e : p.1 = x
    · rw [List.find?_cons_of_pos (by simpa using e), show chK (p :: c) = (Sum.inr p.1, V.int p.2) :: chK c from rfl, e, valV_pos rfl]
      rfl
    · rw [List.find?_cons_of_neg (by simpa using e), ← ih]
      unfold valV
      rw [show chK (p :: c) = (Sum.inr p.1, V.int p.2) :: chK c from rfl, List.find?_cons_of_neg (by simpa using e)]
theorem asc_step {xs : List Str} (h : Asc xs) : xs.Pairwise lts := by
  induction xs with
  | nil => exact .nil
  | cons x xs ih =>
    have t := ih fun i y z h1 h2 => h (i + 1) y z (by simpa using h1) (by simpa using h2)
    refine List.pairwise_cons.mpr ⟨fun y hy => ?_, t⟩
    cases xs with
    | nil => cases hy
    | cons z zs =>
      have hz : lts x z := h 0 x z rfl rfl
      rcases List.mem_cons.mp hy with rfl | m
      · exact hz
      · exact lts_trans hz ((List.pairwise_cons.mp t).1 y m)
theorem chK_nodup {c : List (Str × Int)} (h : ChOk c) : ((chK c).map (·.1)).Nodup := by
  have e : (chK c).map (·.1) = (c.map (·.1)).map (Sum.inr : Str → Key) := by
    unfold chK
    rw [List.map_map, List.map_map]
    rfl
  rw [e]
  have nd := nodup_lts (asc_step h.2.1)
  exact List.Pairwise.map _ (fun a b ne z => ne (Sum.inr.inj z)) nd
/-- the pairs of a change that stands in the heap -/
theorem pairs_at {K : PySem.W.Frag} {H : Hp} : ∀ {us : List V} {c : List (Str × Int)}, DpAll K H us (c.map pairD) → ∃ ps : List Addr, us = ps.map V.ref ∧ Paired (fun p kv => SqT K H p [kV kv.1, kv.2]) ps (chK c)
  | [], [], _ => ⟨[], rfl, .nil⟩
  | [], _ :: _, h => by cases h
  | _ :: _, [], h => by cases h
  | u :: us, p :: c, h => by
    cases h with
    | cons a b =>
      obtain ⟨t, rfl, ht⟩ := dp_pair a
      obtain ⟨ps, rfl, hp⟩ := pairs_at b
      exact ⟨t :: ps, rfl, .cons ht hp⟩
theorem keptG_cons (n : Nat) (pz : Nat → Bool) (fv : Nat → V) : keptG (n + 1) pz fv = (if pz 0 = true then [fv 0] else []) ++ keptG n (fun j => pz (j + 1)) (fun j => fv (j + 1)) := by
  unfold keptG
  rw [List.range_succ_eq_map, List.filter_cons, List.filter_map]
  split
  · rw [List.map_cons, List.map_map]
    rfl
  · rw [List.map_map]
    rfl
theorem keptG_rows (f : Row → Str) (x : Str) : ∀ rs : List Row, keptG rs.length (fun j => (rs.map f).getD j "" == x) (fun j => V.str ((rs.map (·.n)).getD j "")) = ((rs.filter fun r => f r == x).map (·.n)).map V.str
  | [] => rfl
  | r :: rs => by
    have ih := keptG_rows f x rs
    rw [List.length_cons, keptG_cons]
    have e : keptG rs.length (fun j => ((r :: rs).map f).getD (j + 1) "" == x) (fun j => V.str (((r :: rs).map (·.n)).getD (j + 1) "")) = keptG rs.length (fun j => (rs.map f).getD j "" == x) (fun j => V.str ((rs.map (·.n)).getD j "")) := rfl
    rw [e, ih, List.filter_cons]
    show (if (f r == x) = true then [V.str r.n] else []) ++ _ = _
    split
    · rfl
    · rfl
def spGChg (K : PySem.W.Frag) (C : Addr) : Sp := fun vs H Q _ => ∃ (g : Addr) (G : Gr) (r : Row), vs = [.ref g, .str r.n] ∧ GraphAt K C H g G ∧ G.Ok ∧ r ∈ G.rs ∧ ∀ d H', Same H H' → H d = none → H' d = some (.dK (toldK G.cs r.c)) → Q (.ref d) H'
/-- leaving, entering: f a row's end -/
def spGEnd (K : PySem.W.Frag) (C PL : Addr) (f : Row → Str) : Sp := fun vs H Q _ => ∃ (g : Addr) (G : Gr) (x : Str), vs = [.ref g, .str x] ∧ GraphAt K C H g G ∧ G.Ok ∧ x ∈ G.ns ∧ GxR.TabG H PL ∧
  ∀ t H', Sim H H' → SqT K H' t (((G.rs.filter fun r => f r == x).map (·.n)).map V.str) → Q (.ref t) H'
section
variable {P : Program} {w : World} {K : PySem.W.Frag} {mg : Str → Option Value} {base : Heap}
theorem ok_gchg {f fG C : Addr} {fd : FuncData} (F : Fun K "change" "Graph.change" sGChg f fd) (T : GraphC K mg C) (MG : OMeth K C "__getitem__" fG) (iG : PySem.W.fnIn K fG = true) (GG : FnR P w K mg base CX0 2 fG (spGGet K C)) (di : mg "dict" = none) : FnOk P w K mg base CX0 4 f fd ["self", "name"] (spGChg K C) := by
  refine F.ok scGChg (fun vs H Q E h => ?_) (fun cdv A outer s H vs Q E hr h => ?_)
  · obtain ⟨g, G, r, rfl, _⟩ := h
    rfl
  · obtain ⟨g, G, row, rfl, hg, ok, hrow, k⟩ := h
    have hu1 : (A.deeper (envOfC "Graph.change" (defScope sGChg) s.heap.objs.size f cdv)).units + 1 < cLine := by
      have := hr.un
      omega
    refine ⟨_, pss_cons (ps_set (i := 2) scGChg.nd rfl (.inr rfl) (pe_callTy (call_dictTP rfl) (by rfl) di (by decide +kernel) (pa_cons (pe_ix ix_tup (pe_itemO MG iG GG hr pass0 (pv 0) (pv 1) (fun _ _ => rfl)) pe_int (fun _ _ => rfl)) pa_nil)))
      (pss_one (ps_ret (pe_dc (own := [("counter", 3)]) (g := gName 3) (tt := tYes) (tk := tVar 3) (tv := tDGet2 (tVar 2) (tVar 3) (tC (.int 0))) rfl scGChg.nd (pi_tup (pe_fld (pv 0) rfl)) (blkOk_by (N := gChgN) (sc := defScope sGChg) (by decide +kernel))
        (fun _ _ _ _ _ => pg_name (i := 3) scGChg.nd rfl (.inl rfl)) (fun _ _ _ _ _ => pts_nil) (fun _ _ _ _ _ => pv 3) (fun _ _ _ _ _ => pe_dget2 hu1 (pv 2) (pv 3) pe_int ⟨rfl, rfl, rfl, rfl⟩)))), ?_⟩
    refine ⟨_, rfl, _, rfl, g, rfl, oat_graph hg, g, G, row, rfl, hg, ok.ra, hrow, fun u pu => ?_⟩
    obtain ⟨a, c, xs, rfl, h1, h2, h3⟩ := pu
    obtain ⟨ps, rfl, hp⟩ := pairs_at h3
    refine ⟨a, _, 3, .ref c, rfl, rfl, h1, rfl, c, ps, chK row.c, rfl, h2, hp, fun d hd => ?_⟩
    have m : mergeK [] (chK row.c) = chK row.c := merge_new (by rw [List.nil_append]; exact chK_nodup (ok.ro row hrow).c)
    rw [m]
    have sd := same_new (o := .dK (chK row.c)) hd
    have told : (upd H d (.dK (chK row.c))) d = some (.dK (chK row.c)) := upd_same
    generalize upd H d (.dK (chK row.c)) = H1 at sd told
    obtain ⟨dx, cc, t, r, n, b, kp, us, g1, g2⟩ := hg
    refine ⟨_, rfl, g, C, dx, _, _, rfl, sd _ _ g1, T.cls, T.n1, rfl, cc, rfl, ⟨_, sqT_same sd g2.hc⟩, fun D hD => ?_⟩
    have nd : G.cs.Nodup := nodup_lts ok.ca
    refine dc_tup (xs := G.cs.map V.str) (fun i H' => Same H1 H' ∧ H' D = some (.dK (toldK (G.cs.take i) row.c))) ⟨same_new hD, upd_same⟩ (fun i H' _ p => sqT_same (sd.trans p.1) g2.hc) (fun i z H' hz p => ?_) fun H' p => ?_
    · obtain ⟨p1, p2⟩ := p
      rw [List.getElem?_map] at hz
      cases hx : G.cs[i]? with
      | none => rw [hx] at hz; cases hz
      | some x =>
        rw [hx] at hz
        cases (Option.some.inj hz : V.str x = z)
        have hi := (List.getElem?_eq_some_iff.mp hx).1
        refine ⟨rfl, yes_if ⟨_, rfl, _, rfl, d, rfl, .inl ⟨_, .inl (p1 _ _ told)⟩, _, rfl, _, DGet.k (k := Sum.inr x) (p1 _ _ told), toldK (G.cs.take i) row.c, Sum.inr x, rfl, p2, ?_, same_upd' p1 hD, ?_⟩⟩
        · unfold toldK
          rw [List.length_map, List.length_take, sizeLine_eq]
          have := ok.cl
          omega
        · rw [upd_same, chK_val, putK_new]
          · unfold toldK
            rw [List.take_add_one, hx, List.map_append]
            rfl
          · intro mem
            obtain ⟨q, hq, e⟩ := List.mem_map.mp mem
            obtain ⟨y, hy, e2⟩ := List.mem_map.mp hq
            subst e2
            have e3 : y = x := Sum.inr.inj e
            subst e3
            have s : G.cs = G.cs.take i ++ G.cs.drop i := (List.take_append_drop i G.cs).symm
            rw [s] at nd
            refine (List.nodup_append.mp nd).2.2 y hy y ?_ rfl
            refine List.mem_of_getElem? (i := 0) ?_
            rw [List.getElem?_drop, Nat.add_zero]
            exact hx
    · obtain ⟨p1, p2⟩ := p
      rw [List.length_map, List.take_of_length_le (Nat.le_refl _)] at p2
      refine k D H' (sd.trans p1) ?_ p2
      cases e : H D with
      | none => rfl
      | some o =>
        rw [sd _ _ e] at hD
        cases hD
/-- leaving, entering: i the place of the row's end -/
theorem end_body (fe : Row → Str) {ws : List V} {H : Hp} {G : Gr} (hu : Paired (PlRow K H) ws G.rs) {ns : List (Str × Pos)} {a c x : Str} (len : ns.length = 4)
    (la : ∀ r : Row, ∀ y, lastV ns [.str r.n, .str r.s, .str r.t, y] a = some (.str (fe r))) (lc : ∀ r : Row, ∀ y, lastV ns [.str r.n, .str r.s, .str r.t, y] c = some (.str r.n)) :
    ∀ j z, ws[j]? = some z → ∃ (p : Addr) (zs : List V) (src : Str), z = .ref p ∧ SqT K H p zs ∧ zs.length = ns.length ∧ lastV ns zs a = some (.str src) ∧ lastV ns zs c = some (V.str ((G.rs.map (·.n)).getD j "")) ∧ ((G.rs.map fe).getD j "" == x) = (src == x) := by
  intro j z hz
  have hl := hu.length
  have hj := (List.getElem?_eq_some_iff.mp hz).1
  have hr : G.rs[j]? = some (G.rs[j]'(by omega)) := List.getElem?_eq_getElem _
  generalize G.rs[j]'(by omega) = row at hr
  obtain ⟨p, c2, xs, rfl, h1, _, _⟩ := paired_at hu hz hr
  refine ⟨p, _, fe row, rfl, h1, len.symm, la _ _, ?_, ?_⟩
  · rw [lc, List.getD_eq_getElem?_getD, List.getElem?_map, hr]
    rfl
  · rw [List.getD_eq_getElem?_getD, List.getElem?_map, hr]
    rfl
theorem ok_gleave {oc : Value} {od : Option Addr} {kV doc pm ct : Value} {an : Option Addr} {osl : Array (Option Value)} {f fC cL PL C : Addr} (lk : K.lookup f = some ⟨oc, od, .func (PySem.W.fnOf "leaving" "Graph.leaving" (defArgs sGLv) (defBody sGLv) (defScope sGLv) .none kV doc pm an (.ref cL) ct), osl⟩) (hcd : PySem.W.codeIn K (.ref cL) "Graph.leaving" = true)
    (T : GraphC K mg C) (B : BltP mg) (MC : Meth K C "_check_state" fC) (GC : FnR P w K mg base CX0 1 fC (spGChk K C)) (TB : GxR.TabB base mg cL PL) :
    FnOk P w K mg base CX0 3 f (PySem.W.fnOf "leaving" "Graph.leaving" (defArgs sGLv) (defBody sGLv) (defScope sGLv) .none kV doc pm an (.ref cL) ct) ["self", "state"] (spGEnd K C PL (·.s)) := by
  refine fn_of lk hcd scGLv (fun vs H Q E h => ?_) (fun A outer s H vs Q E hr h => ?_)
  · obtain ⟨g, G, x, rfl, _⟩ := h
    rfl
  · obtain ⟨g, G, x, rfl, hg, ok, hx, tab, k⟩ := h
    have hg2 := hg
    obtain ⟨dx, cc, t, r, n, b, kp, us, g1, g2⟩ := hg
    refine ⟨_, pss_cons (ps_expr (pe_methR (pv 0) T.cls MC GC (hr.mono (by decide)) pass0 (pa_cons (pv 1) pa_nil)))
      (pss_one (ps_ret (pe_tupG hr (by rfl) B.tuple TB rfl (sc := defScope sGLv) rfl ⟨rfl, rfl, by decide +kernel, by rfl, by decide +kernel⟩ (pe_fld (pv 0) rfl) (fun _ => rfl) (by decide +kernel)))), ?_⟩
    refine ⟨_, rfl, g, dx, _, rfl, g1, rfl, _, rfl, g, G, x, rfl, hg2, hx, ?_⟩
    have hl := g2.hp.length
    refine ⟨_, rfl, g, C, dx, _, _, rfl, g1, T.cls, T.n3, rfl, r, us, fun j => (G.rs.map fun q : Row => q.s).getD j "" == x, fun j => V.str ((G.rs.map fun q : Row => q.n).getD j ""), rfl, g2.hr, tab,
      body_eq (ns := [("name", _), ("source", _), ("_", _), ("_", _)]) (a := "source") (b := "state") (c := "name") (q := 1) (st := x) tab rfl (List.forall_mem_cons.mpr ⟨rfl, List.forall_mem_cons.mpr ⟨rfl, List.forall_mem_cons.mpr ⟨rfl, List.forall_mem_cons.mpr ⟨rfl, fun _ h => by cases h⟩⟩⟩⟩) rfl rfl rfl rfl rfl rfl rfl rfl rfl rfl rfl
        (end_body (fun q => q.s) g2.hp rfl (fun _ _ => rfl) (fun _ _ => rfl)), fun H2 t2 TT ht => ?_⟩
    refine k t2 _ ((Sim.tabbed tab TT).trans (Sim.of (same_new ht))) (.inl (.inl ?_))
    rw [upd_same, hl]
    exact congrArg (fun l => some (HO.tup l)) (keptG_rows (fun q => q.s) x G.rs)
theorem ok_genter {oc : Value} {od : Option Addr} {kV doc pm ct : Value} {an : Option Addr} {osl : Array (Option Value)} {f fC cL PL C : Addr} (lk : K.lookup f = some ⟨oc, od, .func (PySem.W.fnOf "entering" "Graph.entering" (defArgs sGEn) (defBody sGEn) (defScope sGEn) .none kV doc pm an (.ref cL) ct), osl⟩) (hcd : PySem.W.codeIn K (.ref cL) "Graph.entering" = true)
    (T : GraphC K mg C) (B : BltP mg) (MC : Meth K C "_check_state" fC) (GC : FnR P w K mg base CX0 1 fC (spGChk K C)) (TB : GxR.TabB base mg cL PL) :
    FnOk P w K mg base CX0 3 f (PySem.W.fnOf "entering" "Graph.entering" (defArgs sGEn) (defBody sGEn) (defScope sGEn) .none kV doc pm an (.ref cL) ct) ["self", "state"] (spGEnd K C PL (·.t)) := by
  refine fn_of lk hcd scGEn (fun vs H Q E h => ?_) (fun A outer s H vs Q E hr h => ?_)
  · obtain ⟨g, G, x, rfl, _⟩ := h
    rfl
  · obtain ⟨g, G, x, rfl, hg, ok, hx, tab, k⟩ := h
    have hg2 := hg
    obtain ⟨dx, cc, t, r, n, b, kp, us, g1, g2⟩ := hg
    refine ⟨_, pss_cons (ps_expr (pe_methR (pv 0) T.cls MC GC (hr.mono (by decide)) pass0 (pa_cons (pv 1) pa_nil)))
      (pss_one (ps_ret (pe_tupG hr (by rfl) B.tuple TB rfl (sc := defScope sGEn) rfl ⟨rfl, rfl, by decide +kernel, by rfl, by decide +kernel⟩ (pe_fld (pv 0) rfl) (fun _ => rfl) (by decide +kernel)))), ?_⟩
    refine ⟨_, rfl, g, dx, _, rfl, g1, rfl, _, rfl, g, G, x, rfl, hg2, hx, ?_⟩
    have hl := g2.hp.length
    refine ⟨_, rfl, g, C, dx, _, _, rfl, g1, T.cls, T.n3, rfl, r, us, fun j => (G.rs.map fun q : Row => q.t).getD j "" == x, fun j => V.str ((G.rs.map fun q : Row => q.n).getD j ""), rfl, g2.hr, tab,
      body_eq (ns := [("name", _), ("_", _), ("target", _), ("_", _)]) (a := "target") (b := "state") (c := "name") (q := 1) (st := x) tab rfl (List.forall_mem_cons.mpr ⟨rfl, List.forall_mem_cons.mpr ⟨rfl, List.forall_mem_cons.mpr ⟨rfl, List.forall_mem_cons.mpr ⟨rfl, fun _ h => by cases h⟩⟩⟩⟩) rfl rfl rfl rfl rfl rfl rfl rfl rfl rfl rfl
        (end_body (fun q => q.t) g2.hp rfl (fun _ _ => rfl) (fun _ _ => rfl)), fun H2 t2 TT ht => ?_⟩
    refine k t2 _ ((Sim.tabbed tab TT).trans (Sim.of (same_new ht))) (.inl (.inl ?_))
    rw [upd_same, hl]
    exact congrArg (fun l => some (HO.tup l)) (keptG_rows (fun q => q.t) x G.rs)
end
end Qp

/-! things sorted by the text that stands first in them -/
namespace Qp
open PySem PySem.Spec PyProof.Rows L2 QN
open PySem.W PySem.SeqAt
section
variable {β : Type} {enc : β → PyData} {nm : β → Str}
/-- the text nm stands first -/
def Named (enc : β → PyData) (nm : β → Str) : Prop := ∀ b, ∃ r, enc b = .tuple (.str (nm b) :: r)
theorem nm_inj : ∀ {rs : List β}, (rs.map nm).Nodup → ∀ a ∈ rs, ∀ b ∈ rs, nm a = nm b → a = b
  | [], _, a, ha, _, _, _ => by cases ha
  | r :: rs, nd, a, ha, b, hb, e => by
    have nd2 := List.nodup_cons.mp nd
    rcases List.mem_cons.mp ha with ea | ha2
    · rcases List.mem_cons.mp hb with eb | hb2
      · rw [ea, eb]
      · refine absurd (List.mem_map.mpr ⟨b, hb2, ?_⟩) nd2.1
        rw [← e, ea]
    · rcases List.mem_cons.mp hb with eb | hb2
      · refine absurd (List.mem_map.mpr ⟨a, ha2, ?_⟩) nd2.1
        rw [e, eb]
      · exact nm_inj nd2.2 a ha2 b hb2 e
theorem le_named (he : Named enc nm) {rs : List β} (nd : (rs.map nm).Nodup) (a : β) (ha : a ∈ rs) (b : β) (hb : b ∈ rs) : dataLe false enc a b = dataLe false (fun x : Str => PyData.str x) (nm a) (nm b) := by
  show (!dataLt (enc b) (enc a)) = !dataLt (.str (nm b)) (.str (nm a))
  by_cases e : nm a = nm b
  · rw [nm_inj nd a ha b hb e, data_irrefl, data_irrefl]
  · congr 1
    obtain ⟨r, er⟩ := he a
    obtain ⟨q, eq⟩ := he b
    have ne : PyData.eqv (.str (nm b)) (.str (nm a)) = false := by
      simp only [PyData.eqv]
      exact beq_eq_false_iff_ne.mpr fun z => e z.symm
    rw [er, eq, dataLt_tuple, dataLt_cons (by simp [alike]), ne, if_neg Bool.false_ne_true]
/-- sorted: there is one order -/
theorem named_sorted (he : Named enc nm) {rs : List β} (nd : (rs.map nm).Nodup) : ((rs.mergeSort (dataLe false enc)).map nm).Pairwise lts := by
  rw [List.map_mergeSort (s := dataLe false fun x : Str => PyData.str x) (le_named he nd)]
  exact sortTx_asc nd
theorem sort_named0 (he : Named enc nm) {rs srt : List β} (nd : (rs.map nm).Nodup) (pm : srt.Perm rs) (asc : (srt.map nm).Pairwise lts) : rs.mergeSort (dataLe false enc) = srt :=
  List.Perm.eq_of_pairwise (le := fun a b => lts (nm a) (nm b)) (fun a b _ _ h1 h2 => absurd h2 (lts_asymm h1)) (List.pairwise_map.mp (named_sorted he nd)) (List.pairwise_map.mp asc) ((List.mergeSort_perm _ _).trans pm.symm)
theorem sort_named (he : Named enc nm) {us : List V} {rs : List β} (hl : us.length = rs.length) : ((us.zip (rs.map enc)).mergeSort (dataLe false (·.2))).map (·.2) = (rs.mergeSort (dataLe false enc)).map enc := by
  rw [List.map_mergeSort (r := dataLe false fun b : V × PyData => b.2) (s := dataLe false id) (fun _ _ _ _ => rfl), snd_zip (by rw [List.length_map]; exact hl)]
  exact (List.map_mergeSort (f := enc) (r := dataLe false enc) (s := dataLe false id) (fun _ _ _ _ => rfl)).symm
/-- the values behind a sort -/
theorem sorted_dp {K : PySem.W.Frag} {H : Hp} (he : Named enc nm) {us : List V} {rs : List β} (h : DpAll K H us (rs.map enc)) :
    DpAll K H (((us.zip (rs.map enc)).mergeSort (dataLe false (·.2))).map (·.1)) ((rs.mergeSort (dataLe false enc)).map enc) := by
  have z := dpAll_zip (bs := (us.zip (rs.map enc)).mergeSort (dataLe false (·.2))) fun q hq => zip_dpAll h q ((List.mergeSort_perm _ _).mem_iff.mp hq)
  rw [sort_named he (by rw [dpAll_len h, List.length_map])] at z
  exact z
end
theorem named_pair : Named pairD (·.1) := fun p => ⟨_, rfl⟩
theorem named_row : Named rowD (·.n) := fun r => ⟨_, rfl⟩
theorem asc_of {xs : List Str} (h : xs.Pairwise lts) : Asc xs := by
  induction xs with
  | nil => exact fun i x y h1 _ => by simp at h1
  | cons x xs ih =>
    have hp := List.pairwise_cons.mp h
    intro i y z h1 h2
    cases i with
    | zero =>
      cases h1
      exact hp.1 z (List.mem_of_getElem? (by simpa using h2))
    | succ i => exact ih hp.2 i y z (by simpa using h1) (by simpa using h2)
theorem alike_pair (p q : Str × Int) : alike (pairD p) (pairD q) = true := by simp [alike, alikeAll, pairD]
theorem depth_pair (p : Str × Int) : (pairD p).depth ≤ 10 := by simp [PyData.depth, PyData.depthAll, pairD]
/-- sorted(l) of pairs whose texts differ -/
theorem sorted_pairs {K : PySem.W.Frag} {H : Hp} {a : Addr} {us : List V} {c : List (Str × Int)} {Q : VK} (ha : SqL K H a us ∨ SqT K H a us) (hu : DpAll K H us (c.map pairD)) (nd : (c.map (·.1)).Nodup)
    (k : ∀ (p : Addr) (ws : List V) (c' : List (Str × Int)), H p = none → c'.Perm c → (c'.map (·.1)).Pairwise lts → DpAll K H ws (c'.map pairD) → Q (.ref p) (upd H p (.lst ws))) : rSortedDt K [.ref a] H Q := by
  have ul : us.length = c.length := by rw [dpAll_len hu, List.length_map]
  have bz1 : (us.zip (c.map pairD)).map (·.1) = us := fst_zip (by rw [List.length_map]; exact ul)
  have bz2 : (us.zip (c.map pairD)).map (·.2) = c.map pairD := snd_zip (by rw [List.length_map]; exact ul)
  refine ⟨a, us.zip (c.map pairD), rfl, by rw [bz1]; exact ha, zip_dpAll hu, by rw [bz2]; exact AllAlike.of alike_pair, by rw [bz2]; exact Sortable.tuples fun r => ⟨_, _, rfl⟩, fun p hp => ?_, fun p hp => k p _ _ hp (List.mergeSort_perm _ _) (named_sorted named_pair nd) (sorted_dp named_pair hu)⟩
  have m : p.2 ∈ c.map pairD := by
    rw [← bz2]
    exact List.mem_map.mpr ⟨p, hp, rfl⟩
  obtain ⟨q, _, e⟩ := List.mem_map.mp m
  rw [← e]
  have := depth_pair q
  omega
end Qp

/-! the law's changes -/
namespace Qp
open PySem PySem.Spec PyProof.Rows L2 QN
abbrev sLChg : Stmt := top 45 -- _law_change
abbrev lcNames : List Str := ["_law_dice_here", "_law_counters", "_law_found", "_law_turn", "_law_counter"]
theorem scLChg : FnScope lcNames ["_law_dice_here", "_law_counters"] (defScope sLChg) := ⟨rfl, rfl, rfl, by decide +kernel, rfl, by decide +kernel, by decide +kernel⟩
def AmOk (n : Int) : Prop := n ≠ 0 ∧ -9 ≤ n ∧ n ≤ 9
/-- a change of some of these counters -/
def ChIn (cs : List Str) (c : List (Str × Int)) : Prop := ∀ p ∈ c, p.1 ∈ cs ∧ AmOk p.2
def PlCh (K : PySem.W.Frag) (H : Hp) (v : V) (c : List (Str × Int)) : Prop := ∃ r xs, v = .ref r ∧ PlT K H r xs ∧ DpAll K H xs (c.map pairD)
theorem plT_same {K : PySem.W.Frag} {H H' : Hp} (s : Same H H') {a : Addr} {xs : List V} (h : PlT K H a xs) : PlT K H' a xs := plT_sim (Sim.of s) h
theorem chOk_of {cs : List Str} {c : List (Str × Int)} (hn : ∀ x ∈ cs, NameOk x) (h : ChIn cs c) (asc : (c.map (·.1)).Pairwise lts) (few : c.length ≤ 100) : ChOk c := ⟨fun p hp => ⟨hn _ (h p hp).1, (h p hp).2⟩, asc_of asc, few⟩
def chPut (c : List (Str × Int)) (x : Str) (v : Int) : List (Str × Int) := if (c.any fun p => decide (p.1 = x)) = true then c.map (fun p => if p.1 = x then (p.1, v) else p) else c ++ [(x, v)]
theorem chK_put (c : List (Str × Int)) (x : Str) (v : Int) : putK (chK c) (Sum.inr x) (.int v) = chK (chPut c x v) := by
  have e : ((chK c).any fun kv => decide (kv.1 = (Sum.inr x : Key))) = c.any fun p => decide (p.1 = x) := by
    unfold chK
    rw [List.any_map]
    congr 1
    funext p
    simp
  unfold putK chPut
  rw [e]
  split
  · unfold chK
    rw [List.map_map, List.map_map]
    refine List.map_congr_left fun p _ => ?_
    simp only [Function.comp_apply]
    by_cases h : p.1 = x
    · rw [if_pos h, if_pos (by rw [h])]
    · rw [if_neg h, if_neg (fun z => h (Sum.inr.inj z))]
  · unfold chK
    rw [List.map_append]
    rfl
theorem chPut_keys {c : List (Str × Int)} {x : Str} {v : Int} (nd : (c.map (·.1)).Nodup) : ((chPut c x v).map (·.1)).Nodup := by
  unfold chPut
  split
  · have e : (c.map fun p => if p.1 = x then (p.1, v) else p).map (·.1) = c.map (·.1) := by
      rw [List.map_map]
      refine List.map_congr_left fun p _ => ?_
      simp only [Function.comp_apply]
      split <;> rfl
    rw [e]
    exact nd
  · rename_i h
    rw [List.map_append]
    refine List.nodup_append.mpr ⟨nd, by simp, fun a ha b hb e => ?_⟩
    obtain ⟨p, hp, e2⟩ := List.mem_map.mp ha
    have e3 : b = x := by simpa using hb
    refine h (List.any_eq_true.mpr ⟨p, hp, decide_eq_true ?_⟩)
    rw [e2, e, e3]
theorem chPut_in {cs : List Str} {c : List (Str × Int)} {x : Str} {v : Int} (h : ChIn cs c) (hx : x ∈ cs) (hv : AmOk v) : ChIn cs (chPut c x v) := by
  intro p hp
  unfold chPut at hp
  split at hp
  · obtain ⟨q, hq, e⟩ := List.mem_map.mp hp
    by_cases z : q.1 = x
    · rw [if_pos z] at e
      subst e
      exact ⟨(h q hq).1, hv⟩
    · rw [if_neg z] at e
      subst e
      exact h q hq
  · rcases List.mem_append.mp hp with m | m
    · exact h p m
    · have e : p = (x, v) := by simpa using m
      subst e
      exact ⟨hx, hv⟩
theorem chPut_len (c : List (Str × Int)) (x : Str) (v : Int) : (chPut c x v).length ≤ c.length + 1 := by
  unfold chPut
  split
  · rw [List.length_map]
    omega
  · rw [List.length_append]
    exact Nat.le_refl _
theorem paired_append {α β : Type} {F : α → β → Prop} : ∀ {xs : List α} {ys : List β} {x : α} {y : β}, Paired F xs ys → F x y → Paired F (xs ++ [x]) (ys ++ [y])
  | _, _, _, _, .nil, h => .cons h .nil
  | _, _, _, _, .cons r t, h => .cons r (paired_append t h)
theorem sqT_upd {K : PySem.W.Frag} {H : Hp} {x : Addr} {o o' : HO} (h0 : H x = some o) (n1 : ∀ xs, o ≠ .tup xs) (n2 : ∀ b xs, o ≠ .frz b (.tup xs)) {q : Addr} {xs : List V} (h : SqT K H q xs) : SqT K (upd H x o') q xs := by
  rcases h with (h | ⟨b, h⟩) | h
  · exact .inl (.inl (by rw [upd_ne fun z => by rw [z, h0] at h; exact n1 _ (Option.some.inj h)]; exact h))
  · exact .inl (.inr ⟨b, by rw [upd_ne fun z => by rw [z, h0] at h; exact n2 _ _ (Option.some.inj h)]; exact h⟩)
  · exact .inr h
/-- pairs of a text and a number, as tuples -/
def PairsAt (K : PySem.W.Frag) (H : Hp) (us : List V) (c : List (Str × Int)) : Prop := Paired (fun u p => ∃ t, u = V.ref t ∧ SqT K H t [.str p.1, .int p.2]) us c
theorem pairsAt_dp {K : PySem.W.Frag} {H : Hp} : ∀ {us : List V} {c : List (Str × Int)}, PairsAt K H us c → DpAll K H us (c.map pairD)
  | _, _, .nil => .nil
  | _, _, .cons ⟨t, e, h⟩ r => by
    subst e
    exact .cons (.tup h (.cons (.str _) (.cons (.int _) .nil))) (pairsAt_dp r)
theorem chK_get {c : List (Str × Int)} (nd : (c.map (·.1)).Nodup) {p : Str × Int} (h : p ∈ c) : valV (chK c) (Sum.inr p.1 : Key) = some (V.int p.2) := by
  induction c with
  | nil => cases h
  | cons q c ih =>
    have nd2 := List.nodup_cons.mp nd
    rcases List.mem_cons.mp h with rfl | m
    · exact valV_pos rfl
    · have ne : q.1 ≠ p.1 := fun e => nd2.1 (List.mem_map.mpr ⟨p, m, e.symm⟩)
      rw [← ih nd2.2 m]
      unfold valV
      rw [show chK (q :: c) = (Sum.inr q.1, V.int q.2) :: chK c from rfl, List.find?_cons_of_neg (by simpa using ne)]
/-- one of a list that is written there -/
theorem one_lst {σ : L2.St} {H : Hp} {Q : VK} {p : Addr} {x y z : Int} {its : List V} {T : TA} (h0 : σ[0]? = some (some (.ref p))) (hp : H p = some (.lst (hand x y z))) (hT : ∀ Q' : List V → Hp → Prop, Q' its H → T σ H Q') (l1 : 0 < its.length) (l2 : its.length < 1000)
    (k : ∀ (v : V) (x' y' z' : Int) (H' : Hp), v ∈ its → H' p = some (.lst (hand x' y' z')) → But p H H' → Q v H') : tCall spOne [] L2.E0 (tCons (tVar 0) (tCons (tLst T) tNil)) σ H Q := by
  refine ⟨_, h0, hT _ ⟨by rw [sizeLine_eq]; omega, fun q hq => ?_⟩⟩
  have ne : q ≠ p := fun c => by rw [c, hp] at hq; cases hq
  exact ⟨p, q, x, y, z, its, rfl, same_new hq _ _ hp, upd_same, ne, l1, by omega, fun v x' y' z' H' m h1 h2 => k v x' y' z' H' m h1 (but_same (same_new hq) h2)⟩
/-- one of a list in the slot j -/
theorem one_var {σ : L2.St} {H : Hp} {Q : VK} {p q : Addr} {x y z : Int} {its : List V} {j : Nat} (h0 : σ[0]? = some (some (.ref p))) (hj : σ[j]? = some (some (.ref q))) (hp : H p = some (.lst (hand x y z))) (hq : H q = some (.lst its)) (ne : q ≠ p) (l1 : 0 < its.length) (l2 : its.length < 1000000)
    (k : ∀ (v : V) (x' y' z' : Int) (H' : Hp), v ∈ its → H' p = some (.lst (hand x' y' z')) → But p H H' → Q v H') : tCall spOne [] L2.E0 (tCons (tVar 0) (tCons (tVar j) tNil)) σ H Q :=
  ⟨_, h0, _, hj, p, q, x, y, z, its, rfl, hp, hq, ne, l1, by omega, k⟩
def spLChg (K : PySem.W.Frag) : Sp := fun vs H Q _ => ∃ (p q : Addr) (x y z : Int) (cs : List Str), vs = [.ref p, .ref q] ∧ H p = some (.lst (hand x y z)) ∧ H q = some (.lst (cs.map V.str)) ∧ q ≠ p ∧ 1 ≤ cs.length ∧ cs.length ≤ 1000 ∧ (∀ x ∈ cs, NameOk x) ∧
  ∀ (v : V) (c : List (Str × Int)) (x' y' z' : Int) (H' : Hp), ChOk c → ChIn cs c → PlCh K H' v c → H' p = some (.lst (hand x' y' z')) → But p H H' → Q v H'
section
variable {P : Program} {w : World} {K : PySem.W.Frag} {mg : Str → Option Value} {base : Heap}
theorem ok_lchg {f fO : Addr} {fd fdO : FuncData} (F : Fun K "_law_change" "_law_change" sLChg f fd) (GO : FnOk P w K mg base CX0 2 fO fdO ["_law_dice_here", "_law_items"] spOne) (kO : PySem.W.keepIn K (.ref fO) = true) (bO : L2.Binds K fdO ["_law_dice_here", "_law_items"] []) (gO : mg "_law_one_of" = some (.ref fO))
    (B : BltP mg) (B2 : Blt2 mg) (so : mg "sorted" = none) : FnOk P w K mg base CX0 3 f fd ["_law_dice_here", "_law_counters"] (spLChg K) := by
  refine F.ok scLChg (fun vs H Q E h => ?_) (fun cdv A outer s H vs Q E hr h => ?_)
  · obtain ⟨p, q, x, y, z, cs, rfl, _⟩ := h
    rfl
  · obtain ⟨p, q, x, y, z, cs, rfl, hp, hq, nqp, c1, c2, cn, k⟩ := h
    have hu1 : (A.deeper (envOfC "_law_change" (defScope sLChg) s.heap.objs.size f cdv)).units + 64 < cLine := by
      have := hr.un
      omega
    have hu2 : (A.deeper (envOfC "_law_change" (defScope sLChg) s.heap.objs.size f cdv)).units + 1 < cLine := by omega
    refine ⟨_, pss_cons (ps_set (i := 2) scLChg.nd rfl (.inr rfl) pe_dnewK)
      (pss_cons (ps_for PassesOwn.never rfl (pi_range1 (by rfl) B2.rg (pa_cons (pe_call GO hr (by rfl) gO kO bO .nil pass0 (pa_cons (pv 0) (pa_cons (pe_lst (pa_cons pe_int (pa_cons pe_int (pa_cons pe_int (pa_cons pe_int (pa_cons pe_int (pa_cons pe_int pa_nil))))))) pa_nil))) pa_nil)) (pg_name (i := 3) scLChg.nd rfl (.inl rfl))
        (pss_one (ps_dput hu2 (pv 2) (pe_call GO hr (by rfl) gO kO bO .nil pass0 (pa_cons (pv 0) (pa_cons (pv 1) pa_nil)))
          (pe_call GO hr (by rfl) gO kO bO .nil pass0 (pa_cons (pv 0) (pa_cons (pe_lst (pa_cons (pe_un un_neg pe_int) (pa_cons (pe_un un_neg pe_int) (pa_cons pe_int (pa_cons pe_int (pa_cons (pe_un un_neg pe_int) (pa_cons pe_int (pa_cons (pe_un un_neg pe_int) (pa_cons pe_int (pa_cons (pe_un un_neg pe_int) pa_nil)))))))))) pa_nil))) rfl)))
      (pss_one (ps_ret (pe_callTy call_tuple_ofZ (by rfl) B.tuple (by decide +kernel) (pa_cons (pe_callB (r := rSortedDt K) (cr_sortedDt hu1) (by rfl) so (by decide +kernel) (pa_cons (pe_lock (pe_lc (own := [("_law_counter", 4)]) (g := gName 4) (tt := tYes)
        (te := tTup (tCons (tVar 4) (tCons (tDGet (tVar 2) (tVar 4)) tNil))) rfl scLChg.nd (pi_keys (pv 2)) (blkOk_by (N := lcNames) (sc := defScope sLChg) (by decide +kernel))
          (fun _ _ _ _ _ => pg_name (i := 4) scLChg.nd rfl (.inl rfl)) (fun _ _ _ _ _ => pts_nil) (fun _ _ _ _ _ => pe_tup (pa_cons (pv 4) (pa_cons (pe_dget hu2 (pv 2) (pv 4) (fun _ _ => rfl)) pa_nil))))) pa_nil)) pa_nil))))), ?_⟩
    intro d hd
    have ndp : d ≠ p := fun c => by rw [c, hp] at hd; cases hd
    have s0 := same_new (o := .dK []) hd
    have hd1 : (upd H d (.dK [])) d = some (.dK (chK [])) := upd_same
    have hp1 := s0 _ _ hp
    have b1 := same_but (p := p) s0
    generalize upd H d (.dK []) = H1 at hd1 hp1 b1
    refine one_lst rfl hp1 (fun _ q => q) (by decide) (by decide) fun v x1 y1 z1 H2 mv hp2 b2 => ?_
    obtain ⟨n, rfl, n3⟩ : ∃ n : Nat, v = .int (n : Int) ∧ n ≤ 3 := by
      simp only [List.mem_cons, List.not_mem_nil, or_false] at mv
      rcases mv with rfl | rfl | rfl | rfl | rfl | rfl
      · exact ⟨0, rfl, by decide⟩
      · exact ⟨1, rfl, by decide⟩
      · exact ⟨1, rfl, by decide⟩
      · exact ⟨2, rfl, by decide⟩
      · exact ⟨2, rfl, by decide⟩
      · exact ⟨3, rfl, by decide⟩
    have hd2 := b2 _ _ ndp hd1
    have b12 := but_trans b1 b2
    refine ⟨(n : Int), rfl, by omega, by omega, ?_⟩
    have nn : ((n : Int)).toNat = n := Int.toNat_natCast n
    rw [nn]
    refine for_range (fun i σ H' => ∃ y3 y4, σ = [some (.ref p), some (.ref q), some (.ref d), y3, y4] ∧ But p H H' ∧ (∃ x y z : Int, H' p = some (.lst (hand x y z))) ∧ ∃ c, H' d = some (.dK (chK c)) ∧ (c.map (·.1)).Nodup ∧ ChIn cs c ∧ c.length ≤ i) ⟨none, none, rfl, b12, ⟨_, _, _, hp2⟩, [], hd2, .nil, fun _ h => (by cases h), Nat.le_refl _⟩ ?_ ?_
    · rintro i σ H' hi ⟨y3, y4, rfl, b3, ⟨x3, y5, z3, hp3⟩, c, hd3, nd, ci, cl⟩
      refine one_lst (x := x3) (y := y5) (z := z3) rfl hp3 (fun _ q => ⟨1, rfl, 1, rfl, 2, rfl, 3, rfl, 9, rfl, q⟩) (by decide) (by decide) fun v x6 y6 z6 H6 mv hp6 b6 => ?_
      obtain ⟨m, rfl, mo⟩ : ∃ m : Int, v = .int m ∧ AmOk m := by
        simp only [List.mem_cons, List.not_mem_nil, or_false] at mv
        rcases mv with rfl | rfl | rfl | rfl | rfl | rfl | rfl | rfl | rfl
        all_goals exact ⟨_, rfl, by decide, by decide, by decide⟩
      refine ⟨_, rfl, ?_⟩
      have hq6 : H6 q = some (.lst (cs.map V.str)) := b6 _ _ nqp (b3 _ _ nqp hq)
      refine one_var rfl rfl hp6 hq6 nqp (by rw [List.length_map]; omega) (by rw [List.length_map]; omega) fun v x7 y7 z7 H7 mv hp7 b7 => ?_
      obtain ⟨xn, hxn, rfl⟩ := List.mem_map.mp mv
      have hd7 : H7 d = some (.dK (chK c)) := b7 _ _ ndp (b6 _ _ ndp hd3)
      have lt : (chK c).length < sizeLine := by
        unfold chK
        rw [List.length_map, sizeLine_eq]
        omega
      refine ⟨d, _, rfl, DPut.k (k := Sum.inr xn) hd7 lt, ?_⟩
      rw [chK_put]
      refine ⟨_, _, rfl, ?_, ⟨x7, y7, z7, by rw [upd_ne ndp.symm]; exact hp7⟩, chPut c xn m, upd_same, chPut_keys nd, chPut_in ci hxn mo, by have := chPut_len c xn m; omega⟩
      intro b o nb e
      have nbd : b ≠ d := fun c => by rw [c, hd] at e; cases e
      rw [upd_ne nbd]
      exact b7 _ _ nb (b6 _ _ nb (b3 _ _ nb e))
    · rintro σ H' ⟨y3, y4, rfl, b3, ⟨x3, y5, z3, hp3⟩, c, hd3, nd, ci, cl⟩
      refine ⟨d, .dK (chK c), hd3, trivial, fun od => ?_⟩
      have hL : (upd H' d (.frz od (.dK (chK c)))) d = some (.frz od (.dK (chK c))) := upd_same
      have bL : But p H (upd H' d (.frz od (.dK (chK c)))) := fun b o nb e => by
        have nbd : b ≠ d := fun c => by rw [c, hd] at e; cases e
        rw [upd_ne nbd]
        exact b3 b o nb e
      have pL : (upd H' d (.frz od (.dK (chK c)))) p = some (.lst (hand x3 y5 z3)) := by
        rw [upd_ne ndp.symm]
        exact hp3
      generalize upd H' d (.frz od (.dK (chK c))) = HL at hL bL pL
      refine ⟨_, rfl, d, od, rfl, .inl ⟨chK c, hL, fun D hD => ?_⟩⟩
      have ckl : (chK c).length = c.length := by unfold chK; rw [List.length_map]
      have c100 : c.length ≤ 3 := by omega
      refine lc_inner (walk_keys (d := d) (o := od) (kvs := chK c)) (fun i H2 => Same HL H2 ∧ ∃ us, H2 D = some (.lst us) ∧ PairsAt K H2 us (c.take i)) ⟨same_new hD, [], upd_same, .nil⟩ (fun i H2 _ p => p.1 _ _ hL) (fun i kx H2 H3 hi pp yy => ?_) fun H2 pp => ?_
      · obtain ⟨rfl, kk, vv, hkv, rfl⟩ := yy
        obtain ⟨s2, us, hD2, hu⟩ := pp
        unfold chK at hkv
        rw [List.getElem?_map] at hkv
        cases hc : c[i]? with
        | none => rw [hc] at hkv; cases hkv
        | some pr =>
          rw [hc] at hkv
          cases hkv
          refine ⟨rfl, yes_if ⟨_, rfl, _, rfl, _, rfl, d, .int pr.2, rfl, .inl ⟨chK c, Sum.inr pr.1, .inr ⟨od, s2 _ _ hL⟩, rfl, (chK_get nd (List.mem_of_getElem? hc)).symm⟩, (by show 2 ≤ sizeLine; decide), fun t ht => ?_⟩⟩
          have nDt : D ≠ t := fun z => by rw [← z, hD2] at ht; cases ht
          have ul : us.length ≤ 3 := by
            rw [hu.length, List.length_take]
            omega
          refine ⟨us, same_new ht _ _ hD2, by rw [sizeLine_eq]; omega, same_upd' (s2.trans (same_new ht)) hD, us ++ [.ref t], upd_same, ?_⟩
          have hDt : (upd H3 t (.tup [kV (Sum.inr pr.1), .int pr.2])) D = some (.lst us) := same_new ht _ _ hD2
          have e : c.take (i + 1) = c.take i ++ [pr] := by
            rw [List.take_add_one, hc]
            rfl
          rw [e]
          refine paired_append (Paired.mapP hu fun u p ⟨t', e, h⟩ => ⟨t', e, sqT_upd hDt (fun _ z => by cases z) (fun _ _ z => by cases z) (sqT_same (same_new ht) h)⟩) ⟨t, rfl, sqT_upd hDt (fun _ z => by cases z) (fun _ _ z => by cases z) (.inl (.inl upd_same))⟩
      · obtain ⟨s2, us, hD2, hu⟩ := pp
        rw [ckl, List.take_of_length_le (Nat.le_refl _)] at hu
        have hd2 := s2 _ _ hL
        refine ⟨hd2, ?_⟩
        have nDd : D ≠ d := fun z => by rw [z, hL] at hD; cases hD
        have hDu : (upd H2 d (.dK (chK c))) D = some (.lst us) := by
          rw [upd_ne nDd]
          exact hD2
        have huu : PairsAt K (upd H2 d (.dK (chK c))) us c := Paired.mapP hu fun u p ⟨t', e, h⟩ => ⟨t', e, sqT_upd hd2 (fun _ z => by cases z) (fun _ _ z => by cases z) h⟩
        have bU : But p H (upd H2 d (.dK (chK c))) := fun b o nb e => by
          have nbd : b ≠ d := fun c => by rw [c, hd] at e; cases e
          rw [upd_ne nbd]
          exact s2 _ _ (bL b o nb e)
        have pU : (upd H2 d (.dK (chK c))) p = some (.lst (hand x3 y5 z3)) := by
          rw [upd_ne ndp.symm]
          exact s2 _ _ pL
        generalize upd H2 d (.dK (chK c)) = HU at hDu huu bU pU
        dsimp only [tNil]
        refine sorted_pairs (.inl (.inl (.inl hDu))) (pairsAt_dp huu) nd fun r ws c' hr2 pm asc hw => ?_
        refine ⟨r, ws, rfl, .inl (.inl upd_same), fun l ol hl odn => ?_⟩
        have sr := same_new (o := .lst ws) hr2
        have sl := same_new (o := .frz ol (.tup ws)) hl
        have ci' : ChIn cs c' := fun p hp => ci p (pm.mem_iff.mp hp)
        refine k (.ref l) c' x3 y5 z3 _ (chOk_of cn ci' asc (by rw [pm.length_eq]; omega)) ci' ⟨l, ws, rfl, ⟨.inl (.inr ⟨ol, upd_same⟩), .inl ⟨ol, upd_same, odn⟩⟩, dpAll_same (sr.trans sl) _ _ hw⟩ (sl _ _ (sr _ _ pU)) (but_trans bU (same_but (sr.trans sl)))
end
end Qp

/-! the law's kinds of changes -/
namespace Qp
open PySem PySem.Spec PyProof.Rows L2 QN
abbrev sLKind : Stmt := top 46 -- _law_kind
abbrev lkNames : List Str := ["_law_dice_here", "_law_counters", "_law_one", "_law_other", "_law_choice"]
theorem scLKind : FnScope lkNames ["_law_dice_here", "_law_counters"] (defScope sLKind) := ⟨rfl, rfl, rfl, by decide +kernel, rfl, by decide +kernel, by decide +kernel⟩
/-- a list of such pairs -/
def LstP (K : PySem.W.Frag) (H : Hp) (v : V) (c : List (Str × Int)) : Prop := ∃ l us, v = .ref l ∧ H l = some (.lst us) ∧ PairsAt K H us c
theorem lstP_same {K : PySem.W.Frag} {H H' : Hp} {v : V} {c : List (Str × Int)} (s : Same H H') (h : LstP K H v c) : LstP K H' v c := by
  obtain ⟨l, us, rfl, h1, h2⟩ := h
  exact ⟨l, us, rfl, s _ _ h1, Paired.mapP h2 fun u p ⟨t, e, q⟩ => ⟨t, e, sqT_same s q⟩⟩
abbrev tPr (i : Nat) (tn : TE) : TE := tTup (tCons (tVar i) (tCons tn tNil))
theorem lit1 {K : PySem.W.Frag} {σ : L2.St} {H : Hp} {Q : VK} {i : Nat} {ta : TE} {x : Str} {n : Int} (hi : σ[i]? = some (some (.str x))) (hn : ∀ (H : Hp) (Q : VK), Q (.int n) H → ta σ H Q)
    (k : ∀ v H', Same H H' → LstP K H' v [(x, n)] → Q v H') : tLst (tCons (tPr i ta) tNil) σ H Q := by
  refine ⟨_, hi, hn _ _ ⟨(by show 2 ≤ sizeLine; decide), fun t ht => ⟨(by show 1 ≤ sizeLine; decide), fun l hl => ?_⟩⟩⟩
  have s := (same_new (o := .tup [.str x, .int n]) ht).trans (same_new (o := .lst [.ref t]) hl)
  exact k _ _ s ⟨l, _, rfl, upd_same, .cons ⟨t, rfl, .inl (.inl (same_new hl _ _ upd_same))⟩ .nil⟩
theorem lit2 {K : PySem.W.Frag} {σ : L2.St} {H : Hp} {Q : VK} {i j : Nat} {ta tb : TE} {x y : Str} {n m : Int} (hi : σ[i]? = some (some (.str x))) (hn : ∀ (H : Hp) (Q : VK), Q (.int n) H → ta σ H Q) (hj : σ[j]? = some (some (.str y))) (hm : ∀ (H : Hp) (Q : VK), Q (.int m) H → tb σ H Q)
    (k : ∀ v H', Same H H' → LstP K H' v [(x, n), (y, m)] → Q v H') : tLst (tCons (tPr i ta) (tCons (tPr j tb) tNil)) σ H Q := by
  refine ⟨_, hi, hn _ _ ⟨(by show 2 ≤ sizeLine; decide), fun t ht => ⟨_, hj, hm _ _ ⟨(by show 2 ≤ sizeLine; decide), fun t2 ht2 => ⟨(by show 2 ≤ sizeLine; decide), fun l hl => ?_⟩⟩⟩⟩⟩
  have s1 := same_new (o := .tup [.str x, .int n]) ht
  have s2 := same_new (o := .tup [.str y, .int m]) ht2
  have s3 := same_new (o := .lst [.ref t, .ref t2]) hl
  exact k _ _ (s1.trans (s2.trans s3)) ⟨l, _, rfl, upd_same, .cons ⟨t, rfl, .inl (.inl (s3 _ _ (s2 _ _ upd_same)))⟩ (.cons ⟨t2, rfl, .inl (.inl (s3 _ _ upd_same))⟩ .nil)⟩
theorem cons_step {ta : TE} {tr : TA} {σ : L2.St} {H : Hp} {Q : List V → Hp → Prop} (h : ta σ H fun x H1 => tr σ H1 fun xs H2 => Q (x :: xs) H2) : tCons ta tr σ H Q := h
def spLKind (K : PySem.W.Frag) : Sp := spLChg K
section
variable {P : Program} {w : World} {K : PySem.W.Frag} {mg : Str → Option Value} {base : Heap}
theorem ok_lkind {f fO fR fC : Addr} {fd fdO fdR fdC : FuncData} (F : Fun K "_law_kind" "_law_kind" sLKind f fd) (GO : FnOk P w K mg base CX0 2 fO fdO ["_law_dice_here", "_law_items"] spOne) (kO : PySem.W.keepIn K (.ref fO) = true) (bO : L2.Binds K fdO ["_law_dice_here", "_law_items"] []) (gO : mg "_law_one_of" = some (.ref fO))
    (GR : FnOk P w K mg base CX0 1 fR fdR ["_law_dice_here", "_law_total"] spRoll) (kR : PySem.W.keepIn K (.ref fR) = true) (bR : L2.Binds K fdR ["_law_dice_here", "_law_total"] []) (gR : mg "_law_roll" = some (.ref fR))
    (GC : FnOk P w K mg base CX0 3 fC fdC ["_law_dice_here", "_law_counters"] (spLChg K)) (kC : PySem.W.keepIn K (.ref fC) = true) (bC : L2.Binds K fdC ["_law_dice_here", "_law_counters"] []) (gC : mg "_law_change" = some (.ref fC))
    (B : BltP mg) (so : mg "sorted" = none) : FnOk P w K mg base CX0 4 f fd ["_law_dice_here", "_law_counters"] (spLKind K) := by
  refine F.ok scLKind (fun vs H Q E h => ?_) (fun cdv A outer s H vs Q E hr h => ?_)
  · obtain ⟨p, q, x, y, z, cs, rfl, _⟩ := h
    rfl
  · obtain ⟨p, q, x, y, z, cs, rfl, hp, hq, nqp, c1, c2, cn, k⟩ := h
    have hu1 : (A.deeper (envOfC "_law_kind" (defScope sLKind) s.heap.objs.size f cdv)).units + 64 < cLine := by
      have := hr.un
      omega
    have r2 := hr.mono (by decide : 2 ≤ 3)
    have r1 := hr.mono (by decide : 1 ≤ 3)
    refine ⟨_, pss_cons (ps_par (i := 2) (j := 3) (by rfl) scLKind.nd rfl rfl (by decide) rfl rfl (pa_cons (pe_call GO r2 (by rfl) gO kO bO .nil pass0 (pa_cons (pv 0) (pa_cons (pv 1) pa_nil))) (pa_cons (pe_call GO r2 (by rfl) gO kO bO .nil pass0 (pa_cons (pv 0) (pa_cons (pv 1) pa_nil))) pa_nil)) (by rfl))
      (pss_cons (ps_set (i := 4) scLKind.nd rfl (.inl rfl) (pe_call GR r1 (by rfl) gR kR bR .nil pass0 (pa_cons (pv 0) (pa_cons pe_int pa_nil))))
      (pss_cons (ps_if (PW.pt (pw_or (pt_cmpR op_eq (pv 2) (pv 3) (nomark _)) (pw_or1 (pt_cmpR op_gt (pv 4) pe_int (nomark _)))))
        (pss_one (ps_ret (pe_ifExp (pt_cmpR op_lt (pv 4) pe_int (nomark _)) (pe_tupZ (pa_cons (pe_tup (pa_cons (pv 2) (pa_cons (pe_un un_neg pe_int) pa_nil))) pa_nil)) (pe_call GC hr (by rfl) gC kC bC .nil pass0 (pa_cons (pv 0) (pa_cons (pv 1) pa_nil)))))) pss_nil)
      (pss_one (ps_ret (pe_callTy call_tuple_ofZ (by rfl) B.tuple (by decide +kernel) (pa_cons (pe_callB (r := rSortedDt K) (cr_sortedDt hu1) (by rfl) so (by decide +kernel) (pa_cons (pe_ix ix_list (pe_lst
        (pa_cons (pe_lst (pa_cons (pe_tup (pa_cons (pv 2) (pa_cons (pe_un un_neg pe_int) pa_nil))) (pa_cons (pe_tup (pa_cons (pv 3) (pa_cons pe_int pa_nil))) pa_nil)))
        (pa_cons (pe_lst (pa_cons (pe_tup (pa_cons (pv 2) (pa_cons (pe_un un_neg pe_int) pa_nil))) (pa_cons (pe_tup (pa_cons (pv 3) (pa_cons pe_int pa_nil))) pa_nil)))
        (pa_cons (pe_lst (pa_cons (pe_tup (pa_cons (pv 2) (pa_cons (pe_un un_neg pe_int) pa_nil))) (pa_cons (pe_tup (pa_cons (pv 3) (pa_cons pe_int pa_nil))) pa_nil)))
        (pa_cons (pe_lst (pa_cons (pe_tup (pa_cons (pv 2) (pa_cons pe_int pa_nil))) pa_nil))
        (pa_cons (pe_lst (pa_cons (pe_tup (pa_cons (pv 2) (pa_cons (pe_un un_neg pe_int) pa_nil))) pa_nil))
        (pa_cons (pe_lst (pa_cons (pe_tup (pa_cons (pv 2) (pa_cons (pe_un un_neg pe_int) pa_nil))) (pa_cons (pe_tup (pa_cons (pv 3) (pa_cons (pe_un un_neg pe_int) pa_nil))) pa_nil))) pa_nil))))))) (pv 4) (fun _ _ => rfl)) pa_nil)) pa_nil)))))), ?_⟩
    refine one_var rfl rfl hp hq nqp (by rw [List.length_map]; omega) (by rw [List.length_map]; omega) fun v x1 y1 z1 H1 mv hp1 b1 => ?_
    obtain ⟨xa, hxa, rfl⟩ := List.mem_map.mp mv
    have hq1 := b1 _ _ nqp hq
    refine one_var rfl rfl hp1 hq1 nqp (by rw [List.length_map]; omega) (by rw [List.length_map]; omega) fun v x2 y2 z2 H2 mv hp2 b2 => ?_
    obtain ⟨xb, hxb, rfl⟩ := List.mem_map.mp mv
    have b12 := but_trans b1 b2
    refine ⟨_, _, rfl, ?_⟩
    refine ⟨_, rfl, p, x2, y2, z2, 9, rfl, hp2, by decide, by decide, fun r x4 y4 z4 H4 r0 r9 hp4 b4 => ?_⟩
    have b34 := but_trans b12 b4
    have hq4 := b34 _ _ nqp hq
    have am1 : AmOk (-1) := ⟨by decide, by decide, by decide⟩
    have ap1 : AmOk 1 := ⟨by decide, by decide, by decide⟩
    have ap2 : AmOk 2 := ⟨by decide, by decide, by decide⟩
    have sorted : (xa = xb ∨ 5 < r) → (r < 4 → ∀ (t : Addr) (o : Obj) (H5 : Hp), Same H4 H5 → o.dict = none → (∃ u, H5 t = some (.frz o (.tup [.ref u])) ∧ SqT K H5 u [.str xa, .int (-1)]) → Q (.ref t) H5) := fun _ _ t o H5 s5 od ⟨u, ht, hu⟩ => by
      refine k (.ref t) [(xa, -1)] x4 y4 z4 H5 (chOk_of cn (fun p hp => ?_) (List.pairwise_singleton _ _) (by show 1 ≤ 100; decide)) (fun p hp => ?_) ⟨t, _, rfl, ⟨.inl (.inr ⟨o, ht⟩), .inl ⟨o, ht, od⟩⟩, .cons (.tup hu (.cons (.str _) (.cons (.int _) .nil))) .nil⟩ (s5 _ _ hp4) (but_trans b34 (same_but s5))
      all_goals
        cases List.mem_singleton.mp hp
        exact ⟨hxa, am1⟩
    have last : ¬ (xa = xb ∨ 5 < r) → ∀ (c : List (Str × Int)) (v : V) (H5 : Hp), Same H4 H5 → LstP K H5 v c → (c.map (·.1)).Nodup → ChIn cs c → c.length ≤ 2 → ∃ a, v = .ref a ∧ rSortedDt K [.ref a] H5 fun v H6 => ∃ p ys, [v] = [V.ref p] ∧ SqL K H6 p ys ∧ ∀ (l : Addr) (o : Obj), H6 l = none → o.dict = none → Q (.ref l) (upd H6 l (.frz o (.tup ys))) := fun _ c v H5 s5 ⟨a, us, ev, ha, hu⟩ nd ci c2' => by
      refine ⟨a, ev, sorted_pairs (.inl (.inl (.inl ha))) (pairsAt_dp hu) nd fun r ws c' hr2 pm asc hw => ⟨r, ws, rfl, .inl (.inl upd_same), fun l ol hl odn => ?_⟩⟩
      have sr := same_new (o := .lst ws) hr2
      have sl := same_new (o := .frz ol (.tup ws)) hl
      have ci' : ChIn cs c' := fun p hp => ci p (pm.mem_iff.mp hp)
      exact k (.ref l) c' x4 y4 z4 _ (chOk_of cn ci' asc (by rw [pm.length_eq]; omega)) ci' ⟨l, ws, rfl, ⟨.inl (.inr ⟨ol, upd_same⟩), .inl ⟨ol, upd_same, odn⟩⟩, dpAll_same (sr.trans sl) _ _ hw⟩ (sl _ _ (sr _ _ (s5 _ _ hp4))) (but_trans b34 (same_but (s5.trans (sr.trans sl))))
    -- the two ways on
    have first : xa = xb ∨ 5 < r → (tRet (tIf (tTest (tOp (rI0 fun i j => V.bl (decide (i < j))) (tVar 4) (tC (.int 4)))) (tTupZ (tCons (tTup (tCons (tVar 2) (tCons (tUn (rU fun i => .int (-i)) (tC (.int 1))) tNil))) tNil)) (tCall (spLChg K) [] L2.E0 (tCons (tVar 0) (tCons (tVar 1) tNil)))))
        { nx := fun _ H' => Q .non H', rt := Q } [some (.ref p), some (.ref q), some (.str xa), some (.str xb), some (.int r)] H4 := fun yes => by
      by_cases r4 : r < 4
      · refine ⟨_, rfl, _, _, rfl, rfl, _, rfl, if_yes (decide_eq_true r4) ?_⟩
        refine ⟨_, rfl, 1, rfl, (by show 2 ≤ sizeLine; decide), fun u hu => ⟨(by show 1 ≤ sizeLine; decide), fun t o ht od => ?_⟩⟩
        have su := same_new (o := .tup [.str xa, .int (-1)]) hu
        have st := same_new (o := .frz o (.tup [.ref u])) ht
        exact sorted yes r4 t o _ (su.trans st) od ⟨u, upd_same, .inl (.inl (st _ _ upd_same))⟩
      · refine ⟨_, rfl, _, _, rfl, rfl, _, rfl, if_no (by simpa using r4) ?_⟩
        refine ⟨_, rfl, _, rfl, p, q, x4, y4, z4, cs, rfl, hp4, hq4, nqp, c1, c2, cn, fun v c x5 y5 z5 H5 h1 h2 h3 h4 h5 => k v c x5 y5 z5 H5 h1 h2 h3 h4 (but_trans b34 h5)⟩
    refine ⟨_, rfl, _, rfl, rfl, ?_⟩
    by_cases e : xa = xb
    · exact ⟨_, rfl, if_yes (by rw [e]; exact decide_eq_true rfl) (if_yes rfl (first (.inl e)))⟩
    · refine ⟨_, rfl, if_no (by simpa using e) ⟨_, rfl, _, _, rfl, rfl, ?_⟩⟩
      by_cases r5 : 5 < r
      · exact ⟨_, rfl, if_yes (decide_eq_true r5) (first (.inr r5))⟩
      · refine ⟨_, rfl, if_no (by simpa using r5) ?_⟩
        have no : ¬ (xa = xb ∨ 5 < r) := fun z => z.elim e r5
        have two : ∀ {n m : Int}, AmOk n → AmOk m → ∀ {v : V} {H5 : Hp}, Same H4 H5 → LstP K H5 v [(xa, n), (xb, m)] → ∃ a, v = .ref a ∧ rSortedDt K [.ref a] H5 fun v H6 => ∃ p ys, [v] = [V.ref p] ∧ SqL K H6 p ys ∧ ∀ (l : Addr) (o : Obj), H6 l = none → o.dict = none → Q (.ref l) (upd H6 l (.frz o (.tup ys))) := fun {n m} a b {v H5} s5 hl =>
          last no _ v H5 s5 hl (List.nodup_cons.mpr ⟨by simpa using e, by simp⟩) (fun p hp => by
            rcases List.mem_cons.mp hp with rfl | hp
            · exact ⟨hxa, a⟩
            · cases List.mem_singleton.mp hp
              exact ⟨hxb, b⟩) (Nat.le_refl _)
        have one : ∀ {n : Int}, AmOk n → ∀ {v : V} {H5 : Hp}, Same H4 H5 → LstP K H5 v [(xa, n)] → ∃ a, v = .ref a ∧ rSortedDt K [.ref a] H5 fun v H6 => ∃ p ys, [v] = [V.ref p] ∧ SqL K H6 p ys ∧ ∀ (l : Addr) (o : Obj), H6 l = none → o.dict = none → Q (.ref l) (upd H6 l (.frz o (.tup ys))) := fun {n} a {v H5} s5 hl =>
          last no _ v H5 s5 hl (List.nodup_cons.mpr ⟨by simp, by simp⟩) (fun p hp => by
            cases List.mem_singleton.mp hp
            exact ⟨hxa, a⟩) (by show 1 ≤ 2; decide)
        have mn : ∀ (σ : L2.St) (n : Int) (H : Hp) (Q : VK), Q (.int (-n)) H → tUn (rU fun i => V.int (-i)) (tC (.int n)) σ H Q := fun σ n H Q q => ⟨n, rfl, q⟩
        have pn : ∀ (σ : L2.St) (n : Int) (H : Hp) (Q : VK), Q (.int n) H → tC (.int n) σ H Q := fun σ n H Q q => q
        let σ5 : L2.St := [some (.ref p), some (.ref q), some (.str xa), some (.str xb), some (.int r)]
        have main : (tCons (tLst (tCons (tPr 2 (tUn (rU fun i => V.int (-i)) (tC (.int 1)))) (tCons (tPr 3 (tC (.int 1))) tNil))) (tCons (tLst (tCons (tPr 2 (tUn (rU fun i => V.int (-i)) (tC (.int 1)))) (tCons (tPr 3 (tC (.int 1))) tNil))) (tCons (tLst (tCons (tPr 2 (tUn (rU fun i => V.int (-i)) (tC (.int 1)))) (tCons (tPr 3 (tC (.int 2))) tNil))) (tCons (tLst (tCons (tPr 2 (tC (.int 1))) tNil)) (tCons (tLst (tCons (tPr 2 (tUn (rU fun i => V.int (-i)) (tC (.int 1)))) tNil)) (tCons (tLst (tCons (tPr 2 (tUn (rU fun i => V.int (-i)) (tC (.int 1)))) (tCons (tPr 3 (tUn (rU fun i => V.int (-i)) (tC (.int 1)))) tNil))) tNil)))))) σ5 H4 fun xs H5 => xs.length ≤ sizeLine ∧ ∀ l, H5 l = none → ∃ v, σ5[4]? = some (some v) ∧ rIxL K (.ref l) v (upd H5 l (.lst xs)) fun v H6 => rSortedDt K [v] H6 fun v H7 => ∃ p ys, [v] = [V.ref p] ∧ SqL K H7 p ys ∧ ∀ (l : Addr) (o : Obj), H7 l = none → o.dict = none → Q (.ref l) (upd H7 l (.frz o (.tup ys))) := by
          refine cons_step (lit2 (K := K) (x := xa) (y := xb) rfl (mn _ 1) rfl (pn _ 1) fun v1 H5 s5 p1 => ?_)
          refine cons_step (lit2 (K := K) (x := xa) (y := xb) rfl (mn _ 1) rfl (pn _ 1) fun v2 H6 s6 p2 => ?_)
          refine cons_step (lit2 (K := K) (x := xa) (y := xb) rfl (mn _ 1) rfl (pn _ 2) fun v3 H7 s7 p3 => ?_)
          refine cons_step (lit1 (K := K) (x := xa) rfl (pn _ 1) fun v4 H8 s8 p4 => ?_)
          refine cons_step (lit1 (K := K) (x := xa) rfl (mn _ 1) fun v5 H9 s9 p5 => ?_)
          refine cons_step (lit2 (K := K) (x := xa) (y := xb) rfl (mn _ 1) rfl (mn _ 1) fun v6 H10 s10 p6 => ?_)
          refine ⟨(by show 6 ≤ sizeLine; decide), fun l hl => ⟨_, rfl, ?_⟩⟩
          have sl := same_new (o := .lst [v1, v2, v3, v4, v5, v6]) hl
          have t10 := s10.trans sl
          have t9 := s9.trans t10
          have t8 := s8.trans t9
          have t7 := s7.trans t8
          have t6 := s6.trans t7
          have t5 := s5.trans t6
          have hL : SqL K (upd H10 l (.lst [v1, v2, v3, v4, v5, v6])) l [v1, v2, v3, v4, v5, v6] := .inl (.inl upd_same)
          have w1 := two am1 ap1 t5 (lstP_same t6 p1)
          have w2 := two am1 ap1 t5 (lstP_same t7 p2)
          have w3 := two am1 ap2 t5 (lstP_same t8 p3)
          have w4 := one ap1 t5 (lstP_same t9 p4)
          have w5 := one am1 t5 (lstP_same t10 p5)
          have w6 := two am1 am1 t5 (lstP_same sl p6)
          have rs : r = 0 ∨ r = 1 ∨ r = 2 ∨ r = 3 ∨ r = 4 ∨ r = 5 := by omega
          rcases rs with rfl | rfl | rfl | rfl | rfl | rfl
          · obtain ⟨a, rfl, z⟩ := w1
            exact ⟨l, _, 0, _, rfl, rfl, hL, rfl, z⟩
          · obtain ⟨a, rfl, z⟩ := w2
            exact ⟨l, _, 1, _, rfl, rfl, hL, rfl, z⟩
          · obtain ⟨a, rfl, z⟩ := w3
            exact ⟨l, _, 2, _, rfl, rfl, hL, rfl, z⟩
          · obtain ⟨a, rfl, z⟩ := w4
            exact ⟨l, _, 3, _, rfl, rfl, hL, rfl, z⟩
          · obtain ⟨a, rfl, z⟩ := w5
            exact ⟨l, _, 4, _, rfl, rfl, hL, rfl, z⟩
          · obtain ⟨a, rfl, z⟩ := w6
            exact ⟨l, _, 5, _, rfl, rfl, hL, rfl, z⟩
        exact main
end
end Qp

/-! the law's words; sorted texts -/
namespace Qp
open PySem PySem.Spec PyProof.Rows L2 QN
open PySem.W PySem.SeqAt
abbrev sLWords : Stmt := top 47 -- _law_words
abbrev lwNames : List Str := ["_law_dice_here", "_law_much", "_law_found"]
theorem scLWords : FnScope lwNames ["_law_dice_here", "_law_much"] (defScope sLWords) := ⟨rfl, rfl, rfl, by decide +kernel, rfl, by decide +kernel, by decide +kernel⟩
def words15 : List Str := ["a", "aa", "ab", "b", "back", "ba", "c", "d", "go", "k", "on", "step", "to", "w", "m"]
def words16 : List Str := words15 ++ [("zzzzzzzz" : Str)]
theorem words_nodup : words16.Nodup := by decide +kernel
theorem words_ok : ∀ w ∈ words16, NameOk w := by
  have h : ∀ w ∈ words16, (decide (1 ≤ w.length) && decide (w.length ≤ 8) && w.cps.toList.all fun c => decide (c ∈ letters.cps.toList)) = true := by decide +kernel
  intro w hw
  have z := h w hw
  simp only [Bool.and_eq_true, decide_eq_true_eq, List.all_eq_true] at z
  exact ⟨z.1.1, z.1.2, z.2⟩
/-- a drawn order of texts is one of texts -/
theorem perm_strs {ys : List V} {xs : List Str} (h : ys.Perm (xs.map V.str)) : ∃ zs : List Str, ys = zs.map V.str ∧ zs.Perm xs := by
  have all : ∀ y ∈ ys, ∃ s, y = V.str s := fun y hy => by
    obtain ⟨s, _, e⟩ := List.mem_map.mp (h.mem_iff.mp hy)
    exact ⟨s, e.symm⟩
  have ex : ∀ ys : List V, (∀ y ∈ ys, ∃ s, y = V.str s) → ∃ zs : List Str, ys = zs.map V.str := fun ys => by
    induction ys with
    | nil => exact fun _ => ⟨[], rfl⟩
    | cons y ys ih =>
      intro hy
      obtain ⟨s, rfl⟩ := hy y List.mem_cons_self
      obtain ⟨zs, rfl⟩ := ih fun z hz => hy z (List.mem_cons_of_mem _ hz)
      exact ⟨s :: zs, rfl⟩
  obtain ⟨zs, rfl⟩ := ex ys all
  refine ⟨zs, rfl, ?_⟩
  have unS : ∀ l : List Str, (l.map V.str).map (fun v => match v with | .str s => s | _ => "") = l := fun l => by
    rw [List.map_map]
    exact List.map_id _
  have z := h.map (fun v => match v with | .str s => s | _ => "")
  rw [unS, unS] at z
  exact z
theorem cut_to {α : Type} (xs : List α) (m : Nat) (f : α → V) : cutV (xs.map f) none (some (m : Int)) = (xs.take m).map f := by
  unfold cutV
  rw [HT.sIx_none, HT.sIx_nat, List.drop_zero, Nat.sub_zero, List.map_take, List.length_map, ← List.length_map (f := f), ← List.take_eq_take_min]
/-- sorted(l) of texts that differ -/
theorem sorted_strs {K : PySem.W.Frag} {H : Hp} {a : Addr} {xs : List Str} {Q : VK} (ha : SqL K H a (xs.map V.str) ∨ SqT K H a (xs.map V.str)) (nd : xs.Nodup)
    (k : ∀ (p : Addr) (ys : List Str), H p = none → ys.Perm xs → ys.Pairwise lts → Q (.ref p) (upd H p (.lst (ys.map V.str)))) : rSortedDt K [.ref a] H Q := by
  have e1 : (xs.map fun x => (V.str x, PyData.str x)).map (·.1) = xs.map V.str := by
    rw [List.map_map]
    rfl
  have e2 : (xs.map fun x => (V.str x, PyData.str x)).map (·.2) = xs.map PyData.str := by
    rw [List.map_map]
    rfl
  refine ⟨a, xs.map fun x => (V.str x, PyData.str x), rfl, by rw [e1]; exact ha, fun b hb => ?_, by rw [e2]; exact AllAlike.of fun _ _ => by simp [alike], by rw [e2]; exact Sortable.others fun _ => ⟨by simp, by simp⟩, fun b hb => ?_, fun p hp => ?_⟩
  · obtain ⟨x, _, rfl⟩ := List.mem_map.mp hb
    exact .str x
  · obtain ⟨x, _, rfl⟩ := List.mem_map.mp hb
    show (PyData.str x).depth ≤ 60
    simp [PyData.depth]
  · rw [← List.map_mergeSort (r := dataLe false fun x : Str => PyData.str x) (s := dataLe false fun b : V × PyData => b.2) (f := fun x => (V.str x, PyData.str x)) (fun _ _ _ _ => rfl), List.map_map]
    exact k p (sortTx xs) hp (sortTx_perm xs) (sortTx_asc nd)
def spLWords : Sp := fun vs H Q _ => ∃ (p : Addr) (x y z : Int) (m : Nat), vs = [.ref p, .int (m : Int)] ∧ H p = some (.lst (hand x y z)) ∧ m ≤ 16 ∧
  ∀ (q : Addr) (ws : List Str) (x' y' z' : Int) (H' : Hp), ws.length = m → ws.Nodup → (∀ w ∈ ws, w ∈ words16) → H' q = some (.lst (ws.map V.str)) → H' p = some (.lst (hand x' y' z')) → But p H H' → Q (.ref q) H'
section
variable {P : Program} {w : World} {K : PySem.W.Frag} {mg : Str → Option Value} {base : Heap}
theorem ok_lwords {f fM : Addr} {fd fdM : FuncData} (F : Fun K "_law_words" "_law_words" sLWords f fd) (GM : FnOk P w K mg base CX0 2 fM fdM ["_law_dice_here", "_law_items"] (spMixed K)) (kM : PySem.W.keepIn K (.ref fM) = true) (bM : L2.Binds K fdM ["_law_dice_here", "_law_items"] []) (gM : mg "_law_mixed" = some (.ref fM)) :
    FnOk P w K mg base CX0 3 f fd ["_law_dice_here", "_law_much"] spLWords := by
  refine F.ok scLWords (fun vs H Q E h => ?_) (fun cdv A outer s H vs Q E hr h => ?_)
  · obtain ⟨p, x, y, z, m, rfl, _⟩ := h
    rfl
  · obtain ⟨p, x, y, z, m, rfl, hp, m16, k⟩ := h
    refine ⟨_, pss_cons (ps_set (i := 2) scLWords.nd rfl (.inl rfl) (pe_lst (pa_cons pe_str (pa_cons pe_str (pa_cons pe_str (pa_cons pe_str (pa_cons pe_str (pa_cons pe_str (pa_cons pe_str (pa_cons pe_str (pa_cons pe_str (pa_cons pe_str (pa_cons pe_str (pa_cons pe_str (pa_cons pe_str (pa_cons pe_str (pa_cons pe_str pa_nil)))))))))))))))))
      (pss_one (ps_ret (pe_slice sl_list (pe_call GM hr (by rfl) gM kM bM .nil pass0 (pa_cons (pv 0) (pa_cons (pe_op op_cat (pv 2) (pe_lst (pa_cons pe_str pa_nil))) pa_nil))) po_none (po_some (pv 1))))), ?_⟩
    refine ⟨(by show 15 ≤ sizeLine; decide), fun a ha => ?_⟩
    have s1 := same_new (o := .lst (words15.map V.str)) ha
    refine ⟨_, rfl, _, rfl, (by show 1 ≤ sizeLine; decide), fun b hb => ⟨a, b, words15.map V.str, [.str "zzzzzzzz"], rfl, rfl, same_new hb _ _ upd_same, upd_same, (by show 16 ≤ sizeLine; decide), fun c hc => ?_⟩⟩
    have s2 := same_new (o := .lst [.str "zzzzzzzz"]) hb
    have s3 := same_new (o := .lst (words15.map V.str ++ [.str "zzzzzzzz"])) hc
    have hp3 := s3 _ _ (s2 _ _ (s1 _ _ hp))
    refine ⟨p, c, x, y, z, words16.map V.str, rfl, hp3, .inl (.inl (.inl upd_same)), (by show 16 < 1000000; decide), fun r ys x' y' z' H' pm hr2 hp' b' => ?_⟩
    obtain ⟨zs, rfl, pz⟩ := perm_strs pm
    refine ⟨_, rfl, _, rfl, r, _, rfl, .inl (.inl hr2), fun q hq => ?_⟩
    have sq := same_new (o := .lst (cutV (zs.map V.str) none (some (m : Int)))) hq
    refine k q (zs.take m) x' y' z' _ ?_ ((pz.nodup_iff.mpr words_nodup).sublist (List.take_sublist _ _)) (fun w hw => pz.mem_iff.mp (List.mem_of_mem_take hw)) ?_ (sq _ _ hp') (but_same (s1.trans (s2.trans s3)) (but_trans b' (same_but sq)))
    · rw [List.length_take, pz.length_eq]
      show min m 16 = m
      omega
    · rw [upd_same, cut_to]
end
end Qp

/-! rings of states; a drawn graph is one -/
namespace Qp
open PySem PySem.Spec PyProof.Rows L2 QN
/-- the link that ends at place i -/
def ringAt (ns : List Str) (i : Nat) : Str × Str := (ns.getD (if i = 0 then ns.length - 1 else i - 1) "", ns.getD i "")
def ringL (ns : List Str) : List (Str × Str) := (List.range ns.length).map (ringAt ns)
def ring (ns : List Str) : List (Str × Str) := if 1 < ns.length then ringL ns else []
theorem ring_len (ns : List Str) : (ring ns).length ≤ ns.length := by
  unfold ring
  split
  · unfold ringL
    rw [List.length_map, List.length_range]
    exact Nat.le_refl _
  · exact Nat.zero_le _
theorem getD_mem {ns : List Str} {i : Nat} (h : i < ns.length) : ns.getD i "" ∈ ns := by
  rw [List.getD_eq_getElem?_getD, List.getElem?_eq_getElem h]
  exact List.getElem_mem h
theorem ring_mem {ns : List Str} {l : Str × Str} (h : l ∈ ring ns) : l.1 ∈ ns ∧ l.2 ∈ ns := by
  unfold ring at h
  split at h
  · obtain ⟨i, hi, rfl⟩ := List.mem_map.mp h
    have lt := List.mem_range.mp hi
    refine ⟨getD_mem ?_, getD_mem lt⟩
    split <;> omega
  · cases h
theorem reach_mono {x : Str} {ls ms : List (Str × Str)} {st : List Str} (h : Reach x ls st) (s : ∀ l ∈ ls, l ∈ ms) : Reach x ms st := fun ks hx c => h ks hx fun l hl => c l (s l hl)
theorem at_mem {ks : List Str} {x : Str} {st : List Str} (h : ∀ i, i < (x :: st).length → (x :: st).getD i "" ∈ ks) : ∀ y ∈ x :: st, y ∈ ks := fun y hy => by
  obtain ⟨i, hi, e⟩ := List.getElem_of_mem hy
  have z := h i hi
  rw [List.getD_eq_getElem?_getD, List.getElem?_eq_getElem hi] at z
  rw [← e]
  exact z
theorem reach_fwd (x : Str) (st : List Str) : Reach x (ring (x :: st)) (x :: st) := by
  intro ks hx c
  refine at_mem fun i => ?_
  induction i with
  | zero => exact fun _ => hx
  | succ i ih =>
    intro hi
    have m : ringAt (x :: st) (i + 1) ∈ ring (x :: st) := by
      unfold ring
      rw [if_pos (by omega)]
      exact List.mem_map.mpr ⟨i + 1, List.mem_range.mpr hi, rfl⟩
    exact c _ m (by
      show (x :: st).getD (if i + 1 = 0 then _ else i + 1 - 1) "" ∈ ks
      rw [if_neg (by omega)]
      exact ih (by omega))
theorem reach_bwd (x : Str) (st : List Str) : Reach x ((ring (x :: st)).map fun l => (l.2, l.1)) (x :: st) := by
  intro ks hx c
  have key : ∀ j, j < (x :: st).length → (x :: st).getD ((x :: st).length - 1 - j) "" ∈ ks := fun j => by
    induction j with
    | zero =>
      intro hj
      by_cases one : 1 < (x :: st).length
      · have m : ((ringAt (x :: st) 0).2, (ringAt (x :: st) 0).1) ∈ (ring (x :: st)).map fun l => (l.2, l.1) := by
          unfold ring
          rw [if_pos one]
          exact List.mem_map.mpr ⟨ringAt (x :: st) 0, List.mem_map.mpr ⟨0, List.mem_range.mpr (by omega), rfl⟩, rfl⟩
        exact c _ m hx
      · have e : (x :: st).length - 1 - 0 = 0 := by omega
        rw [e]
        exact hx
    | succ j ih =>
      intro hj
      have p : (x :: st).length - 1 - j = ((x :: st).length - 1 - (j + 1)) + 1 := by omega
      generalize (x :: st).length - 1 - (j + 1) = i at p
      have m : ((ringAt (x :: st) (i + 1)).2, (ringAt (x :: st) (i + 1)).1) ∈ (ring (x :: st)).map fun l => (l.2, l.1) := by
        unfold ring
        rw [if_pos (by omega)]
        exact List.mem_map.mpr ⟨ringAt (x :: st) (i + 1), List.mem_map.mpr ⟨i + 1, List.mem_range.mpr (by omega), rfl⟩, rfl⟩
      have z := c _ m (by
        show (x :: st).getD (i + 1) "" ∈ ks
        rw [← p]
        exact ih (by omega))
      have e : (ringAt (x :: st) (i + 1)).1 = (x :: st).getD i "" := by
        show (x :: st).getD (if i + 1 = 0 then _ else i + 1 - 1) "" = _
        rw [if_neg (by omega)]
        rfl
      rw [← e]
      exact z
  refine at_mem fun i hi => ?_
  have z := key ((x :: st).length - 1 - i) (by omega)
  have e : (x :: st).length - 1 - ((x :: st).length - 1 - i) = i := by omega
  rw [e] at z
  exact z
def counters5 : List Str := ["x", "y", "z", "u", "v"]
def nodes4 : List Str := ["p", "q", "r", "a"]
/-- a graph as the law draws one -/
structure LawG (G : Gr) : Prop where
  made : Makes G.cs G.ns G.rs G
  ok : G.Ok
  c1 : 1 ≤ G.cs.length
  r1 : 1 ≤ G.rs.length
  cm : ∀ c ∈ G.cs, c ∈ counters5
  nm : ∀ c ∈ G.ns, c ∈ nodes4
  wm : ∀ r ∈ G.rs, r.n ∈ words16
  r10 : G.rs.length ≤ 10
theorem counters_ok : ∀ w ∈ counters5, NameOk w := by
  have h : ∀ w ∈ counters5, (decide (1 ≤ w.length) && decide (w.length ≤ 8) && w.cps.toList.all fun c => decide (c ∈ letters.cps.toList)) = true := by decide +kernel
  intro w hw
  have z := h w hw
  simp only [Bool.and_eq_true, decide_eq_true_eq, List.all_eq_true] at z
  exact ⟨z.1.1, z.1.2, z.2⟩
theorem nodes_ok : ∀ w ∈ nodes4, NameOk w := by
  have h : ∀ w ∈ nodes4, (decide (1 ≤ w.length) && decide (w.length ≤ 8) && w.cps.toList.all fun c => decide (c ∈ letters.cps.toList)) = true := by decide +kernel
  intro w hw
  have z := h w hw
  simp only [Bool.and_eq_true, decide_eq_true_eq, List.all_eq_true] at z
  exact ⟨z.1.1, z.1.2, z.2⟩
theorem apart : ∀ c ∈ counters5, ∀ w ∈ words16, c ≠ w := by decide +kernel
/-- what is drawn makes a graph -/
theorem lawG_of {cs ns : List Str} {rs fr : List Row} (ca : cs.Pairwise lts) (cm : ∀ c ∈ cs, c ∈ counters5) (c1 : 1 ≤ cs.length) (c5 : cs.length ≤ 5) (na : ns.Pairwise lts) (nm : ∀ c ∈ ns, c ∈ nodes4) (n1 : 1 ≤ ns.length) (n4 : ns.length ≤ 4)
    (pm : rs.Perm fr) (asc : (rs.map (·.n)).Pairwise lts) (few : fr.length ≤ 10) (r1 : 1 ≤ fr.length) (names : ∀ r ∈ fr, r.n ∈ words16) (ends : ∀ r ∈ fr, r.s ∈ ns ∧ r.t ∈ ns) (chs : ∀ r ∈ fr, ChOk r.c ∧ ChIn cs r.c) (rg : ∀ l ∈ ring ns, l ∈ fwd fr) : LawG ⟨cs, ns, rs⟩ := by
  obtain ⟨x, st, rfl⟩ : ∃ x st, ns = x :: st := by
    cases ns with
    | nil => exact absurd n1 (by decide)
    | cons x st => exact ⟨x, st, rfl⟩
  have m : ∀ {r}, r ∈ rs → r ∈ fr := fun h => pm.mem_iff.mp h
  have ro : ∀ r ∈ rs, RowOk r := fun r hr => ⟨words_ok _ (names r (m hr)), nodes_ok _ (nm _ (ends r (m hr)).1), nodes_ok _ (nm _ (ends r (m hr)).2), (chs r (m hr)).1⟩
  have rg2 : ∀ l ∈ ring (x :: st), l ∈ fwd rs := fun l hl => by
    obtain ⟨r, hr, e⟩ := List.mem_map.mp (rg l hl)
    exact List.mem_map.mpr ⟨r, pm.mem_iff.mpr hr, e⟩
  have len10 : rs.length ≤ 10 := by rw [pm.length_eq]; exact few
  have len : rs.length ≤ 16 := by omega
  refine ⟨⟨⟨x, st, rfl, ?_⟩, List.Perm.refl _, asc⟩, ⟨ca, na, asc, c5, by show (x :: st).length ≤ 8; omega, len, ro, fun c hc => counters_ok _ (cm c hc), fun c hc => nodes_ok _ (nm c hc)⟩, c1, by show 1 ≤ rs.length; rw [pm.length_eq]; exact r1, cm, nm, fun r hr => names r (pm.mem_iff.mp hr), len10⟩
  refine ⟨fun c hc => counters_ok _ (cm c hc), fun c hc => nodes_ok _ (nm c hc), ro, ca, fun z => Iff.rfl, ⟨c1, c5⟩, na, fun z => ⟨fun h => .inl h, fun h => ?_⟩, by omega, len, by show cs.length ≤ 16; omega, by show (x :: st).length ≤ 16; omega, ?_, fun r hr p hp => ((chs r (m hr)).2 p hp).1, reach_mono (reach_fwd x st) rg2, reach_mono (reach_bwd x st) fun l hl => ?_⟩
  · rcases h with h | h
    · exact h
    · obtain ⟨r, hr, hz⟩ := List.mem_flatMap.mp h
      rcases List.mem_cons.mp hz with rfl | hz
      · exact (ends r (m hr)).1
      · cases List.mem_singleton.mp hz
        exact (ends r (m hr)).2
  · refine List.nodup_append.mpr ⟨nodup_lts ca, nodup_lts asc, fun a ha b hb => ?_⟩
    obtain ⟨r, hr, rfl⟩ := List.mem_map.mp hb
    exact apart a (cm a ha) _ (names r (m hr))
  · obtain ⟨q, hq, rfl⟩ := List.mem_map.mp hl
    obtain ⟨r, hr, e⟩ := List.mem_map.mp (rg2 q hq)
    refine List.mem_map.mpr ⟨r, hr, ?_⟩
    rw [← e]
end Qp

/-! a drawn graph -/
namespace Qp
open PySem PySem.Spec PyProof.Rows L2 QN
abbrev sLGraph : Stmt := top 48 -- _law_graph
abbrev lgNames : List Str := ["_law_dice_here", "_law_most_states", "_law_most_counters", "_law_more", "_law_nodes", "_law_counters", "_law_at", "_law_pairs", "_law_spots", "_law_turn", "_law_source", "_law_names", "_law_found", "_law_pair", "_law_change_here"]
theorem scLGraph : FnScope lgNames ["_law_dice_here", "_law_most_states", "_law_most_counters", "_law_more"] (defScope sLGraph) := ⟨rfl, rfl, rfl, by decide +kernel, rfl, by decide +kernel, by decide +kernel⟩
theorem SimX.but {p : Addr} {H H' : Hp} (b : But p H H') : SimX p H H' := ⟨fun c o n _ e => b c o n e, fun c n ⟨ps, e, t⟩ => ⟨ps, b c _ n e, t⟩⟩
theorem dpPairs_simX {K : PySem.W.Frag} {x : Addr} {H H' : Hp} {l : List V} (s : SimX x H H') (hx : H x = some (.lst l)) : ∀ {us : List V} {c : List (Str × Int)}, DpAll K H us (c.map pairD) → DpAll K H' us (c.map pairD)
  | [], [], _ => .nil
  | [], _ :: _, h => by cases h
  | _ :: _, [], h => by cases h
  | u :: us, p :: c, h => by
    cases h with
    | cons a b =>
      obtain ⟨t, rfl, ht⟩ := dp_pair a
      exact .cons (.tup (sqT_simX s hx (fun _ e => by cases e) (fun _ _ e => by cases e) ht) (.cons (.str _) (.cons (.int _) .nil))) (dpPairs_simX s hx b)
theorem plRow_simL {K : PySem.W.Frag} {x : Addr} {H H' : Hp} {l : List V} (s : SimX x H H') (hx : H x = some (.lst l)) {u : V} {r : Row} (h : PlRow K H u r) : PlRow K H' u r := by
  obtain ⟨a, c, xs, rfl, h1, h2, h3⟩ := h
  exact ⟨a, c, xs, rfl, sqT_simX s hx (fun _ e => by cases e) (fun _ _ e => by cases e) h1, plT_simX s hx (fun _ e => by cases e) (fun _ _ e => by cases e) h2, dpPairs_simX s hx h3⟩
theorem plAll_simL {K : PySem.W.Frag} {x : Addr} {H H' : Hp} {l : List V} (s : SimX x H H') (hx : H x = some (.lst l)) {us : List V} {rs : List Row} (h : Paired (PlRow K H) us rs) : Paired (PlRow K H') us rs := Paired.mapP h fun _ _ p => plRow_simL s hx p
/-- pairs of texts, as tuples -/
def LinksAt (K : PySem.W.Frag) (H : Hp) (us : List V) (ls : List (Str × Str)) : Prop := Paired (fun u l => ∃ t, u = V.ref t ∧ SqT K H t [.str l.1, .str l.2]) us ls
theorem links_simL {K : PySem.W.Frag} {x : Addr} {H H' : Hp} {l : List V} (s : SimX x H H') (hx : H x = some (.lst l)) {us : List V} {ls : List (Str × Str)} (h : LinksAt K H us ls) : LinksAt K H' us ls :=
  Paired.mapP h fun _ _ ⟨t, e, q⟩ => ⟨t, e, sqT_simX s hx (fun _ e => by cases e) (fun _ _ e => by cases e) q⟩
theorem links_same {K : PySem.W.Frag} {H H' : Hp} (s : Same H H') {us : List V} {ls : List (Str × Str)} (h : LinksAt K H us ls) : LinksAt K H' us ls := Paired.mapP h fun _ _ ⟨t, e, q⟩ => ⟨t, e, sqT_same s q⟩
theorem strs_ne_hand {xs : List Str} {x y z : Int} : xs.map V.str ≠ hand x y z := fun e => by
  cases xs with
  | nil => cases e
  | cons a xs =>
    rw [List.map_cons] at e
    unfold hand at e
    injection e with e _
    cases e
theorem lst_ne {H : Hp} {p q : Addr} {xs : List Str} {x y z : Int} (h1 : H q = some (.lst (xs.map V.str))) (h2 : H p = some (.lst (hand x y z))) : q ≠ p := fun c => by
  rw [c, h2] at h1
  injection h1 with h1
  injection h1 with h1
  exact strs_ne_hand h1.symm
/-- the ring's pairs, as the law makes them; the states' list in the slot 4 -/
theorem ring_te {K : PySem.W.Frag} {H : Hp} {Q : VK} {v0 v1 v2 v3 v5 v6 v7 v8 v9 v10 v11 v12 v13 v14 : Option V} {pn : Addr} {ns : List Str} (hn : H pn = some (.lst (ns.map V.str))) (n4 : ns.length ≤ 4)
    (k : ∀ (PP : Addr) (us : List V) (HC : Hp), Same H HC → HC PP = some (.lst us) → H PP = none → LinksAt K HC us (ring ns) → Q (.ref PP) HC) :
    tIf (tTest (tOp (rI0 fun i j => V.bl (decide (j < i))) (tCB (rLenM K) (tCons (tVar 4) tNil)) (tC (.int 1))))
      (tLc (iRng1 (tCons (tCB (rLenM K) (tCons (tVar 4) tNil)) tNil)) (gName 6) tYes (tTup (tCons (tOp (rIxL K) (tVar 4) (tOp (rI0 fun i j => V.int (i - j)) (tVar 6) (tC (.int 1)))) (tCons (tOp (rIxL K) (tVar 4) (tVar 6)) tNil))) [6])
      (tLst tNil) [v0, v1, v2, v3, some (.ref pn), v5, v6, v7, v8, v9, v10, v11, v12, v13, v14] H Q := by
  have ml : (ns.map V.str).length = ns.length := List.length_map ..
  refine ⟨_, rfl, pn, _, rfl, .inl (.inl (.inl hn)), _, _, rfl, rfl, _, rfl, ?_⟩
  rw [ml]
  by_cases one : 1 < ns.length
  · refine if_yes (decide_eq_true (by omega)) ⟨_, rfl, pn, _, rfl, .inl (.inl (.inl hn)), _, rfl, by omega, by omega, fun D hD => ?_⟩
    rw [ml, Int.toNat_natCast]
    refine lc_range (fun i H' => Same H H' ∧ ∃ us, H' D = some (.lst us) ∧ LinksAt K H' us ((ringL ns).take i)) ⟨same_new hD, [], upd_same, .nil⟩ (fun i H' hi pp => ?_) fun H' pp => ?_
    · obtain ⟨sm, us, hD2, hu⟩ := pp
      have hn2 := sm _ _ hn
      have x2 : (ns.map V.str)[i]? = some (.str (ns.getD i "")) := by
        rw [List.getElem?_map, List.getD_eq_getElem?_getD, List.getElem?_eq_getElem hi]
        rfl
      have e1 : (0 : Int) + ((i : Nat) : Int) = (i : Int) := Int.zero_add _
      have x1 : atI (ns.map V.str) ((0 : Int) + (i : Int) - 1) = some (.str (ringAt ns i).1) := by
        rw [e1]
        cases i with
        | zero =>
          obtain ⟨r, c, e⟩ : ∃ r c, ns = r ++ [c] := by
            rcases List.eq_nil_or_concat ns with z | ⟨r, c, z⟩
            · rw [z] at one
              exact absurd one (by decide)
            · exact ⟨r, c, by rw [z, List.concat_eq_append]⟩
          subst e
          rw [List.map_append]
          show atI (r.map V.str ++ [V.str c]) (((0 : Nat) : Int) - 1) = _
          rw [show (((0 : Nat) : Int) - 1) = -1 from rfl, atI_last]
          show some (V.str c) = some (V.str ((r ++ [c]).getD (if 0 = 0 then (r ++ [c]).length - 1 else 0 - 1) ""))
          rw [if_pos rfl, List.length_append, List.getD_eq_getElem?_getD, List.length_singleton, Nat.add_sub_cancel, List.getElem?_append_right (Nat.le_refl _), Nat.sub_self]
          rfl
        | succ i =>
          rw [show (((i + 1 : Nat) : Int) - 1) = (i : Int) by omega]
          refine atI_nat ?_
          show _ = some (V.str (ns.getD (if i + 1 = 0 then ns.length - 1 else i + 1 - 1) ""))
          rw [if_neg (by omega), List.getElem?_map, List.getD_eq_getElem?_getD]
          show (ns[i]?).map V.str = some (V.str ((ns[i]?).getD ""))
          rw [List.getElem?_eq_getElem (by omega)]
          rfl
      refine ⟨rfl, yes_if ⟨_, rfl, _, rfl, _, _, rfl, rfl, pn, _, _, _, rfl, rfl, .inl (.inl hn2), x1, _, rfl, _, rfl, pn, _, _, _, rfl, rfl, .inl (.inl hn2), (by rw [e1]; exact atI_nat x2), (by show 2 ≤ sizeLine; decide), fun t ht => ?_⟩⟩
      have ul : us.length ≤ 4 := by
        rw [hu.length, List.length_take]
        omega
      have hDt := same_new (o := .tup [.str (ringAt ns i).1, .str (ns.getD i "")]) ht _ _ hD2
      refine ⟨us, hDt, by rw [sizeLine_eq]; omega, same_upd' (sm.trans (same_new ht)) hD, us ++ [.ref t], upd_same, ?_⟩
      have e : (ringL ns).take (i + 1) = (ringL ns).take i ++ [ringAt ns i] := by
        rw [List.take_add_one]
        unfold ringL
        rw [List.getElem?_map, List.getElem?_range hi]
        rfl
      rw [e]
      exact paired_append (links_simL simX_upd hDt (links_same (same_new ht) hu)) ⟨t, rfl, sqT_upd hDt (fun _ z => by cases z) (fun _ _ z => by cases z) (.inl (.inl upd_same))⟩
    · obtain ⟨sm, us, hD2, hu⟩ := pp
      refine k D us H' sm hD2 hD ?_
      unfold ring
      rw [if_pos one]
      rw [List.take_of_length_le (by unfold ringL; rw [List.length_map, List.length_range]; exact Nat.le_refl _)] at hu
      exact hu
  · refine if_no (by simp only [decide_eq_true_eq]; omega) ⟨(by show 0 ≤ sizeLine; decide), fun D hD => k D [] _ (same_new hD) upd_same hD ?_⟩
    unfold ring
    rw [if_neg one]
    exact .nil
/-- a drawn row, put into the rows' list -/
theorem row_te {K : PySem.W.Frag} {H : Hp} {Q : VK} {v0 v1 v2 v3 v4 v5 v7 v8 v9 v10 : Option V} {v : V} {wq FF tp : Addr} {i : Nat} {ws : List Str} {n s t : Str} {rus : List V} (hw : H wq = some (.lst (ws.map V.str))) (hn : ws[i]? = some n) (ht : SqT K H tp [.str s, .str t]) (hF : H FF = some (.lst rus)) (few : rus.length < 1000)
    (k : ∀ (r : Addr) (H' : Hp), Same H H' → H r = none → SqT K H' r [.str n, .str s, .str t, v] → Q .non (upd H' FF (.lst (rus ++ [.ref r])))) :
    tBM K "list" rAppend (tVar 12) (tCons (tTup (tCons (tOp (rIxL K) (tVar 11) (tVar 6)) (tCons (tOp (rIxT K) (tVar 13) (tC (.int 0))) (tCons (tOp (rIxT K) (tVar 13) (tC (.int 1))) (tCons (tVar 14) tNil))))) tNil)
      [v0, v1, v2, v3, v4, v5, some (.int (i : Nat)), v7, v8, v9, v10, some (.ref wq), some (.ref FF), some (.ref tp), some v] H Q := by
  have x : atI (ws.map V.str) ((i : Nat) : Int) = some (.str n) := atI_nat (by rw [List.getElem?_map, hn]; rfl)
  refine ⟨_, rfl, .inl ⟨rfl, _, .inl (.inl hF)⟩, _, rfl, _, rfl, wq, _, _, _, rfl, rfl, .inl (.inl hw), x, _, rfl, tp, _, _, _, rfl, rfl, ht, rfl, _, rfl, tp, _, _, _, rfl, rfl, ht, rfl, _, rfl, (by show 4 ≤ sizeLine; decide), fun r hr => ?_⟩
  have sr := same_new (o := .tup [.str n, .str s, .str t, v]) hr
  exact ⟨FF, rus, .ref r, rfl, rfl, sr _ _ hF, by rw [sizeLine_eq]; omega, k r _ sr hr (.inl (.inl upd_same))⟩
section
open PySem.W PySem.SeqAt
/-- sorted(l) of rows whose names differ -/
theorem sorted_rows {K : PySem.W.Frag} {H : Hp} {a : Addr} {us : List V} {fr : List Row} {Q : VK} (ha : SqL K H a us ∨ SqT K H a us) (hu : Paired (PlRow K H) us fr) (nd : (fr.map (·.n)).Nodup)
    (k : ∀ (p : Addr) (ws : List V) (rs : List Row), H p = none → rs.Perm fr → (rs.map (·.n)).Pairwise lts → Paired (PlRow K H) ws rs → Q (.ref p) (upd H p (.lst ws))) : rSortedDt K [.ref a] H Q := by
  have ul : us.length = fr.length := hu.length
  have bz1 : (us.zip (fr.map rowD)).map (·.1) = us := fst_zip (by rw [List.length_map]; exact ul)
  have bz2 : (us.zip (fr.map rowD)).map (·.2) = fr.map rowD := snd_zip (by rw [List.length_map]; exact ul)
  refine ⟨a, us.zip (fr.map rowD), rfl, by rw [bz1]; exact ha, zip_dpAll (plAll_dp hu), by rw [bz2]; exact AllAlike.of alike_row, by rw [bz2]; exact Sortable.tuples fun r => ⟨_, _, rfl⟩, fun p hp => ?_, fun p hp => k p _ (fr.mergeSort (dataLe false rowD)) hp (List.mergeSort_perm _ _) (named_sorted named_row nd) (zip_plAll (sort_named named_row ul) fun b hb => plAll_zip hu b ((List.mergeSort_perm _ _).mem_iff.mp hb))⟩
  have m : p.2 ∈ fr.map rowD := by
    rw [← bz2]
    exact List.mem_map.mpr ⟨p, hp, rfl⟩
  obtain ⟨q, _, e⟩ := List.mem_map.mp m
  rw [← e]
  have := depth_row q
  omega
end
def spLGraph (K : PySem.W.Frag) (mc mo : Int) : Sp := fun vs H Q _ => ∃ (p : Addr) (x y z : Int), vs = [.ref p, .int 4, .int mc, .int mo] ∧ H p = some (.lst (hand x y z)) ∧
  ∀ (pl a b v : Addr) (us : List V) (G : Gr) (x' y' z' : Int) (H' : Hp), LawG G → SqT K H' pl [.ref a, .ref b, .ref v] → SqT K H' a (G.cs.map V.str) → SqT K H' b (G.ns.map V.str) → SqT K H' v us → Paired (PlRow K H') us G.rs → H' p = some (.lst (hand x' y' z')) → But p H H' → Q (.ref pl) H'
section
variable {P : Program} {w : World} {K : PySem.W.Frag} {mg : Str → Option Value} {base : Heap}
theorem ok_lgraph {mc mo : Int} (m1 : 1 ≤ mc) (m5 : mc ≤ 5) (o1 : 1 ≤ mo) (o6 : mo ≤ 6) {f fO fR fM fK fW : Addr} {fd fdO fdR fdM fdK fdW : FuncData} (F : Fun K "_law_graph" "_law_graph" sLGraph f fd) (GO : FnOk P w K mg base CX0 2 fO fdO ["_law_dice_here", "_law_items"] spOne) (kO : PySem.W.keepIn K (.ref fO) = true) (bO : L2.Binds K fdO ["_law_dice_here", "_law_items"] []) (gO : mg "_law_one_of" = some (.ref fO))
    (GR : FnOk P w K mg base CX0 1 fR fdR ["_law_dice_here", "_law_total"] spRoll) (kR : PySem.W.keepIn K (.ref fR) = true) (bR : L2.Binds K fdR ["_law_dice_here", "_law_total"] []) (gR : mg "_law_roll" = some (.ref fR))
    (GM : FnOk P w K mg base CX0 2 fM fdM ["_law_dice_here", "_law_items"] (spMixed K)) (kM : PySem.W.keepIn K (.ref fM) = true) (bM : L2.Binds K fdM ["_law_dice_here", "_law_items"] []) (gM : mg "_law_mixed" = some (.ref fM))
    (GK : FnOk P w K mg base CX0 4 fK fdK ["_law_dice_here", "_law_counters"] (spLKind K)) (kK : PySem.W.keepIn K (.ref fK) = true) (bK : L2.Binds K fdK ["_law_dice_here", "_law_counters"] []) (gK : mg "_law_kind" = some (.ref fK))
    (GW : FnOk P w K mg base CX0 3 fW fdW ["_law_dice_here", "_law_much"] spLWords) (kW : PySem.W.keepIn K (.ref fW) = true) (bW : L2.Binds K fdW ["_law_dice_here", "_law_much"] []) (gW : mg "_law_words" = some (.ref fW))
    (B : BltP mg) (B2 : Blt2 mg) (so : mg "sorted" = none) (en : mg "enumerate" = none) : FnOk P w K mg base CX0 5 f fd ["_law_dice_here", "_law_most_states", "_law_most_counters", "_law_more"] (spLGraph K mc mo) := by
  refine F.ok scLGraph (fun vs H Q E h => ?_) (fun cdv A outer s H vs Q E hr h => ?_)
  · obtain ⟨p, x, y, z, rfl, _⟩ := h
    rfl
  · obtain ⟨p, x, y, z, rfl, hp, k⟩ := h
    have hu1 : (A.deeper (envOfC "_law_graph" (defScope sLGraph) s.heap.objs.size f cdv)).units + 64 < cLine := by
      have := hr.un
      omega
    have r3 := hr.mono (by decide : 3 ≤ 4)
    have r2 := hr.mono (by decide : 2 ≤ 4)
    have r1 := hr.mono (by decide : 1 ≤ 4)
    refine ⟨_, pss_cons (ps_set (i := 4) scLGraph.nd rfl (.inr rfl) (pe_callB (r := rSortedDt K) (cr_sortedDt hu1) (by rfl) so (by decide +kernel) (pa_cons (pe_slice sl_list (pe_call GM r2 (by rfl) gM kM bM .nil pass0 (pa_cons (pv 0) (pa_cons (pe_lst (pa_cons pe_str (pa_cons pe_str (pa_cons pe_str (pa_cons pe_str pa_nil))))) pa_nil))) po_none (po_some (pe_op op_add pe_int (pe_call GR r1 (by rfl) gR kR bR .nil pass0 (pa_cons (pv 0) (pa_cons (pv 1) pa_nil)))))) pa_nil)))
      (pss_cons (ps_set (i := 5) scLGraph.nd rfl (.inl rfl) (pe_callB (r := rSortedDt K) (cr_sortedDt hu1) (by rfl) so (by decide +kernel) (pa_cons (pe_slice sl_list (pe_call GM r2 (by rfl) gM kM bM .nil pass0 (pa_cons (pv 0) (pa_cons (pe_lst (pa_cons pe_str (pa_cons pe_str (pa_cons pe_str (pa_cons pe_str (pa_cons pe_str pa_nil)))))) pa_nil))) po_none (po_some (pe_op op_add pe_int (pe_call GR r1 (by rfl) gR kR bR .nil pass0 (pa_cons (pv 0) (pa_cons (pv 2) pa_nil)))))) pa_nil)))
      (pss_cons (ps_set (i := 7) scLGraph.nd rfl (.inl rfl) (pe_ifExp (pt_cmpR op_gt (pe_callB (r := rLenM K) call_len_seq (by rfl) B.len PySem.boot_len (pa_cons (pv 4) pa_nil)) pe_int (nomark _))
        (pe_lc (own := [("_law_at", 6)]) (g := gName 6) (tt := tYes) (te := tTup (tCons (tOp (rIxL K) (tVar 4) (tOp (rI0 fun i j => .int (i - j)) (tVar 6) (tC (.int 1)))) (tCons (tOp (rIxL K) (tVar 4) (tVar 6)) tNil))) rfl scLGraph.nd (pi_range1 (by rfl) B2.rg (pa_cons (pe_callB (r := rLenM K) call_len_seq (by rfl) B.len PySem.boot_len (pa_cons (pv 4) pa_nil)) pa_nil)) (blkOk_by (N := lgNames) (sc := defScope sLGraph) (by decide +kernel))
          (fun _ _ _ _ _ => pg_name (i := 6) scLGraph.nd rfl (.inl rfl) (hf := .inr rfl)) (fun _ _ _ _ _ => pts_nil) (fun _ _ _ _ _ => pe_tup (pa_cons (pe_ix ix_list (pv 4) (pe_op op_sub (pv 6) pe_int) (fun _ _ => rfl)) (pa_cons (pe_ix ix_list (pv 4) (pv 6) (fun _ _ => rfl)) pa_nil)))) (pe_lst pa_nil)))
      (pss_cons (ps_set (i := 8) scLGraph.nd rfl (.inl rfl) (pe_callB (r := rLenM K) call_len_seq (by rfl) B.len PySem.boot_len (pa_cons (pv 7) pa_nil)))
      (pss_cons (ps_for PassesOwn.never rfl (pi_range1 (by rfl) B2.rg (pa_cons (pe_op op_add pe_int (pe_call GR r1 (by rfl) gR kR bR .nil pass0 (pa_cons (pv 0) (pa_cons (pv 3) pa_nil)))) pa_nil)) (pg_name (i := 9) scLGraph.nd rfl (.inl rfl))
        (pss_cons (ps_set (i := 10) scLGraph.nd rfl (.inl rfl) (pe_call GO r2 (by rfl) gO kO bO .nil pass0 (pa_cons (pv 0) (pa_cons (pv 4) pa_nil))))
        (pss_one (ps_expr (pe_bm PySem.F.plainAttrs_list PySem.F.slot_list_append PySem.F.type_list_append mt_append (pv 7) (pa_cons (pe_tup (pa_cons (pv 10) (pa_cons (pe_call GO r2 (by rfl) gO kO bO .nil pass0 (pa_cons (pv 0) (pa_cons (pe_lst (pa_cons (pv 10) (pa_cons (pv 10) (pa_cons (pe_call GO r2 (by rfl) gO kO bO .nil pass0 (pa_cons (pv 0) (pa_cons (pv 4) pa_nil))) pa_nil)))) pa_nil))) pa_nil))) pa_nil))))))
      (pss_cons (ps_par (i := 11) (j := 12) (by rfl) scLGraph.nd rfl rfl (by decide) rfl rfl (pa_cons (pe_call GW r3 (by rfl) gW kW bW .nil pass0 (pa_cons (pv 0) (pa_cons (pe_callB (r := rLenM K) call_len_seq (by rfl) B.len PySem.boot_len (pa_cons (pv 7) pa_nil)) pa_nil))) (pa_cons (pe_lst pa_nil) pa_nil)) (by rfl))
      (pss_cons (ps_for PassesOwn.never rfl (pi_enum (by rfl) en (pa_cons (pv 7) pa_nil)) (pg_tup rfl (pgs_cons (pg_name (i := 6) scLGraph.nd rfl (.inl rfl)) (pgs_cons (pg_name (i := 13) scLGraph.nd rfl (.inl rfl)) pgs_nil)))
        (pss_cons (ps_set (i := 14) scLGraph.nd rfl (.inl rfl) (pe_call GK hr (by rfl) gK kK bK .nil pass0 (pa_cons (pv 0) (pa_cons (pv 5) pa_nil))))
        (pss_cons (ps_if (PW.pt (pw_and (pt_cmpR op_lt (pv 6) (pv 8) (nomark _)) (pw_and1 (pt_cmpR op_eq (pe_call GR r1 (by rfl) gR kR bR .nil pass0 (pa_cons (pv 0) (pa_cons pe_int pa_nil))) pe_int (nomark _))))) (pss_one (ps_set (i := 14) scLGraph.nd rfl (.inl rfl) (pe_tupZ pa_nil))) pss_nil)
        (pss_one (ps_expr (pe_bm PySem.F.plainAttrs_list PySem.F.slot_list_append PySem.F.type_list_append mt_append (pv 12) (pa_cons (pe_tup (pa_cons (pe_ix ix_list (pv 11) (pv 6) (fun _ _ => rfl)) (pa_cons (pe_ix ix_tup (pv 13) pe_int (fun _ _ => rfl)) (pa_cons (pe_ix ix_tup (pv 13) pe_int (fun _ _ => rfl)) (pa_cons (pv 14) pa_nil))))) pa_nil)))))))
      (pss_one (ps_ret (pe_tup (pa_cons (pe_callTy call_tuple_of (by rfl) B.tuple (by decide +kernel) (pa_cons (pv 5) pa_nil)) (pa_cons (pe_callTy call_tuple_of (by rfl) B.tuple (by decide +kernel) (pa_cons (pv 4) pa_nil)) (pa_cons (pe_callTy call_tuple_of (by rfl) B.tuple (by decide +kernel) (pa_cons (pe_callB (r := rSortedDt K) (cr_sortedDt hu1) (by rfl) so (by decide +kernel) (pa_cons (pv 12) pa_nil)) pa_nil)) pa_nil)))))))))))), ?_⟩
    -- the states
    refine ⟨_, rfl, (by show 4 ≤ sizeLine; decide), fun a ha => ?_⟩
    have sa := same_new (o := .lst (nodes4.map V.str)) ha
    refine ⟨p, a, x, y, z, nodes4.map V.str, rfl, sa _ _ hp, .inl (.inl (.inl upd_same)), (by show 4 < 1000000; decide), fun r ys x1 y1 z1 H1 pm hr1 hp1 b1 => ?_⟩
    obtain ⟨zs, rfl, pz⟩ := perm_strs pm
    refine ⟨_, rfl, _, rfl, p, x1, y1, z1, 4, rfl, hp1, by decide, by decide, fun n1 x2 y2 z2 H2 n0 n4 hp2 b2 => ⟨_, _, rfl, rfl, _, rfl, r, _, rfl, .inl (.inl (b2 _ _ (fun c => ?_) hr1)), fun q hq => ?_⟩⟩
    · exact lst_ne hr1 hp1 c
    obtain ⟨m, rfl⟩ := Int.eq_ofNat_of_zero_le n0
    rw [show (1 : Int) + ((m : Nat) : Int) = ((m + 1 : Nat) : Int) by omega, cut_to] at *
    have m4 : m + 1 ≤ 4 := by omega
    have sq := same_new (o := .lst ((zs.take (m + 1)).map V.str)) hq
    have nn : (zs.take (m + 1)).Nodup := (pz.nodup_iff.mpr (by decide +kernel)).sublist (List.take_sublist _ _)
    dsimp only [tNil]
    refine sorted_strs (.inl (.inl (.inl upd_same))) nn fun pn ns hpn pmn na => ?_
    have spn := same_new (o := .lst (ns.map V.str)) hpn
    have nl : ns.length = m + 1 := by
      rw [pmn.length_eq, List.length_take, pz.length_eq]
      show min (m + 1) 4 = m + 1
      omega
    have nm : ∀ w ∈ ns, w ∈ nodes4 := fun w hw => pz.mem_iff.mp (List.mem_of_mem_take (pmn.mem_iff.mp hw))
    have pA := spn _ _ (sq _ _ hp2)
    have hA : (upd (upd H2 q (.lst ((zs.take (m + 1)).map V.str))) pn (.lst (ns.map V.str))) pn = some (.lst (ns.map V.str)) := upd_same
    have bA : But p H (upd (upd H2 q (.lst ((zs.take (m + 1)).map V.str))) pn (.lst (ns.map V.str))) := but_same sa (but_trans b1 (but_trans b2 (same_but (sq.trans spn))))
    generalize upd (upd H2 q (.lst ((zs.take (m + 1)).map V.str))) pn (.lst (ns.map V.str)) = HA at pA hA bA
    clear hpn hq hr1 spn sq b1 b2 sa
    have nep := lst_ne hA pA
    -- the counters
    refine ⟨_, rfl, (by show 5 ≤ sizeLine; decide), fun a ha => ?_⟩
    have sa := same_new (o := .lst (counters5.map V.str)) ha
    refine ⟨p, a, x2, y2, z2, counters5.map V.str, rfl, sa _ _ pA, .inl (.inl (.inl upd_same)), (by show 5 < 1000000; decide), fun r ys x1 y1 z1 H1 pm hr1 hp1 b1 => ?_⟩
    obtain ⟨ws, rfl, pw⟩ := perm_strs pm
    refine ⟨_, rfl, _, rfl, p, x1, y1, z1, mc, rfl, hp1, by omega, by omega, fun n1 x3 y3 z3 H3 n0 n5 hp3 b3 => ⟨_, _, rfl, rfl, _, rfl, r, _, rfl, .inl (.inl (b3 _ _ (fun c => ?_) hr1)), fun q hq => ?_⟩⟩
    · exact lst_ne hr1 hp1 c
    obtain ⟨l, rfl⟩ := Int.eq_ofNat_of_zero_le n0
    rw [show (1 : Int) + ((l : Nat) : Int) = ((l + 1 : Nat) : Int) by omega, cut_to] at *
    have l5 : l + 1 ≤ 5 := by omega
    have sq := same_new (o := .lst ((ws.take (l + 1)).map V.str)) hq
    have nw : (ws.take (l + 1)).Nodup := (pw.nodup_iff.mpr (by decide +kernel)).sublist (List.take_sublist _ _)
    dsimp only [tNil]
    refine sorted_strs (.inl (.inl (.inl upd_same))) nw fun pc cs hpc pmc ca => ?_
    have spc := same_new (o := .lst (cs.map V.str)) hpc
    have cl : cs.length = l + 1 := by
      rw [pmc.length_eq, List.length_take, pw.length_eq]
      show min (l + 1) 5 = l + 1
      omega
    have cm : ∀ w ∈ cs, w ∈ counters5 := fun w hw => pw.mem_iff.mp (List.mem_of_mem_take (pmc.mem_iff.mp hw))
    have pB := spc _ _ (sq _ _ hp3)
    have cB : (upd (upd H3 q (.lst ((ws.take (l + 1)).map V.str))) pc (.lst (cs.map V.str))) pc = some (.lst (cs.map V.str)) := upd_same
    have bAB : But p HA (upd (upd H3 q (.lst ((ws.take (l + 1)).map V.str))) pc (.lst (cs.map V.str))) := but_same sa (but_trans b1 (but_trans b3 (same_but (sq.trans spc))))
    have hB := bAB _ _ nep hA
    have bB := but_trans bA bAB
    generalize upd (upd H3 q (.lst ((ws.take (l + 1)).map V.str))) pc (.lst (cs.map V.str)) = HB at pB cB bB bAB hB
    clear hpc hq hr1 spc sq b1 b3 sa bAB
    have cep := lst_ne cB pB
    -- the pairs of the ring
    refine ring_te hB (by omega) fun PP us HC sC hPP hPn hl => ?_
    have PPp : PP ≠ p := fun c => by rw [c, pB] at hPn; cases hPn
    have pnP : pn ≠ PP := fun c => by rw [c, hPn] at hB; cases hB
    have pcP : pc ≠ PP := fun c => by rw [c, hPn] at cB; cases cB
    have H0P : H PP = none := by
      cases e : H PP with
      | none => rfl
      | some o =>
        have e2 := bB PP o PPp e
        rw [hPn] at e2
        cases e2
    have ulen : us.length = (ring ns).length := hl.length
    have rl := ring_len ns
    -- how many
    refine ⟨_, rfl, PP, _, rfl, .inl (.inl (.inl hPP)), ?_⟩
    have pC := sC _ _ pB
    have nC := sC _ _ hB
    have cC := sC _ _ cB
    have bC := but_trans bB (same_but (p := p) sC)
    refine ⟨_, rfl, _, rfl, p, x3, y3, z3, mo, rfl, pC, by omega, by omega, fun n1 x4 y4 z4 HD n0 n6 pD bD => ⟨_, _, rfl, rfl, _, rfl, by omega, by omega, ?_⟩⟩
    obtain ⟨e, rfl⟩ := Int.eq_ofNat_of_zero_le n0
    rw [show ((1 : Int) + ((e : Nat) : Int)).toNat = e + 1 by omega]
    refine for_range (fun i σ H' => ∃ y9 y10, σ = [some (.ref p), some (.int 4), some (.int mc), some (.int mo), some (.ref pn), some (.ref pc), none, some (.ref PP), some (.int (us.length : Nat)), y9, y10, none, none, none, none] ∧ But p H H' ∧ (∃ x y z : Int, H' p = some (.lst (hand x y z))) ∧ H' pn = some (.lst (ns.map V.str)) ∧ H' pc = some (.lst (cs.map V.str)) ∧
      ∃ (vs : List V) (ls : List (Str × Str)), H' PP = some (.lst vs) ∧ LinksAt K H' vs (ring ns ++ ls) ∧ (∀ l ∈ ls, l.1 ∈ ns ∧ l.2 ∈ ns) ∧ ls.length = i) ?h0 ?hs ?hd
    case h0 =>
      refine ⟨none, none, rfl, but_trans bC bD, ⟨_, _, _, pD⟩, bD _ _ nep nC, bD _ _ cep cC, us, [], bD _ _ PPp hPP, ?_, fun _ h => (by cases h), rfl⟩
      rw [List.append_nil]
      exact links_simL (SimX.but bD) pC hl
    case hs =>
      rintro i σ H' hi ⟨y9, y10, rfl, b5, ⟨x5, y5, z5, p5⟩, n5, c5, vs, ls, hP5, hl5, ends5, len5⟩
      refine one_var rfl rfl p5 n5 nep (by rw [List.length_map]; omega) (by rw [List.length_map]; omega) fun v x6 y6 z6 H6 mv p6 b6 => ?_
      obtain ⟨s1, hs1, rfl⟩ := List.mem_map.mp mv
      have nep5 := nep
      have n6' := b6 _ _ nep n5
      have P6 := b6 _ _ PPp hP5
      refine ⟨_, rfl, .inl ⟨rfl, _, .inl (.inl P6)⟩, _, rfl, _, rfl, _, rfl, _, rfl, one_var rfl rfl p6 n6' nep (by rw [List.length_map]; omega) (by rw [List.length_map]; omega) fun v x7 y7 z7 H7 mv p7 b7 => ?_⟩
      obtain ⟨s2, hs2, rfl⟩ := List.mem_map.mp mv
      refine ⟨(by show 3 ≤ sizeLine; decide), fun q hq => ?_⟩
      have sq := same_new (o := .lst [.str s1, .str s1, .str s2]) hq
      have nqp : q ≠ p := fun c => by rw [c, p7] at hq; cases hq
      refine ⟨p, q, x7, y7, z7, _, rfl, sq _ _ p7, upd_same, nqp, (by show 0 < 3; decide), (by show 3 < 1073741824; decide), fun v x8 y8 z8 H8 mv p8 b8 => ?_⟩
      obtain ⟨s3, rfl, hs3⟩ : ∃ s3, v = V.str s3 ∧ s3 ∈ ns := by
        simp only [List.mem_cons, List.not_mem_nil, or_false] at mv
        rcases mv with rfl | rfl | rfl
        · exact ⟨s1, rfl, hs1⟩
        · exact ⟨s1, rfl, hs1⟩
        · exact ⟨s2, rfl, hs2⟩
      refine ⟨(by show 2 ≤ sizeLine; decide), fun t ht => ?_⟩
      have st := same_new (o := .tup [.str s1, .str s3]) ht
      have bq : But p H' (upd H8 t (.tup [.str s1, .str s3])) := but_trans b6 (but_trans b7 (but_trans (same_but sq) (but_trans b8 (same_but st))))
      have Pt := bq _ _ PPp hP5
      have hl9 := links_simL (SimX.but bq) p5 hl5
      have lvs : vs.length ≤ 10 := by
        rw [hl5.length, List.length_append, len5]
        omega
      refine ⟨PP, vs, .ref t, rfl, rfl, Pt, by rw [sizeLine_eq]; omega, ?_⟩
      have bP : But p H (upd (upd H8 t (.tup [.str s1, .str s3])) PP (.lst (vs ++ [.ref t]))) := fun b o nb e => by
        have nbP : b ≠ PP := fun c => by rw [c, H0P] at e; cases e
        rw [upd_ne nbP]
        exact bq _ _ nb (b5 _ _ nb e)
      refine ⟨_, _, rfl, bP, ⟨x8, y8, z8, by rw [upd_ne PPp.symm]; exact st _ _ p8⟩, ?_, ?_, vs ++ [.ref t], ls ++ [(s1, s3)], upd_same, ?_, ?_, ?_⟩
      · rw [upd_ne pnP]
        exact bq _ _ nep n5
      · rw [upd_ne pcP]
        exact bq _ _ cep c5
      · rw [← List.append_assoc]
        exact paired_append (links_simL simX_upd Pt hl9) ⟨t, rfl, sqT_upd Pt (fun _ z => by cases z) (fun _ _ z => by cases z) (.inl (.inl upd_same))⟩
      · intro l hl
        rcases List.mem_append.mp hl with hl | hl
        · exact ends5 l hl
        · cases List.mem_singleton.mp hl
          exact ⟨hs1, hs3⟩
      · rw [List.length_append, len5]
        rfl
    case hd =>
      rintro σ H5 ⟨y9, y10, rfl, b5, ⟨x5, y5, z5, p5⟩, n5, c5, vs, ls, hP5, hl5, ends5, len5⟩
      have vl : vs.length = (ring ns).length + ls.length := by rw [hl5.length, List.length_append]
      have v10 : vs.length ≤ 10 := by omega
      -- the names, the rows' list
      refine ⟨_, rfl, _, rfl, PP, _, rfl, .inl (.inl (.inl hP5)), p, x5, y5, z5, vs.length, rfl, p5, by omega, fun wq ws x6 y6 z6 H6 wl wn wm hw6 p6 b6 => ⟨(by show 0 ≤ sizeLine; decide), fun FF hF => ⟨_, _, rfl, ?_⟩⟩⟩
      have sF := same_new (o := .lst []) hF
      have pE := sF _ _ p6
      have PE' := sF _ _ (b6 _ _ PPp hP5)
      have nE := sF _ _ (b6 _ _ nep n5)
      have cE := sF _ _ (b6 _ _ cep c5)
      have wE := sF _ _ hw6
      have FE : (upd H6 FF (.lst [])) FF = some (.lst []) := upd_same
      have lE := links_same sF (links_simL (SimX.but b6) p5 hl5)
      have bE : But p H (upd H6 FF (.lst [])) := but_trans b5 (but_trans b6 (same_but sF))
      have fp : FF ≠ p := fun c => by rw [c, p6] at hF; cases hF
      have fP : FF ≠ PP := fun c => by rw [c, b6 _ _ PPp hP5] at hF; cases hF
      have fc : FF ≠ pc := fun c => by rw [c, b6 _ _ cep c5] at hF; cases hF
      have fn : FF ≠ pn := fun c => by rw [c, b6 _ _ nep n5] at hF; cases hF
      have fw : FF ≠ wq := fun c => by rw [c, hw6] at hF; cases hF
      have H0F : H FF = none := by
        cases e : H FF with
        | none => rfl
        | some o =>
          have e2 := b6 FF o fp (b5 FF o fp e)
          rw [hF] at e2
          cases e2
      have wep := lst_ne wE pE
      generalize upd H6 FF (.lst []) = HE at pE PE' nE cE wE FE lE bE
      clear hF sF
      refine ⟨_, rfl, PP, vs, rfl, .inl (.inl PE'), for_it (walk_enum (K := K) (a := PP) (xs := vs)) (fun i σ H' => ∃ y6 y9 y10 y13 y14, σ = [some (.ref p), some (.int 4), some (.int mc), some (.int mo), some (.ref pn), some (.ref pc), y6, some (.ref PP), some (.int (us.length : Nat)), y9, y10, some (.ref wq), some (.ref FF), y13, y14] ∧ But p H H' ∧ (∃ x y z : Int, H' p = some (.lst (hand x y z))) ∧ H' pn = some (.lst (ns.map V.str)) ∧ H' pc = some (.lst (cs.map V.str)) ∧ H' PP = some (.lst vs) ∧ LinksAt K H' vs (ring ns ++ ls) ∧ H' wq = some (.lst (ws.map V.str)) ∧
        ∃ (rus : List V) (fr : List Row), H' FF = some (.lst rus) ∧ Paired (PlRow K H') rus fr ∧ fr.map (·.n) = ws.take i ∧ fwd fr = (ring ns ++ ls).take i ∧ ∀ r ∈ fr, ChOk r.c ∧ ChIn cs r.c) ?h1 (fun i σ H' _ pp => .inl (.inl pp.choose_spec.choose_spec.choose_spec.choose_spec.choose_spec.2.2.2.2.2.1)) ?h2 ?h3⟩
      case h1 => exact ⟨_, _, _, _, _, rfl, bE, ⟨_, _, _, pE⟩, nE, cE, PE', lE, wE, [], [], FE, .nil, rfl, rfl, fun _ h => by cases h⟩
      case h2 =>
        rintro i xv σ H7 H8 hi ⟨y6, y9, y10, y13, y14, rfl, b7, ⟨x7, y7, z7, p7⟩, n7, c7, P7, l7, w7, rus, fr, F7, hr7, names7, fwd7, ch7⟩ ⟨T, e1, xp, rfl, hT, rfl, he1, hxp⟩
        cases he1
        have sT := same_new (o := .tup [.int (i : Nat), xp]) hT
        have hi2 : i < (ring ns ++ ls).length := by rw [← l7.length]; exact hi
        obtain ⟨tp, rfl, htp⟩ : ∃ t, xp = V.ref t ∧ SqT K H7 t [.str ((ring ns ++ ls)[i]'hi2).1, .str ((ring ns ++ ls)[i]'hi2).2] := paired_at l7 hxp (List.getElem?_eq_getElem hi2)
        have hlk : (ring ns ++ ls)[i]? = some ((ring ns ++ ls)[i]'hi2) := List.getElem?_eq_getElem hi2
        generalize (ring ns ++ ls)[i]'hi2 = lk at htp hlk
        refine ⟨T, _, rfl, .inl (.inl upd_same), rfl, _, _, rfl, _, _, rfl, rfl, ?_⟩
        dsimp only [gName]
        refine ⟨_, rfl, _, rfl, p, pc, x7, y7, z7, cs, rfl, sT _ _ p7, sT _ _ c7, cep, by omega, by omega, fun c hc => counters_ok _ (cm c hc), fun v c x8 y8 z8 H9 okc inc plc p9 b9 => ?_⟩
        have b79 : But p H7 H9 := but_same sT b9
        have rl2 : rus.length ≤ 100 := by
          have e1 := hr7.length
          have e2 : fr.length = (ws.take i).length := by rw [← names7, List.length_map]
          rw [List.length_take] at e2
          omega
        have wi : ∃ n, ws[i]? = some n := ⟨ws[i]'(by omega), List.getElem?_eq_getElem _⟩
        obtain ⟨n, hni⟩ := wi
        -- a row more
        have done : ∀ (v : V) (c : List (Str × Int)) (x y z : Int) (H10 : Hp), ChOk c → ChIn cs c → PlCh K H10 v c → H10 p = some (.lst (hand x y z)) → But p H7 H10 → ∀ (r : Addr) (H' : Hp), Same H10 H' → H10 r = none → SqT K H' r [.str n, .str lk.1, .str lk.2, v] →
            (But p H (upd H' FF (.lst (rus ++ [.ref r]))) ∧ (∃ x y z : Int, (upd H' FF (.lst (rus ++ [.ref r]))) p = some (.lst (hand x y z))) ∧ (upd H' FF (.lst (rus ++ [.ref r]))) pn = some (.lst (ns.map V.str)) ∧ (upd H' FF (.lst (rus ++ [.ref r]))) pc = some (.lst (cs.map V.str)) ∧ (upd H' FF (.lst (rus ++ [.ref r]))) PP = some (.lst vs) ∧ LinksAt K (upd H' FF (.lst (rus ++ [.ref r]))) vs (ring ns ++ ls) ∧ (upd H' FF (.lst (rus ++ [.ref r]))) wq = some (.lst (ws.map V.str)) ∧
              ∃ (rus' : List V) (fr' : List Row), (upd H' FF (.lst (rus ++ [.ref r]))) FF = some (.lst rus') ∧ Paired (PlRow K (upd H' FF (.lst (rus ++ [.ref r])))) rus' fr' ∧ fr'.map (·.n) = ws.take (i + 1) ∧ fwd fr' = (ring ns ++ ls).take (i + 1) ∧ ∀ r ∈ fr', ChOk r.c ∧ ChIn cs r.c) := by
          intro v c x y z H10 okc inc ⟨cr, xs, ev, hpl, hdp⟩ p10 b10 r H' sr hr hrow
          subst ev
          have F10 := sr _ _ (b10 _ _ fp F7)
          have bq : But p H7 H' := but_trans b10 (same_but sr)
          refine ⟨fun b o nb e => ?_, ⟨x, y, z, by rw [upd_ne fp.symm]; exact sr _ _ p10⟩, ?_, ?_, ?_, ?_, ?_, rus ++ [.ref r], fr ++ [⟨n, lk.1, lk.2, c⟩], upd_same, ?_, ?_, ?_, ?_⟩
          · have nbF : b ≠ FF := fun c => by rw [c, H0F] at e; cases e
            rw [upd_ne nbF]
            exact bq b o nb (b7 b o nb e)
          · rw [upd_ne fn.symm]
            exact bq _ _ nep n7
          · rw [upd_ne fc.symm]
            exact bq _ _ cep c7
          · rw [upd_ne fP.symm]
            exact bq _ _ PPp P7
          · exact links_simL simX_upd F10 (links_simL (SimX.but bq) p7 l7)
          · rw [upd_ne fw.symm]
            exact bq _ _ wep w7
          · refine paired_append (plAll_simL simX_upd F10 (plAll_simL (SimX.but bq) p7 hr7)) ⟨r, cr, xs, rfl, ?_, ?_, ?_⟩
            · exact sqT_upd F10 (fun _ z => by cases z) (fun _ _ z => by cases z) hrow
            · exact plT_simX simX_upd F10 (fun _ z => by cases z) (fun _ _ z => by cases z) (plT_same sr hpl)
            · exact dpPairs_simX simX_upd F10 (dpAll_same sr _ _ hdp)
          · rw [List.map_append, names7, List.take_add_one, hni]
            rfl
          · have e : fwd (fr ++ [⟨n, lk.1, lk.2, c⟩]) = fwd fr ++ [lk] := by
              unfold fwd
              rw [List.map_append]
              rfl
            rw [e, fwd7, List.take_add_one, hlk]
            rfl
          · intro q hq
            rcases List.mem_append.mp hq with hq | hq
            · exact ch7 q hq
            · cases List.mem_singleton.mp hq
              exact ⟨okc, inc⟩
        have w9 := b79 _ _ wep w7
        have F9 := b79 _ _ fp F7
        have t9 := sqT_simX (SimX.but b79) p7 (fun _ z => by cases z) (fun _ _ z => by cases z) htp
        have keepit : PlCh K H9 v c := plc
        refine ⟨_, rfl, _, rfl, _, _, rfl, rfl, _, rfl, ?_⟩
        by_cases q : ((i : Nat) : Int) < ((us.length : Nat) : Int)
        · refine if_yes (decide_eq_true q) ⟨_, rfl, p, x8, y8, z8, 2, rfl, p9, by decide, by decide, fun n2 x11 y11 z11 H11 m0 m2 p11 b11 => ⟨rfl, _, rfl, ?_⟩⟩
          have b711 := but_trans b79 b11
          have w11 := b711 _ _ wep w7
          have F11 := b711 _ _ fp F7
          have t11 := sqT_simX (SimX.but b711) p7 (fun _ z => by cases z) (fun _ _ z => by cases z) htp
          by_cases z2 : n2 = 0
          · subst z2
            refine if_yes rfl ⟨(by show 0 ≤ sizeLine; decide), fun u o hu od => ?_⟩
            have su := same_new (o := .frz o (.tup [])) hu
            refine row_te (su _ _ w11) hni (sqT_same su t11) (su _ _ F11) (by omega) fun r H' sr hr hrow => ⟨_, _, _, _, _, rfl, done (.ref u) [] x11 y11 z11 _ ⟨fun _ h => (by cases h), fun _ _ _ h => (by simp at h), by decide⟩ (fun _ h => by cases h) ⟨u, [], rfl, ⟨.inl (.inr ⟨o, upd_same⟩), .inl ⟨o, upd_same, od⟩⟩, .nil⟩ (su _ _ p11) (but_trans b711 (same_but su)) r H' sr hr hrow⟩
          · refine if_no (by simpa using z2) ?_
            obtain ⟨cr, xs, ev, hpl, hdp⟩ := plc
            have plc2 : PlCh K H11 v c := ⟨cr, xs, ev, plT_simX (SimX.but b11) p9 (fun _ z => by cases z) (fun _ _ z => by cases z) hpl, dpPairs_simX (SimX.but b11) p9 hdp⟩
            exact row_te w11 hni t11 F11 (by omega) fun r H' sr hr hrow => ⟨_, _, _, _, _, rfl, done v c x11 y11 z11 H11 okc inc plc2 p11 b711 r H' sr hr hrow⟩
        · refine if_no (by simpa using q) (if_no Bool.false_ne_true ?_)
          exact row_te w9 hni t9 F9 (by omega) fun r H' sr hr hrow => ⟨_, _, _, _, _, rfl, done v c x8 y8 z8 H9 okc inc plc p9 b79 r H' sr hr hrow⟩
      case h3 =>
        rintro σ H7 ⟨y6, y9, y10, y13, y14, rfl, b7, ⟨x7, y7, z7, p7⟩, n7, c7, P7, l7, w7, rus, fr, F7, hr7, names7, fwd7, ch7⟩
        have vlen : vs.length = (ring ns ++ ls).length := l7.length
        rw [List.take_of_length_le (Nat.le_of_eq wl)] at names7
        rw [List.take_of_length_le (Nat.le_of_eq vlen.symm)] at fwd7
        have few : fr.length ≤ 10 ∧ 1 ≤ fr.length := by
          have e : fr.length = ws.length := by rw [← names7, List.length_map]
          omega
        refine ⟨_, rfl, pc, _, rfl, .inl ⟨.inl (.inl c7), fun t1 ht1 => ?_⟩⟩
        have s1 := same_new (o := .tup (cs.map V.str)) ht1
        refine ⟨_, rfl, pn, _, rfl, .inl ⟨.inl (.inl (s1 _ _ n7)), fun t2 ht2 => ?_⟩⟩
        have s2 := same_new (o := .tup (ns.map V.str)) ht2
        have s12 := s1.trans s2
        have T1 := s2 _ _ (upd_same (H := H7) (a := t1) (o := .tup (cs.map V.str)))
        have T2 : (upd (upd H7 t1 (.tup (cs.map V.str))) t2 (.tup (ns.map V.str))) t2 = some (.tup (ns.map V.str)) := upd_same
        have F8 := s12 _ _ F7
        have p8 := s12 _ _ p7
        have hr8 := Paired.mapP hr7 fun _ _ q => plRow_sim (Sim.of s12) q
        generalize upd (upd H7 t1 (.tup (cs.map V.str))) t2 (.tup (ns.map V.str)) = H8 at T1 T2 F8 p8 hr8 s12
        clear ht1 ht2 s1 s2
        refine ⟨_, rfl, ?_⟩
        dsimp only [tNil]
        refine sorted_rows (.inl (.inl (.inl F8))) hr8 (by rw [names7]; exact wn) fun q us2 rs hq pm asc hr9 => ?_
        have s3 := same_new (o := .lst us2) hq
        refine ⟨q, us2, rfl, .inl ⟨.inl (.inl upd_same), fun t3 ht3 => ⟨(by show 3 ≤ sizeLine; decide), fun pl hpl => ?_⟩⟩⟩
        have s4 := same_new (o := .tup us2) ht3
        have s5 := same_new (o := .tup [.ref t1, .ref t2, .ref t3]) hpl
        have s345 := s3.trans (s4.trans s5)
        refine k pl t1 t2 t3 us2 ⟨cs, ns, rs⟩ x7 y7 z7 _ (lawG_of ca cm (by omega) (by omega) na nm (by omega) (by omega) pm asc few.1 few.2 (fun r hr => wm _ (by rw [← names7]; exact List.mem_map.mpr ⟨r, hr, rfl⟩)) (fun r hr => ?_) ch7 fun l hl => by rw [fwd7]; exact List.mem_append_left _ hl)
          (.inl (.inl upd_same)) (.inl (.inl (s345 _ _ T1))) (.inl (.inl (s345 _ _ T2))) (.inl (.inl (s5 _ _ upd_same))) (Paired.mapP hr9 fun _ _ q => plRow_sim (Sim.of s345) q) (s345 _ _ p8) (but_trans b7 (same_but (s12.trans s345)))
        have m : (r.s, r.t) ∈ ring ns ++ ls := by
          rw [← fwd7]
          exact List.mem_map.mpr ⟨r, hr, rfl⟩
        rcases List.mem_append.mp m with m | m
        · exact ring_mem m
        · exact ends5 _ m
end
end Qp

/-! the graph of a drawn one -/
namespace Qp
open PySem PySem.Spec PyProof.Rows L2 QN
abbrev sLBuilt : Stmt := top 49 -- _law_built
theorem scLBuilt : FnScope ["_law_plain"] ["_law_plain"] (defScope sLBuilt) := ⟨rfl, rfl, rfl, by decide +kernel, rfl, by decide +kernel, by decide +kernel⟩
/-- a plain graph: counters, states, rows -/
structure PlainG (K : PySem.W.Frag) (H : Hp) (pl a b v : Addr) (us : List V) (G : Gr) : Prop where
  hp : SqT K H pl [.ref a, .ref b, .ref v]
  ha : SqT K H a (G.cs.map V.str)
  hb : SqT K H b (G.ns.map V.str)
  hv : SqT K H v us
  hu : Paired (PlRow K H) us G.rs
theorem PlainG.sim {K : PySem.W.Frag} {H H' : Hp} {pl a b v : Addr} {us : List V} {G : Gr} (s : Sim H H') (h : PlainG K H pl a b v us G) : PlainG K H' pl a b v us G :=
  ⟨sqT_sim s h.hp, sqT_sim s h.ha, sqT_sim s h.hb, sqT_sim s h.hv, plAll_sim s h.hu⟩
def spLBuilt (K : PySem.W.Frag) (C PI : Addr) : Sp := fun vs H Q _ => ∃ (pl a b v : Addr) (us : List V) (G : Gr), vs = [.ref pl] ∧ PlainG K H pl a b v us G ∧ LawG G ∧ GxR.TabG H PI ∧ ∀ (g : Addr) (H' : Hp), Sim H H' → GraphAt K C H' g G → Q (.ref g) H'
section
variable {P : Program} {w : World} {K : PySem.W.Frag} {mg : Str → Option Value} {base : Heap}
theorem ok_lbuilt {f C fP fO PI : Addr} {fd : FuncData} (F : Fun K "_law_built" "_law_built" sLBuilt f fd) (T : GraphC K mg C) (CR : ClX.CRead K C (.type "type")) (CM : ClX.CMet K C (.type "type") "of" fP fO) (GO : FnR P w K mg base CX0 9 fO (spGOf K C PI)) :
    FnOk P w K mg base CX0 10 f fd ["_law_plain"] (spLBuilt K C PI) := by
  refine F.ok scLBuilt (fun vs H Q E h => ?_) (fun cdv A outer s H vs Q E hr h => ?_)
  · obtain ⟨pl, a, b, v, us, G, rfl, _⟩ := h
    rfl
  · obtain ⟨pl, a, b, v, us, G, rfl, h, L, tab, k⟩ := h
    refine ⟨_, pss_one (ps_ret (ClX.pe_cmeth (pe_glob (v := .ref C) (by rfl) T.gC rfl) CR CM GO hr pass0 (pa_cons (pe_ix ix_tup (pv 0) pe_int (fun _ _ => rfl)) (pa_cons (pe_ix ix_tup (pv 0) pe_int (fun _ _ => rfl)) (pa_cons (pe_ix ix_tup (pv 0) pe_int (fun _ _ => rfl)) pa_nil))))), ?_⟩
    refine ⟨rfl, _, rfl, pl, _, _, _, rfl, rfl, h.hp, rfl, _, rfl, pl, _, _, _, rfl, rfl, h.hp, rfl, _, rfl, pl, _, _, _, rfl, rfl, h.hp, rfl, ?_⟩
    exact ⟨a, b, v, us, G.cs, G.ns, G.rs, G, rfl, h.ha, h.hb, h.hv, h.hu, tab, L.made, k⟩
end
end Qp

/-! the texts of names and rows are short enough -/
namespace Qp
open PySem PySem.Spec PyProof.Rows L2 QN
/-- a dict's pairs that are short -/
def Small (p : Str × Int) : Prop := NameOk p.1 ∧ p.2.natAbs ≤ 9
theorem small_leaf {p : Str × Int} (h : Small p) : PyData.leavesShort 13 (.str p.1) = true ∧ PyData.leavesShort 13 (.int p.2) = true ∧ PyData.weight (.str p.1) ≤ 8 ∧ PyData.weight (.int p.2) ≤ 4 ∧ PyData.showable (.int p.2) = true := by
  obtain ⟨h1, h2⟩ := h
  refine ⟨?_, ?_, h1.2.1, ?_, ?_⟩
  · show (p.1.cps.toList.all fun c => decide (c < 16 ^ 8)) = true
    refine List.all_eq_true.mpr fun c hc => decide_eq_true ?_
    have all : ∀ c ∈ letters.cps.toList, c < 16 ^ 8 := by decide +kernel
    exact all c (h1.2.2 c hc)
  · show decide ((Str.ofString (toString p.2)).length ≤ 13) = true
    refine decide_eq_true ?_
    have e := int_text_length_le10 (a := p.2) (k := 1) (by decide) (by omega)
    rw [PySem.ofString_length]
    omega
  · show (if p.2 == 0 then 0 else p.2.natAbs.log2 + 1) ≤ 4
    split
    · decide
    · rename_i z
      have nz : p.2.natAbs ≠ 0 := fun e => z (by rw [Int.natAbs_eq_zero.mp e]; rfl)
      have : p.2.natAbs.log2 < 4 := (Nat.log2_lt nz).mpr (by omega)
      omega
  · show decide (p.2.natAbs.log2 < 1920) = true
    refine decide_eq_true ?_
    by_cases z : p.2.natAbs = 0
    · rw [z]
      decide
    · exact (Nat.log2_lt z).mpr (Nat.lt_of_le_of_lt h2 (by decide +kernel))
theorem nice_names : ∀ {xs : List Str}, (∀ x ∈ xs, NameOk x) → PyData.leavesShortAll 13 (xs.map PyData.str) = true ∧ PyData.showableAll (xs.map PyData.str) = true ∧ PyData.hasDictAll (xs.map PyData.str) = false ∧ PyData.weightAll (xs.map PyData.str) ≤ 9 * xs.length
  | [], _ => ⟨rfl, rfl, rfl, Nat.le_refl _⟩
  | x :: xs, h => by
    obtain ⟨a, b, c, d⟩ := nice_names fun q hq => h q (List.mem_cons_of_mem _ hq)
    obtain ⟨d1, _, d3, _, _⟩ := small_leaf (p := (x, 0)) ⟨h x List.mem_cons_self, by show (0 : Int).natAbs ≤ 9; decide⟩
    replace d3 : PyData.weight (.str x) ≤ 8 := d3
    refine ⟨?_, ?_, ?_, ?_⟩
    · show (PyData.leavesShort 13 (.str x) && PyData.leavesShortAll 13 (xs.map PyData.str)) = true
      rw [d1, a]
      rfl
    · show (true && PyData.showableAll (xs.map PyData.str)) = true
      rw [b]
      rfl
    · show (false || PyData.hasDictAll (xs.map PyData.str)) = false
      rw [c]
      rfl
    · show PyData.weight (.str x) + 1 + PyData.weightAll (xs.map PyData.str) ≤ 9 * (xs.length + 1)
      omega
theorem nice_ch : ∀ {c : List (Str × Int)}, (∀ p ∈ c, Small p) → PyData.leavesShortAll 13 (c.map pairD) = true ∧ PyData.showableAll (c.map pairD) = true ∧ PyData.hasDictAll (c.map pairD) = false ∧ PyData.weightAll (c.map pairD) ≤ 20 * c.length
  | [], _ => ⟨rfl, rfl, rfl, Nat.le_refl _⟩
  | p :: c, h => by
    obtain ⟨a, b, e, d⟩ := nice_ch fun q hq => h q (List.mem_cons_of_mem _ hq)
    obtain ⟨d1, d2, d3, d4, d5⟩ := small_leaf (h p List.mem_cons_self)
    refine ⟨?_, ?_, ?_, ?_⟩
    · show ((PyData.leavesShort 13 (.str p.1) && (PyData.leavesShort 13 (.int p.2) && true)) && PyData.leavesShortAll 13 (c.map pairD)) = true
      rw [d1, d2, a]
      rfl
    · show ((true && (PyData.showable (.int p.2) && true)) && PyData.showableAll (c.map pairD)) = true
      rw [b, d5]
      rfl
    · show ((false || (false || false)) || PyData.hasDictAll (c.map pairD)) = false
      rw [e]
      rfl
    · show (PyData.weight (.str p.1) + 1 + (PyData.weight (.int p.2) + 1 + 0)) + 1 + PyData.weightAll (c.map pairD) ≤ 20 * (c.length + 1)
      omega
theorem small_cc {p : Str × Int} (h : CcOk p) : Small p := ⟨h.1, by obtain ⟨_, _, h1, h2⟩ := h; omega⟩
theorem nice_rows : ∀ {rs : List Row}, (∀ r ∈ rs, RowOk r) → PyData.leavesShortAll 13 (rs.map rowD) = true ∧ PyData.showableAll (rs.map rowD) = true ∧ PyData.hasDictAll (rs.map rowD) = false ∧ PyData.weightAll (rs.map rowD) ≤ 2100 * rs.length
  | [], _ => ⟨rfl, rfl, rfl, Nat.le_refl _⟩
  | r :: rs, h => by
    obtain ⟨a, b, e, d⟩ := nice_rows fun q hq => h q (List.mem_cons_of_mem _ hq)
    have ok := h r List.mem_cons_self
    obtain ⟨c1, c2, c3, c4⟩ := nice_ch fun p hp => small_cc (ok.c.1 p hp)
    obtain ⟨n1, _, n3, _, _⟩ := small_leaf (p := (r.n, 0)) ⟨ok.n, by show (0 : Int).natAbs ≤ 9; decide⟩
    obtain ⟨s1, _, s3, _, _⟩ := small_leaf (p := (r.s, 0)) ⟨ok.s, by show (0 : Int).natAbs ≤ 9; decide⟩
    obtain ⟨t1, _, t3, _, _⟩ := small_leaf (p := (r.t, 0)) ⟨ok.t, by show (0 : Int).natAbs ≤ 9; decide⟩
    replace n3 : PyData.weight (.str r.n) ≤ 8 := n3
    replace s3 : PyData.weight (.str r.s) ≤ 8 := s3
    replace t3 : PyData.weight (.str r.t) ≤ 8 := t3
    replace n1 : PyData.leavesShort 13 (.str r.n) = true := n1
    replace s1 : PyData.leavesShort 13 (.str r.s) = true := s1
    replace t1 : PyData.leavesShort 13 (.str r.t) = true := t1
    have cl := ok.c.2.2
    refine ⟨?_, ?_, ?_, ?_⟩
    · show ((PyData.leavesShort 13 (.str r.n) && (PyData.leavesShort 13 (.str r.s) && (PyData.leavesShort 13 (.str r.t) && (PyData.leavesShortAll 13 (r.c.map pairD) && true)))) && PyData.leavesShortAll 13 (rs.map rowD)) = true
      rw [n1, s1, t1, c1, a]
      rfl
    · show ((true && (true && (true && (PyData.showableAll (r.c.map pairD) && true)))) && PyData.showableAll (rs.map rowD)) = true
      rw [b, c2]
      rfl
    · show ((false || (false || (false || (PyData.hasDictAll (r.c.map pairD) || false)))) || PyData.hasDictAll (rs.map rowD)) = false
      rw [e, c3]
      rfl
    · show (PyData.weight (.str r.n) + 1 + (PyData.weight (.str r.s) + 1 + (PyData.weight (.str r.t) + 1 + (PyData.weightAll (r.c.map pairD) + 1 + 0)))) + 1 + PyData.weightAll (rs.map rowD) ≤ 2100 * (rs.length + 1)
      omega
theorem shows_rows {rs : List Row} (h : ∀ r ∈ rs, RowOk r) (few : rs.length ≤ 16) : (PyData.tuple (rs.map rowD)).showable = true ∧ (PyData.tuple (rs.map rowD)).hasDict = false ∧ (PyData.tuple (rs.map rowD)).depth + 1 ≤ 64 ∧ (PyData.tuple (rs.map rowD)).shown.length ≤ sizeLine := by
  obtain ⟨a, b, c, d⟩ := nice_rows h
  have dp := depth_rows rs
  refine ⟨b, c, by show PyData.depthAll (rs.map rowD) + 1 + 1 ≤ 64; omega, PyData.shown_fits (B := 13) (by decide) (by decide) a ?_⟩
  show PyData.weightAll (rs.map rowD) ≤ 2 ^ 20
  have e : (2 : Nat) ^ 20 = 1048576 := by decide
  omega
/-- counters, states, rows as one list -/
def partsD (G : Gr) : PyData := .list [.tuple (G.cs.map PyData.str), .tuple (G.ns.map PyData.str), .tuple (G.rs.map rowD)]
theorem shows_parts {G : Gr} (ok : G.Ok) : (partsD G).showable = true ∧ (partsD G).hasDict = false ∧ (partsD G).depth + 1 ≤ 64 ∧ (partsD G).shown.length ≤ sizeLine := by
  obtain ⟨c1, c2, c3, c4⟩ := nice_names ok.cn
  obtain ⟨n1, n2, n3, n4⟩ := nice_names ok.nn
  obtain ⟨r1, r2, r3, r4⟩ := nice_rows ok.ro
  have h1 := ok.cl
  have h2 := ok.nl
  have h3 := ok.rl
  have d1 := depth_strs G.cs
  have d2 := depth_strs G.ns
  have d3 := depth_rows G.rs
  refine ⟨?_, ?_, ?_, PyData.shown_fits (B := 13) (by decide) (by decide) ?_ ?_⟩
  · show (PyData.showableAll (G.cs.map PyData.str) && (PyData.showableAll (G.ns.map PyData.str) && (PyData.showableAll (G.rs.map rowD) && true))) = true
    rw [c2, n2, r2]
    rfl
  · show (PyData.hasDictAll (G.cs.map PyData.str) || (PyData.hasDictAll (G.ns.map PyData.str) || (PyData.hasDictAll (G.rs.map rowD) || false))) = false
    rw [c3, n3, r3]
    rfl
  · simp only [partsD, PyData.depth, PyData.depthAll]
    omega
  · show (PyData.leavesShortAll 13 (G.cs.map PyData.str) && (PyData.leavesShortAll 13 (G.ns.map PyData.str) && (PyData.leavesShortAll 13 (G.rs.map rowD) && true))) = true
    rw [c1, n1, r1]
    rfl
  · have e : (2 : Nat) ^ 20 = 1048576 := by decide
    show PyData.weightAll (G.cs.map PyData.str) + 1 + (PyData.weightAll (G.ns.map PyData.str) + 1 + (PyData.weightAll (G.rs.map rowD) + 1 + 0)) ≤ 2 ^ 20
    omega
end Qp

/-! some of the things -/
namespace Qp
open PySem PySem.Spec PyProof.Rows L2 QN
abbrev sLSome : Stmt := top 44 -- _law_some
theorem scLSome : FnScope ["_law_dice_here", "_law_items"] ["_law_dice_here", "_law_items"] (defScope sLSome) := ⟨rfl, rfl, rfl, by decide +kernel, rfl, by decide +kernel, by decide +kernel⟩
def spSome (K : PySem.W.Frag) : Sp := fun vs H Q _ => ∃ (p q : Addr) (x y z : Int) (its : List V), vs = [.ref p, .ref q] ∧ H p = some (.lst (hand x y z)) ∧ (SqL K H q its ∨ SqT K H q its) ∧ its.length < 100000 ∧ (∀ i : Int, V.int i ∉ its) ∧
  ∀ (r : Addr) (ys : List V) (m : Nat) (x' y' z' : Int) (H' : Hp), ys.Perm its → H' r = some (.lst (ys.take m)) → H' p = some (.lst (hand x' y' z')) → r ≠ p → But p H H' → Q (.ref r) H'
section
variable {P : Program} {w : World} {K : PySem.W.Frag} {mg : Str → Option Value} {base : Heap}
theorem ok_lsome {f fR fM : Addr} {fd fdR fdM : FuncData} (F : Fun K "_law_some" "_law_some" sLSome f fd)
    (GR : FnOk P w K mg base CX0 1 fR fdR ["_law_dice_here", "_law_total"] spRoll) (kR : PySem.W.keepIn K (.ref fR) = true) (bR : L2.Binds K fdR ["_law_dice_here", "_law_total"] []) (gR : mg "_law_roll" = some (.ref fR))
    (GM : FnOk P w K mg base CX0 2 fM fdM ["_law_dice_here", "_law_items"] (spMixed K)) (kM : PySem.W.keepIn K (.ref fM) = true) (bM : L2.Binds K fdM ["_law_dice_here", "_law_items"] []) (gM : mg "_law_mixed" = some (.ref fM)) (B : BltP mg) :
    FnOk P w K mg base CX0 3 f fd ["_law_dice_here", "_law_items"] (spSome K) := by
  refine F.ok scLSome (fun vs H Q E h => ?_) (fun cdv A outer s H vs Q E hr h => ?_)
  · obtain ⟨p, q, x, y, z, its, rfl, _⟩ := h
    rfl
  · obtain ⟨p, q, x, y, z, its, rfl, hp, hq, few, ni, k⟩ := h
    have r1 := hr.mono (by decide : 1 ≤ 2)
    refine ⟨_, pss_one (ps_ret (pe_slice sl_list (pe_call GM hr (by rfl) gM kM bM .nil pass0 (pa_cons (pv 0) (pa_cons (pv 1) pa_nil))) po_none (po_some (pe_call GR r1 (by rfl) gR kR bR .nil pass0 (pa_cons (pv 0) (pa_cons (pe_op op_add (pe_callB (r := rLenM K) call_len_seq (by rfl) B.len PySem.boot_len (pa_cons (pv 1) pa_nil)) pe_int) pa_nil)))))), ?_⟩
    refine ⟨_, rfl, _, rfl, p, q, x, y, z, its, rfl, hp, hq, by omega, fun r ys x1 y1 z1 H1 pm hr1 hp1 b1 => ?_⟩
    have bq : SqL K H1 q its ∨ SqT K H1 q its := by
      rcases hq with ((h | ⟨o, h⟩) | h) | ((h | ⟨o, h⟩) | h)
      · refine .inl (.inl (.inl (b1 _ _ (fun c => ?_) h)))
        rw [c, hp] at h
        have e : hand x y z = its := HO.lst.inj (Option.some.inj h)
        exact ni x (by rw [← e]; exact List.mem_cons_self)
      · exact .inl (.inl (.inr ⟨o, b1 _ _ (fun c => by rw [c, hp] at h; cases h) h⟩))
      · exact .inl (.inr h)
      · exact .inr (.inl (.inl (b1 _ _ (fun c => by rw [c, hp] at h; cases h) h)))
      · exact .inr (.inl (.inr ⟨o, b1 _ _ (fun c => by rw [c, hp] at h; cases h) h⟩))
      · exact .inr (.inr h)
    refine ⟨_, rfl, _, rfl, q, its, rfl, bq, _, _, rfl, rfl, ?_⟩
    refine ⟨p, x1, y1, z1, _, rfl, hp1, by omega, by omega, fun n x2 y2 z2 H2 n0 n6 hp2 b2 => ?_⟩
    obtain ⟨m, rfl⟩ := Int.eq_ofNat_of_zero_le n0
    have rp : r ≠ p := fun c => by
      rw [c, hp1] at hr1
      have e : hand x1 y1 z1 = ys := by
        injection hr1 with h1
        injection h1
      have m1 : V.int x1 ∈ ys := by
        rw [← e]
        exact List.mem_cons_self
      exact ni _ (pm.mem_iff.mp m1)
    have hr2 := b2 _ _ rp hr1
    refine ⟨_, rfl, r, ys, rfl, .inl (.inl hr2), fun c hc => ?_⟩
    have sc := same_new (o := .lst (cutV ys none (some (m : Int)))) hc
    refine k c ys m x2 y2 z2 _ pm ?_ (sc _ _ hp2) (fun z => by rw [z, hp2] at hc; cases hc) (but_trans b1 (but_trans b2 (same_but sc)))
    rw [upd_same]
    have e := cut_to ys m (fun v => v)
    rw [List.map_id', List.map_id'] at e
    rw [e]
end
end Qp

/-! what stays of a graph, of a plain one, while the dice change; some texts of texts in another order -/
namespace Qp
open PySem PySem.Spec PyProof.Rows L2 QN
theorem graphAt_simL {K : PySem.W.Frag} {C x : Addr} {H H' : Hp} {l : List V} (s : SimX x H H') (hx : H x = some (.lst l)) {g : Addr} {G : Gr} (h : GraphAt K C H g G) : GraphAt K C H' g G := by
  have t : ∀ {q : Addr} {xs : List V}, SqT K H q xs → SqT K H' q xs := fun h => sqT_simX s hx (fun _ e => by cases e) (fun _ _ e => by cases e) h
  have o : ∀ {q : Addr} {u : HO}, NoTb u → (∀ m, u ≠ .lst m) → H q = some u → H' q = some u := fun nt nl e => s.st _ _ (fun z => by rw [z, hx] at e; exact nl _ (Option.some.inj e).symm) nt e
  obtain ⟨dx, c, st, r, n, b, k, us, h1, h2⟩ := h
  exact ⟨dx, c, st, r, n, b, k, us, o (nt_ins _ _ _) (fun _ e => by cases e) h1, t h2.hc, t h2.ht, t h2.hr, plAll_simL s hx h2.hp, t h2.hn, o (nt_dK _) (fun _ e => by cases e) h2.hb, o (nt_dK _) (fun _ e => by cases e) h2.hk⟩
theorem PlainG.simL {K : PySem.W.Frag} {x : Addr} {H H' : Hp} {l : List V} (s : SimX x H H') (hx : H x = some (.lst l)) {pl a b v : Addr} {us : List V} {G : Gr} (h : PlainG K H pl a b v us G) : PlainG K H' pl a b v us G := by
  have t : ∀ {q : Addr} {xs : List V}, SqT K H q xs → SqT K H' q xs := fun h => sqT_simX s hx (fun _ e => by cases e) (fun _ _ e => by cases e) h
  exact ⟨t h.hp, t h.ha, t h.hb, t h.hv, plAll_simL s hx h.hu⟩
theorem tabG_ne {H : Hp} {p T : Addr} {l : List V} (hp : H p = some (.lst l)) (t : GxR.TabG H T) : T ≠ p := fun c => by
  obtain ⟨ps, e, _⟩ := t
  rw [c, hp] at e
  cases e
theorem noint_strs (xs : List Str) : ∀ i : Int, V.int i ∉ xs.map V.str := fun i h => by
  obtain ⟨x, _, e⟩ := List.mem_map.mp h
  cases e
theorem some_texts {ys : List V} {xs : List Str} {m : Nat} (h : ys.Perm (xs.map V.str)) (nd : xs.Nodup) : ∃ zs : List Str, ys.take m = zs.map V.str ∧ (∀ z ∈ zs, z ∈ xs) ∧ zs.Nodup := by
  obtain ⟨zs, rfl, pm⟩ := perm_strs h
  exact ⟨zs.take m, by rw [List.map_take], fun z hz => pm.mem_iff.mp (List.mem_of_mem_take hz), (pm.nodup_iff.mpr nd).sublist (List.take_sublist _ _)⟩
end Qp

/-! how far a state is from another -/
namespace Qp
open PySem PySem.Spec PyProof.Rows L2 QN
def EndsIn (G : Gr) : Prop := ∀ r ∈ G.rs, r.s ∈ G.ns ∧ r.t ∈ G.ns
theorem Makes.ends {G : Gr} (M : Makes G.cs G.ns G.rs G) : EndsIn G := fun r hr => by
  obtain ⟨x, st, e, GO⟩ := M.ok
  rw [e]
  exact ⟨(GO.sm _).mpr (.inr (List.mem_flatMap.mpr ⟨r, hr, List.mem_cons_self⟩)), (GO.sm _).mpr (.inr (List.mem_flatMap.mpr ⟨r, hr, List.mem_cons_of_mem _ List.mem_cons_self⟩))⟩
/-- what is reached in k steps -/
def lay (rs : List Row) : Nat → Str → List Str
  | 0, s => [s]
  | k + 1, s => lay rs k s ++ (rs.filter fun r => decide (r.s ∈ lay rs k s)).map (·.t)
theorem lay_mem {rs : List Row} {k : Nat} {s o : Str} : o ∈ lay rs (k + 1) s ↔ o ∈ lay rs k s ∨ ∃ r ∈ rs, r.s ∈ lay rs k s ∧ r.t = o := by
  show o ∈ lay rs k s ++ (rs.filter fun r => decide (r.s ∈ lay rs k s)).map (·.t) ↔ _
  rw [List.mem_append, List.mem_map]
  refine or_congr Iff.rfl ⟨fun ⟨r, h, e⟩ => ?_, fun ⟨r, h1, h2, e⟩ => ⟨r, List.mem_filter.mpr ⟨h1, decide_eq_true h2⟩, e⟩⟩
  obtain ⟨h1, h2⟩ := List.mem_filter.mp h
  exact ⟨r, h1, of_decide_eq_true h2, e⟩
theorem lay_len (rs : List Row) (k : Nat) (s : Str) : (lay rs k s).length ≤ 1 + k * rs.length := by
  induction k with
  | zero =>
    rw [Nat.zero_mul]
    exact Nat.le_refl _
  | succ k ih =>
    show (lay rs k s ++ (rs.filter fun r => decide (r.s ∈ lay rs k s)).map (·.t)).length ≤ _
    rw [List.length_append, List.length_map, Nat.succ_mul]
    have := List.length_filter_le (fun r => decide (r.s ∈ lay rs k s)) rs
    omega
theorem lay_first {rs : List Row} : ∀ {k : Nat} {s o : Str}, o ∈ lay rs (k + 1) s ↔ o ∈ lay rs k s ∨ ∃ r ∈ rs, r.s = s ∧ o ∈ lay rs k r.t
  | 0, s, o => by
    rw [lay_mem]
    refine or_congr Iff.rfl ⟨fun ⟨r, h1, h2, e⟩ => ⟨r, h1, List.mem_singleton.mp h2, List.mem_singleton.mpr e.symm⟩, fun ⟨r, h1, h2, e⟩ => ⟨r, h1, List.mem_singleton.mpr h2, (List.mem_singleton.mp e).symm⟩⟩
  | k + 1, s, o => by
    constructor
    · intro h
      rcases lay_mem.mp h with h | ⟨q, h1, h2, e⟩
      · exact .inl h
      · rcases lay_first.mp h2 with h2 | ⟨r, g1, g2, g3⟩
        · exact .inl (lay_mem.mpr (.inr ⟨q, h1, h2, e⟩))
        · exact .inr ⟨r, g1, g2, lay_mem.mpr (.inr ⟨q, h1, g3, e⟩)⟩
    · intro h
      rcases h with h | ⟨r, g1, g2, g3⟩
      · exact lay_mem.mpr (.inl h)
      · rcases lay_mem.mp g3 with g3 | ⟨q, h1, h2, e⟩
        · exact lay_mem.mpr (.inl (lay_first.mpr (.inr ⟨r, g1, g2, g3⟩)))
        · exact lay_mem.mpr (.inr ⟨q, h1, lay_first.mpr (.inr ⟨r, g1, g2, h2⟩), e⟩)
/-- k is the distance -/
def IsDist (rs : List Row) (s o : Str) (k : Nat) : Prop := o ∈ lay rs k s ∧ ∀ j, j < k → o ∉ lay rs j s
theorem lay_mono {rs : List Row} {s o : Str} {k : Nat} (h : o ∈ lay rs k s) : ∀ {j : Nat}, k ≤ j → o ∈ lay rs j s
  | 0, e => by
    have : k = 0 := by omega
    subst this
    exact h
  | j + 1, e => by
    by_cases z : k = j + 1
    · rw [← z]
      exact h
    · exact lay_mem.mpr (.inl (lay_mono h (by omega)))
theorem dist_least {rs : List Row} {s o : Str} : ∀ {k : Nat}, o ∈ lay rs k s → ∃ j, j ≤ k ∧ IsDist rs s o j
  | 0, h => ⟨0, Nat.le_refl _, h, fun _ z => absurd z (Nat.not_lt_zero _)⟩
  | k + 1, h => by
    by_cases z : o ∈ lay rs k s
    · obtain ⟨j, h1, h2⟩ := dist_least z
      exact ⟨j, Nat.le_succ_of_le h1, h2⟩
    · exact ⟨k + 1, Nat.le_refl _, h, fun j hj m => z (lay_mono m (Nat.le_of_lt_succ hj))⟩
theorem filter_le {p q : Str → Bool} : ∀ {xs : List Str}, (∀ x ∈ xs, q x = true → p x = true) → (xs.filter q).length ≤ (xs.filter p).length
  | [], _ => Nat.le_refl _
  | x :: xs, h => by
    have ih := filter_le (p := p) (q := q) (xs := xs) fun y hy => h y (List.mem_cons_of_mem _ hy)
    rw [List.filter_cons, List.filter_cons]
    by_cases a : q x = true
    · rw [if_pos a, if_pos (h x List.mem_cons_self a), List.length_cons, List.length_cons]
      omega
    · rw [if_neg a]
      split
      · rw [List.length_cons]
        omega
      · exact ih
theorem filter_lt {p q : Str → Bool} : ∀ {xs : List Str}, (∀ x ∈ xs, q x = true → p x = true) → ∀ {z : Str}, z ∈ xs → p z = true → q z = false → (xs.filter q).length < (xs.filter p).length
  | [], _, z, hz, _, _ => by cases hz
  | x :: xs, h, z, hz, h1, h2 => by
    have h' : ∀ y ∈ xs, q y = true → p y = true := fun y hy => h y (List.mem_cons_of_mem _ hy)
    rw [List.filter_cons, List.filter_cons]
    rcases List.mem_cons.mp hz with rfl | hz
    · rw [if_pos h1, if_neg (by rw [h2]; decide), List.length_cons]
      have := filter_le h'
      omega
    · have ih := filter_lt h' hz h1 h2
      by_cases a : q x = true
      · rw [if_pos a, if_pos (h x List.mem_cons_self a), List.length_cons, List.length_cons]
        omega
      · rw [if_neg a]
        split
        · rw [List.length_cons]
          omega
        · exact ih
/-- what is closed and not empty is all -/
theorem closed_all {G : Gr} (M : Makes G.cs G.ns G.rs G) {L : List Str} {s : Str} (hs : s ∈ G.ns) (hL : s ∈ L) (cl : ∀ r ∈ G.rs, r.s ∈ L → r.t ∈ L) : ∀ y ∈ G.ns, y ∈ L := by
  obtain ⟨x, st, e, GO⟩ := M.ok
  have ends := M.ends
  have hx : x ∈ L := by
    by_cases z : x ∈ L
    · exact z
    · exfalso
      have all := GO.rb (G.ns.filter fun y => decide (y ∉ L)) (List.mem_filter.mpr ⟨by rw [e]; exact List.mem_cons_self, decide_eq_true z⟩) (fun l hl h1 => ?_) s (by rw [← e]; exact hs)
      · exact of_decide_eq_true (List.mem_filter.mp all).2 hL
      · obtain ⟨r, hr, rfl⟩ := List.mem_map.mp hl
        have n1 := of_decide_eq_true (List.mem_filter.mp h1).2
        exact List.mem_filter.mpr ⟨(ends r hr).1, decide_eq_true fun z => n1 (cl r hr z)⟩
  intro y hy
  refine GO.rf L hx (fun l hl h1 => ?_) y (by rw [← e]; exact hy)
  obtain ⟨r, hr, rfl⟩ := List.mem_map.mp hl
  exact cl r hr h1
theorem lay_self (rs : List Row) (s : Str) (k : Nat) : s ∈ lay rs k s := lay_mono (k := 0) (List.mem_singleton.mpr rfl) (Nat.zero_le _)
theorem lay_ex {G : Gr} (M : Makes G.cs G.ns G.rs G) {s o : Str} (hs : s ∈ G.ns) (ho : o ∈ G.ns) : ∀ (n k : Nat), (G.ns.filter fun y => decide (y ∉ lay G.rs k s)).length ≤ n → ∃ j, j ≤ k + n ∧ o ∈ lay G.rs j s
  | n, k, h => by
    by_cases z : o ∈ lay G.rs k s
    · exact ⟨k, Nat.le_add_right _ _, z⟩
    · have nc : ¬ ∀ r ∈ G.rs, r.s ∈ lay G.rs k s → r.t ∈ lay G.rs k s := fun c => z (closed_all M hs (lay_self _ _ _) c o ho)
      obtain ⟨r, hr, h1, h2⟩ : ∃ r, r ∈ G.rs ∧ r.s ∈ lay G.rs k s ∧ r.t ∉ lay G.rs k s := by
        by_cases q : ∃ r, r ∈ G.rs ∧ r.s ∈ lay G.rs k s ∧ r.t ∉ lay G.rs k s
        · exact q
        · exact absurd (fun r hr h1 => by
            by_cases w : r.t ∈ lay G.rs k s
            · exact w
            · exact absurd ⟨r, hr, h1, w⟩ q) nc
      have lt := filter_lt (p := fun y => decide (y ∉ lay G.rs k s)) (q := fun y => decide (y ∉ lay G.rs (k + 1) s)) (xs := G.ns) (fun x _ hx => decide_eq_true fun m => of_decide_eq_true hx (lay_mem.mpr (.inl m))) (M.ends r hr).2 (decide_eq_true h2) (decide_eq_false fun w => w (lay_mem.mpr (.inr ⟨r, hr, h1, rfl⟩)))
      cases n with
      | zero => omega
      | succ n =>
        obtain ⟨j, h3, h4⟩ := lay_ex M hs ho n (k + 1) (by omega)
        exact ⟨j, by omega, h4⟩
theorem dist_ex {G : Gr} (M : Makes G.cs G.ns G.rs G) (nl : G.ns.length ≤ 8) {s o : Str} (hs : s ∈ G.ns) (ho : o ∈ G.ns) : ∃ k, k ≤ 8 ∧ IsDist G.rs s o k := by
  obtain ⟨j, h1, h2⟩ := lay_ex M hs ho 8 0 (Nat.le_trans (List.length_filter_le _ _) nl)
  obtain ⟨k, h3, h4⟩ := dist_least h2
  exact ⟨k, by omega, h4⟩
/-- each state has a way out -/
theorem out_row {G : Gr} (L : LawG G) {s : Str} (hs : s ∈ G.ns) : ∃ r ∈ G.rs, r.s = s := by
  by_cases q : ∃ r ∈ G.rs, r.s = s
  · exact q
  · exfalso
    have all := closed_all L.made hs (List.mem_singleton.mpr rfl) fun r hr h => absurd ⟨r, hr, List.mem_singleton.mp h⟩ q
    have r1 := L.r1
    cases e : G.rs with
    | nil => rw [e] at r1; exact absurd r1 (by decide)
    | cons r t =>
      have hr : r ∈ G.rs := by rw [e]; exact List.mem_cons_self
      exact q ⟨r, hr, List.mem_singleton.mp (all _ (L.made.ends r hr).1)⟩
/-- a row that leads nearer -/
theorem near_row {rs : List Row} {s o : Str} {k : Nat} (h : IsDist rs s o k) (ne : s ≠ o) : ∃ r ∈ rs, r.s = s ∧ ∀ j, IsDist rs r.t o j → j < k := by
  cases k with
  | zero => exact absurd (List.mem_singleton.mp h.1).symm ne
  | succ k =>
    rcases lay_first.mp h.1 with z | ⟨r, h1, h2, h3⟩
    · exact absurd z (h.2 k (Nat.lt_succ_self _))
    · refine ⟨r, h1, h2, fun j hj => ?_⟩
      by_cases q : j < k + 1
      · exact q
      · exact absurd h3 (hj.2 k (by omega))
theorem dist_uniq {rs : List Row} {s o : Str} {j k : Nat} (h1 : IsDist rs s o j) (h2 : IsDist rs s o k) : j = k := by
  rcases Nat.lt_trichotomy j k with h | h | h
  · exact absurd h1.1 (h2.2 j h)
  · exact h
  · exact absurd h2.1 (h1.2 k h)
/-- from a list that stands closed nothing more is reached -/
theorem lay_in {rs : List Row} {s : Str} {L : List Str} (hs : s ∈ L) (cl : ∀ r ∈ rs, r.s ∈ L → r.t ∈ L) : ∀ (k : Nat) (y : Str), y ∈ lay rs k s → y ∈ L
  | 0, y, h => by
    rw [List.mem_singleton.mp h]
    exact hs
  | k + 1, y, h => by
    rcases lay_mem.mp h with h | ⟨r, h1, h2, e⟩
    · exact lay_in hs cl k y h
    · rw [← e]
      exact cl r h1 (lay_in hs cl k _ h2)
/-- in some steps all is reached -/
theorem lay_closed {rs : List Row} {ns : List Str} (ends : ∀ r ∈ rs, r.t ∈ ns) {s : Str} : ∀ (n k : Nat), (ns.filter fun y => decide (y ∉ lay rs k s)).length ≤ n → ∃ j, j ≤ k + n ∧ ∀ r ∈ rs, r.s ∈ lay rs j s → r.t ∈ lay rs j s
  | n, k, h => by
    by_cases q : ∃ r, r ∈ rs ∧ r.s ∈ lay rs k s ∧ r.t ∉ lay rs k s
    · obtain ⟨r, hr, h1, h2⟩ := q
      have lt := filter_lt (p := fun y => decide (y ∉ lay rs k s)) (q := fun y => decide (y ∉ lay rs (k + 1) s)) (xs := ns) (fun x _ hx => decide_eq_true fun m => of_decide_eq_true hx (lay_mem.mpr (.inl m))) (ends r hr) (decide_eq_true h2) (decide_eq_false fun w => w (lay_mem.mpr (.inr ⟨r, hr, h1, rfl⟩)))
      cases n with
      | zero => omega
      | succ n =>
        obtain ⟨j, h3, h4⟩ := lay_closed (s := s) ends n (k + 1) (by omega)
        exact ⟨j, by omega, h4⟩
    · exact ⟨k, Nat.le_add_right _ _, fun r hr h1 => by
        by_cases w : r.t ∈ lay rs k s
        · exact w
        · exact absurd ⟨r, hr, h1, w⟩ q⟩
/-- what is reached at all, in the order of the states -/
def rch (ns : List Str) (rs : List Row) (s : Str) : List Str := ns.filter fun y => decide (y ∈ lay rs 8 s)
structure RowsIn (ns : List Str) (rs : List Row) : Prop where
  s : ∀ r ∈ rs, r.s ∈ ns
  t : ∀ r ∈ rs, r.t ∈ ns
  nl : ns.length ≤ 8
theorem lay8 {ns : List Str} {rs : List Row} (h : RowsIn ns rs) (s : Str) : ∀ r ∈ rs, r.s ∈ lay rs 8 s → r.t ∈ lay rs 8 s := by
  obtain ⟨j, j8, cl⟩ := lay_closed h.t (s := s) 8 0 (Nat.le_trans (List.length_filter_le _ _) h.nl)
  have same : ∀ y, y ∈ lay rs 8 s → y ∈ lay rs j s := lay_in (lay_mono (k := 0) (List.mem_singleton.mpr rfl) (Nat.zero_le _)) cl 8
  exact fun r hr h1 => lay_mono (cl r hr (same _ h1)) (by omega)
theorem rch_mem {ns : List Str} {rs : List Row} (h : RowsIn ns rs) {s : Str} (hs : s ∈ ns) {y : Str} : y ∈ rch ns rs s ↔ y ∈ lay rs 8 s := by
  refine ⟨fun m => of_decide_eq_true (List.mem_filter.mp m).2, fun m => List.mem_filter.mpr ⟨?_, decide_eq_true m⟩⟩
  exact lay_in hs (fun r hr _ => h.t r hr) 8 y m
/-- rch is just what is reached -/
theorem rch_self {ns : List Str} {rs : List Row} (h : RowsIn ns rs) {s : Str} (hs : s ∈ ns) : s ∈ rch ns rs s := (rch_mem h hs).mpr (lay_mono (k := 0) (List.mem_singleton.mpr rfl) (Nat.zero_le _))
theorem rch_step {ns : List Str} {rs : List Row} (h : RowsIn ns rs) {s : Str} (hs : s ∈ ns) : ∀ r ∈ rs, r.s ∈ rch ns rs s → r.t ∈ rch ns rs s := fun r hr m => (rch_mem h hs).mpr (lay8 h s r hr ((rch_mem h hs).mp m))
theorem rch_least {ns : List Str} {rs : List Row} (h : RowsIn ns rs) {s : Str} (hs : s ∈ ns) {L : List Str} (hL : s ∈ L) (cl : ∀ r ∈ rs, r.s ∈ L → r.t ∈ L) : ∀ y ∈ rch ns rs s, y ∈ L := fun y m => lay_in hL cl 8 y ((rch_mem h hs).mp m)
theorem rch_nodup {ns : List Str} {rs : List Row} (nd : ns.Nodup) (s : Str) : (rch ns rs s).Nodup := nd.sublist List.filter_sublist
end Qp

/-! the least of the shortest walks -/
namespace Qp
open PySem PySem.Spec PyProof.Rows L2 QN
open PySem.W PySem.SeqAt
/-- the names of a walk -/
def IsW (rs : List Row) : List Str → Str → Str → Prop
  | [], s, o => s = o
  | n :: ns, s, o => ∃ r ∈ rs, r.s = s ∧ r.n = n ∧ IsW rs ns r.t o
theorem isW_snoc {rs : List Row} : ∀ {ns : List Str} {n s o : Str}, IsW rs (ns ++ [n]) s o ↔ ∃ r ∈ rs, IsW rs ns s r.s ∧ r.n = n ∧ r.t = o
  | [], n, s, o => ⟨fun ⟨r, h1, h2, h3, h4⟩ => ⟨r, h1, h2.symm, h3, h4⟩, fun ⟨r, h1, h2, h3, h4⟩ => ⟨r, h1, h2.symm, h3, h4⟩⟩
  | m :: ns, n, s, o => by
    constructor
    · rintro ⟨r, h1, h2, h3, h4⟩
      obtain ⟨q, q1, q2, q3, q4⟩ := isW_snoc.mp h4
      exact ⟨q, q1, ⟨r, h1, h2, h3, q2⟩, q3, q4⟩
    · rintro ⟨q, q1, ⟨r, h1, h2, h3, q2⟩, q3, q4⟩
      exact ⟨r, h1, h2, h3, isW_snoc.mpr ⟨q, q1, q2, q3, q4⟩⟩
theorem isW_lay {rs : List Row} : ∀ {ns : List Str} {k : Nat} {s o : Str}, ns.length ≤ k → IsW rs ns s o → o ∈ lay rs k s
  | [], k, s, o, _, h => by
    have e : s = o := h
    rw [e]
    exact lay_mono (k := 0) (List.mem_singleton.mpr rfl) (Nat.zero_le _)
  | n :: ns, 0, s, o, h, _ => absurd h (Nat.not_succ_le_zero _)
  | n :: ns, k + 1, s, o, h, ⟨r, h1, h2, h3, h4⟩ => lay_first.mpr (.inr ⟨r, h1, h2, isW_lay (Nat.le_of_succ_le_succ h) h4⟩)
/-- the first row that leads nearer, again and again -/
def gway (rs : List Row) (dd : Str → Nat) : Nat → Str → List Str
  | 0, _ => []
  | k + 1, s => match rs.find? fun r => decide (r.s = s) && decide (dd r.t < dd s) with
    | some r => r.n :: gway rs dd k r.t
    | none => []
theorem find_first {rs : List Row} {p : Row → Bool} (asc : (rs.map (·.n)).Pairwise lts) {r0 : Row} (h : rs.find? p = some r0) : ∀ r ∈ rs, p r = true → r0 = r ∨ lts r0.n r.n := by
  induction rs with
  | nil => cases h
  | cons q rs ih =>
    rw [List.map_cons, List.pairwise_cons] at asc
    intro r hr hp
    by_cases e : p q = true
    · rw [List.find?_cons_of_pos e] at h
      cases h
      rcases List.mem_cons.mp hr with rfl | hr
      · exact .inl rfl
      · exact .inr (asc.1 _ (List.mem_map.mpr ⟨r, hr, rfl⟩))
    · rw [List.find?_cons_of_neg e] at h
      rcases List.mem_cons.mp hr with rfl | hr
      · exact absurd hp e
      · exact ih asc.2 h r hr hp
/-- distances to o -/
structure DistTo (G : Gr) (o : Str) (dd : Str → Nat) : Prop where
  is : ∀ s ∈ G.ns, IsDist G.rs s o (dd s)
theorem DistTo.step {G : Gr} {o : Str} {dd : Str → Nat} (D : DistTo G o dd) (ends : EndsIn G) {r : Row} (hr : r ∈ G.rs) : dd r.s ≤ dd r.t + 1 := by
  have h1 := D.is r.s (ends r hr).1
  have h2 := D.is r.t (ends r hr).2
  by_cases q : dd r.s ≤ dd r.t + 1
  · exact q
  · exact absurd (lay_first.mpr (.inr ⟨r, hr, rfl, h2.1⟩)) (h1.2 (dd r.t + 1) (by omega))
theorem DistTo.zero {G : Gr} {o : Str} {dd : Str → Nat} (D : DistTo G o dd) {s : Str} (hs : s ∈ G.ns) : dd s = 0 ↔ s = o := by
  have h := D.is s hs
  constructor
  · intro e
    rw [e] at h
    exact (List.mem_singleton.mp h.1).symm
  · intro e
    by_cases q : dd s = 0
    · exact q
    · exact absurd (List.mem_singleton.mpr e.symm) (h.2 0 (by omega))
theorem gway_is {G : Gr} {o : Str} {dd : Str → Nat} (D : DistTo G o dd) (ends : EndsIn G) : ∀ {k : Nat} {s : Str}, s ∈ G.ns → dd s = k → IsW G.rs (gway G.rs dd k s) s o ∧ (gway G.rs dd k s).length = k
  | 0, s, hs, e => ⟨(D.zero hs).mp e, rfl⟩
  | k + 1, s, hs, e => by
    have ne : s ≠ o := fun z => by have := (D.zero hs).mpr z; omega
    obtain ⟨r, hr, es, near⟩ := near_row (D.is s hs) ne
    have lt := near _ (D.is r.t (ends r hr).2)
    unfold gway
    cases f : G.rs.find? fun r => decide (r.s = s) && decide (dd r.t < dd s) with
    | none => exact absurd (List.find?_eq_none.mp f r hr) (by simp [es, lt])
    | some r0 =>
      have p0 := List.find?_some f
      have m0 := List.mem_of_find?_eq_some f
      simp only [Bool.and_eq_true, decide_eq_true_eq] at p0
      have st := D.step ends m0
      rw [p0.1] at st
      obtain ⟨i1, i2⟩ := gway_is D ends (k := k) (ends r0 m0).2 (by omega)
      exact ⟨⟨r0, m0, p0.1, rfl, i1⟩, by show (_ :: gway G.rs dd k r0.t).length = k + 1; rw [List.length_cons, i2]⟩
theorem lt_strs {a b : Str} (h : lts a b) : dataLt (.str a) (.str b) = true := by
  rw [dataLt_str]
  exact decide_eq_true h
theorem gway_least {G : Gr} {o : Str} {dd : Str → Nat} (D : DistTo G o dd) (ends : EndsIn G) (asc : (G.rs.map (·.n)).Pairwise lts) : ∀ {k : Nat} {s : Str} {ns : List Str}, s ∈ G.ns → dd s = k → ns.length = k → IsW G.rs ns s o → gway G.rs dd k s = ns ∨ dataLt (.tuple ((gway G.rs dd k s).map PyData.str)) (.tuple (ns.map PyData.str)) = true
  | 0, s, [], hs, e, _, _ => .inl rfl
  | 0, s, n :: ns, hs, e, h, _ => by cases h
  | k + 1, s, [], hs, e, h, _ => by cases h
  | k + 1, s, n :: ns, hs, e, hl, ⟨r, hr, es, en, hw⟩ => by
    have l1 : ns.length = k := Nat.succ.inj hl
    have near : dd r.t < dd s := by
      by_cases q : dd r.t < dd s
      · exact q
      · exact absurd (isW_lay (Nat.le_of_eq l1) hw) ((D.is r.t (ends r hr).2).2 k (by omega))
    have pr : (decide (r.s = s) && decide (dd r.t < dd s)) = true := by simp [es, near]
    unfold gway
    cases f : G.rs.find? fun r => decide (r.s = s) && decide (dd r.t < dd s) with
    | none => exact absurd (List.find?_eq_none.mp f r hr) (by simp [es, near])
    | some r0 =>
      have p0 := List.find?_some f
      have m0 := List.mem_of_find?_eq_some f
      simp only [Bool.and_eq_true, decide_eq_true_eq] at p0
      show (r0.n :: gway G.rs dd k r0.t) = n :: ns ∨ dataLt (.tuple (PyData.str r0.n :: (gway G.rs dd k r0.t).map PyData.str)) (.tuple (PyData.str n :: ns.map PyData.str)) = true
      rw [dataLt_tuple, dataLt_cons (by simp [alike])]
      rcases find_first asc f r hr pr with rfl | lt
      · have st := D.step ends m0
        rw [p0.1] at st
        rw [en]
        have ee : PyData.eqv (.str n) (.str n) = true := by simp [PyData.eqv]
        rw [ee, if_pos rfl]
        rcases gway_least D ends asc (k := k) (ns := ns) (ends r0 m0).2 (by omega) l1 hw with q | q
        · exact .inl (by rw [q])
        · rw [dataLt_tuple] at q
          exact .inr q
      · rw [en] at lt
        have ne : PyData.eqv (.str r0.n) (.str n) = false := by
          have : r0.n ≠ n := fun z => by rw [z] at lt; exact lts_asymm lt lt
          simpa [PyData.eqv] using this
        rw [ne, if_neg Bool.false_ne_true]
        exact .inr (lt_strs lt)
end Qp

/-! what is reached from a state, exactly -/
namespace Qp
open PySem PySem.Spec PyProof.Rows L2 QN
/-- st is just what is reached from x -/
structure Just (ls : List (Str × Str)) (x : Str) (st : List Str) : Prop where
  hx : x ∈ st
  nd : st.Nodup
  ins : ∀ l ∈ ls, l.1 ∈ st → l.2 ∈ st
  all : ∀ ks : List Str, x ∈ ks → (∀ l ∈ ls, l.1 ∈ ks → l.2 ∈ ks) → ∀ y ∈ st, y ∈ ks
def spReachedX (K : PySem.W.Frag) : Sp := fun vs H Q _ => ∃ (a : Addr) (us : List V) (ls : List (Str × Str)) (x : Str) (st : List Str), vs = [.ref a, .str x] ∧ SqL K H a us ∧ DpAll K H us (ls.map linkD) ∧ Just ls x st ∧ st.length ≤ 1000 ∧ ls.length ≤ 1000 ∧
  ∀ d ks H', Same H H' → H d = none → H' d = some (.dK (knownK ks)) → (∀ y, y ∈ ks ↔ y ∈ st) → Q (.ref d) H'
section
variable {P : Program} {w : World} {K : PySem.W.Frag} {mg : Str → Option Value} {base : Heap}
theorem ok_reachedX {f : Addr} {fd : FuncData} (F : Fun K "reached" "reached" sReached f fd) : FnOk P w K mg base CX0 1 f fd ["links", "state"] (spReachedX K) := by
  refine F.ok scReached (fun vs H Q E h => ?_) (fun cdv A outer s H vs Q E hr h => ?_)
  · obtain ⟨a, us, ls, x, st, rfl, _⟩ := h
    rfl
  · obtain ⟨a, us, ls, x, st, rfl, ha, hu, J, few, few2, k⟩ := h
    obtain ⟨hx, nd, inside, closed⟩ := id J
    have hu1 : (A.deeper (envOfC "reached" (defScope sReached) s.heap.objs.size f cdv)).units + 1 < cLine := by
      have := hr.un
      omega
    refine ⟨_, pss_cons (ps_set (i := 2) scReached.nd rfl (.inl rfl) (pe_disp (pps_cons (pv 1) pe_bl pps_nil) rfl rfl (by decide) (by decide)))
      (pss_cons (ps_set (i := 3) scReached.nd rfl (.inl rfl) (pe_lst (pa_cons (pv 1) pa_nil)))
      (pss_cons (ps_while PassesOwn.never (pt_truth (pv 3) (fun _ => rfl)) (pss_cons (ps_set (i := 4) scReached.nd rfl (.inl rfl) (pe_bm0 PySem.F.plainAttrs_list PySem.F.slot_list_pop PySem.F.type_list_pop mt_pop (pv 3)))
        (pss_one (ps_for PassesOwn.never rfl (pi_list (pv 0)) (pg_tup (by rfl) (pgs_cons (pg_name (i := 5) scReached.nd rfl (.inl rfl)) (pgs_cons (pg_name (i := 6) scReached.nd rfl (.inl rfl)) pgs_nil)))
          (pss_one (ps_if (PW.pt (pw_and (pt_cmpR op_eq (pv 5) (pv 4) (nomark _)) (pw_and1 (pt_cmp (pc_dnotin hu1 (pv 6) (pv 2)))))) (pss_cons (ps_dput hu1 (pv 2) (pv 6) pe_bl rfl) (pss_one (ps_expr (pe_bm PySem.F.plainAttrs_list PySem.F.slot_list_append PySem.F.type_list_append mt_append (pv 3) (pa_cons (pv 6) pa_nil))))) pss_nil))))))
      (pss_one (ps_ret (pv 2))))), ?_⟩
    have ul : us.length = ls.length := by rw [dpAll_len hu, List.length_map]
    intro d hdn
    refine ⟨_, rfl, upd_same, [(Sum.inr x, V.bl true)], rfl, (by show 1 ≤ 15; decide), ⟨_, rfl, (by show 1 ≤ sizeLine; decide), fun wl hwn => ?_⟩⟩
    have hwn' : H wl = none := by
      cases c : H wl with
      | none => rfl
      | some o =>
        have z : (upd (upd H d (.dK [])) d (.dK (mergeK [] [(Sum.inr x, V.bl true)]))) wl = some o := by
          rw [upd_ne (fun e => by rw [e, hdn] at c; cases c), upd_ne (fun e => by rw [e, hdn] at c; cases c)]
          exact c
        rw [z] at hwn
        cases hwn
    have nwd : wl ≠ d := fun e => by rw [e, upd_same] at hwn; cases hwn
    have start : Rs H (upd (upd (upd H d (.dK [])) d (.dK (mergeK [] [(Sum.inr x, V.bl true)]))) wl (.lst [.str x])) d wl x ls st none 0 (2 * st.length + 1) [x] [x] :=
      ⟨same_upd' (same_upd' (same_new hdn) hdn) hwn', (by rw [upd_ne nwd.symm, upd_same]; rfl), upd_same, (by simp), (by simp), (fun y hy => by rw [List.mem_singleton.mp hy]; exact hx), fun y hy => hy, fun y hy n => absurd hy n, (fun h e => by cases e), (by show 2 * (st.length - 1) + 1 ≤ 2 * st.length + 1; omega), (by omega)⟩
    generalize (upd (upd (upd H d (.dK [])) d (.dK (mergeK [] [(Sum.inr x, V.bl true)]))) wl (.lst [.str x])) = H0 at start
    refine ⟨fun m σ H' => ∃ y4 y5 y6 ks ws, σ = [some (.ref a), some (.str x), some (.ref d), some (.ref wl), y4, y5, y6] ∧ Rs H H' d wl x ls st none 0 m ks ws, ⟨_, none, none, none, [x], [x], rfl, start⟩, ?_⟩
    rintro m σ H' ⟨y4, y5, y6, ks, ws, rfl, R⟩
    refine ⟨_, rfl, _, .inl ⟨_, .inl (.inl R.hw), rfl⟩, ?_⟩
    by_cases e : ws = []
    · subst e
      have all : ∀ y ∈ st, y ∈ ks := closed ks R.hx fun l hl h1 => R.cl l.1 h1 (by simp) (by simp) l hl rfl
      exact if_no (by decide) ⟨_, rfl, k d ks H' R.sm hdn R.hd fun y => ⟨R.inn y, all y⟩⟩
    · have hne : (!(ws.map V.str).isEmpty) = true := by
        cases ws with
        | nil => exact absurd rfl e
        | cons y ws => rfl
      obtain ⟨h0, hlast⟩ : ∃ h0, ws[ws.length - 1]? = some h0 := by
        have : ws.length - 1 < ws.length := by
          have := List.length_pos_iff.mpr e
          omega
        exact ⟨_, List.getElem?_eq_getElem this⟩
      have hsplit : ws = ws.dropLast ++ [h0] := by
        have hl := List.getLast?_eq_getElem? (l := ws)
        rw [hlast] at hl
        obtain ⟨ys, hy⟩ := List.getLast?_eq_some_iff.mp hl
        rw [hy, List.dropLast_concat]
      have hin : h0 ∈ ks := R.wk h0 (List.mem_of_getElem? hlast)
      have lenw : ws.length = ws.dropLast.length + 1 := by
        have := congrArg List.length hsplit
        rw [List.length_append, List.length_singleton] at this
        exact this
      have hdw : d ≠ wl := fun c => by
        have := R.hd
        rw [c, R.hw] at this
        cases this
      have R0 : Rs H (upd H' wl (.lst (ws.dropLast.map V.str))) d wl x ls st (some h0) 0 (m - 1) ks ws.dropLast :=
        ⟨same_upd' R.sm hwn', (by rw [upd_ne hdw]; exact R.hd), upd_same, R.hx, R.nd, R.inn, (fun y hy => R.wk y (by rw [hsplit]; exact List.mem_append_left _ hy)),
          (fun y hy n1 n2 => R.cl y hy (fun c => by
            rw [hsplit, List.mem_append, List.mem_singleton] at c
            rcases c with c | c
            · exact n1 c
            · exact n2 (by rw [c])) (by simp)),
          (fun h eh => by cases eh; exact ⟨hin, fun l hl => by simp at hl⟩), (by have := R.ms; omega), (by have := R.bd; omega)⟩
      have mpos : 0 < m := by
        have := R.ms
        omega
      refine if_yes hne ⟨fun σ' H2 => ∃ y4 y5 y6 ks ws, σ' = [some (.ref a), some (.str x), some (.ref d), some (.ref wl), y4, y5, y6] ∧ Rs H H2 d wl x ls st none 0 (m - 1) ks ws, fun σ' H2 q => ⟨m - 1, by omega, q⟩, ?_⟩
      refine ⟨_, rfl, .inl ⟨rfl, _, .inl (.inl R.hw)⟩, wl, ws.map V.str, .str h0, rfl, rfl, R.hw, (by rw [List.length_map, List.getElem?_map, hlast]; rfl), ?_⟩
      rw [← List.map_dropLast]
      refine ⟨_, rfl, a, rfl, ⟨_, sqL_same R0.sm ha⟩, for_list (xs := us) (fun i σ H2 => ∃ y5 y6 ks ws, σ = [some (.ref a), some (.str x), some (.ref d), some (.ref wl), some (.str h0), y5, y6] ∧ Rs H H2 d wl x ls st (some h0) i (m - 1) ks ws)
        ⟨_, _, _, _, rfl, R0⟩ (fun i σ H2 _ q => ?_) ?_ ?_⟩
      · obtain ⟨_, _, _, _, _, q⟩ := q
        exact sqL_same q.sm ha
      · rintro i v σ H2 hv ⟨z5, z6, ks2, ws2, rfl, R2⟩
        obtain ⟨dd, hd', dv⟩ := dpAll_at (dpAll_same R2.sm _ _ hu) hv
        rw [List.getElem?_map] at hd'
        cases hc : ls[i]? with
        | none => rw [hc] at hd'; cases hd'
        | some l =>
          rw [hc] at hd'
          cases (Option.some.inj hd' : linkD l = dd)
          obtain ⟨t, rfl, ht⟩ := dp_link dv
          have hl : l ∈ ls := List.mem_of_getElem? hc
          have tk : ls.take (i + 1) = ls.take i ++ [l] := by rw [List.take_add_one, hc]; rfl
          refine ⟨t, _, rfl, ht, rfl, _, _, rfl, _, _, rfl, rfl, ?_⟩
          refine ⟨_, rfl, _, rfl, rfl, _, rfl, ?_⟩
          by_cases c1 : l.1 = h0
          · refine if_yes (decide_eq_true (by rw [c1])) ⟨_, rfl, _, rfl, d, _, rfl, DGet.k (k := Sum.inr l.2) R2.hd, _, rfl, ?_⟩
            by_cases c2 : l.2 ∈ ks2
            · refine if_no (by rw [known_has, decide_eq_true c2]; decide) ⟨_, _, ks2, ws2, rfl, R2.sm, R2.hd, R2.hw, R2.hx, R2.nd, R2.inn, R2.wk, R2.cl, (fun h eh => ⟨(R2.hr h eh).1, fun l' hl' e' => ?_⟩), R2.ms, R2.bd⟩
              rw [tk, List.mem_append, List.mem_singleton] at hl'
              rcases hl' with z | z
              · exact (R2.hr h eh).2 l' z e'
              · rw [z]
                exact c2
            · have hw2 : (upd H2 d (.dK (knownK (ks2 ++ [l.2])))) wl = some (.lst (ws2.map V.str)) := by
                rw [upd_ne hdw.symm]
                exact R2.hw
              have kl : ks2.length ≤ 1000 := Nat.le_trans (nodup_le R2.nd R2.inn) few
              have wl2 : ws2.length ≤ 3000 := by
                have := R2.ms
                have := R2.bd
                omega
              refine if_yes (by rw [known_has, decide_eq_false c2]; rfl) ⟨_, rfl, _, rfl, d, _, rfl, DPut.k (k := Sum.inr l.2) R2.hd (by unfold knownK; rw [List.length_map, sizeLine_eq]; omega), ?_⟩
              rw [known_put c2]
              refine ⟨_, rfl, .inl ⟨rfl, _, .inl (.inl hw2)⟩, _, rfl, wl, _, _, rfl, rfl, hw2, (by rw [List.length_map, sizeLine_eq]; omega), ?_⟩
              have n2 : (ks2 ++ [l.2]).Nodup := (List.perm_append_singleton l.2 ks2).nodup_iff.mpr (List.nodup_cons.mpr ⟨c2, R2.nd⟩)
              have i2 : ∀ y ∈ ks2 ++ [l.2], y ∈ st := fun y hy => by
                rcases List.mem_append.mp hy with z | z
                · exact R2.inn y z
                · rw [List.mem_singleton.mp z]
                  exact inside l hl (R2.inn _ (by rw [c1]; exact (R2.hr h0 rfl).1))
              refine ⟨_, _, ks2 ++ [l.2], ws2 ++ [l.2], rfl, same_upd' (same_upd' R2.sm hdn) hwn', (by rw [upd_ne hdw, upd_same]), (by rw [upd_same, List.map_append]; rfl), List.mem_append_left _ R2.hx, n2, i2, (fun y hy => ?_), (fun y hy n1 n3 l' hl' e' => ?_), (fun h eh => ⟨List.mem_append_left _ (R2.hr h eh).1, fun l' hl' e' => ?_⟩), ?_, ?_⟩
              · rcases List.mem_append.mp hy with z | z
                · exact List.mem_append_left _ (R2.wk y z)
                · exact List.mem_append_right _ z
              · rcases List.mem_append.mp hy with z | z
                · exact List.mem_append_left _ (R2.cl y z (fun c => n1 (List.mem_append_left _ c)) n3 l' hl' e')
                · exact absurd (List.mem_append_right _ z) n1
              · rw [tk, List.mem_append, List.mem_singleton] at hl'
                rcases hl' with z | z
                · exact List.mem_append_left _ ((R2.hr h eh).2 l' z e')
                · rw [z]
                  exact List.mem_append_right _ (List.mem_singleton.mpr rfl)
              · have b1 := nodup_le n2 i2
                have := R2.ms
                rw [List.length_append, List.length_singleton] at b1 ⊢
                rw [List.length_append, List.length_singleton]
                omega
              · exact R2.bd
          · refine if_no (by rw [decide_eq_false (fun c => c1 (by cases c; rfl))]; decide) (if_no Bool.false_ne_true ⟨_, _, ks2, ws2, rfl, R2.sm, R2.hd, R2.hw, R2.hx, R2.nd, R2.inn, R2.wk, R2.cl, (fun h eh => ⟨(R2.hr h eh).1, fun l' hl' e' => ?_⟩), R2.ms, R2.bd⟩)
            rw [tk, List.mem_append, List.mem_singleton] at hl'
            rcases hl' with z | z
            · exact (R2.hr h eh).2 l' z e'
            · cases eh
              rw [z] at e'
              exact absurd e' c1
      · rintro σ H2 ⟨z5, z6, ks2, ws2, rfl, R2⟩
        rw [ul] at R2
        refine ⟨_, _, _, ks2, ws2, rfl, R2.sm, R2.hd, R2.hw, R2.hx, R2.nd, R2.inn, R2.wk, (fun y hy n1 _ l hl el => ?_), (fun h eh => by cases eh), R2.ms, R2.bd⟩
        by_cases c : y = h0
        · subst c
          have := (R2.hr y rfl).2 l (by rw [List.take_length]; exact hl) el
          exact this
        · exact R2.cl y hy n1 (fun z => c (Option.some.inj z)) l hl el
end
end Qp

/-! the checks of a graph, of names, of a state -/
namespace Qp
open PySem PySem.Spec PyProof.Rows L2 QN
abbrev sChkG : Stmt := top 28 -- check_graph
abbrev sChkN : Stmt := top 29 -- check_name
abbrev sChkNs : Stmt := top 30 -- check_names
abbrev sChkSt : Stmt := top 31 -- check_state
abbrev sLies : Stmt := top 36 -- lies_in
theorem scChkG : FnScope ["graph"] ["graph"] (defScope sChkG) := ⟨rfl, rfl, rfl, by decide +kernel, rfl, by decide +kernel, by decide +kernel⟩
theorem scChkN : FnScope ["graph", "name"] ["graph", "name"] (defScope sChkN) := ⟨rfl, rfl, rfl, by decide +kernel, rfl, by decide +kernel, by decide +kernel⟩
theorem scChkNs : FnScope ["graph", "names", "name"] ["graph", "names"] (defScope sChkNs) := ⟨rfl, rfl, rfl, by decide +kernel, rfl, by decide +kernel, by decide +kernel⟩
theorem scChkSt : FnScope ["graph", "state"] ["graph", "state"] (defScope sChkSt) := ⟨rfl, rfl, rfl, by decide +kernel, rfl, by decide +kernel, by decide +kernel⟩
abbrev liesN : List Str := ["graph", "name", "part", "_", "source", "target"]
theorem scLies : FnScope liesN ["graph", "name", "part"] (defScope sLies) := ⟨rfl, rfl, rfl, by decide +kernel, rfl, by decide +kernel, by decide +kernel⟩
def spChkG (K : PySem.W.Frag) (C : Addr) : Sp := fun vs H Q _ => ∃ (g : Addr) (G : Gr), vs = [.ref g] ∧ GraphAt K C H g G ∧ Q .non H
def spChkN (K : PySem.W.Frag) (C : Addr) : Sp := fun vs H Q _ => ∃ (g : Addr) (G : Gr) (n : Str), vs = [.ref g, .str n] ∧ GraphAt K C H g G ∧ n ∈ G.rs.map (·.n) ∧ Q .non H
def spChkNs (K : PySem.W.Frag) (C : Addr) : Sp := fun vs H Q _ => ∃ (g t : Addr) (G : Gr) (xs : List Str), vs = [.ref g, .ref t] ∧ GraphAt K C H g G ∧ SqT K H t (xs.map V.str) ∧ (∀ n ∈ xs, n ∈ G.rs.map (·.n)) ∧ Q .non H
def spChkSt (K : PySem.W.Frag) (C : Addr) : Sp := fun vs H Q _ => ∃ (g : Addr) (G : Gr) (s : Str), vs = [.ref g, .str s] ∧ GraphAt K C H g G ∧ s ∈ G.ns ∧ Q .non H
/-- the row of a name lies within some states -/
def spLies (K : PySem.W.Frag) (C : Addr) : Sp := fun vs H Q _ => ∃ (g t : Addr) (G : Gr) (r : Row) (part : List Str), vs = [.ref g, .str r.n, .ref t] ∧ GraphAt K C H g G ∧ (G.rs.map (·.n)).Pairwise lts ∧ r ∈ G.rs ∧ SqT K H t (part.map V.str) ∧ Q (.bl (decide (r.s ∈ part ∧ r.t ∈ part))) H
theorem in_strs_iff {x : Str} {xs : List Str} : inV (.str x) (xs.map V.str) = decide (x ∈ xs) := by
  by_cases m : x ∈ xs
  · rw [in_strs m, decide_eq_true m]
  · rw [decide_eq_false m]
    unfold inV
    rw [List.any_map, List.any_eq_false]
    intro y hy
    have ne : x ≠ y := fun e => m (by rw [e]; exact hy)
    simp [eqV, ne, Ne.symm ne]
theorem flat_strs (xs : List Str) : ((xs.map V.str).all flatV) = true := by
  rw [List.all_map]
  exact List.all_eq_true.mpr fun _ _ => rfl
section
variable {P : Program} {w : World} {K : PySem.W.Frag} {mg : Str → Option Value} {base : Heap}
theorem ok_chkG {f C : Addr} {fd : FuncData} (F : Fun K "check_graph" "check_graph" sChkG f fd) (T : GraphC K mg C) (O : GraphO K C) (B : BltP mg) : FnOk P w K mg base CX0 1 f fd ["graph"] (spChkG K C) := by
  refine F.ok scChkG (fun vs H Q E h => ?_) (fun cdv A outer s H vs Q E hr h => ?_)
  · obtain ⟨g, G, rfl, _⟩ := h
    rfl
  · obtain ⟨g, G, rfl, hg, k⟩ := h
    refine ⟨_, pss_one (ps_if (pt_not (pt_val (pe_callB call_isi (by rfl) B.isi (by decide +kernel) (pa_cons (pv 0) (pa_cons (pe_glob (v := .ref C) (by rfl) T.gC rfl) pa_nil))))) (pss_one ps_never) pss_nil), ?_⟩
    exact ⟨_, rfl, _, _, _, _, true, rfl, .own C, tyx_graph T O hg, O.isC, _, rfl, if_no (by decide) k⟩
theorem ok_chkN {f fH C : Addr} {fd : FuncData} (F : Fun K "check_name" "check_name" sChkN f fd) (MC : OMeth K C "__contains__" fH) (GC : FnR P w K mg base CX0 1 fH (spGCon K C)) : FnOk P w K mg base CX0 3 f fd ["graph", "name"] (spChkN K C) := by
  refine F.ok scChkN (fun vs H Q E h => ?_) (fun cdv A outer s H vs Q E hr h => ?_)
  · obtain ⟨g, G, n, rfl, _⟩ := h
    rfl
  · obtain ⟨g, G, n, rfl, hg, hn, k⟩ := h
    have r1 := hr.mono (by decide : 1 ≤ 2)
    refine ⟨_, pss_one (ps_if (pt_cmpR (op_notInO MC GC r1 pass0) (pv 1) (pv 0) (by rfl)) (pss_one ps_never) pss_nil), ?_⟩
    exact ⟨_, rfl, _, rfl, g, rfl, oat_graph hg, g, G, n, rfl, hg, hn, true, rfl, _, rfl, if_no (by decide) k⟩
theorem ok_chkNs {f fN C : Addr} {fd fdN : FuncData} (F : Fun K "check_names" "check_names" sChkNs f fd) (GN : FnOk P w K mg base CX0 3 fN fdN ["graph", "name"] (spChkN K C)) (kN : PySem.W.keepIn K (.ref fN) = true) (bN : L2.Binds K fdN ["graph", "name"] []) (gN : mg "check_name" = some (.ref fN)) (B : BltP mg) : FnOk P w K mg base CX0 4 f fd ["graph", "names"] (spChkNs K C) := by
  refine F.ok scChkNs (fun vs H Q E h => ?_) (fun cdv A outer s H vs Q E hr h => ?_)
  · obtain ⟨g, t, G, xs, rfl, _⟩ := h
    rfl
  · obtain ⟨g, t, G, xs, rfl, hg, ht, hn, k⟩ := h
    refine ⟨_, pss_cons (ps_if (pt_not (pt_val (pe_callB call_isi (by rfl) B.isi (by decide +kernel) (pa_cons (pv 1) (pa_cons (pe_bltn (v := .ty "tuple") (by rfl) B.tuple (by decide +kernel) rfl) pa_nil))))) (pss_one ps_never) pss_nil)
      (pss_one (ps_for PassesOwn.never rfl (pi_tup (pv 1)) (pg_name (i := 2) scChkNs.nd rfl (.inl rfl)) (pss_one (ps_expr (pe_call GN hr (by rfl) gN kN bN .nil pass0 (pa_cons (pv 0) (pa_cons (pv 2) pa_nil))))))), ?_⟩
    refine ⟨_, rfl, _, _, _, _, true, rfl, .ty _, tyx_tup ht, kit_ty (by decide +kernel), _, rfl, if_no (by decide) ⟨_, rfl, t, rfl, ⟨_, ht⟩, ?_⟩⟩
    refine for_tup (xs := xs.map V.str) (fun i σ H' => ∃ y, σ = [some (.ref g), some (.ref t), y] ∧ H' = H) ⟨none, rfl, rfl⟩ (fun i σ H' _ p => by rw [p.choose_spec.2]; exact ht) (fun i u σ H' hu p => ?_) fun σ H' p => by rw [p.choose_spec.2]; exact k
    obtain ⟨y, rfl, rfl⟩ := p
    rw [List.getElem?_map] at hu
    cases hx : xs[i]? with
    | none => rw [hx] at hu; cases hu
    | some x =>
      rw [hx] at hu
      cases (Option.some.inj hu : V.str x = u)
      exact ⟨_, rfl, _, rfl, g, G, x, rfl, hg, hn x (List.mem_of_getElem? hx), _, rfl, rfl⟩
theorem ok_chkSt {f C pS fS : Addr} {fd fdS : FuncData} (F : Fun K "check_state" "check_state" sChkSt f fd) (T : GraphC K mg C) (PS : PropOf K C "states" pS fS) (GS : FnOk P w K mg base CX0 1 fS fdS ["self"] (spGSts K C)) (bS : L2.Binds K fdS ["self"] []) : FnOk P w K mg base CX0 3 f fd ["graph", "state"] (spChkSt K C) := by
  refine F.ok scChkSt (fun vs H Q E h => ?_) (fun cdv A outer s H vs Q E hr h => ?_)
  · obtain ⟨g, G, x, rfl, _⟩ := h
    rfl
  · obtain ⟨g, G, x, rfl, hg, hx, k⟩ := h
    refine ⟨_, pss_one (ps_if (pt_cmpR op_notIn_seq (pv 1) (pe_prop (pv 0) T.cls PS GS hr bS .nil pass0 rfl) (by rfl)) (pss_one ps_never) pss_nil), ?_⟩
    obtain ⟨dx, c0, st, r0, n0, b0, k0, us, h1, h2⟩ := id hg
    refine ⟨_, rfl, _, rfl, g, dx, _, rfl, h1, g, G, rfl, hg, fun n hn => ⟨n, _, rfl, .inr hn, rfl, flat_strs _, ?_⟩⟩
    rw [if_pos rfl, in_strs hx]
    exact ⟨_, rfl, if_no (by decide) k⟩
theorem ok_lies {f fG C : Addr} {fd : FuncData} (F : Fun K "lies_in" "lies_in" sLies f fd) (MG : OMeth K C "__getitem__" fG) (iG : PySem.W.fnIn K fG = true) (GG : FnR P w K mg base CX0 2 fG (spGGet K C)) : FnOk P w K mg base CX0 4 f fd ["graph", "name", "part"] (spLies K C) := by
  refine F.ok scLies (fun vs H Q E h => ?_) (fun cdv A outer s H vs Q E hr h => ?_)
  · obtain ⟨g, t, G, r, part, rfl, _⟩ := h
    rfl
  · obtain ⟨g, t, G, r, part, rfl, hg, asc, hrow, ht, k⟩ := h
    refine ⟨_, pss_cons (ps_asg (pe_itemO MG iG GG hr pass0 (pv 0) (pv 1) (fun _ _ => rfl)) (pg_tup (by rfl) (pgs_cons (pg_name (i := 3) scLies.nd rfl (.inl rfl)) (pgs_cons (pg_name (i := 4) scLies.nd rfl (.inl rfl)) (pgs_cons (pg_name (i := 5) scLies.nd rfl (.inl rfl)) (pgs_cons (pg_name (i := 3) scLies.nd rfl (.inl rfl)) pgs_nil))))))
      (pss_one (ps_ret (pe_and (pe_cmpR op_in_seq (pv 4) (pv 2) (by rfl)) (pe_one (pe_cmpR op_in_seq (pv 5) (pv 2) (by rfl)))))), ?_⟩
    refine ⟨_, rfl, _, rfl, g, rfl, oat_graph hg, g, G, r, rfl, hg, asc, hrow, fun u pu => ?_⟩
    obtain ⟨a, c, xs, rfl, h1, h2, h3⟩ := pu
    refine ⟨a, _, rfl, h1, rfl, _, _, rfl, _, _, rfl, _, _, rfl, _, _, rfl, rfl, ?_⟩
    refine ⟨_, rfl, _, rfl, t, _, rfl, .inr ht, rfl, flat_strs _, ?_⟩
    rw [if_neg (by decide), in_strs_iff]
    refine ⟨_, rfl, ?_⟩
    by_cases e1 : r.s ∈ part
    · refine if_yes (by simpa using e1) ⟨_, rfl, _, rfl, t, _, rfl, .inr ht, rfl, flat_strs _, ?_⟩
      rw [if_neg (by decide), in_strs_iff]
      have e : decide (r.s ∈ part ∧ r.t ∈ part) = decide (r.t ∈ part) := by simp [e1]
      rw [← e]
      exact k
    · refine if_no (by simpa using e1) ?_
      have e : decide (r.s ∈ part ∧ r.t ∈ part) = false := by simp [e1]
      rw [e] at k
      exact k
end
end Qp

/-! lists of known values; sorted texts; what the law's own search reaches -/
namespace Qp
open PySem PySem.Spec PyProof.Rows L2 QN
section
open PySem.W PySem.SeqAt
/-- texts sorted: there is one order -/
theorem sortTx_perm_eq {xs ys : List Str} (h : xs.Perm ys) : sortTx xs = sortTx ys := by
  have s : ∀ l : List Str, (sortTx l).Pairwise fun a b => decide (a.cps.toList ≤ b.cps.toList) = true := fun l => by
    unfold sortTx
    rw [PySem.W.dataLe_str]
    exact List.pairwise_mergeSort (le := fun a b : Str => decide (a.cps.toList ≤ b.cps.toList)) (fun a b c h1 h2 => decide_eq_true (List.le_trans (of_decide_eq_true h1) (of_decide_eq_true h2))) (fun a b => by
      rcases List.le_total a.cps.toList b.cps.toList with h | h
      · show (decide (a.cps.toList ≤ b.cps.toList) || decide (b.cps.toList ≤ a.cps.toList)) = true
        rw [decide_eq_true h]
        rfl
      · show (decide (a.cps.toList ≤ b.cps.toList) || decide (b.cps.toList ≤ a.cps.toList)) = true
        rw [decide_eq_true h, Bool.or_true]) l
  refine List.Perm.eq_of_pairwise (fun a b _ _ h1 h2 => ?_) (s xs) (s ys) ((sortTx_perm xs).trans (h.trans (sortTx_perm ys).symm))
  have e : a.cps.toList = b.cps.toList := List.le_antisymm (of_decide_eq_true h1) (of_decide_eq_true h2)
  obtain ⟨⟨a⟩⟩ := a
  obtain ⟨⟨b⟩⟩ := b
  cases (show a = b from e)
  rfl
/-- sorted(l) of texts -/
theorem sorted_texts {K : PySem.W.Frag} {H : Hp} {a : Addr} {xs : List Str} {Q : VK} (ha : SqL K H a (xs.map V.str) ∨ SqT K H a (xs.map V.str)) (k : ∀ (p : Addr), H p = none → Q (.ref p) (upd H p (.lst ((sortTx xs).map V.str)))) : rSortedDt K [.ref a] H Q := by
  have e1 : (xs.map fun x => (V.str x, PyData.str x)).map (·.1) = xs.map V.str := by rw [List.map_map]; rfl
  have e2 : (xs.map fun x => (V.str x, PyData.str x)).map (·.2) = xs.map PyData.str := by rw [List.map_map]; rfl
  refine ⟨a, xs.map fun x => (V.str x, PyData.str x), rfl, by rw [e1]; exact ha, fun q hq => ?_, by rw [e2]; exact AllAlike.of (fun x y => by simp [alike]), ?_, fun q hq => ?_, fun p hp => ?_⟩
  · obtain ⟨x, _, rfl⟩ := List.mem_map.mp hq
    exact .str x
  · rw [e2]
    exact Sortable.others fun _ => ⟨by simp, by simp⟩
  · obtain ⟨x, _, rfl⟩ := List.mem_map.mp hq
    simp [PyData.depth]
  · rw [← List.map_mergeSort (r := dataLe false fun x : Str => PyData.str x) (s := dataLe false fun b : V × PyData => b.2) (f := fun x => (V.str x, PyData.str x)) (fun _ _ _ _ => rfl), List.map_map]
    exact k p hp
end
theorem sqL_sameP {K : PySem.W.Frag} {H H' : Hp} {q : Addr} {xs : List V} (s : Same H H') (h : SqL K H q xs) : SqL K H' q xs := sqL_sim (Sim.of s) h
section
variable {K : PySem.W.Frag} {a : Addr} {xs ys : List V} {g : TG} {te : TE} {vs : List Nat} {σ : L2.St} {H1 : Hp} {D : Addr} {Qd : Hp → Prop}
/-- [.. for .. in a tuple], the values known -/
theorem lc_valsT {j : Nat} (hD : H1 D = none) (hq : SqT K H1 a xs) (few : xs.length < sizeLine) (hl : ys.length = xs.length) (hw : ∀ x, wipe ((wipe σ vs).set j (some x)) vs = wipe σ vs)
    (hs : ∀ (i : Nat) (x : V) (H' : Hp) (R : VK), xs[i]? = some x → Same H1 H' → (∀ y, ys[i]? = some y → R y H') → te ((wipe σ vs).set j (some x)) H' R) (hd : ∀ H', Same H1 H' → H' D = some (.lst ys) → Qd H') :
    ∃ W : Nat → Nat → Hp → Prop, (∃ m, W 0 m (upd H1 D (.lst []))) ∧ ∀ i m H, W i m H → ((Itt K a).stop i H ∧ Qd H) ∨ ((Itt K a).go i H ∧ ∃ Nx : Hp → Prop, (∀ H', Nx H' → ∃ m', m' < m ∧ W (i + 1) m' H') ∧ ∀ x H', (Itt K a).yld i H x H' → gName j x (wipe σ vs) H' fun σ2 H2 => wipe σ2 vs = wipe σ vs ∧ tYes σ2 H2 fun b H3 =>
        if b = true then te σ2 H3 fun y H4 => ∃ acc, H4 D = some (.lst acc) ∧ acc.length < sizeLine ∧ Nx (upd H4 D (.lst (acc ++ [y]))) else Nx H3) := by
  refine lc_tup (fun i H' => Same H1 H' ∧ H' D = some (.lst (ys.take i))) ⟨same_new hD, upd_same⟩ (fun i H' _ p => sqT_same p.1 hq) (fun i x H' hx p => ⟨hw x, yes_if ?_⟩) fun H' p => ?_
  · have il := (List.getElem?_eq_some_iff.mp hx).1
    refine hs i x H' _ hx p.1 fun y hy => ⟨_, p.2, ?_, same_upd' p.1 hD, ?_⟩
    · rw [List.length_take]
      omega
    · rw [upd_same, List.take_add_one, hy]
      rfl
  · obtain ⟨sm, e⟩ := p
    rw [← hl, List.take_length] at e
    exact hd H' sm e
/-- [.. for .. in a list], the values known -/
theorem lc_valsL {j : Nat} (hD : H1 D = none) (hq : SqL K H1 a xs) (few : xs.length < sizeLine) (hl : ys.length = xs.length) (hw : ∀ x, wipe ((wipe σ vs).set j (some x)) vs = wipe σ vs)
    (hs : ∀ (i : Nat) (x : V) (H' : Hp) (R : VK), xs[i]? = some x → Same H1 H' → (∀ y, ys[i]? = some y → R y H') → te ((wipe σ vs).set j (some x)) H' R) (hd : ∀ H', Same H1 H' → H' D = some (.lst ys) → Qd H') :
    ∃ W : Nat → Nat → Hp → Prop, (∃ m, W 0 m (upd H1 D (.lst []))) ∧ ∀ i m H, W i m H → ((Itl K a).stop i H ∧ Qd H) ∨ ((Itl K a).go i H ∧ ∃ Nx : Hp → Prop, (∀ H', Nx H' → ∃ m', m' < m ∧ W (i + 1) m' H') ∧ ∀ x H', (Itl K a).yld i H x H' → gName j x (wipe σ vs) H' fun σ2 H2 => wipe σ2 vs = wipe σ vs ∧ tYes σ2 H2 fun b H3 =>
        if b = true then te σ2 H3 fun y H4 => ∃ acc, H4 D = some (.lst acc) ∧ acc.length < sizeLine ∧ Nx (upd H4 D (.lst (acc ++ [y]))) else Nx H3) := by
  refine lc_list (fun i H' => Same H1 H' ∧ H' D = some (.lst (ys.take i))) ⟨same_new hD, upd_same⟩ (fun i H' _ p => sqL_sameP p.1 hq) (fun i x H' hx p => ⟨hw x, yes_if ?_⟩) fun H' p => ?_
  · have il := (List.getElem?_eq_some_iff.mp hx).1
    refine hs i x H' _ hx p.1 fun y hy => ⟨_, p.2, ?_, same_upd' p.1 hD, ?_⟩
    · rw [List.length_take]
      omega
    · rw [upd_same, List.take_add_one, hy]
      rfl
  · obtain ⟨sm, e⟩ := p
    rw [← hl, List.take_length] at e
    exact hd H' sm e
end
/-- [val for z in a tuple if keep] -/
theorem lc_keepT {K : PySem.W.Frag} {a : Addr} {zs : List (V × Row)} {keep : Row → Bool} {val : V × Row → V} {j : Nat} {tt : TT} {te : TE} {vs : List Nat} {σ : L2.St} {H1 : Hp} {D : Addr} {Qd : Hp → Prop} (hD : H1 D = none) (hq : SqT K H1 a (zs.map (·.1))) (few : zs.length ≤ 1000) (hw : ∀ v, wipe ((wipe σ vs).set j (some v)) vs = wipe σ vs)
    (hs : ∀ z ∈ zs, ∀ (H' : Hp) (R : VK) (F : Hp → Prop), Same H1 H' → (keep z.2 = true → R (val z) H') → (keep z.2 = false → F H') → tt ((wipe σ vs).set j (some z.1)) H' fun b H3 => if b = true then te ((wipe σ vs).set j (some z.1)) H3 R else F H3) (hd : ∀ H', Same H1 H' → H' D = some (.lst ((zs.filter fun z => keep z.2).map val)) → Qd H') :
    ∃ W : Nat → Nat → Hp → Prop, (∃ m, W 0 m (upd H1 D (.lst []))) ∧ ∀ i m H, W i m H → ((Itt K a).stop i H ∧ Qd H) ∨ ((Itt K a).go i H ∧ ∃ Nx : Hp → Prop, (∀ H', Nx H' → ∃ m', m' < m ∧ W (i + 1) m' H') ∧ ∀ x H', (Itt K a).yld i H x H' → gName j x (wipe σ vs) H' fun σ2 H2 => wipe σ2 vs = wipe σ vs ∧ tt σ2 H2 fun b H3 =>
        if b = true then te σ2 H3 fun y H4 => ∃ acc, H4 D = some (.lst acc) ∧ acc.length < sizeLine ∧ Nx (upd H4 D (.lst (acc ++ [y]))) else Nx H3) := by
  refine lc_tup (xs := zs.map (·.1)) (fun i H' => Same H1 H' ∧ H' D = some (.lst (((zs.take i).filter fun z => keep z.2).map val))) ⟨same_new hD, upd_same⟩ (fun i H' _ p => sqT_same p.1 hq) (fun i x H' hx p => ⟨hw x, ?_⟩) fun H' p => ?_
  · rw [List.getElem?_map] at hx
    cases hz : zs[i]? with
    | none => rw [hz] at hx; cases hx
    | some z =>
      rw [hz] at hx
      cases (Option.some.inj hx : z.1 = x)
      obtain ⟨sm, e⟩ := p
      refine hs z (List.mem_of_getElem? hz) H' _ _ sm (fun kz => ⟨_, e, ?_, same_upd' sm hD, ?_⟩) fun kz => ⟨sm, ?_⟩
      · rw [List.length_map, sizeLine_eq]
        have := List.length_filter_le (fun z : V × Row => keep z.2) (zs.take i)
        have := List.length_take_le i zs
        have : (zs.take i).length ≤ zs.length := by rw [List.length_take]; exact Nat.min_le_right _ _
        omega
      · rw [upd_same, List.take_add_one, hz]
        show some (HO.lst _) = some (HO.lst (((zs.take i ++ [z]).filter _).map val))
        rw [List.filter_append, List.map_append, List.filter_cons_of_pos (by exact kz)]
        rfl
      · rw [List.take_add_one, hz, e]
        show some (HO.lst _) = some (HO.lst (((zs.take i ++ [z]).filter _).map val))
        rw [List.filter_append, List.filter_cons_of_neg (by rw [kz]; decide), List.filter_nil, List.append_nil]
  · obtain ⟨sm, e⟩ := p
    rw [List.length_map, List.take_length] at e
    exact hd H' sm e
theorem zip_keep {us : List V} {rs : List Row} (hl : us.length = rs.length) (keep : Row → Bool) (f : Row → V) : ((us.zip rs).filter fun z => keep z.2).map (fun z => f z.2) = (rs.filter keep).map f := by
  have e : rs = (us.zip rs).map (·.2) := (snd_zip hl).symm
  conv => rhs; rw [e, List.filter_map, List.map_map]
  rfl
theorem rows_zip {K : PySem.W.Frag} {H : Hp} : ∀ {us : List V} {rs : List Row}, Paired (PlRow K H) us rs → ∀ z ∈ us.zip rs, PlRow K H z.1 z.2
  | _, _, .nil, z, h => by cases h
  | _, _, .cons a b, z, h => by
    rcases List.mem_cons.mp h with rfl | h
    · exact a
    · exact rows_zip b z h
/-- of a list -/
theorem lc_keepL {K : PySem.W.Frag} {a : Addr} {zs : List (V × Row)} {keep : Row → Bool} {val : V × Row → V} {j : Nat} {tt : TT} {te : TE} {vs : List Nat} {σ : L2.St} {H1 : Hp} {D : Addr} {Qd : Hp → Prop} (hD : H1 D = none) (hq : SqL K H1 a (zs.map (·.1))) (few : zs.length ≤ 1000) (hw : ∀ v, wipe ((wipe σ vs).set j (some v)) vs = wipe σ vs)
    (hs : ∀ z ∈ zs, ∀ (H' : Hp) (R : VK) (F : Hp → Prop), Same H1 H' → (keep z.2 = true → R (val z) H') → (keep z.2 = false → F H') → tt ((wipe σ vs).set j (some z.1)) H' fun b H3 => if b = true then te ((wipe σ vs).set j (some z.1)) H3 R else F H3) (hd : ∀ H', Same H1 H' → H' D = some (.lst ((zs.filter fun z => keep z.2).map val)) → Qd H') :
    ∃ W : Nat → Nat → Hp → Prop, (∃ m, W 0 m (upd H1 D (.lst []))) ∧ ∀ i m H, W i m H → ((Itl K a).stop i H ∧ Qd H) ∨ ((Itl K a).go i H ∧ ∃ Nx : Hp → Prop, (∀ H', Nx H' → ∃ m', m' < m ∧ W (i + 1) m' H') ∧ ∀ x H', (Itl K a).yld i H x H' → gName j x (wipe σ vs) H' fun σ2 H2 => wipe σ2 vs = wipe σ vs ∧ tt σ2 H2 fun b H3 =>
        if b = true then te σ2 H3 fun y H4 => ∃ acc, H4 D = some (.lst acc) ∧ acc.length < sizeLine ∧ Nx (upd H4 D (.lst (acc ++ [y]))) else Nx H3) := by
  refine lc_list (xs := zs.map (·.1)) (fun i H' => Same H1 H' ∧ H' D = some (.lst (((zs.take i).filter fun z => keep z.2).map val))) ⟨same_new hD, upd_same⟩ (fun i H' _ p => sqL_sim (Sim.of p.1) hq) (fun i x H' hx p => ⟨hw x, ?_⟩) fun H' p => ?_
  · rw [List.getElem?_map] at hx
    cases hz : zs[i]? with
    | none => rw [hz] at hx; cases hx
    | some z =>
      rw [hz] at hx
      cases (Option.some.inj hx : z.1 = x)
      obtain ⟨sm, e⟩ := p
      refine hs z (List.mem_of_getElem? hz) H' _ _ sm (fun kz => ⟨_, e, ?_, same_upd' sm hD, ?_⟩) fun kz => ⟨sm, ?_⟩
      · rw [List.length_map, sizeLine_eq]
        have := List.length_filter_le (fun z : V × Row => keep z.2) (zs.take i)
        have : (zs.take i).length ≤ zs.length := by rw [List.length_take]; exact Nat.min_le_right _ _
        omega
      · rw [upd_same, List.take_add_one, hz]
        show some (HO.lst _) = some (HO.lst (((zs.take i ++ [z]).filter _).map val))
        rw [List.filter_append, List.map_append, List.filter_cons_of_pos (by exact kz)]
        rfl
      · rw [List.take_add_one, hz, e]
        show some (HO.lst _) = some (HO.lst (((zs.take i ++ [z]).filter _).map val))
        rw [List.filter_append, List.filter_cons_of_neg (by rw [kz]; decide), List.filter_nil, List.append_nil]
  · obtain ⟨sm, e⟩ := p
    rw [List.length_map, List.take_length] at e
    exact hd H' sm e
theorem rows_at {K : PySem.W.Frag} {H : Hp} : ∀ {us : List V} {rs : List Row} {i : Nat} {u : V}, Paired (PlRow K H) us rs → us[i]? = some u → ∃ r, rs[i]? = some r ∧ PlRow K H u r
  | _, _, i, u, .nil, e => by simp at e
  | _, _, 0, u, .cons a b, e => by
    cases e
    exact ⟨_, rfl, a⟩
  | _, _, i + 1, u, .cons a b, e => rows_at (i := i) b (by simpa using e)
/-- a statement's ends told by a word R, then the rest -/
theorem seq_abs {A T : TS} {D : Ends} {σ : L2.St} {H : Hp} (R : L2.St → Hp → Prop) (h : ∀ N : L2.St → Hp → Prop, (∀ σ' H', R σ' H' → N σ' H') → A { D with nx := N } σ H) (tail : ∀ σ' H', R σ' H' → T D σ' H') : tSeq A T D σ H := h (T D) tail
abbrev sLRe : Stmt := top 50 -- _law_reached
abbrev lreN : List Str := ["_law_rows", "_law_node", "_law_found", "_law_size", "_law_row", "_law_one"]
theorem scLRe : FnScope lreN ["_law_rows", "_law_node"] (defScope sLRe) := ⟨rfl, rfl, rfl, by decide +kernel, rfl, by decide +kernel, by decide +kernel⟩
/-- texts in their order: sorted, they are the same -/
theorem sortTx_asc_eq {xs ys : List Str} (h : xs.Perm ys) (asc : ys.Pairwise lts) : sortTx xs = ys :=
  List.Perm.eq_of_pairwise (le := lts) (fun a b _ _ h1 h2 => absurd h2 (lts_asymm h1)) (sortTx_asc (h.nodup_iff.mpr (nodup_lts asc))) asc ((sortTx_perm xs).trans h)
theorem rch_asc {ns : List Str} {rs : List Row} (asc : ns.Pairwise lts) (s : Str) : (rch ns rs s).Pairwise lts := asc.sublist List.filter_sublist
theorem perm_of {xs ys : List Str} (h1 : xs.Nodup) (h2 : ys.Nodup) (h : ∀ z, z ∈ xs ↔ z ∈ ys) : xs.Perm ys := (List.perm_ext_iff_of_nodup h1 h2).mpr h
def spLRe (K : PySem.W.Frag) : Sp := fun vs H Q _ => ∃ (a : Addr) (us : List V) (rs : List Row) (ns : List Str) (s : Str), vs = [.ref a, .str s] ∧ SqL K H a us ∧ Paired (PlRow K H) us rs ∧ rs.length ≤ 16 ∧ RowsIn ns rs ∧ ns.Pairwise lts ∧ s ∈ ns ∧
  ∀ (p : Addr) (H' : Hp), H p = none → Same H H' → H' p = some (.lst ((rch ns rs s).map V.str)) → Q (.ref p) H'
/-- the names found so far -/
structure Fnd (ns : List Str) (rs : List Row) (s : Str) (fs : List Str) : Prop where
  nd : fs.Nodup
  hs : s ∈ fs
  inn : ∀ y ∈ fs, y ∈ rch ns rs s
theorem Fnd.len {ns : List Str} {rs : List Row} {s : Str} {fs : List Str} (h : Fnd ns rs s fs) (nl : ns.length ≤ 8) : fs.length ≤ 8 := by
  have a := List.Nodup.length_le_of_subset h.nd fun z hz => h.inn z hz
  have b : (rch ns rs s).length ≤ ns.length := List.length_filter_le _ _
  omega
section
variable {P : Program} {w : World} {K : PySem.W.Frag} {mg : Str → Option Value} {base : Heap}
theorem ok_lre {f : Addr} {fd : FuncData} (F : Fun K "_law_reached" "_law_reached" sLRe f fd) (B : BltP mg) (so : mg "sorted" = none) : FnOk P w K mg base CX0 1 f fd ["_law_rows", "_law_node"] (spLRe K) := by
  refine F.ok scLRe (fun vs H Q E h => ?_) (fun cdv A outer s H vs Q E hr h => ?_)
  · obtain ⟨a, us, rs, ns, s, rfl, _⟩ := h
    rfl
  · obtain ⟨a, us, rs, ns, s0, rfl, ha, hu, rl, RI, asc, hs0, fin⟩ := h
    have hu64 : (A.deeper (envOfC "_law_reached" (defScope sLRe) s.heap.objs.size f cdv)).units + 64 < cLine := by
      have := hr.un
      omega
    refine ⟨_, pss_cons (ps_par (i := 2) (j := 3) (by rfl) scLRe.nd rfl rfl (by decide) rfl rfl (pa_cons (pe_lst (pa_cons (pv 1) pa_nil)) (pa_cons pe_int pa_nil)) (by rfl))
      (pss_cons (ps_while PassesOwn.never (pt_cmpR op_ne (pv 3) (pe_callB (r := rLenM K) call_len_seq (by rfl) B.len PySem.boot_len (pa_cons (pv 2) pa_nil)) (nomark _))
        (pss_cons (ps_set (i := 3) scLRe.nd rfl (.inl rfl) (pe_callB (r := rLenM K) call_len_seq (by rfl) B.len PySem.boot_len (pa_cons (pv 2) pa_nil)))
        (pss_one (ps_for PassesOwn.never rfl (pi_list (pv 0)) (pg_name (i := 4) scLRe.nd rfl (.inl rfl))
          (pss_one (ps_if (PW.pt (pw_and (pt_cmpR op_in_seq (pe_ix (r := rIxT K) ix_tup (pv 4) pe_int (fun _ _ => rfl)) (pv 2) (by rfl)) (pw_and1 (pt_cmpR op_notIn_seq (pe_ix (r := rIxT K) ix_tup (pv 4) pe_int (fun _ _ => rfl)) (pv 2) (by rfl)))))
            (pss_one (ps_expr (pe_bm PySem.F.plainAttrs_list PySem.F.slot_list_append PySem.F.type_list_append mt_append (pv 2) (pa_cons (pe_ix (r := rIxT K) ix_tup (pv 4) pe_int (fun _ _ => rfl)) pa_nil)))) pss_nil))))))
      (pss_one (ps_ret (pe_callB (r := rSortedDt K) (cr_sortedDt hu64) (by rfl) so (by decide +kernel) (pa_cons (pe_lc (own := [("_law_one", 5)]) (g := gName 5) (tt := tYes) (te := tCB (fun xs H Q => ∃ a, xs = [V.str a] ∧ Q (.str a) H) (tCons (tVar 5) tNil)) rfl scLRe.nd (pi_list (pv 2)) (blkOk_by (N := lreN) (sc := defScope sLRe) (by decide +kernel))
        (fun _ _ _ _ _ => pg_name (i := 5) scLRe.nd rfl (.inl rfl)) (fun _ _ _ _ _ => pts_nil) (fun _ _ _ _ _ => pe_callTy SkE.call_str_str (by rfl) B.str (by decide +kernel) (pa_cons (pv 5) pa_nil))) pa_nil))))), ?_⟩
    have nl := RI.nl
    have ul := hu.length
    refine ⟨_, rfl, (by show 1 ≤ sizeLine; decide), fun d hd => ⟨_, _, rfl, ?_⟩⟩
    have S0 := same_new (o := .lst [.str s0]) hd
    have e0 : (upd H d (.lst [.str s0])) d = some (.lst (([s0] : List Str).map V.str)) := upd_same
    generalize upd H d (.lst [.str s0]) = H0 at S0 e0
    have f0 : Fnd ns rs s0 [s0] := ⟨by simp, by simp, fun y hy => by rw [List.mem_singleton.mp hy]; exact rch_self RI hs0⟩
    refine ⟨fun m σ H' => ∃ (sz : Nat) (fs : List Str) (y4 : Option V), σ = [some (.ref a), some (.str s0), some (.ref d), some (.int (sz : Nat)), y4, none] ∧ Same H H' ∧ H' d = some (.lst (fs.map V.str)) ∧ Fnd ns rs s0 fs ∧ sz ≤ fs.length ∧ (sz = fs.length → ∀ r ∈ rs, r.s ∈ fs → r.t ∈ fs) ∧ m = 9 - sz, ⟨9, 0, [s0], none, rfl, S0, e0, f0, Nat.zero_le _, (fun z => by cases z), rfl⟩, ?_⟩
    rintro m σ H' ⟨sz, fs, y4, rfl, sm, ed, fn, le, cl, rfl⟩
    have l8 := fn.len nl
    refine ⟨_, rfl, _, rfl, d, _, rfl, .inl (.inl (.inl ed)), rfl, _, rfl, ?_⟩
    rw [dec_int, List.length_map]
    by_cases z : sz = fs.length
    · refine if_no (by simp [z]) ⟨_, rfl, d, rfl, ⟨_, .inl (.inl ed)⟩, fun D hD => ?_⟩
      refine lc_valsL (ys := fs.map V.str) hD (.inl (.inl ed)) (by rw [List.length_map, sizeLine_eq]; omega) rfl (fun _ => rfl) (fun i x H2 R hx s2 k => ?_) fun H2 s2 e2 => ?_
      · have hx' := hx
        rw [List.getElem?_map] at hx'
        cases e : fs[i]? with
        | none => rw [e] at hx'; cases hx'
        | some y =>
          rw [e] at hx'
          cases (Option.some.inj hx' : V.str y = x)
          exact ⟨_, rfl, y, rfl, k _ hx⟩
      · dsimp only [tNil]
        refine sorted_texts (.inl (.inl (.inl e2))) fun p hp => ?_
        have eq : sortTx fs = rch ns rs s0 := sortTx_asc_eq (perm_of fn.nd (rch_nodup (nodup_lts asc) s0) fun y => ⟨fn.inn y, rch_least RI hs0 fn.hs (cl z) y⟩) (rch_asc asc s0)
        rw [eq]
        have s3 := same_new (o := .lst ((rch ns rs s0).map V.str)) hp
        refine fin p _ ?_ (sm.trans (s2.trans s3)) upd_same
        cases e : H p with
        | none => rfl
        | some o => rw [s2 _ _ (sm _ _ e)] at hp; cases hp
    · refine if_yes (by simpa using fun e => z (by omega)) ⟨fun σ' H2 => ∃ (sz' : Nat) (fs : List Str) (y4 : Option V), σ' = [some (.ref a), some (.str s0), some (.ref d), some (.int (sz' : Nat)), y4, none] ∧ Same H H2 ∧ H2 d = some (.lst (fs.map V.str)) ∧ Fnd ns rs s0 fs ∧ sz' ≤ fs.length ∧ (sz' = fs.length → ∀ r ∈ rs, r.s ∈ fs → r.t ∈ fs) ∧ sz < sz', fun σ' H2 ⟨sz', fs', y, q1, q2, q3, q4, q5, q6, q7⟩ => ⟨9 - sz', by have := q4.len nl; omega, sz', fs', y, q1, q2, q3, q4, q5, q6, rfl⟩, ?_⟩
      refine ⟨_, rfl, d, _, rfl, .inl (.inl (.inl ed)), ?_⟩
      rw [List.length_map]
      refine ⟨_, rfl, a, rfl, ⟨_, sqL_sameP sm ha⟩, ?_⟩
      refine for_list (xs := us) (fun i σ H' => ∃ (ex : List Str) (y4 : Option V), σ = [some (.ref a), some (.str s0), some (.ref d), some (.int (fs.length : Nat)), y4, none] ∧ Same H H' ∧ H' d = some (.lst ((fs ++ ex).map V.str)) ∧ Fnd ns rs s0 (fs ++ ex) ∧ (ex = [] → ∀ r ∈ rs.take i, r.s ∈ fs → r.t ∈ fs)) ⟨[], y4, rfl, sm, by rw [List.append_nil]; exact ed, by rw [List.append_nil]; exact fn, fun _ r hr => by simp at hr⟩ (fun i σ H' _ p => ?_) (fun i u σ H' hu2 p => ?_) fun σ H' p => ?_
      · obtain ⟨ex, y, rfl, sm, _⟩ := p
        exact sqL_sameP sm ha
      · obtain ⟨ex, y, rfl, sm, ed, fn, ce⟩ := p
        obtain ⟨r, hr', ra, rc, ws, rfl, h1, h2, h3⟩ := rows_at (plAll_sim (Sim.of sm) hu) hu2
        have mr := List.mem_of_getElem? hr'
        have tk : rs.take (i + 1) = rs.take i ++ [r] := by
          rw [List.take_add_one, hr']
          rfl
        refine ⟨_, rfl, ra, _, 1, .str r.s, rfl, rfl, h1, rfl, _, rfl, d, _, rfl, .inl (.inl (.inl ed)), rfl, flat_strs _, ?_⟩
        rw [if_neg (by decide), in_strs_iff]
        refine ⟨_, rfl, ?_⟩
        by_cases m1 : r.s ∈ fs ++ ex
        · refine if_yes (by simpa using m1) ⟨_, rfl, ra, _, 2, .str r.t, rfl, rfl, h1, rfl, _, rfl, d, _, rfl, .inl (.inl (.inl ed)), rfl, flat_strs _, ?_⟩
          rw [if_pos rfl, in_strs_iff]
          refine ⟨_, rfl, ?_⟩
          by_cases m2 : r.t ∈ fs ++ ex
          · refine if_no (by rw [decide_eq_true m2]; decide) ⟨ex, _, rfl, sm, ed, fn, fun z q hq hs => ?_⟩
            rw [tk] at hq
            rcases List.mem_append.mp hq with hq | hq
            · exact ce z q hq hs
            · rw [List.mem_singleton.mp hq]
              rw [z, List.append_nil] at m2
              exact m2
          · have l8 := fn.len nl
            refine if_yes (by rw [decide_eq_false m2]; rfl) ⟨_, rfl, .inl ⟨rfl, _, .inl (.inl ed)⟩, _, rfl, ra, _, 2, .str r.t, rfl, rfl, h1, rfl, d, _, _, rfl, rfl, ed, by rw [List.length_map, sizeLine_eq]; omega, ?_⟩
            refine ⟨ex ++ [r.t], _, rfl, same_upd' sm hd, ?_, ⟨?_, ?_, ?_⟩, fun z => absurd z (by simp)⟩
            · rw [upd_same, ← List.append_assoc, List.map_append (l₁ := fs ++ ex)]
              rfl
            · rw [← List.append_assoc]
              exact (List.perm_append_singleton r.t (fs ++ ex)).nodup_iff.mpr (List.nodup_cons.mpr ⟨m2, fn.nd⟩)
            · rw [← List.append_assoc]
              exact List.mem_append_left _ fn.hs
            · intro y hy
              rw [← List.append_assoc] at hy
              rcases List.mem_append.mp hy with h | h
              · exact fn.inn y h
              · rw [List.mem_singleton.mp h]
                exact rch_step RI hs0 r mr (fn.inn _ m1)
        · refine if_no (by simpa using m1) (if_no (by decide) ⟨ex, _, rfl, sm, ed, fn, fun z q hq hs => ?_⟩)
          rw [tk] at hq
          rcases List.mem_append.mp hq with hq | hq
          · exact ce z q hq hs
          · rw [List.mem_singleton.mp hq] at hs
            rw [z, List.append_nil] at m1
            exact absurd hs m1
      · obtain ⟨ex, y, rfl, sm, ed, fn, ce⟩ := p
        rw [ul, List.take_length] at ce
        refine ⟨fs.length, fs ++ ex, _, rfl, sm, ed, fn, by rw [List.length_append]; omega, fun z => ?_, by omega⟩
        have e : ex = [] := by
          rw [List.length_append] at z
          exact List.eq_nil_of_length_eq_zero (by omega)
        rw [e, List.append_nil]
        exact ce e
end
end Qp

/-! the components: states that are reached from each other -/
namespace Qp
open PySem PySem.Spec PyProof.Rows L2 QN
open PySem.W PySem.SeqAt
theorem rch_in {ns : List Str} {rs : List Row} {s y : Str} (h : y ∈ rch ns rs s) : y ∈ ns := (List.mem_filter.mp h).1
theorem rch_trans {ns : List Str} {rs : List Row} (R : RowsIn ns rs) {s y : Str} (hs : s ∈ ns) (h : y ∈ rch ns rs s) : ∀ z ∈ rch ns rs y, z ∈ rch ns rs s := rch_least R (rch_in h) h (rch_step R hs)
def compOf (ns : List Str) (rs : List Row) (s : Str) : List Str := (rch ns rs s).filter fun o => decide (s ∈ rch ns rs o)
theorem comp_mem {ns : List Str} {rs : List Row} {s y : Str} : y ∈ compOf ns rs s ↔ y ∈ rch ns rs s ∧ s ∈ rch ns rs y := by
  unfold compOf
  rw [List.mem_filter, decide_eq_true_eq]
theorem comp_self {ns : List Str} {rs : List Row} (R : RowsIn ns rs) {s : Str} (hs : s ∈ ns) : s ∈ compOf ns rs s := comp_mem.mpr ⟨rch_self R hs, rch_self R hs⟩
theorem comp_asc {ns : List Str} {rs : List Row} (asc : ns.Pairwise lts) (s : Str) : (compOf ns rs s).Pairwise lts := (rch_asc asc s).sublist List.filter_sublist
theorem comp_in {ns : List Str} {rs : List Row} {s y : Str} (h : y ∈ compOf ns rs s) : y ∈ ns := rch_in (comp_mem.mp h).1
/-- the states in their order, those of a component -/
theorem comp_ns {ns : List Str} {rs : List Row} (s : Str) : compOf ns rs s = ns.filter fun o => decide (o ∈ rch ns rs s) && decide (s ∈ rch ns rs o) := by
  unfold compOf
  conv => lhs; arg 2; unfold rch
  rw [List.filter_filter]
  refine List.filter_congr fun x hx => ?_
  have e : decide (x ∈ rch ns rs s) = decide (x ∈ lay rs 8 s) := by
    have : x ∈ rch ns rs s ↔ x ∈ lay rs 8 s := ⟨fun m => of_decide_eq_true (List.mem_filter.mp m).2, fun m => List.mem_filter.mpr ⟨hx, decide_eq_true m⟩⟩
    by_cases z : x ∈ lay rs 8 s
    · rw [decide_eq_true z, decide_eq_true (this.mpr z)]
    · rw [decide_eq_false z, decide_eq_false fun m => z (this.mp m)]
  rw [e, Bool.and_comm]
theorem comp_eq {ns : List Str} {rs : List Row} (R : RowsIn ns rs) {s h : Str} (hs : s ∈ ns) (m : h ∈ compOf ns rs s) : compOf ns rs h = compOf ns rs s := by
  obtain ⟨m1, m2⟩ := comp_mem.mp m
  have hh := rch_in m1
  rw [comp_ns, comp_ns]
  refine List.filter_congr fun x hx => ?_
  have a : x ∈ rch ns rs h ↔ x ∈ rch ns rs s := ⟨rch_trans R hs m1 x, rch_trans R hh m2 x⟩
  have b : h ∈ rch ns rs x ↔ s ∈ rch ns rs x := ⟨fun q => rch_trans R hx q s m2, fun q => rch_trans R hx q h m1⟩
  by_cases c1 : x ∈ rch ns rs s <;> by_cases c2 : s ∈ rch ns rs x <;> simp [a, b, c1, c2]
theorem head_le {xs : List Str} (asc : xs.Pairwise lts) {h s : Str} (hh : xs.head? = some h) (hs : s ∈ xs) : h = s ∨ lts h s := by
  cases xs with
  | nil => cases hh
  | cons x xs =>
    cases hh
    rw [List.pairwise_cons] at asc
    rcases List.mem_cons.mp hs with rfl | m
    · exact .inl rfl
    · exact .inr (asc.1 _ m)
/-- a row lies within -/
def insideP (rs : List Row) (c : List Str) : Bool := rs.any fun r => decide (r.s ∈ c ∧ r.t ∈ c)
/-- the state is its component's first, and a row lies within -/
def isFirst (ns : List Str) (rs : List Row) (s : Str) : Bool := decide ((compOf ns rs s).head? = some s) && insideP rs (compOf ns rs s)
def comps (ns : List Str) (rs : List Row) (xs : List Str) : List (List Str) := (xs.filter (isFirst ns rs)).map (compOf ns rs)
/-- a component of earlier states is met again just where the state is not the first -/
theorem comps_mem {ns : List Str} {rs : List Row} (R : RowsIn ns rs) (asc : ns.Pairwise lts) {i : Nat} {s : Str} (hi : ns[i]? = some s) (ins : insideP rs (compOf ns rs s) = true) : compOf ns rs s ∈ comps ns rs (ns.take i) ↔ (compOf ns rs s).head? ≠ some s := by
  have hs := List.mem_of_getElem? hi
  have split : ns = ns.take i ++ s :: ns.drop (i + 1) := by
    have e := (List.take_append_drop i ns).symm
    have d : ns.drop i = s :: ns.drop (i + 1) := by
      rw [List.drop_eq_getElem?_toList_append, hi]
      rfl
    rw [d] at e
    exact e
  have asc2 := asc
  rw [split] at asc2
  obtain ⟨_, a2, a3⟩ := List.pairwise_append.mp asc2
  rw [List.pairwise_cons] at a2
  constructor
  · intro m e
    obtain ⟨s', hs', es'⟩ := List.mem_map.mp m
    obtain ⟨m1, m2⟩ := List.mem_filter.mp hs'
    unfold isFirst at m2
    rw [Bool.and_eq_true, decide_eq_true_eq, es', e] at m2
    have : s = s' := Option.some.inj m2.1
    rw [← this] at m1
    exact lts_asymm (a3 s m1 s List.mem_cons_self) (a3 s m1 s List.mem_cons_self)
  · intro ne
    obtain ⟨h, hh⟩ : ∃ h, (compOf ns rs s).head? = some h := by
      cases e : compOf ns rs s with
      | nil => have := comp_self R hs; rw [e] at this; cases this
      | cons x xs => exact ⟨x, rfl⟩
    have mh : h ∈ compOf ns rs s := List.mem_of_mem_head? hh
    have lt : lts h s := by
      rcases head_le (comp_asc asc s) hh (comp_self R hs) with e | e
      · exact absurd (by rw [hh, e]) ne
      · exact e
    have ce := comp_eq R hs mh
    have mt : h ∈ ns.take i := by
      have mn := comp_in mh
      rw [split] at mn
      rcases List.mem_append.mp mn with q | q
      · exact q
      · rcases List.mem_cons.mp q with q | q
        · exact absurd lt (fun l => by rw [q] at l; exact lts_asymm l l)
        · exact absurd (a2.1 h q) (lts_asymm lt)
    refine List.mem_map.mpr ⟨h, List.mem_filter.mpr ⟨mt, ?_⟩, ce⟩
    unfold isFirst
    rw [ce, hh, ins, decide_eq_true rfl]
    rfl
/-- a component as data -/
def compD (c : List Str) : PyData := .tuple (c.map PyData.str)
theorem comps_sorted {ns : List Str} {rs : List Row} : ∀ {xs : List Str}, xs.Pairwise lts → ((comps ns rs xs).map compD).Pairwise fun a b => dataLt b a = false
  | [], _ => .nil
  | x :: xs, asc => by
    rw [List.pairwise_cons] at asc
    have ih := comps_sorted (ns := ns) (rs := rs) asc.2
    unfold comps at ih ⊢
    rw [List.filter_cons]
    by_cases f : isFirst ns rs x = true
    · rw [if_pos f, List.map_cons, List.map_cons, List.pairwise_cons]
      refine ⟨fun d hd => ?_, ih⟩
      obtain ⟨c, hc, rfl⟩ := List.mem_map.mp hd
      obtain ⟨y, hy, rfl⟩ := List.mem_map.mp hc
      obtain ⟨y1, y2⟩ := List.mem_filter.mp hy
      have lt := asc.1 y y1
      unfold isFirst at f y2
      rw [Bool.and_eq_true, decide_eq_true_eq] at f y2
      obtain ⟨t1, e1⟩ : ∃ t, compOf ns rs x = x :: t := by
        cases e : compOf ns rs x with
        | nil => rw [e] at f; cases f.1
        | cons z zs => rw [e] at f; cases f.1; exact ⟨zs, rfl⟩
      obtain ⟨t2, e2⟩ : ∃ t, compOf ns rs y = y :: t := by
        cases e : compOf ns rs y with
        | nil => rw [e] at y2; cases y2.1
        | cons z zs => rw [e] at y2; cases y2.1; exact ⟨zs, rfl⟩
      rw [e1, e2]
      show dataLt (.tuple (PyData.str y :: t2.map PyData.str)) (.tuple (PyData.str x :: t1.map PyData.str)) = false
      rw [dataLt_tuple, dataLt_cons (by simp [alike])]
      have ne : PyData.eqv (.str y) (.str x) = false := by
        have : y ≠ x := fun z => by rw [z] at lt; exact lts_asymm lt lt
        simpa [PyData.eqv] using this
      rw [ne, if_neg Bool.false_ne_true, dataLt_str]
      exact decide_eq_false fun q => lts_asymm lt q
    · rw [if_neg f]
      exact ih
end Qp

/-! the law's own components -/
namespace Qp
open PySem PySem.Spec PyProof.Rows L2 QN
abbrev sLCo : Stmt := top 51 -- _law_components
abbrev lcoN : List Str := ["_law_plain", "_law_names", "_law_rows", "_law_found", "_law_node", "_law_piece", "_law_inside", "_law_row", "_law_other"]
theorem scLCo : FnScope lcoN ["_law_plain", "_law_names"] (defScope sLCo) := ⟨rfl, rfl, rfl, by decide +kernel, rfl, by decide +kernel, by decide +kernel⟩
/-- [x for x in a list if keep], where the test lays new things -/
theorem lc_keepV {K : PySem.W.Frag} {a : Addr} {xs : List V} {keep : V → Bool} {j : Nat} {tt : TT} {vs : List Nat} {σ : L2.St} {H1 : Hp} {D : Addr} {Qd : Hp → Prop} (hD : H1 D = none) (hq : SqL K H1 a xs) (few : xs.length ≤ 1000) (hw : ∀ v, wipe ((wipe σ vs).set j (some v)) vs = wipe σ vs) (hv : ∀ v, ((wipe σ vs).set j (some v))[j]? = some (some v))
    (hs : ∀ x ∈ xs, ∀ (H' : Hp) (R : Bool → Hp → Prop), Same H1 H' → (∀ H3, Same H' H3 → R (keep x) H3) → tt ((wipe σ vs).set j (some x)) H' R) (hd : ∀ H', Same H1 H' → H' D = some (.lst (xs.filter keep)) → Qd H') :
    ∃ W : Nat → Nat → Hp → Prop, (∃ m, W 0 m (upd H1 D (.lst []))) ∧ ∀ i m H, W i m H → ((Itl K a).stop i H ∧ Qd H) ∨ ((Itl K a).go i H ∧ ∃ Nx : Hp → Prop, (∀ H', Nx H' → ∃ m', m' < m ∧ W (i + 1) m' H') ∧ ∀ x H', (Itl K a).yld i H x H' → gName j x (wipe σ vs) H' fun σ2 H2 => wipe σ2 vs = wipe σ vs ∧ tt σ2 H2 fun b H3 =>
        if b = true then tVar j σ2 H3 fun y H4 => ∃ acc, H4 D = some (.lst acc) ∧ acc.length < sizeLine ∧ Nx (upd H4 D (.lst (acc ++ [y]))) else Nx H3) := by
  refine lc_list (xs := xs) (fun i H' => Same H1 H' ∧ H' D = some (.lst ((xs.take i).filter keep))) ⟨same_new hD, upd_same⟩ (fun i H' _ p => sqL_sameP p.1 hq) (fun i x H' hx p => ⟨hw x, ?_⟩) fun H' p => ?_
  · obtain ⟨sm, e⟩ := p
    have tk : xs.take (i + 1) = xs.take i ++ [x] := by
      rw [List.take_add_one, hx]
      rfl
    refine hs x (List.mem_of_getElem? hx) H' _ sm fun H3 s3 => ?_
    by_cases kx : keep x = true
    · refine if_yes kx ⟨x, hv x, _, s3 _ _ e, ?_, same_upd' (sm.trans s3) hD, ?_⟩
      · rw [sizeLine_eq]
        have := List.length_filter_le keep (xs.take i)
        have : (xs.take i).length ≤ xs.length := by rw [List.length_take]; exact Nat.min_le_right _ _
        omega
      · rw [upd_same, tk, List.filter_append, List.filter_cons_of_pos kx]
        rfl
    · refine if_no kx ⟨sm.trans s3, ?_⟩
      rw [tk, List.filter_append, List.filter_cons_of_neg kx, List.filter_nil, List.append_nil]
      exact s3 _ _ e
  · obtain ⟨sm, e⟩ := p
    rw [List.take_length] at e
    exact hd H' sm e
/-- tuples of texts -/
def CompsAt (K : PySem.W.Frag) (H : Hp) (us : List V) (cs : List (List Str)) : Prop := Paired (fun u c => ∃ q, u = V.ref q ∧ SqT K H q (c.map V.str)) us cs
theorem compsAt_same {K : PySem.W.Frag} {H H' : Hp} (s : Same H H') {us : List V} {cs : List (List Str)} (h : CompsAt K H us cs) : CompsAt K H' us cs := Paired.mapP h fun _ _ ⟨q, e, t⟩ => ⟨q, e, sqT_same s t⟩
theorem compsAt_dp {K : PySem.W.Frag} {H : Hp} : ∀ {us : List V} {cs : List (List Str)}, CompsAt K H us cs → DpAll K H us (cs.map compD)
  | _, _, .nil => .nil
  | _, _, .cons ⟨q, e, h⟩ r => by
    subst e
    exact .cons (.tup h (strs_dp _)) (compsAt_dp r)
theorem alike_strs : ∀ xs ys : List Str, PySem.W.alikeAll (xs.map PyData.str) (ys.map PyData.str) = true
  | [], _ => by simp [PySem.W.alikeAll]
  | _ :: _, [] => by simp [PySem.W.alikeAll]
  | x :: xs, y :: ys => by
    show PySem.W.alikeAll (.str x :: xs.map PyData.str) (.str y :: ys.map PyData.str) = true
    rw [PySem.W.alikeAll, alike_strs xs ys]
    simp [PySem.W.alike]
theorem eqv_comp (a b : List Str) : PyData.eqv (compD a) (compD b) = decide (a = b) := eqv_strs a b
theorem any_comp (cs : List (List Str)) (c : List Str) : ((cs.map compD).any fun z => PyData.eqv z (compD c)) = decide (c ∈ cs) := by
  rw [List.any_map]
  induction cs with
  | nil => rfl
  | cons a cs ih =>
    rw [List.any_cons, ih]
    show (PyData.eqv (compD a) (compD c) || decide (c ∈ cs)) = _
    rw [eqv_comp]
    by_cases e : a = c
    · simp [e]
    · have : c ≠ a := fun z => e z.symm
      simp [e, this]
theorem shaped_comps {cs : List (List Str)} (h : ∀ c ∈ cs, ∀ x ∈ c, NameOk x) : PyData.canLayAll0 (cs.map compD) = true ∧ PyData.depthAll (cs.map compD) ≤ 1 := by
  induction cs with
  | nil => exact ⟨rfl, Nat.zero_le _⟩
  | cons c cs ih =>
    obtain ⟨a, b⟩ := ih fun d hd => h d (List.mem_cons_of_mem _ hd)
    refine ⟨?_, ?_⟩
    · show (PyData.canLayAll0 (c.map PyData.str) && PyData.canLayAll0 (cs.map compD)) = true
      rw [lay_strs c (h c List.mem_cons_self), a]
      rfl
    · show max (PyData.depthAll (c.map PyData.str) + 1) (PyData.depthAll (cs.map compD)) ≤ 1
      rw [depth_strs]
      omega
theorem shaped_list {ds : List PyData} (a : PyData.canLayAll0 ds = true) (b : PyData.depthAll ds ≤ 60) : SeqAt.shaped (.list ds) = true := by
  show (PyData.canLayAll0 ds && decide (PyData.depthAll ds + 1 ≤ 64)) = true
  rw [a, decide_eq_true (by omega)]
  rfl
/-- the rows of these names -/
def rowsOf (G : Gr) (xs : List Str) : List Row := G.rs.filter fun r => decide (r.n ∈ xs)
def spLCo (K : PySem.W.Frag) : Sp := fun vs H Q _ => ∃ (pl a b v nl : Addr) (us : List V) (G : Gr) (xs : List Str), vs = [.ref pl, .ref nl] ∧ PlainG K H pl a b v us G ∧ SqL K H nl (xs.map V.str) ∧ G.Ok ∧ RowsIn G.ns G.rs ∧
  ∀ (p : Addr) (ws : List V) (H' : Hp), Same H H' → SqT K H' p ws → CompsAt K H' ws (comps G.ns (rowsOf G xs) G.ns) → Q (.ref p) H'
section
variable {P : Program} {w : World} {K : PySem.W.Frag} {mg : Str → Option Value} {base : Heap}
theorem ok_lco {f fR : Addr} {fd fdR : FuncData} (F : Fun K "_law_components" "_law_components" sLCo f fd) (GR : FnOk P w K mg base CX0 1 fR fdR ["_law_rows", "_law_node"] (spLRe K)) (kR : PySem.W.keepIn K (.ref fR) = true) (bR : L2.Binds K fdR ["_law_rows", "_law_node"] []) (gR : mg "_law_reached" = some (.ref fR)) (B : BltP mg) (so : mg "sorted" = none) : FnOk P w K mg base CX0 2 f fd ["_law_plain", "_law_names"] (spLCo K) := by
  refine F.ok scLCo (fun vs H Q E h => ?_) (fun cdv A outer s H vs Q E hr h => ?_)
  · obtain ⟨pl, a, b, v, nl, us, G, xs, rfl, _⟩ := h
    rfl
  · obtain ⟨pl, a, b, v, nl, us, G, xs, rfl, pg, hn, ok, RI, fin⟩ := h
    have hu65 : (A.deeper (envOfC "_law_components" (defScope sLCo) s.heap.objs.size f cdv)).units + 65 < cLine := by
      have := hr.un
      omega
    have hu64 : (A.deeper (envOfC "_law_components" (defScope sLCo) s.heap.objs.size f cdv)).units + 64 < cLine := by omega
    refine ⟨_, pss_cons (ps_asg (pe_tup (pa_cons (pe_lc (own := [("_law_row", 7)]) (g := gName 7) (tt := tTest (tOp (rIn K false) (tOp (rIxT K) (tVar 7) (tC (.int 0))) (tVar 1))) (te := tVar 7) rfl scLCo.nd (pi_tup (pe_ix (r := rIxT K) ix_tup (pv 0) pe_int (fun _ _ => rfl))) (blkOk_by (N := lcoN) (sc := defScope sLCo) (by decide +kernel))
          (fun _ _ _ _ _ => pg_name (i := 7) scLCo.nd rfl (.inl rfl)) (fun _ _ _ _ _ => pts_one (pt_cmpR op_in_seq (pe_ix ix_tup (pv 7) pe_int (fun _ _ => rfl)) (pv 1) (by rfl))) (fun _ _ _ _ _ => pv 7)) (pa_cons (pe_lst pa_nil) pa_nil))) (pg_tup (by rfl) (pgs_cons (pg_name (i := 2) scLCo.nd rfl (.inr rfl)) (pgs_cons (pg_name (i := 3) scLCo.nd rfl (.inl rfl)) pgs_nil))))
      (pss_cons (ps_for PassesOwn.never rfl (pi_tup (pe_ix (r := rIxT K) ix_tup (pv 0) pe_int (fun _ _ => rfl))) (pg_name (i := 4) scLCo.nd rfl (.inr rfl))
        (pss_cons (ps_set (i := 5) scLCo.nd rfl (.inr rfl) (pe_callTy call_tuple_of (by rfl) B.tuple (by decide +kernel) (pa_cons (pe_lc (own := [("_law_other", 8)]) (g := gName 8) (tt := tTest (tOp (rIn K false) (tVar 4) (tCall (spLRe K) [] L2.E0 (tCons (tVar 2) (tCons (tVar 8) tNil))))) (te := tVar 8) rfl scLCo.nd (pi_list (pe_call GR hr (by rfl) gR kR bR .nil pass0 (pa_cons (pv 2) (pa_cons (pv 4) pa_nil)))) (blkOk_by (N := lcoN) (sc := defScope sLCo) (by decide +kernel))
            (fun _ _ _ _ _ => pg_name (i := 8) scLCo.nd rfl (.inl rfl)) (fun _ _ _ _ _ => pts_one (pt_cmpR op_in_seq (pv 4) (pe_call GR hr (by rfl) gR kR bR .nil pass0 (pa_cons (pv 2) (pa_cons (pv 8) pa_nil))) (by rfl))) (fun _ _ _ _ _ => pv 8)) pa_nil)))
        (pss_cons (ps_setLc (i := 6) (own := [("_law_row", 7)]) (g := gName 7) (tt := tAnd (tTest (tOp (rIn K false) (tOp (rIxT K) (tVar 7) (tC (.int 1))) (tVar 5))) (tTest (tOp (rIn K false) (tOp (rIxT K) (tVar 7) (tC (.int 2))) (tVar 5)))) (te := tVar 7) rfl scLCo.nd rfl rfl (sw_true rfl rfl rfl (by decide +kernel)) (pi_list (pv 2)) (blkOk_by (N := lcoN) (sc := defScope sLCo) (by decide +kernel))
            (fun _ _ _ _ _ => pg_name (i := 7) scLCo.nd rfl (.inl rfl)) (fun _ _ _ _ _ => pts_one (PW.pt (pw_and (pt_cmpR op_in_seq (pe_ix ix_tup (pv 7) pe_int (fun _ _ => rfl)) (pv 5) (by rfl)) (pw_and1 (pt_cmpR op_in_seq (pe_ix ix_tup (pv 7) pe_int (fun _ _ => rfl)) (pv 5) (by rfl)))))) (fun _ _ _ _ _ => pv 7))
        (pss_one (ps_if (PW.pt (pw_and (pt_cmpR (op_neD hu64) (pv 6) (pe_lst pa_nil) (nomark _)) (pw_and1 (pt_cmpR (op_notInD hu65) (pv 5) (pv 3) (by rfl))))) (pss_one (ps_expr (pe_bm PySem.F.plainAttrs_list PySem.F.slot_list_append PySem.F.type_list_append mt_append (pv 3) (pa_cons (pv 5) pa_nil)))) pss_nil)))))
      (pss_one (ps_ret (pe_callTy call_tuple_of (by rfl) B.tuple (by decide +kernel) (pa_cons (pe_callB (r := rSortedDt K) (cr_sortedDt hu64) (by rfl) so (by decide +kernel) (pa_cons (pv 3) pa_nil)) pa_nil))))), ?_⟩
    have rl := ok.rl
    have nl8 := ok.nl
    have ul := pg.hu.length
    have asc := ok.na
    have z1 : (us.zip G.rs).map (·.1) = us := fst_zip ul
    have RI' : RowsIn G.ns (rowsOf G xs) := ⟨fun r hr => RI.s r (List.mem_filter.mp hr).1, fun r hr => RI.t r (List.mem_filter.mp hr).1, RI.nl⟩
    have rl' : (rowsOf G xs).length ≤ 16 := Nat.le_trans (List.length_filter_le _ _) rl
    obtain ⟨zs, ez⟩ : ∃ zs, zs = (us.zip G.rs).filter fun z => decide (z.2.n ∈ xs) := ⟨_, rfl⟩
    have zr : zs.map (·.2) = rowsOf G xs := by
      rw [ez]
      unfold rowsOf
      have e : G.rs = (us.zip G.rs).map (·.2) := (snd_zip ul).symm
      conv => rhs; rw [e, List.filter_map]
      rfl
    have zl : zs.length ≤ 16 := by
      have e : zs.length = (rowsOf G xs).length := by rw [← zr, List.length_map]
      omega
    have zp : ∀ {H' : Hp}, Same H H' → Paired (PlRow K H') (zs.map (·.1)) (rowsOf G xs) := fun {H'} sm => by
      have all : ∀ z ∈ zs, PlRow K H' z.1 z.2 := fun z hz => by
        rw [ez] at hz
        exact plRow_sim (Sim.of sm) (rows_zip pg.hu z (List.mem_filter.mp hz).1)
      rw [← zr]
      clear zr ez zl
      induction zs with
      | nil => exact .nil
      | cons z zs ih => exact .cons (all z List.mem_cons_self) (ih fun q hq => all q (List.mem_cons_of_mem _ hq))
    -- the rows
    refine ⟨_, rfl, pl, _, 2, .ref v, rfl, rfl, pg.hp, rfl, v, rfl, ⟨_, pg.hv⟩, fun D hD => ?_⟩
    refine lc_keepT (zs := us.zip G.rs) (keep := fun r => decide (r.n ∈ xs)) (val := fun z => z.1) hD (by rw [z1]; exact pg.hv) (by rw [List.length_zip]; omega) (fun _ => rfl) (fun z hz H' R Fq sm kt kf => ?_) fun H1 s1 e1 => ?_
    · obtain ⟨ra, rc, ys, eu, h1, h2, h3⟩ := rows_zip pg.hu z hz
      refine ⟨_, rfl, ra, _, 0, .str z.2.n, eu, rfl, sqT_same sm h1, rfl, _, rfl, nl, _, rfl, .inl (sqL_sameP sm hn), rfl, flat_strs _, ?_⟩
      rw [if_neg (by decide), in_strs_iff]
      refine ⟨_, rfl, ?_⟩
      by_cases m : z.2.n ∈ xs
      · exact if_yes (by simpa using m) ⟨_, rfl, kt (decide_eq_true m)⟩
      · exact if_no (by simpa using m) (kf (decide_eq_false m))
    rw [← ez] at e1
    refine ⟨(by show 0 ≤ sizeLine; decide), fun FF hF => ⟨(by show 2 ≤ sizeLine; decide), fun t ht => ?_⟩⟩
    have sF := same_new (o := .lst []) hF
    have st := same_new (o := .tup [.ref D, .ref FF]) ht
    refine ⟨t, _, rfl, .inl (.inl upd_same), rfl, _, _, rfl, _, _, rfl, rfl, ?_⟩
    have eF := st _ _ (upd_same : (upd H1 FF (.lst [])) FF = _)
    have eD := st _ _ (sF _ _ e1)
    have s2 := s1.trans (sF.trans st)
    have nFD : FF ≠ D := fun z => by rw [z, e1] at hF; cases hF
    have HF : H FF = none := by
      cases e : H FF with
      | none => rfl
      | some o => rw [s1 _ _ e] at hF; cases hF
    generalize upd (upd H1 FF (.lst [])) t (.tup [.ref D, .ref FF]) = H2 at eF eD s2
    clear sF st ht hF e1 s1 hD
    refine ⟨_, rfl, pl, _, 1, .ref b, rfl, rfl, sqT_same s2 pg.hp, rfl, b, rfl, ⟨_, sqT_same s2 pg.hb⟩, ?_⟩
    refine for_tup (xs := G.ns.map V.str) (fun i σ H' => ∃ (y4 y5 y6 : Option V) (ws : List V), σ = [some (.ref pl), some (.ref nl), some (.ref D), some (.ref FF), y4, y5, y6, none, none] ∧ Same H H' ∧ H' D = some (.lst (zs.map (·.1))) ∧ H' FF = some (.lst ws) ∧ CompsAt K H' ws (comps G.ns (rowsOf G xs) (G.ns.take i))) ⟨none, none, none, [], rfl, s2, eD, eF, .nil⟩ (fun i σ H' _ p => ?_) (fun i u σ H' hu p => ?_) fun σ H' p => ?_
    · obtain ⟨y4, y5, y6, ws, rfl, sm, _⟩ := p
      exact sqT_same sm pg.hb
    · obtain ⟨y4, y5, y6, ws, rfl, sm, eD, eF, hw⟩ := p
      rw [List.getElem?_map] at hu
      cases hx : G.ns[i]? with
      | none => rw [hx] at hu; cases hu
      | some s0 =>
        rw [hx] at hu
        cases (Option.some.inj hu : V.str s0 = u)
        have hs0 := List.mem_of_getElem? hx
        have tk : G.ns.take (i + 1) = G.ns.take i ++ [s0] := by
          rw [List.take_add_one, hx]
          rfl
        refine ⟨_, rfl, _, rfl, D, _, rowsOf G xs, G.ns, s0, rfl, .inl (.inl eD), zp sm, rl', RI', asc, hs0, fun q H3 hq s3 e3 => ⟨q, rfl, ⟨_, .inl (.inl e3)⟩, fun D2 hD2 => ?_⟩⟩
        have rc8 : (rch G.ns (rowsOf G xs) s0).length ≤ 8 := Nat.le_trans (List.length_filter_le _ _) nl8
        refine lc_keepV (keep := fun x => match x with | .str o => decide (s0 ∈ rch G.ns (rowsOf G xs) o) | _ => false) hD2 (.inl (.inl e3)) (by rw [List.length_map]; omega) (fun _ => rfl) (fun _ => rfl) (fun x hx2 H4 R s4 k => ?_) fun H4 s4 e4 => ?_
        · obtain ⟨o, ho, rfl⟩ := List.mem_map.mp hx2
          have sm4 := sm.trans (s3.trans s4)
          refine ⟨_, rfl, _, rfl, _, rfl, D, _, rowsOf G xs, G.ns, o, rfl, .inl (.inl (s4 _ _ (s3 _ _ eD))), zp sm4, rl', RI', asc, rch_in ho, fun q2 H5 hq2 s5 e5 => ⟨q2, _, rfl, .inl (.inl (.inl e5)), rfl, flat_strs _, ?_⟩⟩
          rw [if_neg (by decide), in_strs_iff]
          exact ⟨_, rfl, k H5 s5⟩
        · have ec : ((rch G.ns (rowsOf G xs) s0).map V.str).filter (fun x => match x with | .str o => decide (s0 ∈ rch G.ns (rowsOf G xs) o) | _ => false) = (compOf G.ns (rowsOf G xs) s0).map V.str := by
            rw [List.filter_map]
            rfl
          rw [ec] at e4
          refine ⟨D2, _, rfl, .inl ⟨.inl (.inl e4), fun l hl => ?_⟩⟩
          have sl := same_new (o := .tup ((compOf G.ns (rowsOf G xs) s0).map V.str)) hl
          have el : SqT K (upd H4 l (.tup ((compOf G.ns (rowsOf G xs) s0).map V.str))) l ((compOf G.ns (rowsOf G xs) s0).map V.str) := .inl (.inl upd_same)
          have s35 := s3.trans (s4.trans sl)
          generalize upd H4 l (.tup ((compOf G.ns (rowsOf G xs) s0).map V.str)) = H5 at el s35
          clear sl hl e4 hD2 e3 hq s4 s3
          have sm5 := sm.trans s35
          have eD5 := s35 _ _ eD
          have eF5 := s35 _ _ eF
          have hw5 := compsAt_same s35 hw
          have cin : ∀ z ∈ compOf G.ns (rowsOf G xs) s0, NameOk z := fun z hz => ok.nn z (comp_in hz)
          refine ⟨_, rfl, D, rfl, ⟨_, .inl (.inl eD5)⟩, fun I hI => ?_⟩
          refine lc_keepL (zs := zs) (keep := fun r => decide (r.s ∈ compOf G.ns (rowsOf G xs) s0 ∧ r.t ∈ compOf G.ns (rowsOf G xs) s0)) (val := fun z => z.1) hI (.inl (.inl eD5)) (by omega) (fun _ => rfl) (fun z hz H6 R Fq s6 kt kf => ?_) fun H6 s6 e6 => ?_
          · have hz' := hz
            rw [ez] at hz'
            obtain ⟨ra, rc, ys, eu, h1, h2, h3⟩ := rows_zip pg.hu z (List.mem_filter.mp hz').1
            have h1' := sqT_same (sm5.trans s6) h1
            have el6 := sqT_same s6 el
            refine ⟨_, rfl, ra, _, 1, .str z.2.s, eu, rfl, h1', rfl, _, rfl, l, _, rfl, .inr el6, rfl, flat_strs _, ?_⟩
            rw [if_neg (by decide), in_strs_iff]
            refine ⟨_, rfl, ?_⟩
            by_cases a1 : z.2.s ∈ compOf G.ns (rowsOf G xs) s0
            · refine if_yes (by simpa using a1) ⟨_, rfl, ra, _, 2, .str z.2.t, eu, rfl, h1', rfl, _, rfl, l, _, rfl, .inr el6, rfl, flat_strs _, ?_⟩
              rw [if_neg (by decide), in_strs_iff]
              refine ⟨_, rfl, ?_⟩
              by_cases a2 : z.2.t ∈ compOf G.ns (rowsOf G xs) s0
              · exact if_yes (by simpa using a2) ⟨_, rfl, kt (decide_eq_true ⟨a1, a2⟩)⟩
              · exact if_no (by simpa using a2) (kf (decide_eq_false fun q => a2 q.2))
            · exact if_no (by simpa using a1) (if_no (by decide) (kf (decide_eq_false fun q => a1 q.1)))
          · obtain ⟨ins, ei⟩ : ∃ ins, ins = zs.filter fun z => decide (z.2.s ∈ compOf G.ns (rowsOf G xs) s0 ∧ z.2.t ∈ compOf G.ns (rowsOf G xs) s0) := ⟨_, rfl⟩
            rw [← ei] at e6
            have sm6 := sm5.trans s6
            have ip : ∀ z ∈ ins, PlRow K H6 z.1 z.2 ∧ z.2 ∈ G.rs := fun z hz => by
              rw [ei] at hz
              have hz := (List.mem_filter.mp hz).1
              rw [ez] at hz
              have hz := (List.mem_filter.mp hz).1
              exact ⟨plRow_sim (Sim.of sm6) (rows_zip pg.hu z hz), (List.of_mem_zip hz).2⟩
            have idp : ∀ l : List (V × Row), (∀ z ∈ l, PlRow K H6 z.1 z.2) → DpAll K H6 (l.map (·.1)) ((l.map (·.2)).map rowD) := fun l => by
              induction l with
              | nil => exact fun _ => .nil
              | cons z l ih => exact fun h => .cons (plRow_dp (h z List.mem_cons_self)) (ih fun q hq => h q (List.mem_cons_of_mem _ hq))
            have inP : insideP (rowsOf G xs) (compOf G.ns (rowsOf G xs) s0) = !ins.isEmpty := by
              have ea : ∀ f : Row → Bool, (rowsOf G xs).any f = zs.any fun z => f z.2 := fun f => by
                rw [← zr, List.any_map]
                rfl
              unfold insideP
              rw [ea, ei]
              cases ef : zs.filter fun z => decide (z.2.s ∈ compOf G.ns (rowsOf G xs) s0 ∧ z.2.t ∈ compOf G.ns (rowsOf G xs) s0) with
              | nil =>
                rw [List.any_eq_false.mpr]
                · rfl
                · intro z hz q
                  have := List.filter_eq_nil_iff.mp ef z hz
                  exact this q
              | cons z l =>
                have hz : z ∈ zs.filter fun z => decide (z.2.s ∈ compOf G.ns (rowsOf G xs) s0 ∧ z.2.t ∈ compOf G.ns (rowsOf G xs) s0) := by rw [ef]; exact List.mem_cons_self
                obtain ⟨q1, q2⟩ := List.mem_filter.mp hz
                rw [List.any_eq_true.mpr ⟨z, q1, q2⟩]
                rfl
            have iok : ∀ r ∈ ins.map (·.2), RowOk r := fun r hr => by
              obtain ⟨z, hz, rfl⟩ := List.mem_map.mp hr
              exact ok.ro _ (ip z hz).2
            refine ⟨_, rfl, (by show 0 ≤ sizeLine; decide), fun em hem => ?_⟩
            have sE := same_new (o := .lst []) hem
            refine ⟨.list (List.map rowD (List.map (fun z : V × Row => z.2) ins)), .list [], dp_same sE _ _ (.lst (.inl (.inl e6)) (idp ins fun z hz => (ip z hz).1)), .lst (.inl (.inl upd_same)) .nil, shaped_list (lay_rows _ iok) (by have := depth_rows (ins.map (·.2)); omega), shaped_list rfl (Nat.zero_le _), ?_⟩
            have sm7 := sm6.trans sE
            have eF7 := sE _ _ (s6 _ _ eF5)
            have eD7 := sE _ _ (s6 _ _ eD5)
            have hw7 := compsAt_same (s6.trans sE) hw5
            have el7 := sqT_same (s6.trans sE) el
            generalize upd H6 em (.lst []) = H7 at sm7 eF7 eD7 hw7 el7
            have wl : ws.length ≤ 8 := by
              rw [hw7.length]
              unfold comps
              rw [List.length_map]
              have := List.length_filter_le (isFirst G.ns (rowsOf G xs)) (G.ns.take i)
              rw [List.length_take] at this
              omega
            refine ⟨_, rfl, ?_⟩
            have tkc : comps G.ns (rowsOf G xs) (G.ns.take (i + 1)) = comps G.ns (rowsOf G xs) (G.ns.take i) ++ (if isFirst G.ns (rowsOf G xs) s0 = true then [compOf G.ns (rowsOf G xs) s0] else []) := by
              rw [tk]
              unfold comps
              rw [List.filter_append, List.map_append]
              congr 1
              by_cases f : isFirst G.ns (rowsOf G xs) s0 = true
              · rw [List.filter_cons_of_pos f, if_pos f]
                rfl
              · rw [List.filter_cons_of_neg f, if_neg f]
                rfl
            cases eins : ins with
            | nil =>
              rw [eins] at inP
              have nf : isFirst G.ns (rowsOf G xs) s0 = false := by
                unfold isFirst
                rw [inP]
                simp
              rw [nf] at tkc
              refine if_no (by decide) (if_no (by decide) ⟨_, _, _, ws, rfl, sm7, eD7, eF7, ?_⟩)
              rw [tkc, if_neg (by decide), List.append_nil]
              exact hw7
            | cons z0 zt =>
              rw [eins] at inP
              have inP : insideP (rowsOf G xs) (compOf G.ns (rowsOf G xs) s0) = true := inP
              have cm := comps_mem RI' asc hx inP
              have sc := shaped_comps (cs := comps G.ns (rowsOf G xs) (G.ns.take i)) fun c hc x hxc => by
                obtain ⟨y, hy, rfl⟩ := List.mem_map.mp hc
                exact ok.nn x (comp_in hxc)
              refine if_yes (by rfl) ⟨_, rfl, _, rfl, compD (compOf G.ns (rowsOf G xs) s0), (comps G.ns (rowsOf G xs) (G.ns.take i)).map compD, .tup el7 (strs_dp _), .lst (.inl (.inl eF7)) (compsAt_dp hw7), shaped_strs cin, shaped_list sc.1 (by have := sc.2; omega), ?_⟩
              rw [any_comp]
              refine ⟨_, rfl, ?_⟩
              by_cases hm : compOf G.ns (rowsOf G xs) s0 ∈ comps G.ns (rowsOf G xs) (G.ns.take i)
              · have nf : isFirst G.ns (rowsOf G xs) s0 = false := by
                  unfold isFirst
                  rw [decide_eq_false (cm.mp hm)]
                  rfl
                rw [nf] at tkc
                refine if_no (by rw [decide_eq_true hm]; decide) ⟨_, _, _, ws, rfl, sm7, eD7, eF7, ?_⟩
                rw [tkc, if_neg (by decide), List.append_nil]
                exact hw7
              · have yf : isFirst G.ns (rowsOf G xs) s0 = true := by
                  unfold isFirst
                  rw [inP, decide_eq_true (by
                    by_cases q : (compOf G.ns (rowsOf G xs) s0).head? = some s0
                    · exact q
                    · exact absurd (cm.mpr q) hm)]
                  rfl
                rw [yf] at tkc
                refine if_yes (by rw [decide_eq_false hm]; rfl) ⟨_, rfl, .inl ⟨rfl, _, .inl (.inl eF7)⟩, _, rfl, FF, ws, _, rfl, rfl, eF7, by rw [sizeLine_eq]; omega, ?_⟩
                have up : ∀ {p : Addr} {ys : List V}, SqT K H7 p ys → SqT K (upd H7 FF (.lst (ws ++ [.ref l]))) p ys := fun h => sqT_upd eF7 (fun _ z => by cases z) (fun _ _ z => by cases z) h
                refine ⟨_, _, _, ws ++ [.ref l], rfl, same_upd' sm7 HF, by rw [upd_ne (Ne.symm nFD)]; exact eD7, upd_same, ?_⟩
                rw [tkc, if_pos rfl]
                exact paired_append (Paired.mapP hw7 fun _ _ ⟨q, e, h⟩ => ⟨q, e, up h⟩) ⟨l, rfl, up el7⟩
    · obtain ⟨y4, y5, y6, ws, rfl, sm, eD, eF, hw⟩ := p
      rw [List.length_map, List.take_of_length_le (Nat.le_refl _)] at hw
      refine ⟨_, rfl, ?_⟩
      have wl := hw.length
      have cl : (comps G.ns (rowsOf G xs) G.ns).length ≤ 8 := by
        unfold comps
        rw [List.length_map]
        have := List.length_filter_le (isFirst G.ns (rowsOf G xs)) G.ns
        omega
      have bz1 : (ws.zip ((comps G.ns (rowsOf G xs) G.ns).map compD)).map (·.1) = ws := fst_zip (by rw [List.length_map]; exact wl)
      have bz2 : (ws.zip ((comps G.ns (rowsOf G xs) G.ns).map compD)).map (·.2) = (comps G.ns (rowsOf G xs) G.ns).map compD := snd_zip (by rw [List.length_map]; exact wl)
      have hdp := compsAt_dp hw
      have srtb : PySem.W.Sortable ((comps G.ns (rowsOf G xs) G.ns).map compD) := .inl fun d hd => by
        obtain ⟨c, hc, rfl⟩ := List.mem_map.mp hd
        obtain ⟨y, hy, rfl⟩ := List.mem_map.mp hc
        have m := comp_self RI' (List.mem_filter.mp hy).1
        cases e : compOf G.ns (rowsOf G xs) y with
        | nil => rw [e] at m; cases m
        | cons z zt => exact ⟨.str z, zt.map PyData.str, rfl⟩
      refine ⟨FF, ws.zip ((comps G.ns (rowsOf G xs) G.ns).map compD), rfl, by rw [bz1]; exact .inl (.inl (.inl eF)), zip_dpAll hdp, by rw [bz2]; exact PySem.W.AllAlike.of fun a b => alike_strs a b, by rw [bz2]; exact srtb, fun p hp => ?_, fun p hp => ?_⟩
      · have m : p.2 ∈ (comps G.ns (rowsOf G xs) G.ns).map compD := by
          rw [← bz2]
          exact List.mem_map.mpr ⟨p, hp, rfl⟩
        obtain ⟨c, _, e⟩ := List.mem_map.mp m
        rw [← e]
        show PyData.depthAll (c.map PyData.str) + 1 ≤ 60
        rw [depth_strs]
        decide
      · have srt : (ws.zip ((comps G.ns (rowsOf G xs) G.ns).map compD)).mergeSort (PySem.W.dataLe false (·.2)) = ws.zip ((comps G.ns (rowsOf G xs) G.ns).map compD) := by
          refine List.mergeSort_of_pairwise ?_
          have z := comps_sorted (ns := G.ns) (rs := rowsOf G xs) asc
          rw [← bz2, List.pairwise_map] at z
          refine z.imp fun {a b} h => ?_
          show (!PySem.W.dataLt b.2 a.2) = true
          rw [h]
          rfl
        rw [srt, bz1]
        have sp := same_new (o := .lst ws) hp
        refine ⟨p, ws, rfl, .inl ⟨.inl (.inl upd_same), fun l hl => ?_⟩⟩
        have sl := same_new (o := .tup ws) hl
        exact fin l ws _ (sm.trans (sp.trans sl)) (.inl (.inl upd_same)) (compsAt_same (sp.trans sl) hw)
end
end Qp

/-! a way from a state to another -/
namespace Qp
open PySem PySem.Spec PyProof.Rows L2 QN
abbrev sDists : Stmt := top 38 -- _distances
abbrev sWay : Stmt := top 37 -- way
abbrev wayN : List Str := ["graph", "state", "other", "distances", "names", "nearer", "name"]
theorem scWay : FnScope wayN ["graph", "state", "other"] (defScope sWay) := ⟨rfl, rfl, rfl, by decide +kernel, rfl, by decide +kernel, by decide +kernel⟩
def spDists (K : PySem.W.Frag) (C PE : Addr) : Sp := fun vs H Q _ => ∃ (g : Addr) (o : Str) (G : Gr) (dd : Str → Nat), vs = [.ref g, .str o] ∧ GraphAt K C H g G ∧ G.Ok ∧ EndsIn G ∧ o ∈ G.ns ∧ DistTo G o dd ∧ (∀ s ∈ G.ns, dd s ≤ 8) ∧ GxR.TabG H PE ∧
  ∀ (d : Addr) (kvs : List (Key × V)) (H' : Hp), Sim H H' → H' d = some (.dK kvs) → (∀ s ∈ G.ns, valV kvs (Sum.inr s : Key) = some (.int (dd s))) → Q (.ref d) H'
def spWay (K : PySem.W.Frag) (C PL PE : Addr) : Sp := fun vs H Q _ => ∃ (g : Addr) (s o : Str) (G : Gr) (dd : Str → Nat), vs = [.ref g, .str s, .str o] ∧ GraphAt K C H g G ∧ G.Ok ∧ EndsIn G ∧ s ∈ G.ns ∧ o ∈ G.ns ∧ DistTo G o dd ∧ (∀ s ∈ G.ns, dd s ≤ 8) ∧ GxR.TabG H PL ∧ GxR.TabG H PE ∧
  ∀ (p : Addr) (H' : Hp), Sim H H' → SqT K H' p ((gway G.rs dd (dd s) s).map V.str) → Q (.ref p) H'
theorem sim_updF {H H1 H' : Hp} {D : Addr} {o : HO} (a : Sim H H1) (n : H1 D = none) (b : Sim H H') : Sim H (upd H' D o) :=
  ⟨fun c x nt e => by
    have ne : c ≠ D := fun z => by
      have q := a.st c x nt e
      rw [z, n] at q
      cases q
    rw [upd_ne ne]
    exact b.st c x nt e, fun c t => by
    have ne : c ≠ D := fun z => by
      obtain ⟨qs, e2, t2⟩ := a.tb c t
      rw [z, n] at e2
      cases e2
    obtain ⟨qs, e2, t2⟩ := b.tb c t
    exact ⟨qs, by rw [upd_ne ne]; exact e2, t2⟩⟩
/-- the rows out of a state that lead nearer -/
def nearer (rs : List Row) (dd : Str → Nat) (s : Str) : List Row := (rs.filter fun r => r.s == s).filter fun r => decide (dd r.t < dd s)
theorem nearer_find (rs : List Row) (dd : Str → Nat) (s : Str) : (nearer rs dd s).head? = rs.find? fun r => decide (r.s = s) && decide (dd r.t < dd s) := by
  unfold nearer
  rw [List.filter_filter, List.head?_filter]
  congr 1
  funext r
  rw [Bool.and_comm]
  rfl
section
variable {P : Program} {w : World} {K : PySem.W.Frag} {mg : Str → Option Value} {base : Heap}
theorem ok_way {f fK fS fD fL fG C PL PE : Addr} {fd fdK fdS fdD : FuncData} (F : Fun K "way" "way" sWay f fd) (T : GraphC K mg C) (GK : FnOk P w K mg base CX0 1 fK fdK ["graph"] (spChkG K C)) (kK : PySem.W.keepIn K (.ref fK) = true) (bK : L2.Binds K fdK ["graph"] []) (gK : mg "check_graph" = some (.ref fK))
    (GS : FnOk P w K mg base CX0 3 fS fdS ["graph", "state"] (spChkSt K C)) (kS : PySem.W.keepIn K (.ref fS) = true) (bS : L2.Binds K fdS ["graph", "state"] []) (gS : mg "check_state" = some (.ref fS))
    (GD : FnOk P w K mg base CX0 5 fD fdD ["graph", "other"] (spDists K C PE)) (kD : PySem.W.keepIn K (.ref fD) = true) (bD : L2.Binds K fdD ["graph", "other"] []) (gD : mg "_distances" = some (.ref fD))
    (ML : Meth K C "leaving" fL) (GL : FnR P w K mg base CX0 3 fL (spGEnd K C PL (·.s))) (MG : OMeth K C "__getitem__" fG) (iG : PySem.W.fnIn K fG = true) (GG : FnR P w K mg base CX0 2 fG (spGGet K C)) (B : BltP mg) : FnOk P w K mg base CX0 6 f fd ["graph", "state", "other"] (spWay K C PL PE) := by
  refine F.ok scWay (fun vs H Q E h => ?_) (fun cdv A outer s H vs Q E hr h => ?_)
  · obtain ⟨g, s, o, G, dd, rfl, _⟩ := h
    rfl
  · obtain ⟨g, s0, o, G, dd, rfl, hg, ok, ends, hs0, ho, DT, d8, tl, te, fin⟩ := h
    have hu1 : (A.deeper (envOfC "way" (defScope sWay) s.heap.objs.size f cdv)).units + 1 < cLine := by
      have := hr.un
      omega
    have r1 := hr.mono (by decide : 1 ≤ 5)
    have r3 := hr.mono (by decide : 3 ≤ 5)
    refine ⟨_, pss_cons (ps_expr (pe_call GK r1 (by rfl) gK kK bK .nil pass0 (pa_cons (pv 0) pa_nil)))
      (pss_cons (ps_expr (pe_call GS r3 (by rfl) gS kS bS .nil pass0 (pa_cons (pv 0) (pa_cons (pv 1) pa_nil))))
      (pss_cons (ps_expr (pe_call GS r3 (by rfl) gS kS bS .nil pass0 (pa_cons (pv 0) (pa_cons (pv 2) pa_nil))))
      (pss_cons (ps_set (i := 3) scWay.nd rfl (.inr rfl) (pe_call GD hr (by rfl) gD kD bD .nil pass0 (pa_cons (pv 0) (pa_cons (pv 2) pa_nil))))
      (pss_cons (ps_set (i := 4) scWay.nd rfl (.inl rfl) (pe_lst pa_nil))
      (pss_cons (ps_while PassesOwn.never (pt_cmpR op_ne (pv 1) (pv 2) (nomark _))
        (pss_cons (ps_setLc (i := 5) (own := [("name", 6)]) (g := gName 6) (tt := tTest (tOp (rI0 fun i j => V.bl (decide (i < j))) (tDGet (tVar 3) (tOp (rIxT K) (tItemO C (spGGet K C) L2.E0 (tVar 0) (tVar 6)) (tC (.int 2)))) (tDGet (tVar 3) (tVar 1)))) (te := tVar 6) rfl scWay.nd rfl rfl (sw_true rfl rfl rfl (by decide +kernel)) (pi_tup (pe_methR (pv 0) T.cls ML GL r3 pass0 (pa_cons (pv 1) pa_nil))) (blkOk_by (N := wayN) (sc := defScope sWay) (by decide +kernel))
          (fun _ _ _ _ _ => pg_name (i := 6) scWay.nd rfl (.inl rfl)) (fun _ _ _ _ _ => pts_one (pt_cmpR op_lt (pe_dget hu1 (pv 3) (pe_ix ix_tup (pe_itemO MG iG GG r3 pass0 (pv 0) (pv 6) (fun _ _ => rfl)) pe_int (fun _ _ => rfl)) (fun _ _ => rfl)) (pe_dget hu1 (pv 3) (pv 1) (fun _ _ => rfl)) (nomark _))) (fun _ _ _ _ _ => pv 6))
        (pss_cons (ps_expr (pe_bm PySem.F.plainAttrs_list PySem.F.slot_list_append PySem.F.type_list_append mt_append (pv 4) (pa_cons (pe_ix (r := rIxL K) ix_list (pv 5) pe_int (fun _ _ => rfl)) pa_nil)))
        (pss_one (ps_set (i := 1) scWay.nd rfl (.inr rfl) (pe_ix (r := rIxT K) ix_tup (pe_itemO MG iG GG r3 pass0 (pv 0) (pe_ix (r := rIxL K) ix_list (pv 5) pe_int (fun _ _ => rfl)) (fun _ _ => rfl)) pe_int (fun _ _ => rfl)))))))
      (pss_one (ps_ret (pe_callTy call_tuple_of (by rfl) B.tuple (by decide +kernel) (pa_cons (pv 4) pa_nil))))))))), ?_⟩
    refine ⟨_, rfl, g, G, rfl, hg, ⟨_, rfl, _, rfl, g, G, s0, rfl, hg, hs0, ⟨_, rfl, _, rfl, g, G, o, rfl, hg, ho, ⟨_, rfl, _, rfl, g, o, G, dd, rfl, hg, ok, ends, ho, DT, d8, te, fun d kvs H1 s1 ed dv => ⟨(by show 0 ≤ sizeLine; decide), fun FF hF => ?_⟩⟩⟩⟩⟩
    have sF := same_new (o := .lst []) hF
    have S0 := s1.trans (Sim.of sF)
    have e0 : (upd H1 FF (.lst [])) FF = some (.lst (([] : List Str).map V.str)) := upd_same
    have ed0 := sF _ _ ed
    generalize upd H1 FF (.lst []) = H0 at S0 e0 ed0
    have nFd : FF ≠ d := fun z => by rw [z, ed] at hF; cases hF
    refine ⟨fun m σ H' => ∃ (s : Str) (fs : List Str) (y5 : Option V), σ = [some (.ref g), some (.str s), some (.str o), some (.ref d), some (.ref FF), y5, none] ∧ s ∈ G.ns ∧ Sim H H' ∧ H' d = some (.dK kvs) ∧ H' FF = some (.lst (fs.map V.str)) ∧ fs ++ gway G.rs dd (dd s) s = gway G.rs dd (dd s0) s0 ∧ fs.length + dd s ≤ 8 ∧ m = dd s, ⟨_, s0, [], none, rfl, hs0, S0, ed0, e0, rfl, by have := d8 s0 hs0; show 0 + dd s0 ≤ 8; omega, rfl⟩, ?_⟩
    rintro m σ H' ⟨s, fs, y5, rfl, hs, sm, ed', eF, gw, l8, rfl⟩
    refine ⟨_, rfl, _, rfl, rfl, _, rfl, ?_⟩
    rw [dec_str]
    by_cases z : s = o
    · have d0 := (DT.zero hs).mpr z
      rw [d0] at gw
      have gw : fs ++ [] = gway G.rs dd (dd s0) s0 := gw
      rw [List.append_nil] at gw
      refine if_no (by simp [z]) ⟨_, rfl, FF, _, rfl, .inl ⟨.inl (.inl eF), fun l hl => ?_⟩⟩
      refine fin l _ (sm.trans (Sim.of (same_new hl))) (.inl (.inl ?_))
      rw [upd_same, gw]
    · have hg' := graphAt_sim sm hg
      obtain ⟨dx, f1, f2, f3, f4, f5, f6, us, i1, i2⟩ := id hg'
      refine if_yes (by simpa using z) ⟨fun σ' H2 => ∃ (s' : Str) (fs : List Str) (y5 : Option V), σ' = [some (.ref g), some (.str s'), some (.str o), some (.ref d), some (.ref FF), y5, none] ∧ s' ∈ G.ns ∧ Sim H H2 ∧ H2 d = some (.dK kvs) ∧ H2 FF = some (.lst (fs.map V.str)) ∧ fs ++ gway G.rs dd (dd s') s' = gway G.rs dd (dd s0) s0 ∧ fs.length + dd s' ≤ 8 ∧ dd s' < dd s, fun σ' H2 ⟨s', fs', y, q1, q2, q3, q4, q5, q6, q7, q8⟩ => ⟨dd s', q8, s', fs', y, q1, q2, q3, q4, q5, q6, q7, rfl⟩, ?_⟩
      refine ⟨_, rfl, g, dx, _, rfl, i1, rfl, _, rfl, g, G, s, rfl, hg', ok, hs, sm.tb _ tl, fun t H2 s2 et => ⟨t, rfl, ⟨_, et⟩, fun D hD => ?_⟩⟩
      have sm2 := sm.trans s2
      have ed2 := s2.st _ _ (nt_dK _) ed'
      have eF2 := s2.st _ _ (nt_lst _) eF
      have zf : ((G.rs.filter fun r => r.s == s).map fun r => (V.str r.n, r)).map (·.1) = ((G.rs.filter fun r => r.s == s).map (·.n)).map V.str := by
        rw [List.map_map, List.map_map]
        rfl
      have fl := List.length_filter_le (fun r : Row => r.s == s) G.rs
      have rl := ok.rl
      have dg : ∀ {H' : Hp} {x : Str}, H' d = some (.dK kvs) → x ∈ G.ns → DGet H' d (.str x) (some (.int (dd x))) := fun {H' x} e m => by
        have q := DGet.k (k := Sum.inr x) e
        rw [dv x m] at q
        exact q
      refine lc_keepT (zs := (G.rs.filter fun r => r.s == s).map fun r => (V.str r.n, r)) (keep := fun r => decide (dd r.t < dd s)) (val := fun z => z.1) hD (by rw [zf]; exact et) (by rw [List.length_map]; omega) (fun _ => rfl) (fun zz hz H3 R Fq s3 kt kf => ?_) fun H3 s3 eD => ?_
      · obtain ⟨r, hr', rfl⟩ := List.mem_map.mp hz
        obtain ⟨mr, _⟩ := List.mem_filter.mp hr'
        have hg3 := graphAt_sim (sm2.trans (Sim.of s3)) hg
        refine ⟨_, rfl, _, rfl, _, rfl, g, rfl, oat_graph hg3, g, G, r, rfl, hg3, ok.ra, mr, fun u pu => ?_⟩
        obtain ⟨a, c, xs, rfl, h1, h2, h3⟩ := pu
        refine ⟨a, _, 2, .str r.t, rfl, rfl, h1, rfl, d, .int (dd r.t), rfl, dg (s3 _ _ ed2) (ends r mr).2, _, rfl, _, rfl, d, .int (dd s), rfl, dg (s3 _ _ ed2) hs, _, _, rfl, rfl, _, rfl, ?_⟩
        by_cases lt : dd r.t < dd s
        · exact if_yes (decide_eq_true (by omega)) ⟨_, rfl, kt (decide_eq_true lt)⟩
        · exact if_no (by simp only [decide_eq_true_eq]; omega) (kf (decide_eq_false lt))
      · have en : (((G.rs.filter fun r => r.s == s).map fun r => (V.str r.n, r)).filter fun z => decide (dd z.2.t < dd s)).map (·.1) = (nearer G.rs dd s).map fun r => V.str r.n := by
          unfold nearer
          rw [List.filter_map, List.map_map]
          rfl
        rw [en] at eD
        obtain ⟨q, hq, eq, near⟩ := near_row (DT.is s hs) z
        have lt := near _ (DT.is q.t (ends q hq).2)
        have nf := nearer_find G.rs dd s
        cases ef : nearer G.rs dd s with
        | nil =>
          rw [ef] at nf
          exact absurd (List.find?_eq_none.mp nf.symm q hq) (by simp [eq, lt])
        | cons r0 rest =>
          rw [ef] at nf eD
          have nf : some r0 = G.rs.find? fun r => decide (r.s = s) && decide (dd r.t < dd s) := nf
          have p0 := List.find?_some nf.symm
          have m0 := List.mem_of_find?_eq_some nf.symm
          simp only [Bool.and_eq_true, decide_eq_true_eq] at p0
          have st := DT.step ends m0
          rw [p0.1] at st
          obtain ⟨k, ek⟩ : ∃ k, dd s = k + 1 := ⟨dd s - 1, by omega⟩
          have gs : gway G.rs dd (dd s) s = r0.n :: gway G.rs dd (dd r0.t) r0.t := by
            have e2 : dd r0.t = k := by omega
            rw [e2, ek]
            show (match G.rs.find? fun r => decide (r.s = s) && decide (dd r.t < dd s) with | some r => r.n :: gway G.rs dd k r.t | none => []) = _
            rw [← nf]
          have eF3 := s3 _ _ eF2
          have ed3 := s3 _ _ ed2
          have nDF : D ≠ FF := fun z => by rw [z, eF2] at hD; cases hD
          have sm3 := sm2.trans (Sim.of s3)
          refine ⟨_, rfl, .inl ⟨rfl, _, .inl (.inl eF3)⟩, _, rfl, D, _, 0, .str r0.n, rfl, rfl, .inl (.inl eD), (by show atI _ ((0 : Nat) : Int) = _; exact atI_nat rfl), FF, _, _, rfl, rfl, eF3, by rw [List.length_map, sizeLine_eq]; omega, ?_⟩
          have sm4 : Sim H (upd H3 FF (.lst (fs.map V.str ++ [.str r0.n]))) := sim_updF s1 hF sm3
          have hg4 := graphAt_sim sm4 hg
          have eD4 : (upd H3 FF (.lst (fs.map V.str ++ [.str r0.n]))) D = some (.lst ((r0 :: rest).map fun r => V.str r.n)) := by rw [upd_ne nDF]; exact eD
          refine ⟨_, rfl, _, rfl, D, _, 0, .str r0.n, rfl, rfl, .inl (.inl eD4), (by show atI _ ((0 : Nat) : Int) = _; exact atI_nat rfl), g, rfl, oat_graph hg4, g, G, r0, rfl, hg4, ok.ra, m0, fun u pu => ?_⟩
          obtain ⟨a, c, xs, rfl, h1, h2, h3⟩ := pu
          refine ⟨a, _, 2, .str r0.t, rfl, rfl, h1, rfl, ?_⟩
          refine ⟨r0.t, fs ++ [r0.n], _, rfl, (ends r0 m0).2, sm4, by rw [upd_ne (Ne.symm nFd)]; exact ed3, by rw [upd_same, List.map_append]; rfl, ?_, by rw [List.length_append, List.length_singleton]; omega, p0.2⟩
          rw [List.append_assoc, List.singleton_append, ← gs]
          exact gw
end
end Qp

/-! whether transitions lie within components -/
namespace Qp
open PySem PySem.Spec PyProof.Rows L2 QN
abbrev sLiesOne : Stmt := top 35 -- _lies_in_one
abbrev sIsRet : Stmt := top 34 -- is_returning
abbrev sComps : Stmt := top 33 -- components
abbrev lies1N : List Str := ["graph", "name", "parts", "part"]
abbrev isRetN : List Str := ["graph", "names", "parts", "name"]
theorem scLiesOne : FnScope lies1N ["graph", "name", "parts"] (defScope sLiesOne) := ⟨rfl, rfl, rfl, by decide +kernel, rfl, by decide +kernel, by decide +kernel⟩
theorem scIsRet : FnScope isRetN ["graph", "names"] (defScope sIsRet) := ⟨rfl, rfl, rfl, by decide +kernel, rfl, by decide +kernel, by decide +kernel⟩
/-- the row lies within one of these -/
def inOne (cs : List (List Str)) (r : Row) : Bool := cs.any fun c => decide (r.s ∈ c ∧ r.t ∈ c)
def spLiesOne (K : PySem.W.Frag) (C : Addr) : Sp := fun vs H Q _ => ∃ (g t : Addr) (G : Gr) (r : Row) (ws : List V) (cs : List (List Str)), vs = [.ref g, .str r.n, .ref t] ∧ GraphAt K C H g G ∧ (G.rs.map (·.n)).Pairwise lts ∧ r ∈ G.rs ∧ SqT K H t ws ∧ CompsAt K H ws cs ∧ cs.length ≤ 1000 ∧ ∀ H', Same H H' → Q (.bl (inOne cs r)) H'
/-- the components of some transitions -/
def spComps (K : PySem.W.Frag) (C PC : Addr) : Sp := fun vs H Q _ => ∃ (g t : Addr) (G : Gr) (xs : List Str), vs = [.ref g, .ref t] ∧ GraphAt K C H g G ∧ G.Ok ∧ EndsIn G ∧ SqT K H t (xs.map V.str) ∧ xs.length ≤ 1000 ∧ (∀ n ∈ xs, n ∈ G.rs.map (·.n)) ∧ GxR.TabG H PC ∧
  ∀ (p : Addr) (ws : List V) (H' : Hp), Sim H H' → SqT K H' p ws → CompsAt K H' ws (comps G.ns (rowsOf G xs) G.ns) → Q (.ref p) H'
/-- all rows of these names lie within components -/
def allIn (G : Gr) (xs : List Str) : Bool := G.rs.all fun r => !decide (r.n ∈ xs) || inOne (comps G.ns (rowsOf G xs) G.ns) r
def spIsRet (K : PySem.W.Frag) (C PC : Addr) : Sp := fun vs H Q _ => ∃ (g t : Addr) (G : Gr) (xs : List Str), vs = [.ref g, .ref t] ∧ GraphAt K C H g G ∧ G.Ok ∧ EndsIn G ∧ SqT K H t (xs.map V.str) ∧ xs.length ≤ 1000 ∧ (∀ n ∈ xs, n ∈ G.rs.map (·.n)) ∧ GxR.TabG H PC ∧
  ∀ H', Sim H H' → Q (.bl (allIn G xs)) H'
theorem comps_len {ns : List Str} {rs : List Row} {xs : List Str} : (comps ns rs xs).length ≤ xs.length := by
  unfold comps
  rw [List.length_map]
  exact List.length_filter_le _ _
theorem compsAt_at {K : PySem.W.Frag} {H : Hp} : ∀ {ws : List V} {cs : List (List Str)} {i : Nat} {x : V}, CompsAt K H ws cs → ws[i]? = some x → ∃ (c : List Str) (q : Addr), cs[i]? = some c ∧ x = .ref q ∧ SqT K H q (c.map V.str)
  | _, _, i, x, .nil, e => by simp at e
  | _, _, 0, x, .cons ⟨q, e1, h⟩ _, e => by
    cases e
    exact ⟨_, q, rfl, e1, h⟩
  | _, _, i + 1, x, .cons _ r, e => compsAt_at (i := i) r (by simpa using e)
/-- [.. for .. in a tuple], the values known, new things laid on the way -/
theorem lc_valsS {K : PySem.W.Frag} {a : Addr} {xs ys : List V} {te : TE} {vs : List Nat} {σ : L2.St} {H1 : Hp} {D : Addr} {Qd : Hp → Prop} {j : Nat} (hD : H1 D = none) (hq : SqT K H1 a xs) (few : xs.length < sizeLine) (hl : ys.length = xs.length) (hw : ∀ x, wipe ((wipe σ vs).set j (some x)) vs = wipe σ vs)
    (hs : ∀ (i : Nat) (x : V) (H' : Hp) (R : VK), xs[i]? = some x → Same H1 H' → (∀ y, ys[i]? = some y → ∀ H3, Same H' H3 → R y H3) → te ((wipe σ vs).set j (some x)) H' R) (hd : ∀ H', Same H1 H' → H' D = some (.lst ys) → Qd H') :
    ∃ W : Nat → Nat → Hp → Prop, (∃ m, W 0 m (upd H1 D (.lst []))) ∧ ∀ i m H, W i m H → ((Itt K a).stop i H ∧ Qd H) ∨ ((Itt K a).go i H ∧ ∃ Nx : Hp → Prop, (∀ H', Nx H' → ∃ m', m' < m ∧ W (i + 1) m' H') ∧ ∀ x H', (Itt K a).yld i H x H' → gName j x (wipe σ vs) H' fun σ2 H2 => wipe σ2 vs = wipe σ vs ∧ tYes σ2 H2 fun b H3 =>
        if b = true then te σ2 H3 fun y H4 => ∃ acc, H4 D = some (.lst acc) ∧ acc.length < sizeLine ∧ Nx (upd H4 D (.lst (acc ++ [y]))) else Nx H3) := by
  refine lc_tup (fun i H' => Same H1 H' ∧ H' D = some (.lst (ys.take i))) ⟨same_new hD, upd_same⟩ (fun i H' _ p => sqT_same p.1 hq) (fun i x H' hx p => ⟨hw x, yes_if ?_⟩) fun H' p => ?_
  · have il := (List.getElem?_eq_some_iff.mp hx).1
    refine hs i x H' _ hx p.1 fun y hy H3 s3 => ⟨_, s3 _ _ p.2, ?_, same_upd' (p.1.trans s3) hD, ?_⟩
    · rw [List.length_take]
      omega
    · rw [upd_same, List.take_add_one, hy]
      rfl
  · obtain ⟨sm, e⟩ := p
    rw [← hl, List.take_length] at e
    exact hd H' sm e
/-- by the name -/
def byN (G : Gr) (cs : List (List Str)) (n : Str) : Bool := ((G.rs.find? fun r => decide (r.n = n)).map (inOne cs)).getD false
theorem byN_of {G : Gr} {cs : List (List Str)} (nd : (G.rs.map (·.n)).Nodup) {r : Row} (h : r ∈ G.rs) : byN G cs r.n = inOne cs r := by
  unfold byN
  cases e : G.rs.find? fun q => decide (q.n = r.n) with
  | none => exact absurd (List.find?_eq_none.mp e r h) (by simp)
  | some q =>
    have h1 := List.mem_of_find?_eq_some e
    have h2 := List.find?_some e
    rw [nm_inj nd q h1 r h (by simpa using h2)]
    rfl
theorem all_byN {G : Gr} {xs : List Str} (nd : (G.rs.map (·.n)).Nodup) (hx : ∀ n ∈ xs, n ∈ G.rs.map (·.n)) : (xs.map (byN G (comps G.ns (rowsOf G xs) G.ns))).all id = allIn G xs := by
  rw [Bool.eq_iff_iff, List.all_eq_true]
  unfold allIn
  rw [List.all_eq_true]
  constructor
  · intro h r hr
    by_cases m : r.n ∈ xs
    · have q := h _ (List.mem_map.mpr ⟨r.n, m, rfl⟩)
      rw [byN_of nd hr] at q
      have q : inOne (comps G.ns (rowsOf G xs) G.ns) r = true := q
      rw [q, Bool.or_true]
    · rw [decide_eq_false m]
      rfl
  · intro h b hb
    obtain ⟨n, hn, rfl⟩ := List.mem_map.mp hb
    obtain ⟨r, hr, rfl⟩ := List.mem_map.mp (hx n hn)
    have q := h r hr
    rw [decide_eq_true hn] at q
    show byN G _ r.n = true
    rw [byN_of nd hr]
    exact q
section
variable {P : Program} {w : World} {K : PySem.W.Frag} {mg : Str → Option Value} {base : Heap}
theorem ok_lies1 {f fL C : Addr} {fd fdL : FuncData} (F : Fun K "_lies_in_one" "_lies_in_one" sLiesOne f fd) (GL : FnOk P w K mg base CX0 4 fL fdL ["graph", "name", "part"] (spLies K C)) (kL : PySem.W.keepIn K (.ref fL) = true) (bL : L2.Binds K fdL ["graph", "name", "part"] []) (gL : mg "lies_in" = some (.ref fL)) (an : mg "any" = none) : FnOk P w K mg base CX0 5 f fd ["graph", "name", "parts"] (spLiesOne K C) := by
  refine F.ok scLiesOne (fun vs H Q E h => ?_) (fun cdv A outer s H vs Q E hr h => ?_)
  · obtain ⟨g, t, G, r, ws, cs, rfl, _⟩ := h
    rfl
  · obtain ⟨g, t, G, r, ws, cs, rfl, hg, asc, hrow, ht, hc, few, fin⟩ := h
    refine ⟨_, pss_one (ps_ret (pe_callB (cr_any rfl) (by rfl) an (by decide +kernel) (pa_cons (pe_lc (own := [("part", 3)]) (g := gName 3) (tt := tYes) (te := tCall (spLies K C) [] L2.E0 (tCons (tVar 0) (tCons (tVar 1) (tCons (tVar 3) tNil)))) rfl scLiesOne.nd (pi_tup (pv 2)) (blkOk_by (N := lies1N) (sc := defScope sLiesOne) (by decide +kernel))
      (fun _ _ _ _ _ => pg_name (i := 3) scLiesOne.nd rfl (.inl rfl)) (fun _ _ _ _ _ => pts_nil) (fun _ _ _ _ _ => pe_call GL hr (by rfl) gL kL bL .nil pass0 (pa_cons (pv 0) (pa_cons (pv 1) (pa_cons (pv 3) pa_nil))))) pa_nil))), ?_⟩
    refine ⟨_, rfl, t, rfl, ⟨_, ht⟩, fun D hD => ?_⟩
    refine lc_valsT (ys := (cs.map fun c => decide (r.s ∈ c ∧ r.t ∈ c)).map V.bl) hD ht (by rw [hc.length, sizeLine_eq]; omega) (by rw [List.length_map, List.length_map, hc.length]) (fun _ => rfl) (fun i x H' R hx sm k => ?_) fun H' sm e => ?_
    · obtain ⟨c, q, ec, rfl, h1⟩ := compsAt_at hc hx
      refine ⟨_, rfl, _, rfl, _, rfl, g, q, G, r, c, rfl, graphAt_sim (Sim.of sm) hg, asc, hrow, sqT_same sm h1, k _ ?_⟩
      rw [List.getElem?_map, List.getElem?_map, ec]
      rfl
    · refine ⟨D, cs.map fun c => decide (r.s ∈ c ∧ r.t ∈ c), rfl, .inl (.inl e), ?_⟩
      have q := fin H' sm
      unfold inOne at q
      rw [List.any_map]
      exact q
theorem ok_isRet {f fO fC C PC : Addr} {fd fdO fdC : FuncData} (F : Fun K "is_returning" "is_returning" sIsRet f fd) (GC : FnOk P w K mg base CX0 5 fC fdC ["graph", "names"] (spComps K C PC)) (kC : PySem.W.keepIn K (.ref fC) = true) (bC : L2.Binds K fdC ["graph", "names"] []) (gC : mg "components" = some (.ref fC))
    (GO : FnOk P w K mg base CX0 5 fO fdO ["graph", "name", "parts"] (spLiesOne K C)) (kO : PySem.W.keepIn K (.ref fO) = true) (bO : L2.Binds K fdO ["graph", "name", "parts"] []) (gO : mg "_lies_in_one" = some (.ref fO)) (B : BltP mg) : FnOk P w K mg base CX0 6 f fd ["graph", "names"] (spIsRet K C PC) := by
  refine F.ok scIsRet (fun vs H Q E h => ?_) (fun cdv A outer s H vs Q E hr h => ?_)
  · obtain ⟨g, t, G, xs, rfl, _⟩ := h
    rfl
  · obtain ⟨g, t, G, xs, rfl, hg, ok, ends, ht, few, hx, tc, fin⟩ := h
    refine ⟨_, pss_cons (ps_set (i := 2) scIsRet.nd rfl (.inr rfl) (pe_call GC hr (by rfl) gC kC bC .nil pass0 (pa_cons (pv 0) (pa_cons (pv 1) pa_nil))))
      (pss_one (ps_ret (pe_callB (cr_all rfl) (by rfl) B.all (by decide +kernel) (pa_cons (pe_lc (own := [("name", 3)]) (g := gName 3) (tt := tYes) (te := tCall (spLiesOne K C) [] L2.E0 (tCons (tVar 0) (tCons (tVar 3) (tCons (tVar 2) tNil)))) rfl scIsRet.nd (pi_tup (pv 1)) (blkOk_by (N := isRetN) (sc := defScope sIsRet) (by decide +kernel))
      (fun _ _ _ _ _ => pg_name (i := 3) scIsRet.nd rfl (.inl rfl)) (fun _ _ _ _ _ => pts_nil) (fun _ _ _ _ _ => pe_call GO hr (by rfl) gO kO bO .nil pass0 (pa_cons (pv 0) (pa_cons (pv 3) (pa_cons (pv 2) pa_nil))))) pa_nil)))), ?_⟩
    have ndr : (G.rs.map (·.n)).Nodup := nodup_lts ok.ra
    refine ⟨_, rfl, _, rfl, g, t, G, xs, rfl, hg, ok, ends, ht, few, hx, tc, fun p ws H1 s1 hp hw => ?_⟩
    have ht1 := sqT_sim s1 ht
    have cl : (comps G.ns (rowsOf G xs) G.ns).length ≤ 8 := Nat.le_trans comps_len ok.nl
    refine ⟨_, rfl, t, rfl, ⟨_, ht1⟩, fun D hD => ?_⟩
    refine lc_valsS (ys := (xs.map (byN G (comps G.ns (rowsOf G xs) G.ns))).map V.bl) hD ht1 (by rw [List.length_map, sizeLine_eq]; omega) (by rw [List.length_map, List.length_map, List.length_map]) (fun _ => rfl) (fun i x H' R hx2 sm k => ?_) fun H' sm e => ?_
    · rw [List.getElem?_map] at hx2
      cases e : xs[i]? with
      | none => rw [e] at hx2; cases hx2
      | some n =>
        rw [e] at hx2
        cases (Option.some.inj hx2 : V.str n = x)
        obtain ⟨r, hr', rfl⟩ := List.mem_map.mp (hx n (List.mem_of_getElem? e))
        refine ⟨_, rfl, _, rfl, _, rfl, g, p, G, r, ws, comps G.ns (rowsOf G xs) G.ns, rfl, graphAt_sim (s1.trans (Sim.of sm)) hg, ok.ra, hr', sqT_same sm hp, compsAt_same sm hw, by omega, fun H3 s3 => ?_⟩
        refine k _ ?_ H3 s3
        rw [List.getElem?_map, List.getElem?_map, e]
        show some (V.bl (byN G _ r.n)) = some (V.bl (inOne _ r))
        rw [byN_of ndr hr']
    · refine ⟨D, xs.map (byN G (comps G.ns (rowsOf G xs) G.ns)), rfl, .inl (.inl e), ?_⟩
      rw [all_byN ndr hx]
      exact fin H' (s1.trans (Sim.of sm))
end
end Qp

/-! what the law's own checks of components and of returning rest on -/
namespace Qp
open PySem PySem.Spec PyProof.Rows L2 QN
open PySem.W PySem.SeqAt
/-- which rows are asked for rests on the set of the names -/
theorem rowsOf_set {G : Gr} {xs ys : List Str} (h : ∀ n, n ∈ xs ↔ n ∈ ys) : rowsOf G xs = rowsOf G ys :=
  List.filter_congr fun r _ => decide_eq_decide.mpr (h r.n)
theorem allIn_set {G : Gr} {xs ys : List Str} (h : ∀ n, n ∈ xs ↔ n ∈ ys) : allIn G xs = allIn G ys := by
  unfold allIn
  rw [rowsOf_set h, Bool.eq_iff_iff, List.all_eq_true, List.all_eq_true]
  refine forall_congr' fun r => forall_congr' fun _ => ?_
  rw [decide_eq_decide.mpr (h r.n)]
/-- the names of the rows that lie within one of these -/
def inNames (G : Gr) (cs : List (List Str)) : List Str := (G.rs.filter (inOne cs)).map (·.n)
theorem inNames_mem {G : Gr} (asc : (G.rs.map (·.n)).Pairwise lts) {cs : List (List Str)} {r : Row} (hr : r ∈ G.rs) : r.n ∈ inNames G cs ↔ inOne cs r = true := by
  have nd : (G.rs.map (·.n)).Nodup := List.Pairwise.imp (fun {a b} (h : lts a b) (e : a = b) => by rw [e] at h; exact lts_asymm h h) asc
  constructor
  · intro m
    obtain ⟨q, hq, e⟩ := List.mem_map.mp m
    obtain ⟨q1, q2⟩ := List.mem_filter.mp hq
    have : q = r := by
      obtain ⟨i, hi⟩ := List.getElem?_of_mem q1
      obtain ⟨j, hj⟩ := List.getElem?_of_mem hr
      have ei : (G.rs.map (·.n))[i]? = some q.n := by rw [List.getElem?_map, hi]; rfl
      have ej : (G.rs.map (·.n))[j]? = some q.n := by rw [List.getElem?_map, hj, e]; rfl
      have ij : i = j := (List.getElem?_inj (List.getElem?_eq_some_iff.mp ei).1 nd).mp (ei.trans ej.symm)
      rw [ij, hj] at hi
      exact (Option.some.inj hi).symm
    rw [← this]
    exact q2
  · intro h
    exact List.mem_map.mpr ⟨r, List.mem_filter.mpr ⟨hr, h⟩, rfl⟩
/-- no name lies outside just where all lie within -/
theorem outside_none {G : Gr} (asc : (G.rs.map (·.n)).Pairwise lts) {xs : List Str} (inn : ∀ n ∈ xs, n ∈ G.rs.map (·.n)) : decide ((xs.filter fun n => !decide (n ∈ inNames G (comps G.ns (rowsOf G xs) G.ns))) = []) = allIn G xs := by
  rw [Bool.eq_iff_iff, decide_eq_true_eq]
  unfold allIn
  rw [List.all_eq_true, List.filter_eq_nil_iff]
  constructor
  · intro h r hr
    by_cases m : r.n ∈ xs
    · have z := h r.n m
      rw [Bool.not_eq_true', Bool.not_eq_false, decide_eq_true_eq, inNames_mem asc hr] at z
      rw [z, Bool.or_true]
    · rw [decide_eq_false m]
      rfl
  · intro h n hn
    obtain ⟨r, hr, rfl⟩ := List.mem_map.mp (inn n hn)
    have z := h r hr
    rw [decide_eq_true hn, Bool.not_true, Bool.false_or] at z
    rw [Bool.not_eq_true', Bool.not_eq_false, decide_eq_true_eq, inNames_mem asc hr]
    exact z
/-- of no rows no component -/
theorem comps_none {G : Gr} (xs : List Str) : comps G.ns (rowsOf G []) xs = [] := by
  have e : rowsOf G [] = [] := List.filter_eq_nil_iff.mpr fun r _ => by
    rw [decide_eq_true_eq]
    exact fun m => by cases m
  rw [e]
  unfold comps
  rw [List.map_eq_nil_iff, List.filter_eq_nil_iff]
  intro s _ h
  unfold isFirst insideP at h
  rw [List.any_nil, Bool.and_false] at h
  cases h
theorem rowsOf_all {G : Gr} : rowsOf G (G.rs.map (·.n)) = G.rs := List.filter_eq_self.mpr fun r hr => decide_eq_true (List.mem_map.mpr ⟨r, hr, rfl⟩)
/-- in a graph each state is reached from each -/
theorem rch_all {G : Gr} (L : LawG G) {s : Str} (hs : s ∈ G.ns) : rch G.ns G.rs s = G.ns := List.filter_eq_self.mpr fun y hy => by
  obtain ⟨k, k8, h⟩ := dist_ex L.made L.ok.nl hs hy
  exact decide_eq_true (lay_mono h.1 k8)
theorem compOf_all {G : Gr} (L : LawG G) {s : Str} (hs : s ∈ G.ns) : compOf G.ns G.rs s = G.ns := by
  unfold compOf
  rw [rch_all L hs]
  refine List.filter_eq_self.mpr fun y hy => decide_eq_true ?_
  rw [rch_all L hy]
  exact hs
theorem insideP_all {G : Gr} (L : LawG G) : insideP G.rs G.ns = true := by
  have r1 := L.r1
  obtain ⟨r, hr⟩ : ∃ r, r ∈ G.rs := List.exists_mem_of_length_pos (by omega)
  obtain ⟨a, b⟩ := L.made.ends r hr
  exact List.any_eq_true.mpr ⟨r, hr, decide_eq_true ⟨a, b⟩⟩
/-- all rows of a graph: one component, all its states -/
theorem comps_all {G : Gr} (L : LawG G) : comps G.ns (rowsOf G (G.rs.map (·.n))) G.ns = [G.ns] := by
  rw [rowsOf_all]
  obtain ⟨x, st, e, _⟩ := L.made.ok
  have na := L.ok.na
  have f : G.ns.filter (isFirst G.ns G.rs) = [x] := by
    have g : G.ns.filter (isFirst G.ns G.rs) = G.ns.filter fun s => decide (x = s) := List.filter_congr fun s hs => by
      unfold isFirst
      rw [compOf_all L hs, insideP_all L, Bool.and_true, e]
      exact decide_eq_decide.mpr ⟨Option.some.inj, congrArg some⟩
    rw [g, e]
    rw [e, List.pairwise_cons] at na
    rw [List.filter_cons_of_pos (p := fun s => decide (x = s)) (a := x) (l := st) (decide_eq_true rfl)]
    refine congrArg (x :: ·) (List.filter_eq_nil_iff.mpr fun y hy z => ?_)
    have z := of_decide_eq_true z
    have lt := na.1 y hy
    rw [← z] at lt
    exact lts_asymm lt lt
  unfold comps
  rw [f]
  exact congrArg (· :: []) (compOf_all L (by rw [e]; exact List.mem_cons_self))
theorem allIn_none {G : Gr} : allIn G [] = true := List.all_eq_true.mpr fun r _ => by
  rw [decide_eq_false fun m : r.n ∈ ([] : List Str) => by cases m]
  rfl
theorem allIn_all {G : Gr} (L : LawG G) : allIn G (G.rs.map (·.n)) = true := List.all_eq_true.mpr fun r hr => by
  obtain ⟨a, b⟩ := L.made.ends r hr
  rw [comps_all L]
  have z : inOne [G.ns] r = true := by
    unfold inOne
    rw [List.any_cons, decide_eq_true (p := r.s ∈ G.ns ∧ r.t ∈ G.ns) ⟨a, b⟩, Bool.true_or]
  rw [z, Bool.or_true]
end Qp

/-! sorted(xs) of at most one item, whatever it is: nothing is compared -/
namespace QN
open PySem PySem.Spec PyProof.Rows L2 PySem.W PySem.Calls
theorem sortsAt_few {prog : Program} {w : World} {A : Around} {s : Shared} {vs : List Value} {ds : List PyData} (e : EachIs (fun v d => ∃ as, Reads s.heap v d as) vs ds) (hal : AllAlike ds) (few : vs.length ≤ 1) (nn : ∀ d ∈ ds, d ≠ .none) (hu : ∀ d ∈ ds, A.units + d.depth < cLine) : SortsAt prog w A s (dataKind s.heap ds) vs := by
  refine ⟨fun v hv => ?_, general', fun E x y a b Q ha hb hq => ?_, fun h2 => absurd h2 (by omega)⟩
  · obtain ⟨d, hd, as, r⟩ := e.left v hv
    exact ⟨_, dataKind_some hal hd r⟩
  · obtain ⟨d1, as1, m1, r1, rfl⟩ := dataKind_inv ha
    obtain ⟨d2, as2, m2, r2, rfl⟩ := dataKind_inv hb
    exact oneLt_alike (f := false) (fun z => by cases z) r1 r2 (hal d1 m1 d2 m2) (nn d1 m1) (Nat.lt_of_le_of_lt (Nat.add_le_add_left (Nat.min_le_left _ _) _) (hu d1 m1)) hq
theorem list_sort_few {prog : Program} {w : World} {A : Around} {E : Value → Shared → Prop} {s : Shared} {β : Type} {R : Value → β → Prop} {enc : β → PyData} {vs : List Value} {bs : List β} {a : Addr} {n : Nat} {Q : Value → Shared → Prop} (ho : s.heap.get? a = some (seqObj "list" vs.toArray n)) (e : EachIs R vs bs) (er : EachIs (fun v b => ∃ as, Reads s.heap v (enc b) as ∧ a ∉ as) vs bs)
    (hal : AllAlike (bs.map enc)) (hk : bs.length ≤ 1 ∧ ∀ b ∈ bs, enc b ≠ .none) (hL : bs.length ≤ sizeLine) (hu : ∀ b, b ∈ bs → A.units + 1 + (enc b).depth < cLine) (h : ∀ out, out.length = bs.length → EachIs R out (bs.mergeSort (dataLe false enc)) → Q .none { s with heap := sortedHeap s.heap a vs (List.toArray out) }) :
    wpAny (model prog w) A (call (.builtin "list.sort") [.ref a]) Q E s := by
  have kept := each_keepBut (h' := sortingHeap s.heap a vs) (fun _ _ hb q => sortingHeap_old hb q) (fun o q => by rw [ho] at q; rw [← Option.some.inj q]) hal er
  have S := sortsAt_few (prog := prog) (w := w) (A := A.in1) (s := { s with heap := sortingHeap s.heap a vs }) (each_map (R := fun v d => ∃ as, Reads (sortingHeap s.heap a vs) v d as) enc kept) hal (by rw [e.length]; exact hk.1) (fun d hd => by
    obtain ⟨b, hb, rfl⟩ := List.mem_map.mp hd
    exact hk.2 b hb) (fun d hd => by
    obtain ⟨b, hb, rfl⟩ := List.mem_map.mp hd
    exact hu b hb)
  exact wpAny_call_entry slot_list_sort ⟨_, ho, rfl⟩ entry_list_sort (list_sort_vals ho S (by rw [e.length]; exact hL) ⟨.none, rfl, h _ (by rw [sortVals_length false rfl]; exact e.length) (sortVals_data false e kept hal)⟩) (args_list_sort _)
/-- what sorted does, once its items are gathered in a heap that keeps all -/
theorem sorted_gatheredF {prog : Program} {w : World} {A : Around} {E : Value → Shared → Prop} {s : Shared} {β : Type} {R : Value → β → Prop} {enc : β → PyData} {x : Value} {vs : List Value} {bs : List β} {Q : Value → Shared → Prop} {Mid : Shared → Prop}
    (hcol : ∀ (A' : Around) (Q' : List Value → Shared → Prop), (∀ s1, (∀ b o, s.heap.get? b = some o → s1.heap.get? b = some o) → Mid s1 → Q' vs s1) → wpAny (model prog w) A' (collect x) Q' E s)
    (ar : argsOk "sorted" ⟨[x], []⟩) (e : EachIs R vs bs) (er : EachIs (fun v b => ∃ as, Reads s.heap v (enc b) as) vs bs) (hal : AllAlike (bs.map enc)) (hk : bs.length ≤ 1 ∧ ∀ b ∈ bs, enc b ≠ .none) (hL : bs.length ≤ sizeLine)
    (hu : ∀ b, b ∈ bs → A.units + 3 + (enc b).depth < cLine)
    (h : ∀ out ep s1 (h2 : Heap), Mid s1 → (∀ b o, s.heap.get? b = some o → s1.heap.get? b = some o) → EachIs R out (bs.mergeSort (dataLe false enc)) → h2.get? s1.heap.objs.size = some (seqObj "list" out.toArray ep) → (∀ b o, s1.heap.get? b = some o → h2.get? b = some o) → Q (.ref s1.heap.objs.size) { s1 with heap := h2 }) :
    wpAny (model prog w) A (call (.builtin "sorted") [x]) Q E s := by
  have hl : vs.length ≤ sizeLine := by rw [e.length]; exact hL
  refine call_function_entry kind_sorted plain_sorted
    entry_sorted ar ?_
  unfold Builtin.«sorted»
  refine wpAny_bind (m := checkCount "sorted" 1 1 _) (wpAny_pure (wpAny_bind (hcol _ _ fun s1 k hm => wpAny_bind (wpAny_newList ?_ hl))))
  have hn : (s1.heap.push (seqObj "list" vs.toArray 0)).get? s1.heap.objs.size = some (seqObj "list" vs.toArray 0) := Heap.get?_push_size _ rfl
  have old : ∀ b o, s1.heap.get? b = some o → (s1.heap.push (seqObj "list" vs.toArray 0)).get? b = some o := fun b o g => Heap.get?_push_of_some _ g
  have er2 : EachIs (fun v b => ∃ as, Reads (s1.heap.push (seqObj "list" vs.toArray 0)) v (enc b) as ∧ s1.heap.objs.size ∉ as) vs bs := er.mono fun v b q => by
    obtain ⟨as, r⟩ := q
    have r1 := PyProof.Rows.Reads.keeps k r
    exact ⟨as, PyProof.Rows.Reads.keeps old r1, fun m => Nat.lt_irrefl _ (reads_lt r1 _ m)⟩
  have hu2 : ∀ b, b ∈ bs → A.in1.units + 1 + (enc b).depth < cLine := fun b hb => by
    have := hu b hb
    show A.units + 1 + 1 + (enc b).depth < cLine
    omega
  refine wpAny_bind (wpAny_holding (list_sort_few (A := A.in1) (s := { s1 with heap := s1.heap.push (seqObj "list" vs.toArray 0) }) (n := 0) hn e er2 hal hk hL hu2 fun out ho hs => ?_))
  obtain ⟨ep, g⟩ := PyProof.Rows.sortedHeap_at (vs := vs) (out := out.toArray) hn
  refine wpAny_pure ⟨_, rfl, h out ep s1 _ hm k hs g fun b o q => ?_⟩
  rw [PyProof.Rows.sortedHeap_old (Nat.ne_of_lt (Heap.lt_size q)) (Heap.lt_size (old b o q))]
  exact old b o q
def rSortedF (K : PySem.W.Frag) : List V → Hp → VK → Prop := fun vs H Q => ∃ (a : Addr) (bs : List (V × PyData)), vs = [V.ref a] ∧ (SqL K H a (bs.map (·.1)) ∨ SqT K H a (bs.map (·.1))) ∧ (∀ b ∈ bs, Dp K H b.1 b.2) ∧ AllAlike (bs.map (·.2)) ∧ (bs.length ≤ 1 ∧ ∀ b ∈ bs, b.2 ≠ .none) ∧ (∀ b ∈ bs, b.2.depth ≤ 60) ∧
  ∀ p, H p = none → Q (.ref p) (upd H p (.lst ((bs.mergeSort (dataLe false (·.2))).map (·.1))))
section
variable {X : Cx}
theorem cr_sortedF (hu : X.A.units + 64 < cLine) : CallR X (.builtin "sorted") (rSortedF X.K) := by
  intro pins s σ H vs us Q I r h
  obtain ⟨a, bs, rfl, hs, hd, al, so, dp, q⟩ := h
  rw [Vals.ref1 r]
  obtain ⟨its, T, o, n, rv, hT, ho, hc, hd', hz⟩ : ∃ (its : List Value) (T : String) (o : Obj) (n : Nat), Vals (bs.map (·.1)) its ∧ (T = "list" ∨ T = "tuple") ∧ s.heap.get? a = some o ∧ o.cls = .type T ∧ o.data = .seq its.toArray n ∧ bs.length ≤ sizeLine := by
    rcases hs with hs | hs
    · obtain ⟨its, rv, pl, hz⟩ := I.list hs
      obtain ⟨o, ho, hc, n, hd⟩ := pl.isList
      rw [List.length_map] at hz
      exact ⟨its, _, o, n, rv, .inl rfl, ho, hc, hd, hz⟩
    · obtain ⟨its, rv, ⟨o, ho, hc, n, hd⟩, hz⟩ := I.tuple hs
      rw [List.length_map] at hz
      exact ⟨its, _, o, n, rv, .inr rfl, ho, hc, hd, hz⟩
  have e := each_vals rv
  refine sorted_gatheredF (R := fun v b => RelV b.1 v) (enc := (·.2)) (Mid := fun s1 => ∃ h', s1 = { s with heap := h' }) (fun A' Q' k => ?_) (args_sorted1 _) e (each_reads I _ _ hd e) al so hz (fun b hb => by have := dp b hb; omega) fun out ep s1 h2 ⟨h1, e1⟩ k1 hs g k => ?_
  · refine wpAny_collect_seq a hT ho hc hd' (fun h' hk => ?_) (by rw [List.size_toArray, e.length]; exact hz)
    rw [show its.toArray.toList = its by simp]
    exact k { s with heap := h' } hk ⟨h', rfl⟩
  · subst e1
    have I1 : Inv X pins σ H { s with heap := h1 } := I.kept (t' := s.toks) k1
    have hl2 : ((bs.mergeSort (dataLe false (·.2))).map (·.1)).length ≤ sizeLine := by
      rw [List.length_map, List.length_mergeSort]
      exact hz
    exact ⟨.ref h1.objs.size, upd H h1.objs.size (.lst ((bs.mergeSort (dataLe false (·.2))).map (·.1))), I1.laid (t' := s.toks) k (Nat.le_refl _) ⟨hl2, out, ep, vals_each hs, g⟩, rfl, q _ (I1.hok.fresh (Nat.le_refl _))⟩
/-- either -/
def rSortedE (K : PySem.W.Frag) : List V → Hp → VK → Prop := fun vs H Q => rSortedDt K vs H Q ∨ rSortedF K vs H Q
theorem cr_sortedE (hu : X.A.units + 64 < cLine) : CallR X (.builtin "sorted") (rSortedE X.K) := fun pins s σ H vs us Q I r h => h.elim (cr_sortedDt hu pins s σ H vs us Q I r) (cr_sortedF hu pins s σ H vs us Q I r)
end
end QN

/-! how many walks there are -/
namespace Qp
open PySem PySem.Spec PyProof.Rows L2 QN
/-- the rows out of a state -/
def outOf (rs : List Row) (s : Str) : List Row := rs.filter fun r => decide (r.s = s)
theorem out_few {G : Gr} (L : LawG G) {s : Str} (hs : s ∈ G.ns) : (outOf G.rs s).length + (G.ns.length - 1) ≤ G.rs.length := by
  have nd : G.ns.Nodup := nodup_lts L.ok.na
  have split : (outOf G.rs s).length + (G.rs.filter fun r => !decide (r.s = s)).length = G.rs.length := by
    have p := (List.filter_append_perm (fun r : Row => decide (r.s = s)) G.rs).length_eq
    rw [List.length_append] at p
    exact p
  have more : (G.ns.erase s).length ≤ ((G.rs.filter fun r => !decide (r.s = s)).map (·.s)).length := List.Nodup.length_le_of_subset (nd.erase s) fun x hx => by
    have hx1 := List.mem_of_mem_erase hx
    have ne : x ≠ s := fun z => by
      rw [z] at hx
      exact (List.Nodup.not_mem_erase nd) hx
    obtain ⟨r, hr, e⟩ := out_row L hx1
    exact List.mem_map.mpr ⟨r, List.mem_filter.mpr ⟨hr, by rw [e]; simp [ne]⟩, e⟩
  rw [List.length_map, List.length_erase_of_mem hs] at more
  omega
/-- the greatest number of rows out -/
def degB (G : Gr) : Nat := G.rs.length - (G.ns.length - 1)
theorem out_le {G : Gr} (L : LawG G) {s : Str} (hs : s ∈ G.ns) : (outOf G.rs s).length ≤ degB G := by
  have := out_few L hs
  unfold degB
  omega
theorem dist_le {G : Gr} (M : Makes G.cs G.ns G.rs G) {s o : Str} (hs : s ∈ G.ns) (ho : o ∈ G.ns) {k : Nat} (h : IsDist G.rs s o k) : k ≤ G.ns.length - 1 := by
  have f : (G.ns.filter fun y => decide (y ∉ lay G.rs 0 s)).length ≤ G.ns.length - 1 := by
    have lt := filter_lt (p := fun _ => true) (q := fun y => decide (y ∉ lay G.rs 0 s)) (xs := G.ns) (fun _ _ _ => rfl) hs rfl (decide_eq_false fun z => z (List.mem_singleton.mpr rfl))
    have e : (G.ns.filter fun _ => true) = G.ns := List.filter_eq_self.mpr fun _ _ => rfl
    rw [e] at lt
    omega
  obtain ⟨j, h1, h2⟩ := lay_ex M hs ho (G.ns.length - 1) 0 f
  by_cases q : k ≤ j
  · omega
  · exact absurd h2 (h.2 j (by omega))
/-- so many walks at most -/
theorem walks_few {G : Gr} (L : LawG G) (n4 : G.ns.length ≤ 4) {k : Nat} (h : k ≤ G.ns.length - 1) : degB G ^ k ≤ 600 := by
  have r10 := L.r10
  have r1 := L.r1
  have n1 : 1 ≤ G.ns.length := by
    obtain ⟨x, st, e, _⟩ := L.made.ok
    rw [e]
    exact Nat.succ_le_succ (Nat.zero_le _)
  have dn : degB G + G.ns.length ≤ 11 := by
    unfold degB
    omega
  generalize degB G = d at dn
  generalize G.ns.length = n at n1 n4 dn h
  have pw : ∀ {d e k m : Nat}, d ≤ e → k ≤ m → 1 ≤ e → d ^ k ≤ e ^ m := fun {d e k m} h1 h2 h3 => Nat.le_trans (Nat.pow_le_pow_left h1 k) (Nat.pow_le_pow_right h3 h2)
  have c : n = 1 ∨ n = 2 ∨ n = 3 ∨ n = 4 := by omega
  rcases c with rfl | rfl | rfl | rfl
  · exact Nat.le_trans (pw (e := 10) (m := 0) (by omega) (by omega) (by decide)) (by decide)
  · exact Nat.le_trans (pw (e := 9) (m := 1) (by omega) (by omega) (by decide)) (by decide)
  · exact Nat.le_trans (pw (e := 8) (m := 2) (by omega) (by omega) (by decide)) (by decide)
  · exact Nat.le_trans (pw (e := 7) (m := 3) (by omega) (by omega) (by decide)) (by decide)
/-- one step more of each walk -/
def later (rs : List Row) (l : List (List Str × Str)) : List (List Str × Str) := l.flatMap fun w => (outOf rs w.2).map fun r => (w.1 ++ [r.n], r.t)
/-- just the walks of k names -/
structure LayW (G : Gr) (s : Str) (k : Nat) (l : List (List Str × Str)) : Prop where
  mem : ∀ w : List Str × Str, w ∈ l ↔ w.1.length = k ∧ IsW G.rs w.1 s w.2
  len : l.length ≤ degB G ^ k
  inn : ∀ w ∈ l, w.2 ∈ G.ns
theorem layW_zero {G : Gr} {s : Str} (hs : s ∈ G.ns) : LayW G s 0 [([], s)] := by
  refine ⟨fun w => ⟨fun h => ?_, fun ⟨h1, h2⟩ => ?_⟩, Nat.le_refl _, fun w h => by rw [List.mem_singleton.mp h]; exact hs⟩
  · rw [List.mem_singleton.mp h]
    exact ⟨rfl, rfl⟩
  · obtain ⟨ns, p⟩ := w
    cases ns with
    | nil =>
      have e : s = p := h2
      rw [e]
      exact List.mem_singleton.mpr rfl
    | cons n ns => cases h1
theorem layW_step {G : Gr} (L : LawG G) {s : Str} {k : Nat} {l : List (List Str × Str)} (h : LayW G s k l) : LayW G s (k + 1) (later G.rs l) := by
  refine ⟨fun w => ⟨fun hw => ?_, fun ⟨h1, h2⟩ => ?_⟩, ?_, fun w hw => ?_⟩
  · obtain ⟨v, hv, hw⟩ := List.mem_flatMap.mp hw
    obtain ⟨r, hr, rfl⟩ := List.mem_map.mp hw
    obtain ⟨r1, r2⟩ := List.mem_filter.mp hr
    have r2 : r.s = v.2 := of_decide_eq_true r2
    obtain ⟨v1, v2⟩ := (h.mem v).mp hv
    refine ⟨by rw [List.length_append, v1]; rfl, isW_snoc.mpr ⟨r, r1, by rw [r2]; exact v2, rfl, rfl⟩⟩
  · obtain ⟨ns, p⟩ := w
    obtain ⟨ms, n, e⟩ : ∃ ms n, ns = ms ++ [n] := by
      rcases List.eq_nil_or_concat ns with z | ⟨ms, n, z⟩
      · rw [z] at h1
        cases h1
      · exact ⟨ms, n, by rw [z, List.concat_eq_append]⟩
    subst e
    obtain ⟨r, r1, r2, r3, r4⟩ := isW_snoc.mp h2
    have l1 : ms.length = k := by
      have h1 : (ms ++ [n]).length = k + 1 := h1
      rw [List.length_append] at h1
      exact Nat.succ.inj h1
    refine List.mem_flatMap.mpr ⟨(ms, r.s), (h.mem _).mpr ⟨l1, r2⟩, List.mem_map.mpr ⟨r, List.mem_filter.mpr ⟨r1, decide_eq_true rfl⟩, ?_⟩⟩
    have r4 : r.t = p := r4
    show (ms ++ [r.n], r.t) = (ms ++ [n], p)
    rw [r3, r4]
  · have all : ∀ l : List (List Str × Str), (∀ w ∈ l, w.2 ∈ G.ns) → (later G.rs l).length ≤ l.length * degB G := fun l => by
      induction l with
      | nil => exact fun _ => Nat.zero_le _
      | cons w l ih =>
        intro hl
        have a := ih fun q hq => hl q (List.mem_cons_of_mem _ hq)
        have b := out_le L (hl w List.mem_cons_self)
        show ((w :: l).flatMap _).length ≤ _
        rw [List.flatMap_cons, List.length_append, List.length_map, List.length_cons, Nat.succ_mul]
        have a : (l.flatMap fun w => (outOf G.rs w.2).map fun r => (w.1 ++ [r.n], r.t)).length ≤ l.length * degB G := a
        omega
    rw [Nat.pow_succ]
    exact Nat.le_trans (all l h.inn) (Nat.mul_le_mul_right _ h.len)
  · obtain ⟨v, hv, hw⟩ := List.mem_flatMap.mp hw
    obtain ⟨r, hr, rfl⟩ := List.mem_map.mp hw
    exact (L.made.ends r (List.mem_filter.mp hr).1).2
theorem LayW.perm {G : Gr} {s : Str} {k : Nat} {l m : List (List Str × Str)} (h : LayW G s k l) (p : m.Perm l) : LayW G s k m := ⟨fun w => p.mem_iff.trans (h.mem w), by rw [p.length_eq]; exact h.len, fun w hw => h.inn w (p.mem_iff.mp hw)⟩
end Qp

/-! l.extend(t), t a tuple -/
namespace QN
open PySem PySem.Spec PyProof.Rows L2
theorem list_extend_tupG (l : Addr) (items : Array Value) (n : Nat) (b : Addr) (items2 : Array Value) (n2 : Nat) (dd : Option Addr) (sl : Array (Option Value)) (hs0 : ¬(!items.isEmpty && Builtin.List.listTooLong (items.size + items2.size)) = true) (hs1 : items.size ≤ sizeLine) (hs2 : items.size + items2.size ≤ sizeLine + 1) :
    Meets (Builtin.«list.extend» ⟨[.ref l, .ref b], []⟩) (fun _ R s => s.heap.get? l = some { cls := .type "list", dict := none, data := .seq items n, slots := #[] } ∧ s.heap.get? b = some { cls := .type "tuple", dict := dd, data := .seq items2 n2, slots := sl } ∧ R (.ok (.ret Value.none)) { s with heap := s.heap.update l (Obj.mapSeq fun x => x ++ items2), toks := s.toks }) :=
  .of_wp fun prog w A R s h => by
    obtain ⟨hp, g, d, tk, os⟩ := s; obtain ⟨hl, hb, h⟩ := h; have f1 := AutoSeq1.idx_int; have f2 := AutoSeq1.sub_tuple_tuple; have f3 := AutoSeq1.sub_list_list; have f4 := AutoSeq1.sub_tuple_list; have f5 := AutoSeq1.sub_list_tuple;
    have hz' : (items ++ items2).size ≤ sizeLine + 1 := by rw [Array.size_append]; exact hs2
    wp_walk using (wpAny_updateSeq hl rfl (hz := hs1) (_hz' := hz')), wpAny_loadPart' hl, wpAny_loadPart' hb; exact ⟨_, rfl, h⟩
section
variable {X : Cx}
def rExtendT (K : PySem.W.Frag) : V → List V → Hp → VK → Prop := fun x vs H Q => ∃ l b xs zs, x = .ref l ∧ vs = [.ref b] ∧ H l = some (.lst xs) ∧ SqT K H b zs ∧ xs.length + zs.length ≤ sizeLine ∧ Q .non (upd H l (.lst (xs ++ zs)))
theorem mt_extendT : MtM X "list.extend" (rExtendT X.K) := by
  intro pins s σ H x vs v us Q I rx rv h
  obtain ⟨l, b, xs, zs, rfl, rfl, hH, hB, hz, q⟩ := h
  cases rx
  obtain ⟨u, rfl, ru⟩ := rv.one
  cases ru
  obtain ⟨z, its, n, r, hl, e⟩ := I.lstM hH
  obtain ⟨its2, r2, ⟨⟨cls, dd, data, sl⟩, ho, hc, n2, hd⟩, hs⟩ := I.tuple hB
  simp only at hc hd
  subst hc hd
  have l1 := r.length
  have l2 := r2.length
  have hsz : its.toArray.size + its2.toArray.size ≤ sizeLine := by rw [List.size_toArray, List.size_toArray]; omega
  have hlong : ¬ (!its.toArray.isEmpty && Builtin.List.listTooLong (its.toArray.size + its2.toArray.size)) = true := by
    rw [notLongL hsz, Bool.and_false]
    exact Bool.false_ne_true
  refine call_meets F.slot_list_extend ⟨_, e, rfl⟩ F.entry_list_extend (F.args_list_extend_2 _ _)
    (list_extend_tupG l its.toArray n b its2.toArray n2 dd sl hlong (by rw [List.size_toArray]; omega) (by omega)) ⟨e, ho, ?_⟩
  refine ⟨.non, _, I.lset (its' := its ++ its2) hH e (by simp) (r.append r2) ?_, rfl, q⟩
  rw [List.length_append]
  omega
end
end QN

/-! the law's own walks -/
namespace Qp
open PySem PySem.Spec PyProof.Rows L2 QN
abbrev sLWk : Stmt := top 52 -- _law_walks
abbrev lwkN : List Str := ["_law_plain", "_law_node", "_law_other", "_law_upto", "_law_layer", "_law_turn", "_law_there", "_law_names", "_law_place", "_law_later", "_law_row"]
theorem scLWk : FnScope lwkN ["_law_plain", "_law_node", "_law_other", "_law_upto"] (defScope sLWk) := ⟨rfl, rfl, rfl, by decide +kernel, rfl, by decide +kernel, by decide +kernel⟩
/-- t + u, whatever is empty -/
theorem catA_any {K : PySem.W.Frag} {H : Hp} {Q : VK} {a b : Addr} {xs ys : List V} (ha : SqT K H a xs) (hb : SqT K H b ys) (hl : xs.length + ys.length ≤ sizeLine) (k : ∀ (p : Addr) (H' : Hp), Same H H' → SqT K H' p (xs ++ ys) → Q (.ref p) H') : rCatA K (.ref a) (.ref b) H Q := by
  refine ⟨a, b, xs, ys, rfl, rfl, ha, hb, hl, fun e => k b H (Same.refl _) (by rw [e]; exact hb), fun _ e => k a H (Same.refl _) (by rw [e, List.append_nil]; exact ha), fun _ _ p hp => k p _ (same_new hp) (.inl (.inl upd_same))⟩
/-- a walk and where it ends -/
def LayAt (K : PySem.W.Frag) (H : Hp) (us : List V) (l : List (List Str × Str)) : Prop := Paired (fun u w => ∃ t q, u = V.ref t ∧ SqT K H t [.ref q, .str w.2] ∧ SqT K H q (w.1.map V.str)) us l
theorem layAt_same {K : PySem.W.Frag} {H H' : Hp} (s : Same H H') {us : List V} {l : List (List Str × Str)} (h : LayAt K H us l) : LayAt K H' us l := Paired.mapP h fun _ _ ⟨t, q, e, a, b⟩ => ⟨t, q, e, sqT_same s a, sqT_same s b⟩
def layD (w : List Str × Str) : PyData := .tuple [compD w.1, .str w.2]
section
open PySem.W PySem.SeqAt
/-- the first of the sorted is the least -/
theorem sorted_head {β : Type} (k : β → PyData) {l : List β} (ne : l ≠ []) : ∃ b0 rest, l.mergeSort (dataLe false k) = b0 :: rest ∧ b0 ∈ l ∧ ∀ b ∈ l, dataLt (k b) (k b0) = false := by
  have pm := List.mergeSort_perm l (dataLe false k)
  have pw := sort_pairwise (sortLe_total (listOrd itemOrd) false fun b => keyToks (k b)) l
  have pw : (l.mergeSort (dataLe false k)).Pairwise fun a b => dataLe false k a b = true := pw
  cases e : l.mergeSort (dataLe false k) with
  | nil =>
    rw [e] at pm
    exact absurd pm.symm.eq_nil ne
  | cons b0 rest =>
    rw [e] at pm pw
    refine ⟨b0, rest, rfl, pm.mem_iff.mp List.mem_cons_self, fun b hb => ?_⟩
    rw [List.pairwise_cons] at pw
    rcases List.mem_cons.mp (pm.mem_iff.mpr hb) with rfl | h
    · exact data_irrefl _
    · have z : (!dataLt (k b) (k b0)) = true := pw.1 b h
      simpa using z
end
theorem layAt_at {K : PySem.W.Frag} {H : Hp} : ∀ {us : List V} {l : List (List Str × Str)} {i : Nat} {u : V}, LayAt K H us l → us[i]? = some u → ∃ (w : List Str × Str) (t q : Addr), l[i]? = some w ∧ u = .ref t ∧ SqT K H t [.ref q, .str w.2] ∧ SqT K H q (w.1.map V.str)
  | _, _, i, u, .nil, e => by simp at e
  | _, _, 0, u, .cons ⟨t, q, e1, a, b⟩ _, e => by
    cases e
    exact ⟨_, t, q, rfl, e1, a, b⟩
  | _, _, i + 1, u, .cons _ r, e => layAt_at (i := i) r (by simpa using e)
theorem layAt_dp {K : PySem.W.Frag} {H : Hp} : ∀ {us : List V} {l : List (List Str × Str)}, LayAt K H us l → DpAll K H us (l.map layD)
  | _, _, .nil => .nil
  | _, _, .cons ⟨t, q, e, a, b⟩ r => by
    subst e
    exact .cons (.tup a (.cons (.tup b (strs_dp _)) (.cons (.str _) .nil))) (layAt_dp r)
theorem compsAt_zip {K : PySem.W.Frag} {H : Hp} : ∀ {us : List V} {cs : List (List Str)}, CompsAt K H us cs → ∀ z ∈ us.zip cs, ∃ q, z.1 = V.ref q ∧ SqT K H q (z.2.map V.str)
  | _, _, .nil, z, h => by cases h
  | _, _, .cons a b, z, h => by
    rcases List.mem_cons.mp h with rfl | h
    · exact a
    · exact compsAt_zip b z h
theorem layAt_zip {K : PySem.W.Frag} {H : Hp} : ∀ {us : List V} {l : List (List Str × Str)}, LayAt K H us l → ∀ z ∈ us.zip l, ∃ t q, z.1 = V.ref t ∧ SqT K H t [.ref q, .str z.2.2] ∧ SqT K H q (z.2.1.map V.str)
  | _, _, .nil, z, h => by cases h
  | _, _, .cons a b, z, h => by
    rcases List.mem_cons.mp h with rfl | h
    · exact a
    · exact layAt_zip b z h
theorem layAt_of {K : PySem.W.Frag} {H : Hp} : ∀ {zs : List (V × (List Str × Str))}, (∀ z ∈ zs, ∃ t q, z.1 = V.ref t ∧ SqT K H t [.ref q, .str z.2.2] ∧ SqT K H q (z.2.1.map V.str)) → LayAt K H (zs.map (·.1)) (zs.map (·.2))
  | [], _ => .nil
  | z :: zs, h => .cons (h z List.mem_cons_self) (layAt_of fun q hq => h q (List.mem_cons_of_mem _ hq))
/-- [names for names, place in layer if place == other] -/
theorem there_te {K : PySem.W.Frag} {H : Hp} {Q : VK} {LA : Addr} {us : List V} {l : List (List Str × Str)} {o : Str} {v0 v1 v3 v5 v6 v7 v8 v9 v10 : Option V} (hL : H LA = some (.lst us)) (hl : LayAt K H us l) (few : l.length ≤ 600)
    (k : ∀ (D : Addr) (ts : List V) (H' : Hp), Same H H' → H' D = some (.lst ts) → CompsAt K H' ts ((l.filter fun w => decide (w.2 = o)).map (·.1)) → Q (.ref D) H') :
    tLc (iList K (tVar 4)) (gTup K 2 (gCons (gName 7) (gCons (gName 8) gNil))) (tTest (tOp rEq (tVar 8) (tVar 2))) (tVar 7) [7, 8] [v0, v1, some (.str o), v3, some (.ref LA), v5, v6, v7, v8, v9, v10] H Q := by
  refine ⟨_, rfl, LA, rfl, ⟨_, .inl (.inl hL)⟩, fun D hD => ?_⟩
  refine lc_list (xs := us) (fun i H' => Same H H' ∧ ∃ ts, H' D = some (.lst ts) ∧ CompsAt K H' ts (((l.take i).filter fun w => decide (w.2 = o)).map (·.1))) ⟨same_new hD, [], upd_same, .nil⟩ (fun i H' _ p => .inl (.inl (p.1 _ _ hL))) (fun i u H' hu p => ?_) fun H' p => ?_
  · obtain ⟨sm, ts, eD, hc⟩ := p
    obtain ⟨w, t, q, hw, rfl, h1, h2⟩ := layAt_at (layAt_same sm hl) hu
    have tk : l.take (i + 1) = l.take i ++ [w] := by
      rw [List.take_add_one, hw]
      rfl
    refine ⟨t, _, rfl, h1, rfl, _, _, rfl, _, _, rfl, rfl, rfl, _, rfl, _, rfl, rfl, _, rfl, ?_⟩
    rw [dec_str]
    by_cases e : w.2 = o
    · have tl : ts.length ≤ 600 := by
        rw [hc.length, List.length_map]
        have := List.length_filter_le (fun w : List Str × Str => decide (w.2 = o)) (l.take i)
        have : (l.take i).length ≤ l.length := by rw [List.length_take]; exact Nat.min_le_right _ _
        omega
      refine if_yes (by simpa using e) ⟨_, rfl, ts, eD, by rw [sizeLine_eq]; omega, same_upd' sm hD, ts ++ [.ref q], upd_same, ?_⟩
      rw [tk, List.filter_append, List.map_append, List.filter_cons_of_pos (by exact decide_eq_true e)]
      have up : ∀ {p : Addr} {ys : List V}, SqT K H' p ys → SqT K (upd H' D (.lst (ts ++ [.ref q]))) p ys := fun h => sqT_upd eD (fun _ z => by cases z) (fun _ _ z => by cases z) h
      exact paired_append (Paired.mapP hc fun _ _ ⟨q, e, h⟩ => ⟨q, e, up h⟩) ⟨q, rfl, up h2⟩
    · refine if_no (by simpa using e) ⟨sm, ts, eD, ?_⟩
      rw [tk, List.filter_append, List.filter_cons_of_neg (by rw [decide_eq_false e]; decide), List.filter_nil, List.append_nil]
      exact hc
  · obtain ⟨sm, ts, eD, hc⟩ := p
    rw [hl.length, List.take_length] at hc
    exact k D ts H' sm eD hc
theorem layD_comp_ne (c : List Str) : compD c ≠ .none := fun z => by cases z
/-- sorted(there)[0] -/
theorem pick_te {K : PySem.W.Frag} {H : Hp} {Q : VK} {D : Addr} {ts : List V} {cs : List (List Str)} {v0 v1 v2 v3 v4 v5 v7 v8 v9 v10 : Option V} (eD : H D = some (.lst ts)) (hc : CompsAt K H ts cs) (ne : cs ≠ []) (kind : cs.length ≤ 1 ∨ ∀ c ∈ cs, c ≠ []) (few : cs.length ≤ 600)
    (k : ∀ (q : Addr) (c : List Str) (H' : Hp), Same H H' → c ∈ cs → (∀ d ∈ cs, PySem.W.dataLt (compD d) (compD c) = false) → SqT K H' q (c.map V.str) → Q (.ref q) H') :
    tOp (rIxL K) (tCB (rSortedE K) (tCons (tVar 6) tNil)) (tC (.int 0)) [v0, v1, v2, v3, v4, v5, some (.ref D), v7, v8, v9, v10] H Q := by
  have tl := hc.length
  have bz1 : ((ts.zip cs).map fun z => (z.1, compD z.2)).map (·.1) = ts := by
    rw [List.map_map]
    exact fst_zip tl
  have bz2 : ((ts.zip cs).map fun z => (z.1, compD z.2)).map (·.2) = cs.map compD := by
    rw [List.map_map]
    have e : cs = (ts.zip cs).map (·.2) := (snd_zip tl).symm
    conv => rhs; rw [e, List.map_map]
    rfl
  have zne : ((ts.zip cs).map fun z => (z.1, compD z.2)) ≠ [] := fun z => by
    rw [z] at bz2
    exact ne (List.map_eq_nil_iff.mp bz2.symm)
  obtain ⟨b0, rest, es, m0, least⟩ := sorted_head (fun b : V × PyData => b.2) zne
  obtain ⟨z0, hz0, rfl⟩ := List.mem_map.mp m0
  obtain ⟨q0, e0, h0⟩ := compsAt_zip hc z0 hz0
  have dps : ∀ b ∈ (ts.zip cs).map fun z => (z.1, compD z.2), Dp K H b.1 b.2 := fun b hb => by
    obtain ⟨z, hz, rfl⟩ := List.mem_map.mp hb
    obtain ⟨q, e, h⟩ := compsAt_zip hc z hz
    show Dp K H z.1 (compD z.2)
    rw [e]
    exact .tup h (strs_dp _)
  have dep : ∀ b ∈ (ts.zip cs).map fun z => (z.1, compD z.2), b.2.depth ≤ 60 := fun b hb => by
    obtain ⟨z, hz, rfl⟩ := List.mem_map.mp hb
    show PyData.depthAll (z.2.map PyData.str) + 1 ≤ 60
    rw [depth_strs]
    decide
  have al : PySem.W.AllAlike (((ts.zip cs).map fun z => (z.1, compD z.2)).map (·.2)) := by
    rw [bz2]
    exact PySem.W.AllAlike.of fun a b => alike_strs a b
  have last : ∀ p, H p = none → (fun x H1 => tC (.int 0) [v0, v1, v2, v3, v4, v5, some (.ref D), v7, v8, v9, v10] H1 fun y H2 => rIxL K x y H2 Q) (.ref p) (upd H p (.lst ((((ts.zip cs).map fun z => (z.1, compD z.2)).mergeSort (PySem.W.dataLe false (·.2))).map (·.1)))) := fun p hp => by
    rw [es]
    have sp := same_new (o := .lst (List.map (fun x : V × PyData => x.1) ((z0.1, compD z0.2) :: rest))) hp
    refine ⟨p, _, 0, z0.1, rfl, rfl, .inl (.inl upd_same), (by show atI _ ((0 : Nat) : Int) = _; exact atI_nat rfl), ?_⟩
    rw [e0] at sp ⊢
    refine k q0 z0.2 _ sp ((List.of_mem_zip hz0).2) (fun d hd => ?_) (sqT_same sp h0)
    have md : compD d ∈ ((ts.zip cs).map fun z => (z.1, compD z.2)).map (·.2) := by
      rw [bz2]
      exact List.mem_map.mpr ⟨d, hd, rfl⟩
    obtain ⟨b, hb, eb⟩ := List.mem_map.mp md
    have q := least b hb
    rw [eb] at q
    exact q
  refine ⟨_, rfl, ?_⟩
  rcases kind with one | nem
  · exact .inr ⟨D, _, rfl, by rw [bz1]; exact .inl (.inl (.inl eD)), dps, al, ⟨by rw [List.length_map, List.length_zip]; omega, fun b hb => by
      obtain ⟨z, hz, rfl⟩ := List.mem_map.mp hb
      exact layD_comp_ne _⟩, dep, last⟩
  · refine .inl ⟨D, _, rfl, by rw [bz1]; exact .inl (.inl (.inl eD)), dps, al, ?_, dep, last⟩
    rw [bz2]
    refine .inl fun d hd => ?_
    obtain ⟨c, hc', rfl⟩ := List.mem_map.mp hd
    cases c with
    | nil => exact absurd rfl (nem [] hc')
    | cons x xs => exact ⟨.str x, xs.map PyData.str, rfl⟩
/-- the steps of one walk -/
theorem steps_te {K : PySem.W.Frag} {H : Hp} {Q : VK} {pl a b v q : Addr} {us : List V} {G : Gr} {ns : List Str} {p : Str} {v1 v2 v3 v4 v5 v6 v9 v10 : Option V} (pg : PlainG K H pl a b v us G) (rl : G.rs.length ≤ 16) (hq : SqT K H q (ns.map V.str)) (nl : ns.length ≤ 100)
    (k : ∀ (D : Addr) (es : List V) (H' : Hp), Same H H' → H' D = some (.lst es) → LayAt K H' es ((outOf G.rs p).map fun r => (ns ++ [r.n], r.t)) → Q (.ref D) H') :
    tLc (iTup K (tOp (rIxT K) (tVar 0) (tC (.int 2)))) (gName 10) (tTest (tOp rEq (tOp (rIxT K) (tVar 10) (tC (.int 1))) (tVar 8))) (tTup (tCons (tOp (rCatA K) (tVar 7) (tTup (tCons (tOp (rIxT K) (tVar 10) (tC (.int 0))) tNil))) (tCons (tOp (rIxT K) (tVar 10) (tC (.int 2))) tNil))) [10] [some (.ref pl), v1, v2, v3, v4, v5, v6, some (.ref q), some (.str p), v9, v10] H Q := by
  have ul := pg.hu.length
  refine ⟨_, rfl, pl, _, 2, .ref v, rfl, rfl, pg.hp, rfl, v, rfl, ⟨_, pg.hv⟩, fun D hD => ?_⟩
  refine lc_tup (xs := us) (fun i H' => Same H H' ∧ ∃ es, H' D = some (.lst es) ∧ LayAt K H' es (((G.rs.take i).filter fun r => decide (r.s = p)).map fun r => (ns ++ [r.n], r.t))) ⟨same_new hD, [], upd_same, .nil⟩ (fun i H' _ pp => sqT_same pp.1 pg.hv) (fun i u H' hu pp => ?_) fun H' pp => ?_
  · obtain ⟨sm, es, eD, he⟩ := pp
    obtain ⟨r, hr, ra, rc, ws, rfl, h1, h2, h3⟩ := rows_at (pg.sim (Sim.of sm)).hu hu
    have tk : G.rs.take (i + 1) = G.rs.take i ++ [r] := by
      rw [List.take_add_one, hr]
      rfl
    refine ⟨rfl, _, rfl, ra, _, 1, .str r.s, rfl, rfl, h1, rfl, _, rfl, rfl, _, rfl, ?_⟩
    rw [dec_str]
    by_cases e : r.s = p
    · have el : es.length ≤ 16 := by
        rw [he.length, List.length_map]
        have := List.length_filter_le (fun r : Row => decide (r.s = p)) (G.rs.take i)
        rw [List.length_take] at this
        omega
      refine if_yes (by simpa using e) ⟨_, rfl, _, rfl, ra, _, 0, .str r.n, rfl, rfl, h1, rfl, (by show 1 ≤ sizeLine; decide), fun t1 ht1 => ?_⟩
      have s1 := same_new (o := .tup [.str r.n]) ht1
      refine catA_any (sqT_same s1 (sqT_same sm hq)) (.inl (.inl upd_same)) (by rw [List.length_map, sizeLine_eq]; show ns.length + 1 ≤ _; omega) fun t2 H2 s2 h4 => ?_
      have sm2 := s1.trans s2
      refine ⟨_, rfl, ra, _, 2, .str r.t, rfl, rfl, sqT_same sm2 h1, rfl, (by show 2 ≤ sizeLine; decide), fun t3 ht3 => ?_⟩
      have s3 := same_new (o := .tup [.ref t2, .str r.t]) ht3
      have sm3 := sm2.trans s3
      have eD3 := sm3 _ _ eD
      have up : ∀ {p : Addr} {ys : List V}, SqT K (upd H2 t3 (.tup [.ref t2, .str r.t])) p ys → SqT K (upd (upd H2 t3 (.tup [.ref t2, .str r.t])) D (.lst (es ++ [.ref t3]))) p ys := fun h => sqT_upd eD3 (fun _ z => by cases z) (fun _ _ z => by cases z) h
      refine ⟨es, eD3, by rw [sizeLine_eq]; omega, same_upd' (sm.trans sm3) hD, es ++ [.ref t3], upd_same, ?_⟩
      rw [tk, List.filter_append, List.map_append, List.filter_cons_of_pos (by exact decide_eq_true e)]
      refine paired_append (Paired.mapP (layAt_same sm3 he) fun _ _ ⟨t, q, e, a, b⟩ => ⟨t, q, e, up a, up b⟩) ⟨t3, t2, rfl, up (.inl (.inl upd_same)), up (sqT_same s3 ?_)⟩
      show SqT K H2 t2 ((ns ++ [r.n]).map V.str)
      rw [List.map_append]
      exact h4
    · refine if_no (by simpa using e) ⟨sm, es, eD, ?_⟩
      rw [tk, List.filter_append, List.filter_cons_of_neg (by rw [decide_eq_false e]; decide), List.filter_nil, List.append_nil]
      exact he
  · obtain ⟨sm, es, eD, he⟩ := pp
    rw [ul, List.take_length] at he
    exact k D es H' sm eD he
/-- all steps of all walks -/
theorem later_for {K : PySem.W.Frag} {HB H : Hp} {D : Ends} {pl a b v LA LT : Addr} {us0 us : List V} {G : Gr} {l : List (List Str × Str)} {v1 v2 v3 v5 v6 v7 v8 : Option V} (pg : PlainG K HB pl a b v us0 G) (rl : G.rs.length ≤ 16) (sm : Same HB H) (nT : HB LT = none) (hA : H LA = some (.lst us)) (ne : LA ≠ LT) (hT : H LT = some (.lst [])) (hl : LayAt K H us l) (few : l.length ≤ 600) (nl : ∀ w ∈ l, w.1.length ≤ 100)
    (k : ∀ (y7 y8 : Option V) (ws : List V) (H' : Hp), Same HB H' → H' LT = some (.lst ws) → LayAt K H' ws (later G.rs l) → D.nx [some (.ref pl), v1, v2, v3, some (.ref LA), v5, v6, y7, y8, some (.ref LT), none] H') :
    tFor (iList K (tVar 4)) (gTup K 2 (gCons (gName 7) (gCons (gName 8) gNil))) (tDrop (tBM K "list" rExtend (tVar 9) (tCons (tLc (iTup K (tOp (rIxT K) (tVar 0) (tC (.int 2)))) (gName 10) (tTest (tOp rEq (tOp (rIxT K) (tVar 10) (tC (.int 1))) (tVar 8))) (tTup (tCons (tOp (rCatA K) (tVar 7) (tTup (tCons (tOp (rIxT K) (tVar 10) (tC (.int 0))) tNil))) (tCons (tOp (rIxT K) (tVar 10) (tC (.int 2))) tNil))) [10]) tNil))) D [some (.ref pl), v1, v2, v3, some (.ref LA), v5, v6, v7, v8, some (.ref LT), none] H := by
  refine ⟨_, rfl, LA, rfl, ⟨_, .inl (.inl hA)⟩, ?_⟩
  refine for_list (xs := us) (fun i σ H' => ∃ (y7 y8 : Option V) (ws : List V), σ = [some (.ref pl), v1, v2, v3, some (.ref LA), v5, v6, y7, y8, some (.ref LT), none] ∧ Same HB H' ∧ H' LA = some (.lst us) ∧ H' LT = some (.lst ws) ∧ LayAt K H' us l ∧ LayAt K H' ws (later G.rs (l.take i))) ⟨v7, v8, [], rfl, sm, hA, hT, hl, .nil⟩ (fun i σ H' _ p => ?_) (fun i u σ H' hu p => ?_) fun σ H' p => ?_
  · obtain ⟨y7, y8, ws, rfl, _, hA', _⟩ := p
    exact .inl (.inl hA')
  · obtain ⟨y7, y8, ws, rfl, sm', hA', hT', hl', hw⟩ := p
    obtain ⟨w, t, q, hw2, rfl, h1, h2⟩ := layAt_at hl' hu
    have mw := List.mem_of_getElem? hw2
    have tk : l.take (i + 1) = l.take i ++ [w] := by
      rw [List.take_add_one, hw2]
      rfl
    refine ⟨t, _, rfl, h1, rfl, _, _, rfl, _, _, rfl, rfl, ?_⟩
    refine ⟨_, rfl, .inl ⟨rfl, _, .inl (.inl hT')⟩, ?_⟩
    refine steps_te (pg.sim (Sim.of sm')) rl h2 (nl w mw) fun E es H2 s2 eE he => ?_
    have hT2 := s2 _ _ hT'
    have wl : ws.length ≤ 9600 := by
      rw [hw.length]
      have all : ∀ m : List (List Str × Str), (later G.rs m).length ≤ m.length * 16 := fun m => by
        induction m with
        | nil => exact Nat.zero_le _
        | cons w m ih =>
          show ((w :: m).flatMap _).length ≤ _
          rw [List.flatMap_cons, List.length_append, List.length_map, List.length_cons, Nat.succ_mul]
          have a : (m.flatMap fun w => (outOf G.rs w.2).map fun r => (w.1 ++ [r.n], r.t)).length ≤ m.length * 16 := ih
          have b : (outOf G.rs w.2).length ≤ G.rs.length := List.length_filter_le _ _
          omega
      have c := all (l.take i)
      have d : (l.take i).length ≤ 600 := by rw [List.length_take]; omega
      omega
    have el : es.length ≤ 16 := by
      rw [he.length, List.length_map]
      exact Nat.le_trans (List.length_filter_le _ _) rl
    refine ⟨LT, E, ws, es, rfl, rfl, hT2, eE, by rw [sizeLine_eq]; omega, ?_⟩
    have up : ∀ {p : Addr} {ys : List V}, SqT K H2 p ys → SqT K (upd H2 LT (.lst (ws ++ es))) p ys := fun h => sqT_upd hT2 (fun _ z => by cases z) (fun _ _ z => by cases z) h
    have upL : ∀ {us : List V} {m : List (List Str × Str)}, LayAt K H2 us m → LayAt K (upd H2 LT (.lst (ws ++ es))) us m := fun h => Paired.mapP h fun _ _ ⟨t, q, e, a, b⟩ => ⟨t, q, e, up a, up b⟩
    refine ⟨_, _, ws ++ es, rfl, same_upd' (sm'.trans s2) nT, by rw [upd_ne ne]; exact s2 _ _ hA', upd_same, upL (layAt_same s2 hl'), ?_⟩
    have lt : later G.rs (l.take (i + 1)) = later G.rs (l.take i) ++ ((outOf G.rs w.2).map fun r => (w.1 ++ [r.n], r.t)) := by
      rw [tk]
      unfold later
      rw [List.flatMap_append]
      simp
    rw [lt]
    have app : ∀ {xs ys : List V} {m n : List (List Str × Str)} {H' : Hp}, LayAt K H' xs m → LayAt K H' ys n → LayAt K H' (xs ++ ys) (m ++ n) := fun {xs ys m n H'} h1 h2 => by
      induction h1 with
      | nil => exact h2
      | cons r t ih => exact .cons r ih
    exact app (upL (layAt_same s2 hw)) (upL he)
  · obtain ⟨y7, y8, ws, rfl, sm', hA', hT', hl', hw⟩ := p
    rw [hl'.length, List.take_length] at hw
    exact k y7 y8 ws H' sm' hT' hw
theorem there_seq {K : PySem.W.Frag} {H : Hp} {T : TS} {E : Ends} {LA : Addr} {us : List V} {l : List (List Str × Str)} {o : Str} {v0 v1 v3 v5 v6 v7 v8 v9 v10 : Option V} (hL : H LA = some (.lst us)) (hl : LayAt K H us l) (few : l.length ≤ 600)
    (k : ∀ (D : Addr) (ts : List V) (H' : Hp), Same H H' → H' D = some (.lst ts) → CompsAt K H' ts ((l.filter fun w => decide (w.2 = o)).map (·.1)) → T E [v0, v1, some (.str o), v3, some (.ref LA), v5, some (.ref D), v7, v8, v9, v10] H') :
    tSeq (tAsg (tLc (iList K (tVar 4)) (gTup K 2 (gCons (gName 7) (gCons (gName 8) gNil))) (tTest (tOp rEq (tVar 8) (tVar 2))) (tVar 7) [7, 8]) (gName 6)) T E [v0, v1, some (.str o), v3, some (.ref LA), v5, v6, v7, v8, v9, v10] H := by
  show tLc (iList K (tVar 4)) (gTup K 2 (gCons (gName 7) (gCons (gName 8) gNil))) (tTest (tOp rEq (tVar 8) (tVar 2))) (tVar 7) [7, 8] [v0, v1, some (.str o), v3, some (.ref LA), v5, v6, v7, v8, v9, v10] H fun x H1 => T E [v0, v1, some (.str o), v3, some (.ref LA), v5, some x, v7, v8, v9, v10] H1
  exact there_te hL hl few k
theorem isW_names {rs : List Row} : ∀ {ns : List Str} {s o : Str}, IsW rs ns s o → ∀ n ∈ ns, n ∈ rs.map (·.n)
  | [], _, _, _, n, h => by cases h
  | m :: ns, _, _, ⟨r, h1, h2, h3, h4⟩, n, h => by
    rcases List.mem_cons.mp h with rfl | h
    · exact List.mem_map.mpr ⟨r, h1, h3⟩
    · exact isW_names h4 n h
def spLWk (K : PySem.W.Frag) : Sp := fun vs H Q _ => ∃ (pl a b v : Addr) (us : List V) (G : Gr) (s o : Str) (dd : Str → Nat), vs = [.ref pl, .str s, .str o, .int (G.ns.length : Nat)] ∧ PlainG K H pl a b v us G ∧ LawG G ∧ G.ns.length ≤ 4 ∧ s ∈ G.ns ∧ o ∈ G.ns ∧ DistTo G o dd ∧
  ∀ (p : Addr) (H' : Hp), Same H H' → SqT K H' p ((gway G.rs dd (dd s) s).map V.str) → Q (.ref p) H'
section
variable {P : Program} {w : World} {K : PySem.W.Frag} {mg : Str → Option Value} {base : Heap}
theorem ok_lwk {f : Addr} {fd : FuncData} (F : Fun K "_law_walks" "_law_walks" sLWk f fd) (B : BltP mg) (B2 : Blt2 mg) (so : mg "sorted" = none) : FnOk P w K mg base CX0 1 f fd ["_law_plain", "_law_node", "_law_other", "_law_upto"] (spLWk K) := by
  refine F.ok scLWk (fun vs H Q E h => ?_) (fun cdv A outer s H vs Q E hr h => ?_)
  · obtain ⟨pl, a, b, v, us, G, s, o, dd, rfl, _⟩ := h
    rfl
  · obtain ⟨pl, a, b, v, us, G, s0, o, dd, rfl, pg, L, n4, hs0, ho, DT, fin⟩ := h
    have hu64 : (A.deeper (envOfC "_law_walks" (defScope sLWk) s.heap.objs.size f cdv)).units + 64 < cLine := by
      have := hr.un
      omega
    refine ⟨_, pss_cons (ps_set (i := 4) scLWk.nd rfl (.inl rfl) (pe_lst (pa_cons (pe_tup (pa_cons (pe_tup pa_nil) (pa_cons (pv 1) pa_nil))) pa_nil)))
      (pss_cons (ps_for PassesOwn.never rfl (pi_range1 (by rfl) B2.rg (pa_cons (pe_op op_add (pv 3) pe_int) pa_nil)) (pg_name (i := 5) scLWk.nd rfl (.inl rfl))
        (pss_cons (ps_setLc (i := 6) (own := [("_law_names", 7), ("_law_place", 8)]) (g := gTup K 2 (gCons (gName 7) (gCons (gName 8) gNil))) (tt := tTest (tOp rEq (tVar 8) (tVar 2))) (te := tVar 7) rfl scLWk.nd rfl rfl (sw_true rfl rfl rfl (by decide +kernel)) (pi_list (pv 4)) (blkOk_by (N := lwkN) (sc := defScope sLWk) (by decide +kernel))
          (fun _ _ _ _ _ => pg_tup (by rfl) (pgs_cons (pg_name (i := 7) scLWk.nd rfl (.inl rfl)) (pgs_cons (pg_name (i := 8) scLWk.nd rfl (.inl rfl)) pgs_nil))) (fun _ _ _ _ _ => pts_one (pt_cmpR op_eq (pv 8) (pv 2) (nomark _))) (fun _ _ _ _ _ => pv 7))
        (pss_cons (ps_if (pt_cmpR (op_neD hu64) (pv 6) (pe_lst pa_nil) (nomark _)) (pss_one (ps_ret (pe_ix (r := rIxL K) ix_list (pe_callB (r := rSortedE K) (cr_sortedE hu64) (by rfl) so (by decide +kernel) (pa_cons (pv 6) pa_nil)) pe_int (fun _ _ => rfl)))) pss_nil)
        (pss_cons (ps_set (i := 9) scLWk.nd rfl (.inl rfl) (pe_lst pa_nil))
        (pss_cons (ps_for PassesOwn.never rfl (pi_list (pv 4)) (pg_tup (by rfl) (pgs_cons (pg_name (i := 7) scLWk.nd rfl (.inr rfl)) (pgs_cons (pg_name (i := 8) scLWk.nd rfl (.inr rfl)) pgs_nil)))
          (pss_one (ps_expr (pe_bm PySem.F.plainAttrs_list PySem.F.slot_list_extend PySem.F.type_list_extend mt_extend (pv 9) (pa_cons (pe_lc (own := [("_law_row", 10)]) (g := gName 10) (tt := tTest (tOp rEq (tOp (rIxT K) (tVar 10) (tC (.int 1))) (tVar 8))) (te := tTup (tCons (tOp (rCatA K) (tVar 7) (tTup (tCons (tOp (rIxT K) (tVar 10) (tC (.int 0))) tNil))) (tCons (tOp (rIxT K) (tVar 10) (tC (.int 2))) tNil))) rfl scLWk.nd (pi_tup (pe_ix (r := rIxT K) ix_tup (pv 0) pe_int (fun _ _ => rfl))) (blkOk_by (N := lwkN) (sc := defScope sLWk) (by decide +kernel))
            (fun _ _ _ _ _ => pg_name (i := 10) scLWk.nd rfl (.inl rfl)) (fun _ _ _ _ _ => pts_one (pt_cmpR op_eq (pe_ix ix_tup (pv 10) pe_int (fun _ _ => rfl)) (pv 8) (nomark _))) (fun _ _ _ _ _ => pe_tup (pa_cons (pe_op op_catA (pv 7) (pe_tup (pa_cons (pe_ix ix_tup (pv 10) pe_int (fun _ _ => rfl)) pa_nil))) (pa_cons (pe_ix ix_tup (pv 10) pe_int (fun _ _ => rfl)) pa_nil)))) pa_nil)))))
        (pss_one (ps_set (i := 4) scLWk.nd rfl (.inl rfl) (pe_slice sl_list (pe_callB (r := rSortedDt K) (cr_sortedDt hu64) (by rfl) so (by decide +kernel) (pa_cons (pv 9) pa_nil)) po_none (po_some pe_int)))))))))
      (pss_one (ps_ret pe_non))), ?_⟩
    have ok := L.ok
    have rl := ok.rl
    have ends := L.made.ends
    have kn := dist_le L.made hs0 ho (DT.is s0 hs0)
    obtain ⟨gw1, gw2⟩ := gway_is DT ends hs0 (rfl : dd s0 = dd s0)
    refine ⟨(by show 0 ≤ sizeLine; decide), fun q hq => ⟨_, rfl, (by show 2 ≤ sizeLine; decide), fun t ht => ⟨(by show 1 ≤ sizeLine; decide), fun LA hA => ?_⟩⟩⟩
    have sq := same_new (o := .tup []) hq
    have st := same_new (o := .tup [.ref q, .str s0]) ht
    have sA := same_new (o := .lst [.ref t]) hA
    have eA : (upd (upd (upd H q (.tup [])) t (.tup [.ref q, .str s0])) LA (.lst [.ref t])) LA = some (.lst [.ref t]) := upd_same
    have hl0 : LayAt K (upd (upd (upd H q (.tup [])) t (.tup [.ref q, .str s0])) LA (.lst [.ref t])) [.ref t] [([], s0)] := .cons ⟨t, q, rfl, .inl (.inl (sA _ _ upd_same)), .inl (.inl (sA _ _ (st _ _ upd_same)))⟩ .nil
    have s0' := sq.trans (st.trans sA)
    generalize upd (upd (upd H q (.tup [])) t (.tup [.ref q, .str s0])) LA (.lst [.ref t]) = H0 at eA hl0 s0'
    clear sq st sA hA ht hq
    refine ⟨_, rfl, _, _, rfl, rfl, _, rfl, by omega, by omega, ?_⟩
    refine for_range (fun i σ H' => ∃ (LA : Addr) (us : List V) (l : List (List Str × Str)) (y5 y6 y7 y8 y9 : Option V), σ = [some (.ref pl), some (.str s0), some (.str o), some (.int (G.ns.length : Nat)), some (.ref LA), y5, y6, y7, y8, y9, none] ∧ Same H H' ∧ H' LA = some (.lst us) ∧ LayAt K H' us l ∧ LayW G s0 i l ∧ i ≤ dd s0) ⟨LA, [.ref t], [([], s0)], none, none, none, none, none, rfl, s0', eA, hl0, layW_zero hs0, Nat.zero_le _⟩ ?_ ?_
    · clear eA hl0 s0'
      rintro i σ H1 hi ⟨LA, us1, l, y5, y6, y7, y8, y9, rfl, sm, hA, hl, lw, ik⟩
      have few : l.length ≤ 600 := Nat.le_trans lw.len (walks_few L n4 (by omega))
      refine there_seq hA hl few fun D ts H2 s2 eD hc => ?_
      have wl : ∀ w ∈ l, w.1.length = i := fun w hw => ((lw.mem w).mp hw).1
      have cw : ∀ c ∈ (l.filter fun w => decide (w.2 = o)).map (·.1), c.length = i ∧ IsW G.rs c s0 o := fun c hc => by
        obtain ⟨w, hw, rfl⟩ := List.mem_map.mp hc
        obtain ⟨h1, h2⟩ := List.mem_filter.mp hw
        have h2 : w.2 = o := of_decide_eq_true h2
        have z := (lw.mem w).mp h1
        rw [h2] at z
        exact z
      have gin : i = dd s0 → gway G.rs dd (dd s0) s0 ∈ (l.filter fun w => decide (w.2 = o)).map (·.1) := fun e => List.mem_map.mpr ⟨(gway G.rs dd (dd s0) s0, o), List.mem_filter.mpr ⟨(lw.mem _).mpr ⟨by rw [e]; exact gw2, gw1⟩, decide_eq_true rfl⟩, rfl⟩
      have cf : ((l.filter fun w => decide (w.2 = o)).map (·.1)).length ≤ l.length := by
        rw [List.length_map]
        exact List.length_filter_le _ _
      have l1 : i = 0 → l.length ≤ 1 := fun e => by
        have z := lw.len
        rw [e, Nat.pow_zero] at z
        exact z
      generalize (l.filter fun w => decide (w.2 = o)).map (·.1) = cs at hc cw gin cf
      have sc := shaped_comps (cs := cs) fun c hc x hx => by
        obtain ⟨r, hr, e⟩ := List.mem_map.mp (isW_names (cw c hc).2 x hx)
        rw [← e]
        exact (ok.ro r hr).n
      have sm2 := sm.trans s2
      refine ⟨_, rfl, (by show 0 ≤ sizeLine; decide), fun em hem => ?_⟩
      have sE := same_new (o := .lst []) hem
      refine ⟨.list (cs.map compD), .list [], dp_same sE _ _ (.lst (.inl (.inl eD)) (compsAt_dp hc)), .lst (.inl (.inl upd_same)) .nil, shaped_list sc.1 (by have := sc.2; omega), shaped_list rfl (Nat.zero_le _), ⟨_, rfl, ?_⟩⟩
      have sm3 := sm2.trans sE
      have eD3 := sE _ _ eD
      have hc3 := compsAt_same sE hc
      have hA3 := sE _ _ (s2 _ _ hA)
      have hl3 := layAt_same (s2.trans sE) hl
      generalize upd H2 em (.lst []) = H3 at sm3 eD3 hc3 hA3 hl3
      by_cases ne : cs = []
      · have lt : i < dd s0 := by
          by_cases z : i = dd s0
          · have := gin z
            rw [ne] at this
            cases this
          · omega
        refine if_no (by rw [ne]; decide) ⟨(by show 0 ≤ sizeLine; decide), fun LT hLT => ?_⟩
        have sT := same_new (o := .lst []) hLT
        have nAT : LA ≠ LT := fun z => by rw [← z, hA3] at hLT; cases hLT
        refine later_for (HB := H3) (pg.sim (Sim.of sm3)) rl sT hLT (sT _ _ hA3) nAT upd_same (layAt_same sT hl3) few (fun w hw => by rw [wl w hw]; omega) fun z7 z8 ws H5 s5 hT hw => ?_
        have lw2 := layW_step L lw
        have few2 : (later G.rs l).length ≤ 600 := Nat.le_trans lw2.len (walks_few L n4 (by omega))
        have lin : ∀ w ∈ later G.rs l, ∀ x ∈ w.1, x ∈ G.rs.map (·.n) := fun w hw => isW_names ((lw2.mem w).mp hw).2
        generalize later G.rs l = m at hw lw2 few2 lin
        have ml := hw.length
        have bz1 : ((ws.zip m).map fun z => (z.1, layD z.2)).map (·.1) = ws := by
          rw [List.map_map]
          exact fst_zip ml
        have bz2 : ((ws.zip m).map fun z => (z.1, layD z.2)).map (·.2) = m.map layD := by
          rw [List.map_map]
          have e : m = (ws.zip m).map (·.2) := (snd_zip ml).symm
          conv => rhs; rw [e, List.map_map]
          rfl
        have srt : ((ws.zip m).map fun z => (z.1, layD z.2)).mergeSort (PySem.W.dataLe false (·.2)) = ((ws.zip m).mergeSort (PySem.W.dataLe false fun z => layD z.2)).map fun z => (z.1, layD z.2) := (List.map_mergeSort (f := fun z : V × (List Str × Str) => (z.1, layD z.2)) (r := PySem.W.dataLe false fun z : V × (List Str × Str) => layD z.2) (s := PySem.W.dataLe false fun b : V × PyData => b.2) (fun _ _ _ _ => rfl)).symm
        have pz := List.mergeSort_perm (ws.zip m) (PySem.W.dataLe false fun z => layD z.2)
        have alk : PySem.W.AllAlike (m.map layD) := PySem.W.AllAlike.of fun x y => by
          show PySem.W.alikeAll [compD x.1, .str x.2] [compD y.1, .str y.2] = true
          have z : PySem.W.alike (compD x.1) (compD y.1) = true := alike_strs x.1 y.1
          simp [PySem.W.alikeAll, PySem.W.alike, z]
        refine ⟨_, rfl, LT, (ws.zip m).map fun z => (z.1, layD z.2), rfl, by rw [bz1]; exact .inl (.inl (.inl hT)), fun b hb => ?_, by rw [bz2]; exact alk, by rw [bz2]; exact PySem.W.Sortable.tuples fun w => ⟨_, _, rfl⟩, fun b hb => ?_, fun p hp => ?_⟩
        · obtain ⟨z, hz, rfl⟩ := List.mem_map.mp hb
          obtain ⟨t, q, e, h1, h2⟩ := layAt_zip hw z hz
          show Dp K H5 z.1 (layD z.2)
          rw [e]
          exact .tup h1 (.cons (.tup h2 (strs_dp _)) (.cons (.str _) .nil))
        · obtain ⟨z, hz, rfl⟩ := List.mem_map.mp hb
          show max (PyData.depthAll (z.2.1.map PyData.str) + 1) (max 0 0) + 1 ≤ 60
          rw [depth_strs]
          decide
        · rw [srt, List.map_map]
          have sp := same_new (o := .lst (((ws.zip m).mergeSort (PySem.W.dataLe false fun z => layD z.2)).map fun z => z.1)) hp
          refine ⟨_, rfl, p, _, rfl, .inl (.inl upd_same), fun c hc => ?_⟩
          have len : (((ws.zip m).mergeSort (PySem.W.dataLe false fun z => layD z.2)).map fun z => z.1).length ≤ 600 := by
            rw [List.length_map, pz.length_eq, List.length_zip]
            omega
          have cut : cutV (((ws.zip m).mergeSort (PySem.W.dataLe false fun z => layD z.2)).map fun z => z.1) none (some 600) = ((ws.zip m).mergeSort (PySem.W.dataLe false fun z => layD z.2)).map fun z => z.1 := by
            have e := cut_to (((ws.zip m).mergeSort (PySem.W.dataLe false fun z => layD z.2)).map fun z => z.1) 600 (fun v => v)
            rw [List.map_id', List.map_id'] at e
            rw [show (some 600 : Option Int) = some ((600 : Nat) : Int) from rfl, e, List.take_of_length_le len]
          have lay2 : LayAt K H5 (((ws.zip m).mergeSort (PySem.W.dataLe false fun z => layD z.2)).map (·.1)) (((ws.zip m).mergeSort (PySem.W.dataLe false fun z => layD z.2)).map (·.2)) := layAt_of fun z hz => layAt_zip hw z (pz.mem_iff.mp hz)
          have pm : (((ws.zip m).mergeSort (PySem.W.dataLe false fun z => layD z.2)).map (·.2)).Perm m := by
            have z := pz.map (·.2)
            rw [snd_zip ml] at z
            exact z
          have s9 := sp.trans (same_new (o := .lst (cutV (((ws.zip m).mergeSort (PySem.W.dataLe false fun z => layD z.2)).map fun z => z.1) none (some 600))) hc)
          refine ⟨c, ((ws.zip m).mergeSort (PySem.W.dataLe false fun z => layD z.2)).map (·.1), ((ws.zip m).mergeSort (PySem.W.dataLe false fun z => layD z.2)).map (·.2), _, _, _, _, _, rfl, (sm3.trans s5).trans s9, ?_, layAt_same s9 lay2, lw2.perm pm, by omega⟩
          rw [upd_same]
          exact congrArg (fun z => some (HO.lst z)) cut
      · have cm : ∃ c, c ∈ cs := by
          cases cs with
          | nil => exact absurd rfl ne
          | cons c cs => exact ⟨c, List.mem_cons_self⟩
        obtain ⟨c0, hc0⟩ := cm
        obtain ⟨w1, w2⟩ := cw c0 hc0
        have ie : i = dd s0 := by
          by_cases z : i < dd s0
          · exact absurd (isW_lay (Nat.le_of_eq w1) w2) ((DT.is s0 hs0).2 i z)
          · omega
        have yes : (!PyData.eqv (.list (cs.map compD)) (.list [])) = true := by
          cases cs with
          | nil => exact absurd rfl ne
          | cons c cs => simp [PyData.eqv, PyData.eqvAll]
        refine if_yes yes (pick_te eD3 hc3 ne ?_ (by omega) fun p c H4 s4 mc least hp => ?_)
        · by_cases z : i = 0
          · exact .inl (by have := l1 z; omega)
          · exact .inr fun c hc e => by
              have := (cw c hc).1
              rw [e] at this
              exact z this.symm
        · have gl := least _ (gin ie)
          have eq : gway G.rs dd (dd s0) s0 = c := by
            rcases gway_least DT ends ok.ra hs0 rfl (by rw [(cw c mc).1, ie]) (cw c mc).2 with e | e
            · exact e
            · have e : PySem.W.dataLt (compD (gway G.rs dd (dd s0) s0)) (compD c) = true := e
              rw [gl] at e
              cases e
          exact fin p H4 (sm3.trans s4) (by rw [eq]; exact hp)
    · rintro σ H1 ⟨LA, us1, l, y5, y6, y7, y8, y9, rfl, sm, hA, hl, lw, ik⟩
      exfalso
      omega
end
end Qp

/-! comprehensions over any known things, with tests and values that lay new things -/
namespace Qp
open PySem PySem.Spec PyProof.Rows L2 QN
open PySem.W PySem.SeqAt
/-- [val for z in a tuple if keep], z known by what it stands for -/
theorem lc_anyT {α : Type} {K : PySem.W.Frag} {a : Addr} {zs : List α} {key : α → V} {keep : α → Bool} {val : α → V} {j : Nat} {tt : TT} {te : TE} {vs : List Nat} {σ : L2.St} {H1 : Hp} {D : Addr} {Qd : Hp → Prop} (hD : H1 D = none) (hq : SqT K H1 a (zs.map key)) (few : zs.length ≤ 1000) (hw : ∀ v, wipe ((wipe σ vs).set j (some v)) vs = wipe σ vs)
    (hs : ∀ z ∈ zs, ∀ (H' : Hp) (R : VK) (F : Hp → Prop), Same H1 H' → (keep z = true → ∀ H3, Same H' H3 → R (val z) H3) → (keep z = false → ∀ H3, Same H' H3 → F H3) → tt ((wipe σ vs).set j (some (key z))) H' fun b H3 => if b = true then te ((wipe σ vs).set j (some (key z))) H3 R else F H3) (hd : ∀ H', Same H1 H' → H' D = some (.lst ((zs.filter keep).map val)) → Qd H') :
    ∃ W : Nat → Nat → Hp → Prop, (∃ m, W 0 m (upd H1 D (.lst []))) ∧ ∀ i m H, W i m H → ((Itt K a).stop i H ∧ Qd H) ∨ ((Itt K a).go i H ∧ ∃ Nx : Hp → Prop, (∀ H', Nx H' → ∃ m', m' < m ∧ W (i + 1) m' H') ∧ ∀ x H', (Itt K a).yld i H x H' → gName j x (wipe σ vs) H' fun σ2 H2 => wipe σ2 vs = wipe σ vs ∧ tt σ2 H2 fun b H3 =>
        if b = true then te σ2 H3 fun y H4 => ∃ acc, H4 D = some (.lst acc) ∧ acc.length < sizeLine ∧ Nx (upd H4 D (.lst (acc ++ [y]))) else Nx H3) := by
  refine lc_tup (xs := zs.map key) (fun i H' => Same H1 H' ∧ H' D = some (.lst (((zs.take i).filter keep).map val))) ⟨same_new hD, upd_same⟩ (fun i H' _ p => sqT_same p.1 hq) (fun i x H' hx p => ⟨hw x, ?_⟩) fun H' p => ?_
  · rw [List.getElem?_map] at hx
    cases hz : zs[i]? with
    | none => rw [hz] at hx; cases hx
    | some z =>
      rw [hz] at hx
      cases (Option.some.inj hx : key z = x)
      obtain ⟨sm, e⟩ := p
      refine hs z (List.mem_of_getElem? hz) H' _ _ sm (fun kz H3 s3 => ⟨_, s3 _ _ e, ?_, same_upd' (sm.trans s3) hD, ?_⟩) fun kz H3 s3 => ⟨sm.trans s3, ?_⟩
      · rw [List.length_map, sizeLine_eq]
        have := List.length_filter_le keep (zs.take i)
        have : (zs.take i).length ≤ zs.length := by rw [List.length_take]; exact Nat.min_le_right _ _
        omega
      · rw [upd_same, List.take_add_one, hz]
        show some (HO.lst _) = some (HO.lst (((zs.take i ++ [z]).filter _).map val))
        rw [List.filter_append, List.map_append, List.filter_cons_of_pos (by exact kz)]
        rfl
      · rw [List.take_add_one, hz, s3 _ _ e]
        show some (HO.lst _) = some (HO.lst (((zs.take i ++ [z]).filter _).map val))
        rw [List.filter_append, List.filter_cons_of_neg (by rw [kz]; decide), List.filter_nil, List.append_nil]
  · obtain ⟨sm, e⟩ := p
    rw [List.length_map, List.take_length] at e
    exact hd H' sm e
/-- the same, over a list -/
theorem lc_anyL {α : Type} {K : PySem.W.Frag} {a : Addr} {zs : List α} {key : α → V} {keep : α → Bool} {val : α → V} {j : Nat} {tt : TT} {te : TE} {vs : List Nat} {σ : L2.St} {H1 : Hp} {D : Addr} {Qd : Hp → Prop} (hD : H1 D = none) (hq : SqL K H1 a (zs.map key)) (few : zs.length ≤ 1000) (hw : ∀ v, wipe ((wipe σ vs).set j (some v)) vs = wipe σ vs)
    (hs : ∀ z ∈ zs, ∀ (H' : Hp) (R : VK) (F : Hp → Prop), Same H1 H' → (keep z = true → ∀ H3, Same H' H3 → R (val z) H3) → (keep z = false → ∀ H3, Same H' H3 → F H3) → tt ((wipe σ vs).set j (some (key z))) H' fun b H3 => if b = true then te ((wipe σ vs).set j (some (key z))) H3 R else F H3) (hd : ∀ H', Same H1 H' → H' D = some (.lst ((zs.filter keep).map val)) → Qd H') :
    ∃ W : Nat → Nat → Hp → Prop, (∃ m, W 0 m (upd H1 D (.lst []))) ∧ ∀ i m H, W i m H → ((Itl K a).stop i H ∧ Qd H) ∨ ((Itl K a).go i H ∧ ∃ Nx : Hp → Prop, (∀ H', Nx H' → ∃ m', m' < m ∧ W (i + 1) m' H') ∧ ∀ x H', (Itl K a).yld i H x H' → gName j x (wipe σ vs) H' fun σ2 H2 => wipe σ2 vs = wipe σ vs ∧ tt σ2 H2 fun b H3 =>
        if b = true then te σ2 H3 fun y H4 => ∃ acc, H4 D = some (.lst acc) ∧ acc.length < sizeLine ∧ Nx (upd H4 D (.lst (acc ++ [y]))) else Nx H3) := by
  refine lc_list (xs := zs.map key) (fun i H' => Same H1 H' ∧ H' D = some (.lst (((zs.take i).filter keep).map val))) ⟨same_new hD, upd_same⟩ (fun i H' _ p => sqL_sameP p.1 hq) (fun i x H' hx p => ⟨hw x, ?_⟩) fun H' p => ?_
  · rw [List.getElem?_map] at hx
    cases hz : zs[i]? with
    | none => rw [hz] at hx; cases hx
    | some z =>
      rw [hz] at hx
      cases (Option.some.inj hx : key z = x)
      obtain ⟨sm, e⟩ := p
      refine hs z (List.mem_of_getElem? hz) H' _ _ sm (fun kz H3 s3 => ⟨_, s3 _ _ e, ?_, same_upd' (sm.trans s3) hD, ?_⟩) fun kz H3 s3 => ⟨sm.trans s3, ?_⟩
      · rw [List.length_map, sizeLine_eq]
        have := List.length_filter_le keep (zs.take i)
        have : (zs.take i).length ≤ zs.length := by rw [List.length_take]; exact Nat.min_le_right _ _
        omega
      · rw [upd_same, List.take_add_one, hz]
        show some (HO.lst _) = some (HO.lst (((zs.take i ++ [z]).filter _).map val))
        rw [List.filter_append, List.map_append, List.filter_cons_of_pos (by exact kz)]
        rfl
      · rw [List.take_add_one, hz, s3 _ _ e]
        show some (HO.lst _) = some (HO.lst (((zs.take i ++ [z]).filter _).map val))
        rw [List.filter_append, List.filter_cons_of_neg (by rw [kz]; decide), List.filter_nil, List.append_nil]
  · obtain ⟨sm, e⟩ := p
    rw [List.length_map, List.take_length] at e
    exact hd H' sm e
/-- some of these, told by ones -/
theorem ones_none {α : Type} {cs : List α} {p : α → Bool} : ((cs.filter p).map fun _ => PyData.int 1) = [] ↔ cs.any p = false := by
  rw [List.map_eq_nil_iff, List.filter_eq_nil_iff, List.any_eq_false]
end Qp

/-! d.update(e); repr of what holds dicts of texts and whole numbers -/
namespace QN
open PySem PySem.Spec PyProof.Rows L2
def rDUpdate : V → List V → Hp → VK → Prop := fun x xs H Q => ∃ (a b : Addr) (kvs more : List (Key × V)), x = .ref a ∧ xs = [.ref b] ∧ a ≠ b ∧ H a = some (.dK kvs) ∧ H b = some (.dK more) ∧ kvs.length + more.length ≤ sizeLine ∧ Q .non (upd H a (.dK (mergeK kvs more)))
def tLstZ (t : TA) : TE := fun σ H Q => t σ H fun xs H1 => xs.length ≤ sizeLine ∧ ∀ p, H1 p = none → (p == sysModules) = false → Q (.ref p) (upd H1 p (.lst xs))
/-- a dict of texts and whole numbers -/
def tdV (ps : List (Str × Int)) : List (Key × V) := ps.map fun p => (Sum.inr p.1, V.int p.2)
def tdD (ps : List (Str × Int)) : List (PyData × PyData) := ps.map fun p => (.str p.1, .int p.2)
mutual
inductive DpN (K : PySem.W.Frag) (H : Hp) : V → PyData → Prop
  | str (x) : DpN K H (.str x) (.str x)
  | int (i) : DpN K H (.int i) (.int i)
  | lst {a vs ds} : SqL K H a vs → (a == sysModules) = false → DpNAll K H vs ds → DpN K H (.ref a) (.list ds)
  | tup {a vs ds} : SqT K H a vs → DpNAll K H vs ds → DpN K H (.ref a) (.tuple ds)
  | dic {a ps} : H a = some (.dK (tdV ps)) → DpN K H (.ref a) (.dict (tdD ps))
inductive DpNAll (K : PySem.W.Frag) (H : Hp) : List V → List PyData → Prop
  | nil : DpNAll K H [] []
  | cons {v vs d ds} : DpN K H v d → DpNAll K H vs ds → DpNAll K H (v :: vs) (d :: ds)
end
section
variable {X : Cx} {pins : List (Addr × Obj)} {σ : L2.St} {H : Hp} {s : Shared}
theorem mt_dupdate : MtR X "dict.update" rDUpdate := by
  intro pins s σ H x xs v us Q I rx rxs h
  obtain ⟨a, b, kvs, more, rfl, rfl, ne, ha, hb, hz, q⟩ := h
  cases rx
  obtain ⟨u, rfl, ru⟩ := vals1 rxs
  cases ru
  obtain ⟨za, la, va, ra, da⟩ := dk_of I.hok ha
  obtain ⟨zb, lb, vb, rb, db⟩ := dk_of I.hok hb
  refine call_meetsIn PySem.F.slot_dict_update da.typeIs PySem.F.entry_dict_update (PySem.F.args_dict_update_2 _ _) (meets_dict_update (mixKind X.prog X.w) a b ne lb) ⟨va, vb, da, db, by rw [← ra.length, ← rb.length]; exact hz, fun h' dm _ hs => ?_⟩
  have he : ∃ q, h'.get? a = some q := let ⟨o, _, _, ho, _⟩ := dm; ⟨o, ho⟩
  exact ⟨.non, _, d_write (t' := s.toks) I (by rw [ha]; exact True.intro) hs he (dk_new (Nat.le_trans (length_mergeK more kvs) hz) la (KV.merge rb ra) dm), rfl, q⟩
/-- [e, ..]: it does not stand where the modules do -/
theorem pe_lstZ {es : List Expr} {t : TA} {pos : Pos} (h : PA X es t) : PE X (.List es pos) (tLstZ t) := by
  refine ⟨fun pins s σ H Q I hq => ?_⟩
  refine wpAny_List_spliced (thn (h.run pos pins s σ H _ I hq) fun us s1 ⟨xs, H1, I1, r, z, q⟩ => ⟨by rw [← r.length]; exact z, ?_⟩)
  have hf : H1 s1.heap.objs.size = none := I1.hok.fresh (Nat.le_refl _)
  have hm : (s1.heap.objs.size == sysModules) = false := beq_eq_false_iff_ne.mpr (Nat.ne_of_gt I1.big)
  refine ⟨.ref s1.heap.objs.size, upd H1 s1.heap.objs.size (.lst xs), I1.laid (t' := s1.toks) (fun b u e => Heap.get?_push_of_some _ e) (Nat.le_refl _) ?_, rfl, q _ hf hm⟩
  exact ⟨z, us, 0, r, Heap.get?_push_size _ rfl⟩
theorem td_keys {P : Program} {w : World} : ∀ {es : List DictEntry} {ps : List (Str × Int)} {vs : List (Key × Value)}, KV (tdV ps) vs → Pairs (mixKind P w) es vs → (∃ as, ReadsAll s.heap (es.map (·.key)) ((tdD ps).map (·.1)) as ∧ as = []) ∧ ∃ bs, ReadsAll s.heap (es.map (·.val)) ((tdD ps).map (·.2)) bs ∧ bs = []
  | [], [], _, r, p => by
    cases r
    exact ⟨⟨_, ReadsAll.nil, rfl⟩, _, ReadsAll.nil, rfl⟩
  | [], _ :: _, _, r, p => by
    cases r
    cases p
  | _ :: _, [], _, r, p => by
    cases r
    cases p
  | e :: es, q :: ps, _, r, p => by
    cases r with
    | cons r1 r2 =>
      cases p with
      | cons k1 k2 k3 =>
        obtain ⟨⟨as, h1, rfl⟩, bs, h2, rfl⟩ := td_keys (ps := ps) r2 k3
        obtain ⟨e1, rv⟩ := r1
        have kk : keyIs (Sum.inr q.1) e.key = true := by
          rw [show (Sum.inr q.1 : Key) = _ from e1]
          exact k1
        obtain ⟨t, et⟩ := Value.isStrOf_shape (x := q.1) (v := e.key) kk
        obtain ⟨t2, et2⟩ : ∃ t, _ = Value.int q.2 t := rv
        refine ⟨⟨_, ReadsAll.cons (d := .str q.1) (by show Reads s.heap e.key _ _; rw [et]; exact Reads.str _ _) h1, rfl⟩, _, ReadsAll.cons (d := .int q.2) (by show Reads s.heap e.val _ _; rw [k2, et2]; exact Reads.int _ _) h2, rfl⟩
mutual
/-- what is read does not stand where the modules are -/
theorem DpN.reads (I : Inv X pins σ H s) : ∀ (d : PyData) (v : V) (u : Value), DpN X.K H v d → RelV v u → ∃ as, Reads s.heap u d as ∧ sysModules ∉ as
  | .none, _, _, h, r => by cases h
  | .bool b, _, _, h, r => by cases h
  | .int i, _, _, h, r => by
    cases h
    obtain ⟨t, rfl⟩ := r
    exact ⟨_, Reads.int i t, fun z => by cases z⟩
  | .str x, _, _, h, r => by
    cases h
    obtain ⟨t, rfl⟩ := r
    exact ⟨_, Reads.str x t, fun z => by cases z⟩
  | .list ds, _, _, h, r => by
    cases h with
    | lst hs hm ha =>
      cases r
      obtain ⟨its, rv, ⟨o, n, ho, hc, _, hd⟩, _⟩ := I.list hs
      obtain ⟨as, hr, hn⟩ := DpN.readsAll I ds _ its ha rv
      refine ⟨_, Reads.list ho hc hd hr, fun z => ?_⟩
      rcases List.mem_cons.mp z with z | z
      · rw [← z] at hm
        simp at hm
      · exact hn z
  | .tuple ds, _, _, h, r => by
    cases h with
    | tup hs ha =>
      cases r
      obtain ⟨its, rv, ⟨o, ho, hc, n, hd⟩, _⟩ := I.tuple hs
      obtain ⟨as, hr, hn⟩ := DpN.readsAll I ds _ its ha rv
      exact ⟨_, Reads.tuple ho hc hd hr, hn⟩
  | .dict _, _, _, h, r => by
    cases h with
    | dic h1 =>
      cases r
      obtain ⟨z, hm, vs, rel, o, es, ep, ho, hx, hd, _, pr, _⟩ := dk_of I.hok h1
      obtain ⟨⟨as, q1, rfl⟩, bs, q2, rfl⟩ := td_keys (s := s) rel pr
      exact ⟨_, Reads.dict ho hx.1 hd q1 q2, fun z => by simp at z; rw [← z] at hm; simp at hm⟩
theorem DpN.readsAll (I : Inv X pins σ H s) : ∀ (ds : List PyData) (vs : List V) (us : List Value), DpNAll X.K H vs ds → Vals vs us → ∃ as, ReadsAll s.heap us ds as ∧ sysModules ∉ as
  | [], _, _, h, r => by
    cases h
    cases r
    exact ⟨_, ReadsAll.nil, fun z => by cases z⟩
  | d :: ds, _, _, h, r => by
    cases h with
    | cons h1 h2 =>
      cases r with
      | cons r1 r2 =>
        obtain ⟨as, q1, n1⟩ := DpN.reads I d _ _ h1 r1
        obtain ⟨bs, q2, n2⟩ := DpN.readsAll I ds _ _ h2 r2
        exact ⟨_, ReadsAll.cons q1 q2, fun z => (List.mem_append.mp z).elim n1 n2⟩
end
/-- repr of such a value, where no repr is under way -/
theorem call_reprN (hgd : X.A.guards = some []) (hu : X.A.units + 80 < cLine) : CallR X (.builtin "repr") (fun xs H Q => ∃ (a : Addr) (d : PyData), xs = [.ref a] ∧ DpN X.K H (.ref a) d ∧ d.showable = true ∧ d.depth + 1 ≤ 64 ∧ d.shown.length ≤ sizeLine ∧ Q (.str d.shown) H) := by
  intro pins s σ H xs us Q I r h
  obtain ⟨a, dat, rfl, hd, hs, hdp, hz, q⟩ := h
  obtain ⟨u, rfl, r1⟩ := vals1 r
  cases (show u = Value.ref a from r1)
  obtain ⟨as, rd, hn⟩ := DpN.reads I dat (.ref a) (.ref a) hd rfl
  refine repr_of_reads' rd hs (fun _ => hn) hgd (by omega) (fun _ _ e => e) (fun h' tk t' k => ⟨.str dat.shown, H, ?_, ⟨_, rfl⟩, q⟩) hz
  exact I.kept k
end
end QN

/-! repr of plain values of any kind, where no repr is under way -/
namespace QN
open PySem PySem.Spec PyProof.Rows L2
/-- what repr says of a value -/
inductive Shown (K : PySem.W.Frag) (H : Hp) : V → Str → Prop where
  | int (i : Int) (h : i.natAbs.log2 < 1920) : Shown K H (.int i) (Str.ofString (toString i))
  | bl (b : Bool) : Shown K H (.bl b) (if b then "True" else "False")
  | non : Shown K H .non "None"
  | str (x : Str) (h : (reprText x).length ≤ sizeLine) : Shown K H (.str x) (reprText x)
  | dat {a : Addr} {d : PyData} (h : Dp K H (.ref a) d) (sh : d.showable = true) (nd : d.hasDict = false) (dp : d.depth + 1 ≤ 64) (ln : d.shown.length ≤ sizeLine) : Shown K H (.ref a) d.shown
  | dic {a : Addr} (h : H a = some (.dK [])) : Shown K H (.ref a) (PyData.dict []).shown
section
variable {X : Cx}
theorem reads_nodict {pins : List (Addr × Obj)} {σ : L2.St} {H : Hp} {s : Shared} {a : Addr} (I : Inv X pins σ H s) (h : H a = some (.dK [])) : Reads s.heap (.ref a) (.dict []) [a] ∧ a ≠ sysModules := by
  obtain ⟨z, hs, vs, kv, o, es, ep, ho, hx, hdt, r⟩ := I.hok a _ h
  have l2 : 0 = vs.length := Paired.length kv
  have l1 := r.2.1.length
  have e : es.toList = [] := by
    refine List.length_eq_zero_iff.mp ?_
    exact (l1.trans l2.symm)
  have q : Reads s.heap (.ref a) (.dict []) (a :: [] ++ []) := Reads.dict ho hx.1 hdt (by rw [e]; exact ReadsAll.nil) (by rw [e]; exact ReadsAll.nil)
  exact ⟨q, fun c => by rw [c] at hs; simp at hs⟩
/-- repr(v) -/
theorem call_reprV (hgd : X.A.guards = some []) (hu : X.A.units + 80 < cLine) : CallR X (.builtin "repr") (fun xs H Q => ∃ (v : V) (z : Str), xs = [v] ∧ Shown X.K H v z ∧ Q (.str z) H) := by
  intro pins s σ H xs us Q I r h
  obtain ⟨v, z, rfl, sh, q⟩ := h
  obtain ⟨u, rfl, ru⟩ := vals1 r
  cases sh with
  | int i hi =>
    obtain ⟨t, rfl⟩ := (show ∃ t, u = Value.int i t from ru)
    exact PySem.P.repr_of_int hi ⟨.str _, H, I.tok _, ⟨_, rfl⟩, q⟩
  | bl b =>
    obtain rfl : u = Value.bool b := ru
    exact PySem.P.repr_of_bool ⟨.str _, H, I.tok _, ⟨_, rfl⟩, q⟩
  | non =>
    obtain rfl : u = Value.none := ru
    exact PySem.P.repr_of_none ⟨.str _, H, I.tok _, ⟨_, rfl⟩, q⟩
  | str x hx =>
    obtain ⟨t, rfl⟩ := (show ∃ t, u = Value.str x t from ru)
    exact PySem.P.repr_of_str ⟨.str _, H, I.tok _, ⟨_, rfl⟩, q⟩ hx
  | dat hd hs hn hdp hz =>
    obtain rfl : u = Value.ref _ := ru
    obtain ⟨as, rd⟩ := Dp.reads I _ _ _ hd rfl
    refine repr_of_reads' rd hs (fun z => by rw [hn] at z; cases z) hgd (by omega) (fun _ _ e => e) (fun h' tk t' k => ⟨.str _, H, ?_, ⟨_, rfl⟩, q⟩) hz
    exact I.kept k
  | dic hd =>
    obtain rfl : u = Value.ref _ := ru
    obtain ⟨rd, ns⟩ := reads_nodict I hd
    refine repr_of_reads' rd (by decide) (fun _ z => ns (List.mem_singleton.mp z).symm) hgd ?_ (fun _ _ e => e) (fun h' tk t' k => ⟨.str _, H, ?_, ⟨_, rfl⟩, q⟩) (by decide +kernel)
    · have : (PyData.dict []).depth ≤ 60 := by decide
      omega
    · exact I.kept k
end
end QN

/-! the law's check of components and of returning: its reading -/
namespace Qp
open PySem PySem.Spec PyProof.Rows L2 QN
open PySem.W PySem.SeqAt
abbrev sLParts : Stmt := top 53 -- _law_parts_right
abbrev lpartsN : List Str := ["_law_dice_here", "_law_thing", "_law_plain", "_law_names", "_law_asked", "_law_due", "_law_inside", "_law_row", "_law_piece", "_law_name"]
theorem scLParts : FnScope lpartsN ["_law_dice_here", "_law_thing", "_law_plain"] (defScope sLParts) := ⟨rfl, rfl, rfl, by decide +kernel, rfl, by decide +kernel, by decide +kernel⟩
/-- the dice p, the graph's object g, the plain graph pl -/
def spLParts (K : PySem.W.Frag) (C PC : Addr) : Sp := fun vs H Q _ => ∃ (p g pl a b v : Addr) (x y z : Int) (us : List V) (G : Gr), vs = [.ref p, .ref g, .ref pl] ∧ H p = some (.lst (hand x y z)) ∧ GraphAt K C H g G ∧ PlainG K H pl a b v us G ∧ LawG G ∧ GxR.TabG H PC ∧
  ∀ (x' y' z' : Int) (H' : Hp), H' p = some (.lst (hand x' y' z')) → SimX p H H' → Q (.bl true) H'
section
variable {P : Program} {w : World} {K : PySem.W.Frag} {mg : Str → Option Value} {base : Heap}
/-- the reading of its body (what it answers is still to be shown: NOTES.md) -/
theorem rd_lparts {f fS fM fL fC fR C PC : Addr} {fd fdS fdM fdL fdC fdR : FuncData}
    (GS : FnOk P w K mg base CX0 3 fS fdS ["_law_dice_here", "_law_items"] (spSome K)) (kS : PySem.W.keepIn K (.ref fS) = true) (bS : L2.Binds K fdS ["_law_dice_here", "_law_items"] []) (gS : mg "_law_some" = some (.ref fS))
    (GM : FnOk P w K mg base CX0 2 fM fdM ["_law_dice_here", "_law_items"] (spMixed K)) (kM : PySem.W.keepIn K (.ref fM) = true) (bM : L2.Binds K fdM ["_law_dice_here", "_law_items"] []) (gM : mg "_law_mixed" = some (.ref fM))
    (GL : FnOk P w K mg base CX0 2 fL fdL ["_law_plain", "_law_names"] (spLCo K)) (kL : PySem.W.keepIn K (.ref fL) = true) (bL : L2.Binds K fdL ["_law_plain", "_law_names"] []) (gL : mg "_law_components" = some (.ref fL))
    (GC : FnOk P w K mg base CX0 5 fC fdC ["graph", "names"] (spComps K C PC)) (kC : PySem.W.keepIn K (.ref fC) = true) (bC : L2.Binds K fdC ["graph", "names"] []) (gC : mg "components" = some (.ref fC))
    (GR : FnOk P w K mg base CX0 6 fR fdR ["graph", "names"] (spIsRet K C PC)) (kR : PySem.W.keepIn K (.ref fR) = true) (bR : L2.Binds K fdR ["graph", "names"] []) (gR : mg "is_returning" = some (.ref fR))
    (B : BltP mg) (B2 : Blt2 mg) (rp : mg "repr" = none) (so : mg "sorted" = none) {cdv : Value} {A : Around} {outer : List Env} {s : Shared} {H : Hp} {E : XK} (hr : Room 6 (A.deeper (envOfC "_law_parts_right" (defScope sLParts) s.heap.objs.size f cdv))) (hng : NoRepr A) :
    ∃ t, PSs (cxOf CX0 P w K mg base lpartsN "_law_parts_right" (defScope sLParts) f cdv A outer s H E).nox (defBody sLParts) t := by
  have hng' : NoRepr (A.deeper (envOfC "_law_parts_right" (defScope sLParts) s.heap.objs.size f cdv)) := noRepr_deeper hng
  have hu80 : (A.deeper (envOfC "_law_parts_right" (defScope sLParts) s.heap.objs.size f cdv)).units + 80 < cLine := by
    have := hr.un
    omega
  have hu64 : (A.deeper (envOfC "_law_parts_right" (defScope sLParts) s.heap.objs.size f cdv)).units + 64 < cLine := by omega
  have r5 := hr.mono (by decide : 5 ≤ 6)
  have r3 := hr.mono (by decide : 3 ≤ 6)
  have r2 := hr.mono (by decide : 2 ≤ 6)
  refine ⟨_, pss_cons (ps_set (i := 3) scLParts.nd rfl (.inl rfl) (pe_call GS r3 (by rfl) gS kS bS .nil pass0 (pa_cons (pv 0) (pa_cons (pe_lc (own := [("_law_row", 7)]) (g := gName 7) (tt := tYes) (te := tOp (rIxT K) (tVar 7) (tC (.int 0))) rfl scLParts.nd (pi_tup (pe_ix (r := rIxT K) ix_tup (pv 2) pe_int (fun _ _ => rfl))) (blkOk_by (N := lpartsN) (sc := defScope sLParts) (by decide +kernel))
      (fun _ _ _ _ _ => pg_name (i := 7) scLParts.nd rfl (.inl rfl)) (fun _ _ _ _ _ => pts_nil) (fun _ _ _ _ _ => pe_ix ix_tup (pv 7) pe_int (fun _ _ => rfl))) pa_nil))))
    (pss_cons (ps_set (i := 4) scLParts.nd rfl (.inl rfl) (pe_callTy call_tuple_of (by rfl) B.tuple (by decide +kernel) (pa_cons (pe_call GM r2 (by rfl) gM kM bM .nil pass0 (pa_cons (pv 0) (pa_cons (pe_op op_cat (pv 3) (pe_slice sl_list (pv 3) po_none (po_some pe_int))) pa_nil))) pa_nil)))
    (pss_cons (ps_set (i := 5) scLParts.nd rfl (.inr rfl) (pe_call GL r2 (by rfl) gL kL bL .nil pass0 (pa_cons (pv 2) (pa_cons (pv 3) pa_nil))))
    (pss_cons (ps_set (i := 6) scLParts.nd rfl (.inr rfl) (pe_lc (own := [("_law_row", 7)]) (g := gName 7) (tt := tTest (tOp (rNeD K) (tLc (iTup K (tVar 5)) (gName 8) (tAnd (tTest (tOp (rIn K false) (tOp (rIxT K) (tVar 7) (tC (.int 1))) (tVar 8))) (tTest (tOp (rIn K false) (tOp (rIxT K) (tVar 7) (tC (.int 2))) (tVar 8)))) (tC (.int 1)) [8]) (tLst tNil))) (te := tOp (rIxT K) (tVar 7) (tC (.int 0))) rfl scLParts.nd (pi_tup (pe_ix (r := rIxT K) ix_tup (pv 2) pe_int (fun _ _ => rfl))) (blkOk_by (N := lpartsN) (sc := defScope sLParts) (by decide +kernel))
      (fun _ _ _ _ _ => pg_name (i := 7) scLParts.nd rfl (.inr rfl)) (fun _ _ _ _ _ => pts_one (pt_cmpR (op_neD hu64) (pe_lc (own := [("_law_piece", 8)]) (g := gName 8) (tt := tAnd (tTest (tOp (rIn K false) (tOp (rIxT K) (tVar 7) (tC (.int 1))) (tVar 8))) (tTest (tOp (rIn K false) (tOp (rIxT K) (tVar 7) (tC (.int 2))) (tVar 8)))) (te := tC (.int 1)) rfl scLParts.nd (pi_tup (pv 5)) (blkOk_by (N := lpartsN) (sc := { kind := .function, names := [(".0", .local), ("_law_row", .cell), ("_law_due", .cell)], isGenerator := false, isCoroutine := false }) (by decide +kernel))
        (fun _ _ _ _ _ => pg_name (i := 8) scLParts.nd rfl (.inl rfl)) (fun _ _ _ _ _ => pts_one (PW.pt (pw_and (pt_cmpR op_in_seq (pe_ix ix_tup (pv 7) pe_int (fun _ _ => rfl)) (pv 8) (by rfl)) (pw_and1 (pt_cmpR op_in_seq (pe_ix ix_tup (pv 7) pe_int (fun _ _ => rfl)) (pv 8) (by rfl)))))) (fun _ _ _ _ _ => pe_int)) (pe_lst pa_nil) (nomark _))) (fun _ _ _ _ _ => pe_ix ix_tup (pv 7) pe_int (fun _ _ => rfl))))
    (pss_cons (ps_if (PW.pt (pw_or (pt_cmpR op_ne (pe_callB (call_reprN hng' hu80) (by rfl) rp (by decide +kernel) (pa_cons (pe_call GC r5 (by rfl) gC kC bC .nil pass0 (pa_cons (pv 1) (pa_cons (pv 4) pa_nil))) pa_nil)) (pe_callB (call_reprN hng' hu80) (by rfl) rp (by decide +kernel) (pa_cons (pv 5) pa_nil)) (nomark _))
      (pw_or1 (pt_cmpR op_ne (pe_callB (call_reprN hng' hu80) (by rfl) rp (by decide +kernel) (pa_cons (pe_call GC r5 (by rfl) gC kC bC .nil pass0 (pa_cons (pv 1) (pa_cons (pe_callTy call_tuple_of (by rfl) B.tuple (by decide +kernel) (pa_cons (pe_callB (r := rSortedDt K) (cr_sortedDt hu64) (by rfl) so (by decide +kernel) (pa_cons (pv 3) pa_nil)) pa_nil)) pa_nil))) pa_nil)) (pe_callB (call_reprN hng' hu80) (by rfl) rp (by decide +kernel) (pa_cons (pv 5) pa_nil)) (nomark _))))) (pss_one (ps_ret pe_bl)) pss_nil)
    (pss_one (ps_ret (pe_cmpR op_eq (pe_callB (call_reprV hng' hu80) (by rfl) rp (by decide +kernel) (pa_cons (pe_call GR hr (by rfl) gR kR bR .nil pass0 (pa_cons (pv 1) (pa_cons (pv 4) pa_nil))) pa_nil)) (pe_callB (call_reprV hng' hu80) (by rfl) rp (by decide +kernel) (pa_cons (pe_cmpR (op_eqD hu64) (pe_lc (own := [("_law_name", 9)]) (g := gName 9) (tt := tTest (tOp (rIn K true) (tVar 9) (tVar 6))) (te := tVar 9) rfl scLParts.nd (pi_list (pv 3)) (blkOk_by (N := lpartsN) (sc := defScope sLParts) (by decide +kernel))
        (fun _ _ _ _ _ => pg_name (i := 9) scLParts.nd rfl (.inl rfl)) (fun _ _ _ _ _ => pts_one (pt_cmpR op_notIn_seq (pv 9) (pv 6) (by rfl))) (fun _ _ _ _ _ => pv 9)) (pe_lst pa_nil) (nomark _)) pa_nil)) (nomark _))))))))⟩
end
end Qp

/-! a generator expression whose block is told by the rules of the layer: what it hands out, turn by turn -/
namespace QN
open PySem PySem.Spec PyProof.Rows L2 GenW
/-- the context of the block: woken under B, its frame at e -/
abbrev gxOf (X : Cx) (B : Around) (s : Shared) (H : Hp) (e : Env) (ex : List Addr) (pn : List (Addr × Obj)) : Cx :=
  { X with A := B.deeper e, s_0 := s, H_0 := H, env := e, outer := X.stack, stack := e :: X.stack, ex := ex, fn := fun _ => false, calm := true, pn := pn, xe := fun _ _ => False }
abbrev gxEnv (X : Cx) (sc : Scope) (L : Addr) (code : Value) : Env := genEnv sc (cloFrom X.env.cells sc.names []) L code builtinsNs X.env
/-- the generator expression's own block has no cells of its own -/
structure GxOk (sc : Scope) : Prop where
  co : sc.isCoroutine = false
  cell : ∀ y ∈ sc.names, y.2 ≠ .cell
  dot : sc.names.lookup (".0" : Str) = some NameKind.local
section
variable {X : Cx} {pins : List (Addr × Obj)} {σ : L2.St} {H : Hp} {s s2 : Shared} {B : Around} {sc : Scope} {own : List (Str × Nat)} {L : Addr} {code : Value} {ex : List Addr} {pn : List (Addr × Obj)} {m : Str → Option Value}
theorem gx_start (I : Inv X pins σ H s) (hf : B.frames = some X.stack) (hh : B.handled = none) (ok : BlkOk X.N X.env.scope sc own) (gok : GxOk sc) (hN : X.N.Nodup) (hex : ∀ b ∈ ex, FpOk X pins H b ∧ b < s.heap.objs.size) (hL : s.heap.objs.size ≤ L)
    (kp : ∀ b o, s.heap.get? b = some o → s2.heap.get? b = some o) (ns : s2.heap.Ns L m) (hpn : ∀ p ∈ pn, s2.heap.get? p.1 = some p.2 ∧ s.heap.objs.size ≤ p.1 ∧ p.1 ≠ L ∧ ∀ v, p.2.data ≠ .cell v) (hos : s2.os = s.os) (hb : AllBare s2.gens) :
    Inv (gxOf X B s H (gxEnv X sc L code) ex pn) [] (wipe σ (own.map (·.2))) H s2 := by
  have caught : ∀ y ∈ sc.names, y.2 = .free → ∃ c, X.env.cells.lookup y.1 = some c := fun y hy e => by
    rcases ok.free y hy e with k | k
    · exact I.ok.has _ (.inl k)
    · exact I.ok.has _ (.inr k)
  have back : ∀ {y : Str} {c : Addr}, (gxEnv X sc L code).cells.lookup y = some c → X.env.cells.lookup y = some c := fun {y c} e => by
    have e : (cloFrom X.env.cells sc.names []).lookup y = some c := e
    rcases cloFrom_mem (PySem.mem_of_lookup e) with hm | ⟨h1, h2⟩
    · cases hm
    · obtain ⟨c2, h3⟩ := caught _ h1 rfl
      rw [h2, h3]
      rfl
  have forth : ∀ {y : Str}, sc.names.lookup y = some .free → ∃ c, (gxEnv X sc L code).cells.lookup y = some c ∧ X.env.cells.lookup y = some c := fun {y} hl => by
    have hy : (y, NameKind.free) ∈ sc.names := PySem.mem_of_lookup hl
    obtain ⟨c, e⟩ := mem_lookup (cloFrom_has (cells := X.env.cells) (acc := []) hy)
    exact ⟨c, e, back e⟩
  have at_ : ∀ {y : Str} {c : Addr}, X.env.cells.lookup y = some c → c < s.heap.objs.size := fun {y c} e => by
    obtain ⟨w, z⟩ := I.cell _ _ e
    exact z.lt
  have okY : (gxOf X B s H (gxEnv X sc L code) ex pn).Ok := by
    refine ⟨I.ok.mod, ok.kind, I.ok.glob, rfl, hL, fun y z c h1 h2 => I.ok.inj y z c (back h1) (back h2), fun y hy => ?_, (fun y c z _ => by cases z), fun _ => hh, Around.frames_deeper hf, .inr ⟨rfl, rfl⟩, fun b hb => ⟨?_, fun y c e z => ?_⟩, I.bs, Nat.le_trans I.ok.bsz I.sz, fun b o e hb => ?_, fun b hb z => ?_, I.stack, I.stkFree⟩
    · rcases hy with hy | hy
      · exact absurd rfl (gok.cell _ (PySem.mem_of_lookup (show sc.names.lookup y = some .cell from hy)))
      · obtain ⟨c, e, _⟩ := forth (show sc.names.lookup y = some .free from hy)
        exact ⟨c, e⟩
    · exact Nat.ne_of_lt (Nat.lt_of_lt_of_le (hex b hb).2 hL)
    · exact (hex b hb).1.2.2.2.2.1 y c (back e) z
    · rcases (hex b hb).1.2.2.2.1 with z | z
      · exact I.ok.noex b o e z
      · exact absurd (Nat.lt_of_lt_of_le (Heap.lt_size e) (Nat.le_trans I.ok.bsz z)) (Nat.lt_irrefl _)
    · rcases List.mem_cons.mp (I.stkSub b z) with z | z
      · exact (hex b hb).1.2.1 z
      · exact (hex b hb).1.2.2.1 z
  refine ⟨okY, hos, hb, Un.kept kp, ⟨m, ns, fun i y v e1 e2 e3 => ?_⟩, fun y c e => ?_, I.hok.fresh hL, fun y c e => I.freeC y c (back e), fun p hp => ?_, I.hok.kept kp, by rw [wipe_length]; exact I.len⟩
  · obtain ⟨e2, hne⟩ := wipe_some e2
    have mine : ∀ k, sc.names.lookup y = some k → k = .local ∨ k = .cell → False := fun k hk hh2 => by
      rcases ok.own _ (PySem.mem_of_lookup hk) hh2 with z | z
      · obtain ⟨p, hp, hpy⟩ := List.mem_map.mp z
        have e4 := ok.ix p hp
        have hpy : p.1 = y := hpy
        rw [hpy] at e4
        exact hne (List.mem_map.mpr ⟨p, hp, nodup_ix hN e4 e1⟩)
      · exact z (List.mem_of_getElem? e1)
    have fr : sc.names.lookup y = some .free := by
      rcases (show Vis sc y from e3) with z | z | z
      · exact absurd z fun z => mine _ z (.inl rfl)
      · exact absurd z fun z => mine _ z (.inr rfl)
      · exact z
    obtain ⟨m0, _, look⟩ := I.loc
    have vis : Vis X.env.scope y := (ok.free _ (PySem.mem_of_lookup fr) rfl).elim (fun k => .inr (.inl k)) (fun k => .inr (.inr k))
    obtain ⟨u, r, q⟩ := look i y v e1 e2 vis
    obtain ⟨c, h1, h2⟩ := forth fr
    refine ⟨u, r, .inr ⟨.inr fr, c, h1, ?_⟩⟩
    rcases q with ⟨k, _⟩ | ⟨_, c2, e4, z⟩
    · have k : X.env.scope.names.lookup y = some .local := k
      rcases ok.free _ (PySem.mem_of_lookup fr) rfl with k2 | k2 <;> rw [show X.env.scope.names.lookup y = _ from k2] at k <;> cases k
    · rw [h2] at e4
      cases e4
      exact z.keeps kp
  · obtain ⟨w, z⟩ := I.cell y c (back e)
    exact ⟨w, z.keeps kp⟩
  · have hp : p ∈ pn := by
      rcases List.mem_append.mp hp with z | z
      · exact z
      · cases z
    obtain ⟨h1, h2, h3, h4⟩ := hpn p hp
    refine ⟨h1, I.hok.fresh h2, h3, fun z => ?_, h4⟩
    have z : p.1 ∈ frs X.stack := z
    rcases List.mem_cons.mp (I.stkSub p.1 z) with z | z
    · exact absurd (Nat.lt_of_lt_of_le I.lt h2) (by rw [z]; exact Nat.lt_irrefl _)
    · exact I.nofs h2 z
end
/-- the block's around -/
theorem over_gx {B : Around} {el tg it : Expr} {ifs : List Expr} {sc : Scope} {pos : Pos} {v w : Value} {e : Env} : B.over (.compLoop (GExp el tg it ifs sc pos) 0 v w e) [] = B.deeper e := by
  first
    | rfl
    | (obtain ⟨hd, d, fr, gs, u⟩ := B; simp [Around.over, Around.deeper, marksOver, frameCount, unitsOf, envsOf, guardsOf, pushEnvs, pushGuards, Code.envs, Code.env?, Code.isFrame, Code.guards, Code.isGuard, Code.weight, Code.frames, Code.isCreation, Code.isCaller, Code.cUnits])
/-- what the turns are to do -/
def GxTurns (J : It) (bind : TG) (test : TT) (mem : TE) (own : List Nat) (σ : L2.St) (cont : List V → Hp → Prop) (W : Nat → Nat → List V → Hp → Prop) : Prop :=
  ∀ i m ys H3, W i m ys H3 → (J.stop i H3 ∧ cont ys H3) ∨ (J.go i H3 ∧ ∃ Up : List V → Hp → Prop, (∀ zs H4, Up zs H4 → ∃ k, k < m ∧ W (i + 1) k zs H4) ∧ ∀ x H4, J.yld i H3 x H4 → bind x (wipe σ own) H4 fun τ H5 => wipe τ own = wipe σ own ∧ test τ H5 fun b H6 =>
    if b = true then mem τ H6 fun y H7 => ys.length < sizeLine ∧ Up (ys ++ [y]) H7 else Up ys H6)
section
variable {X : Cx} {σ : L2.St} {H1 : Hp} {s1 : Shared} {B : Around} {sc : Scope} {L : Addr} {code : Value} {el tg iter : Expr} {ifs : List Expr} {pos : Pos} {bind : TG} {test : TT} {mem : TE} {vs : List Nat} {cont : List V → Hp → Prop}
  {J : It} {fp : List Addr} {it : Addr} {tn : Nat → Heap → Prop} {W : Nat → Nat → List V → Hp → Prop} {a S : Addr} {g : Nat} {go : Obj}
theorem seg_gx (T : Turn X.prog X.w X.K tg J fp it tn) (hg : go.cls = .type "generator" ∧ (∃ nm qn, go.data = .fields #[.int g 0, nm, qn]) ∧ go.slots = #[])
    (pg : PG (gxOf X B s1 H1 (gxEnv X sc L code) fp [(a, go)]) tg bind) (pt : PTs (gxOf X B s1 H1 (gxEnv X sc L code) fp [(a, go)]) ifs test) (pe : PE (gxOf X B s1 H1 (gxEnv X sc L code) fp [(a, go)]) el mem)
    (turn : GxTurns J bind test mem vs σ cont W) (co : sc.isCoroutine = false) (apart : Apart (gxOf X B s1 H1 (gxEnv X sc L code) fp [(a, go)]) S) (hfa : ∀ b ∈ fp, b ≠ a ∧ b ≠ S) (haS : a ≠ S) :
    ∀ (m i n : Nat) (ys : List V) (s0 s : Shared) (H : Hp), n + ys.length = sizeLine → W i m ys H → GI (gxOf X B s1 H1 (gxEnv X sc L code) fp [(a, go)]) S [] ys (wipe σ vs) H s → tn i s.heap → (∀ b ∈ fp, H b = none) →
      Seg (model X.prog X.w) B (REnd X.prog X.w X.stack H1 s1 fp S a g cont L2.E0) (YItem s1 S a g) n s0 (.compLoop (GExp el tg iter ifs sc pos) 0 (.ref it) .none (gxEnv X sc L code)) ((model X.prog X.w).den (.compLoop (GExp el tg iter ifs sc pos) 0 (.ref it) .none (gxEnv X sc L code))) [] s := by
  obtain ⟨g1, ⟨nm, qn, g2⟩, g3⟩ := hg
  have hgen : ∀ {h : Heap}, h.get? a = some go → h.IsGen a g := fun {h} e => ⟨go, nm, qn, e, g1, g2, g3⟩
  have kept : ∀ {τ : L2.St} {G : Hp} {u : Shared} {acc : Array Value} {c : Nat}, Inv (gxOf X B s1 H1 (gxEnv X sc L code) fp [(a, go)]) [(S, lstObj acc c)] τ G u → (∀ b ∈ fp, G b = none) → ∀ b ∈ fp, FpOk (gxOf X B s1 H1 (gxEnv X sc L code) fp [(a, go)]) [(S, lstObj acc c)] G b := fun {τ G u acc c} J2 nn b hb =>
    ⟨nn b hb, (J2.ok.exf b hb).1, J2.ok.exfs b hb, .inl hb, fun x c e => (J2.ok.exf b hb).2 x c e, fun p hp => by
      rcases List.mem_append.mp hp with z | z
      · rw [List.mem_singleton.mp z]
        exact Ne.symm (hfa b hb).1
      · rw [List.mem_singleton.mp z]
        exact Ne.symm (hfa b hb).2⟩
  intro m
  induction m using Nat.strongRecOn with
  | ind m ih =>
    intro i n ys s0 s H hn w hI st nf
    obtain ⟨acc, c, r, I⟩ := hI
    show Seg _ B _ _ n s0 _ ((compTurn (GExp el tg iter ifs sc pos) 0 (.ref it) .none (gxEnv X sc L code)).onRaise (leaving (gxEnv X sc L code))) [] s
    rw [compTurn_gen, Sem.onRaise_eq_wrap]
    refine seg_bind_wrap (wpAny_standAt ?_)
    rcases turn i m ys H w with ⟨stop, qq⟩ | ⟨gon, Up, hUp, step⟩
    · refine seg_bind_wrap ?_
      rw [over_gx]
      refine wpAny_mono (T.done (gxOf X B s1 H1 (gxEnv X sc L code) fp [(a, go)]) rfl rfl rfl rfl i _ s _ H (fun _ _ => False) I (kept I nf) st stop) (fun r6 s6 ⟨er, I6⟩ => ?_) fun _ _ z => z.elim
      subst er
      obtain ⟨p1, p2, _⟩ := I6.pin (S, lstObj acc c) (List.mem_append_right _ (List.mem_singleton.mpr rfl))
      exact seg_end (.ok .next) (.inl ⟨.inr rfl, H, ys, acc, c, I6.os, I6.bare, I6.base, I6.hok, p2, p1, r, by omega, qq⟩)
    · refine seg_bind_wrap ?_
      rw [over_gx]
      refine wpAny_mono (T.item (gxOf X B s1 H1 (gxEnv X sc L code) fp [(a, go)]) rfl rfl rfl rfl i _ s _ H (fun _ _ => False) I (kept I nf) st gon) (fun r6 s6 ⟨u, er, h6⟩ => ?_) fun _ _ z => z.elim
      subst er
      refine seg_bind_wrap ?_
      rw [over_gx]
      refine wpAny_mono h6 (fun _ s7 ⟨x, H7, I7, r7, y7, st7, n7⟩ => ?_) fun _ _ z => z.elim
      have pinned := I7.pinned (kept I7 n7) (T.obj _ _ st7)
      refine seg_bind_wrap ?_
      rw [over_gx]
      refine wpAny_mono (pg.run _ s7 _ H7 x u _ pinned r7 (step x H7 y7)) (fun _ s8 ⟨τ, H8, I8, hw8, q8⟩ => ?_) fun _ _ z => z.elim
      refine seg_bind_wrap ?_
      rw [over_gx]
      refine wpAny_mono (pt.run _ s8 τ H8 _ I8 q8) (fun b s9 ⟨H9, I9, q9⟩ => ?_) fun _ _ z => z.elim
      have again : ∀ {u : Shared} {G : Hp}, Inv (gxOf X B s1 H1 (gxEnv X sc L code) fp [(a, go)]) ([(S, lstObj acc c)] ++ pinsAt fp s7.heap) τ G u → Inv (gxOf X B s1 H1 (gxEnv X sc L code) fp [(a, go)]) [(S, lstObj acc c)] (wipe σ vs) G u ∧ tn (i + 1) u.heap ∧ ∀ b ∈ fp, G b = none := fun {u G} J2 => by
        have held : ∀ b ∈ fp, ∀ o, s7.heap.get? b = some o → u.heap.get? b = some o ∧ G b = none := fun b hb o e =>
          let z := J2.pin (b, o) (List.mem_append_right _ (List.mem_append_right _ (mem_pinsAt hb e)))
          ⟨z.1, z.2.1⟩
        have hl : (wipe σ vs).length = τ.length := by rw [← hw8, wipe_length]
        refine ⟨(J2.unpinned (pins := [(S, lstObj acc c)])).weak hl (fun j v e => ?_), T.keep _ _ _ st7 fun b hb o e => (held b hb o e).1, fun b hb => ?_⟩
        · rw [← hw8] at e
          exact (wipe_some e).1
        · obtain ⟨o, e, _⟩ := T.obj _ _ st7 b hb
          exact (held b hb o e).2
      cases b with
      | false =>
        simp only [Bool.false_eq_true, if_false] at q9 ⊢
        obtain ⟨k, hk, w2⟩ := hUp ys H9 q9
        obtain ⟨I10, st10, n10⟩ := again I9
        exact seg_again rfl (ih k hk (i + 1) n ys s0 s9 H9 hn w2 ⟨acc, c, r, I10⟩ st10 n10)
      | true =>
        simp only [if_true] at q9 ⊢
        have plain : ∀ z, yieldOut (gxEnv X sc L code) z = yieldValue z := fun z => by
          have co2 : (gxEnv X sc L code).scope.isCoroutine = false := co
          simp only [yieldOut, co2, Bool.false_eq_true, if_false]
        simp only [plain]
        rw [Sem.bind_eq_wrap', Sem.bind_eq_wrap', Sem.wrap_wrap, Sem.wrap_wrap]
        refine seg_wrap ?_
        rw [over_gx]
        refine wpAny_mono (pe.run _ s9 τ H9 _ I9 q9) (fun z s10 ⟨yv, H10, I10, r10, lt, up⟩ => ?_) fun _ _ z => z.elim
        obtain ⟨n, rfl⟩ : ∃ k, n = k + 1 := ⟨n - 1, by omega⟩
        obtain ⟨I11, st11, n11⟩ := again I10
        obtain ⟨p1, p2, _⟩ := I11.pin (S, lstObj acc c) (List.mem_append_right _ (List.mem_singleton.mpr rfl))
        have pa := (I11.pin (a, go) (List.mem_append_left _ (List.mem_singleton.mpr rfl))).1
        have hsz : acc.size = ys.length := by
          have e1 := r.length
          have e2 : acc.toList.length = acc.size := by simp
          omega
        have G11 : GI (gxOf X B s1 H1 (gxEnv X sc L code) fp [(a, go)]) S [] ys (wipe σ vs) H10 s10 := ⟨acc, c, r, I11⟩
        refine seg_at (seg_yield rfl rfl rfl ⟨I11.os, I11.bare, I11.nolimit, hgen pa, ⟨acc, c, p1, by rw [hsz]; exact hn⟩, fun s12 sl => seg_again rfl ?_⟩)
        obtain ⟨k, hk, w2⟩ := hUp _ H10 up
        refine ih k hk (i + 1) n (ys ++ [yv]) s12 s12 H10 (by rw [List.length_append, List.length_singleton]; omega) w2 (G11.woken (fun p hp => by rw [List.mem_singleton.mp hp]; exact haS) (fun p hp => by cases hp) apart r10 sl) (T.keep _ _ _ st11 fun b hb o e => sl.keep b o (hfa b hb).2 e) n11
theorem seg_gx0 (T : Turn X.prog X.w X.K tg J fp it tn) {m n : Nat} {s0 s : Shared} {R : GenEnd} {Yp : Protocol} (st : tn 0 s.heap)
    (h : Seg (model X.prog X.w) B R Yp n s0 (.compLoop (GExp el tg iter ifs sc pos) 0 (.ref it) .none (gxEnv X sc L code)) ((model X.prog X.w).den (.compLoop (GExp el tg iter ifs sc pos) 0 (.ref it) .none (gxEnv X sc L code))) [] s) :
    Seg (model X.prog X.w) B R Yp n s0 (.compStart (GExp el tg iter ifs sc pos) 0 (.ref it) .none (gxEnv X sc L code)) ((model X.prog X.w).den (.compStart (GExp el tg iter ifs sc pos) 0 (.ref it) .none (gxEnv X sc L code))) [] s := by
  show Seg _ B _ _ _ s0 _ ((compStart (GExp el tg iter ifs sc pos) 0 (.ref it) .none (gxEnv X sc L code)).onRaise (leaving (gxEnv X sc L code))) [] s
  unfold compStart
  rw [Sem.onRaise_eq_wrap]
  show Seg _ B _ _ _ s0 _ ((ask >>= _).wrap _ _ _ _) [] s
  refine seg_bind_wrap (wpAny_askSetting ?_)
  split
  · exact seg_again rfl h
  · refine seg_bind_wrap (wpAny_rule ?_)
    show Seg _ B _ _ _ s0 _ ((standAt iter.pos >>= _).wrap _ _ _ _) [] s
    exact seg_bind_wrap (wpAny_standAt (seg_bind_wrap (T.self _ 0 s _ _ st (seg_again rfl h))))
end
/-- a generator expression: P the def's code table -/
def tGx (P : Addr) (src : TI) (bind : TG) (test : TT) (mem : TE) (own : List Nat) : TGen := fun σ H cont => src σ H fun J H1 => GxR.TabG H1 P ∧ ∀ H2, GxR.Tabbed P H1 H2 → ∃ W : Nat → Nat → List V → Hp → Prop, (∃ m, W 0 m [] H2) ∧ GxTurns J bind test mem own σ cont W
section
variable {X : Cx} {c P : Addr} {el tg iter : Expr} {ifs : List Expr} {sc dsc : Scope} {gpos : Pos} {src : TI} {bind : TG} {test : TT} {mem : TE} {own : List (Str × Nat)} {k : Nat}
theorem pgen_gx (hr : Room (k + 1) X.A) (hc : X.calm = true) (hN : X.N.Nodup) (TB : GxR.TabB X.base X.mg c P) (hcode : X.env.code = .ref c) (ok : BlkOk X.N X.env.scope sc own) (gok : GxOk sc) (hi : PI X tg iter src)
    (hg : ∀ (B : Around) (s : Shared) (H : Hp) (L : Addr) (code : Value) (ex : List Addr) (pn : List (Addr × Obj)), Room k (B.deeper (gxEnv X sc L code)) → PG (gxOf X B s H (gxEnv X sc L code) ex pn) tg bind)
    (ht : ∀ (B : Around) (s : Shared) (H : Hp) (L : Addr) (code : Value) (ex : List Addr) (pn : List (Addr × Obj)), Room k (B.deeper (gxEnv X sc L code)) → PTs (gxOf X B s H (gxEnv X sc L code) ex pn) ifs test)
    (he : ∀ (B : Around) (s : Shared) (H : Hp) (L : Addr) (code : Value) (ex : List Addr) (pn : List (Addr × Obj)), Room k (B.deeper (gxEnv X sc L code)) → PE (gxOf X B s H (gxEnv X sc L code) ex pn) el mem)
    (hs : ∀ v, genFold iter X.env v = pure v := by intro _; rfl) : PGen X (k + 1) (GExp el tg iter ifs sc gpos) (tGx P src bind test mem (own.map (·.2))) L2.E0 := by
  refine ⟨fun pins s σ H cont I h => ?_⟩
  refine wpAny_GeneratorExp_make gok.co (closure_ok fun y hy e => ?_) gok.cell gok.dot ok.kind (by have := hr.dp; omega) ?_ hs
  · rcases ok.free y hy e with z | z
    · exact I.ok.has _ (.inl z)
    · exact I.ok.has _ (.inr z)
  refine thn (hi.run pins s σ H _ I h) fun xv sa ha => thn ha fun iv s1 hb => ?_
  obtain ⟨it, fp, tn, J, H1, e, I1, T, st1, f1, ⟨ps, hP, htr⟩, q⟩ := hb
  subst e
  have hPs : s1.heap.get? P = some { cls := .none, data := .fields ps } := I1.hok P _ hP
  have cd : PySem.W.CodeHd s1.heap c P := TB.code.keeps fun b u e => I1.bk b u e
  have fpP : ∀ b ∈ fp, b ≠ P := fun b hb z => by
    have := (f1 b hb).1
    rw [z, hP] at this
    cases this
  have fpl : ∀ b ∈ fp, b < s1.heap.objs.size := fun b hb => by
    obtain ⟨o, e, _⟩ := T.obj _ _ st1 b hb
    exact Heap.lt_size e
  refine ⟨I1.nolimit, ?_⟩
  have rest : ∀ (code : Value) (h3 : Heap) (tk : Nat) (more : Array Value), Heap.ExtBut P s1.heap h3 → s1.heap.objs.size ≤ h3.objs.size → h3.get? P = some { cls := .none, data := .fields (ps ++ more) } → TriplesOk (ps ++ more).toList →
      wpAny (model X.prog X.w) X.A (builtinsFor X.env.globals X.env.builtins) (fun bi s4 => ∀ h4 : Heap, h4.Ns s4.heap.objs.size (fun y => if y = ".0" then some (.ref it) else none) → Heap.SameBut s4.heap.objs.size (s4.heap.push { cls := .type "frame", data := .dict #[] }) h4 →
        (fun u s' => ∃ H1 sc ex, Inv X pins σ H1 sc ∧ ExOk X pins ex ∧ GMade X.prog X.w (k + 1) X.stack H1 sc ex cont L2.E0 u s') (.ref h4.objs.size) { s4 with
            gens := s4.gens.push (.fresh (.compStart (GExp el tg iter ifs sc gpos) 0 (.ref it) .none (genEnv sc (cloFrom X.env.cells sc.names []) s4.heap.objs.size code bi X.env))),
            toks := s4.toks + 1 + 1 + 1,
            heap := h4.push { cls := .type "generator", data := .fields #[.int s4.gens.size 0, .str "<genexpr>" (s4.toks + 1), .str (X.env.qual ++ "<genexpr>") (s4.toks + 1 + 1)] } }) X.xe { s1 with heap := h3, toks := tk } := by
    intro code h3 tk more hx hsz hP3 htr3
    obtain ⟨bm, ob, e1, e2, e3, e4, e5, e6, e7, e8⟩ := TB.bm
    have csP : cStatics ≠ P := fun e => by
      obtain ⟨_, hns, _⟩ := I1.nolimit
      obtain ⟨o', es, ep, ho, hd, _⟩ := hns
      rw [e, hPs] at ho
      cases ho
      cases hd
    have keep3 : ∀ b u, b ≠ P → s1.heap.get? b = some u → h3.get? b = some u := fun b u hb e => hx b u hb e
    refine wpAny_builtinsFor (m := X.mg) (by rw [I1.ok.glob]; exact (I1.mod.glob.keeps I1.bk).extBut hx TB.gP) e1 e2 (keep3 _ _ e4 (I1.bk _ _ e5)) e6 e7 e8 ?_
    intro h4 ns4 same4
    have I3 : Inv X pins σ (upd H1 P (.tbl (ps ++ more))) { s1 with heap := h3, toks := tk } := GxR.inv_tab (g' := s1.gens) (d' := s1.drawn) (t' := tk) I1 hP (fun b u hb e => keep3 b u hb e) hP3 I1.bare
    have tb : GxR.Tabbed P H1 (upd H1 P (.tbl (ps ++ more))) := ⟨⟨_, upd_same, htr3⟩, fun b hb => upd_ne hb⟩
    obtain ⟨W, ⟨m0, w0⟩, turns⟩ := q _ tb
    have f3 : ∀ b ∈ fp, FpOk X pins (upd H1 P (.tbl (ps ++ more))) b := fun b hb => ⟨by rw [upd_ne (fpP b hb)]; exact (f1 b hb).1, (f1 b hb).2⟩
    have st3 : tn 0 h3 := T.keep _ _ _ st1 fun b hb o e => keep3 b o (fpP b hb) e
    have sz4 : h4.objs.size = h3.objs.size + 1 := by rw [same4.1, Heap.size_push]
    have keep4 : ∀ b u, h3.get? b = some u → h4.get? b = some u := fun b u e => same4.extBut b u (Nat.ne_of_lt (Heap.lt_size e)) (Heap.get?_push_of_some _ e)
    show ∃ H1 sc ex, Inv X pins σ H1 sc ∧ ExOk X pins ex ∧ GMade X.prog X.w (k + 1) X.stack H1 sc ex cont L2.E0 _ _
    generalize hgo : ({ cls := .type "generator", data := .fields #[.int s1.gens.size 0, .str "<genexpr>" (tk + 1), .str (X.env.qual ++ "<genexpr>") (tk + 1 + 1)] } : Obj) = go
    have keep5 : ∀ b u, h3.get? b = some u → (h4.push go).get? b = some u := fun b u e => Heap.get?_push_of_some _ (keep4 b u e)
    have goF : go.cls = .type "generator" ∧ (∃ nm qn, go.data = .fields #[.int s1.gens.size 0, nm, qn]) ∧ go.slots = #[] := by
      subst hgo
      exact ⟨rfl, ⟨_, _, rfl⟩, rfl⟩
    have gat : (h4.push go).get? h4.objs.size = some go := by
      subst hgo
      exact Heap.get?_push_size _ rfl
    have lim3 : h3.NoLimit := I3.nolimit
    refine ⟨_, _, fp, I3, fun b hb => ⟨(f3 b hb).2.2.2.1, (f3 b hb).2.1, (f3 b hb).2.2.2.2.1, (f3 b hb).2.2.2.2.2⟩, h4.objs.size, s1.gens.size, _, rfl, ?_, ?_, ?_, Array.getElem?_push_size .., rfl, AllBare.push I1.bare rfl, lim3.keeps keep5, keep5, ?_⟩
    · show h3.objs.size ≤ h4.objs.size
      omega
    · show h4.objs.size < (h4.push go).objs.size
      rw [Heap.size_push]
      exact Nat.lt_succ_self _
    · obtain ⟨z1, ⟨nm, qn, z2⟩, z3⟩ := goF
      exact ⟨go, nm, qn, gat, z1, z2, z3⟩
    · intro Aw S s2 hrw hfr hS hk hSo hos hba
      have kp2 : ∀ b u, h3.get? b = some u → s2.heap.get? b = some u := fun b u e => hk b u (keep5 b u e)
      obtain ⟨cS, heS⟩ := hSo
      have hS2 : h4.objs.size + 1 ≤ S := by
        have z : (h4.push go).objs.size ≤ S := hS
        rw [Heap.size_push] at z
        exact z
      have hga : s2.heap.get? h4.objs.size = some go := hk _ _ gat
      have gnc : ∀ v, go.data ≠ .cell v := fun v z => by
        obtain ⟨_, ⟨nm, qn, z2⟩, _⟩ := goF
        rw [z2] at z
        cases z
      have fl3 : ∀ b ∈ fp, FpOk X pins (upd H1 P (.tbl (ps ++ more))) b ∧ b < h3.objs.size := fun b hb => ⟨f3 b hb, Nat.lt_of_lt_of_le (fpl b hb) hsz⟩
      have IY := gx_start (B := Aw) (code := code) (pn := [(h4.objs.size, go)]) (s2 := s2) I3 hfr hrw.hd ok gok hN fl3 (Nat.le_refl _) kp2 ((ns4.push go).keeps hk) (fun p hp => by
        rw [List.mem_singleton.mp hp]
        exact ⟨hga, by show h3.objs.size ≤ h4.objs.size; omega, Nat.ne_of_gt (by omega : h3.objs.size < h4.objs.size), gnc⟩) hos hba
      have Sfree : h3.objs.size ≤ S := by omega
      have apart : Apart (gxOf X Aw { s1 with heap := h3, toks := tk } (upd H1 P (.tbl (ps ++ more))) (gxEnv X sc h3.objs.size code) fp [(h4.objs.size, go)]) S := ⟨Sfree, Nat.ne_of_gt (by omega : h3.objs.size < S), fun x c e z => by
        obtain ⟨v, o, eo, _⟩ := IY.cell x c e
        have e2 := (IY.ok.inj)
        have : c < h3.objs.size := by
          have e : (cloFrom X.env.cells sc.names []).lookup x = some c := e
          rcases cloFrom_mem (PySem.mem_of_lookup e) with hm | ⟨h1, h2⟩
          · cases hm
          · have hh : ∃ c, X.env.cells.lookup x = some c := by
              rcases ok.free _ h1 rfl with z | z
              · exact I.ok.has _ (.inl z)
              · exact I.ok.has _ (.inr z)
            obtain ⟨c2, h3'⟩ := hh
            rw [h3'] at h2
            obtain ⟨v2, z2⟩ := I3.cell _ _ h3'
            rw [h2]
            exact z2.lt
        rw [z] at this
        exact absurd this (Nat.not_lt.mpr Sfree)⟩
      have hGI : GI (gxOf X Aw { s1 with heap := h3, toks := tk } (upd H1 P (.tbl (ps ++ more))) (gxEnv X sc h3.objs.size code) fp [(h4.objs.size, go)]) S [] [] (wipe σ (own.map (·.2))) (upd H1 P (.tbl (ps ++ more))) s2 := by
        refine ⟨#[], cS, .nil, IY.pins_of fun p hp => ?_⟩
        rw [List.mem_singleton.mp hp]
        refine ⟨heS, I3.hok.fresh Sfree, apart.2.1, fun z => ?_, fun v z => by cases z⟩
        have z : S ∈ frs X.stack := z
        rcases List.mem_cons.mp (I3.stkSub S z) with z | z
        · exact absurd (Nat.lt_of_lt_of_le I3.lt Sfree) (by rw [z]; exact Nat.lt_irrefl _)
        · exact I3.nofs Sfree z
      have rY : Room k (Aw.deeper (gxEnv X sc h3.objs.size code)) := hrw.deeper _
      have st2 : tn 0 s2.heap := T.keep _ _ _ st3 fun b _ o e => kp2 b o e
      refine seg_gx0 (m := m0) T st2 (seg_gx T goF (hg _ _ _ _ _ _ _ rY) (ht _ _ _ _ _ _ _ rY) (he _ _ _ _ _ _ _ rY) turns gok.co apart (fun b hb => ?_) ?_ m0 0 sizeLine [] s2 s2 _ (Nat.add_zero _) w0 hGI st2 fun b hb => (f3 b hb).1)
      · have lt : b < h3.objs.size := (fl3 b hb).2
        exact ⟨Nat.ne_of_lt (Nat.lt_of_lt_of_le lt (by omega : h3.objs.size ≤ h4.objs.size)), Nat.ne_of_lt (Nat.lt_of_lt_of_le lt Sfree)⟩
      · exact Nat.ne_of_lt (by omega : h4.objs.size < S)
  cases hf : codeAmong gpos ps.toList with
  | none =>
    refine wpAny_genexprCodeX hcode (cd.code hPs htr) (cd.tab hPs) hf fun c' h' tk hx hge hlt hco' _ htab' _ => ?_
    obtain ⟨o1, vs, f1, tf, fl, tg, inF, tx, tt, op, _, _, _, _, _, _, _, _, _, htr', _⟩ := hco'
    exact rest _ h' tk _ hx (Nat.le_trans hge (Nat.le_of_lt hlt)) htab'.2 htr'
  | some cv =>
    refine wpAny_genexprCode_hit hcode (cd.code hPs htr) hf ?_
    exact rest cv s1.heap s1.toks #[] (Heap.ExtBut.refl _ _) (Nat.le_refl _) (by simpa using hPs) (by simpa using htr)
end
end QN

/-! tuple(g), g a generator that has not begun -/
namespace QN
open PySem PySem.Spec PyProof.Rows L2 GenW
section
variable {P : Program} {w : World} {outer : List Env} {H : Hp} {sc s : Shared} {ex : List Addr} {Q : List V → Hp → Prop} {A : Around} {k : Nat} {u : Value} {E : Value → Shared → Prop}
/-- all that it hands out, gathered -/
def Got (P : Program) (w : World) (outer : List Env) (H : Hp) (sc : Shared) (ex : List Addr) (Q : List V → Hp → Prop) (out : List Value) (s1 : Shared) : Prop :=
  ∃ H2 ys, Vals ys out ∧ ys.length ≤ sizeLine ∧ s1.os = sc.os ∧ AllBare s1.gens ∧ Un (frs outer) ex H H2 sc.heap s1.heap ∧ HOk P w H2 s1.heap ∧ Q ys H2
theorem collect_made {Q1 : List Value → Shared → Prop} (hd : A.handled = none) (dp : A.depth + 3 * k + 5 < recursionLimit) (un : A.units + 2 + 16 * k + 200 < cLine) (hf : A.frames = some outer) (h : GMade P w k outer H sc ex Q L2.E0 u s)
    (fin : ∀ out s1, Got P w outer H sc ex Q out s1 → Q1 out s1) : wpAny (model P w) A (collect u) Q1 E s := by
  obtain ⟨a, g, cc, rfl, ha1, ha2, hg, hgs, hos, hb, hl, hkp, wake⟩ := h
  have apart : s.heap.objs.size ≠ a := Nat.ne_of_gt ha2
  have young : s.heap.objs.size ≠ cStatics := by
    have lt : cStatics < s.heap.objs.size := let ⟨_, hn, _⟩ := hl; hn.lt
    exact Nat.ne_of_gt lt
  unfold collect
  refine wpAny_bind (wpAny_runValue (codeAny_builtin F.entry_proto_collect ?_))
  rw [Around.under_plainId F.plain_proto_collect _]
  show wpAny _ A.in1 (newList [] >>= fun l => again (.builtin "list.__iadd__" ⟨[l, .ref a], []⟩)) _ _ s
  refine wpAny_bind (wpAny_newObj_type ?_)
  refine wpAny_pure ⟨plainId_quiet F.plain_list_iadd _, codeAny_builtin F.entry_list_iadd ?_⟩
  rw [Around.under_plainId F.plain_list_iadd _]
  show wpAny _ A.in1 (Builtin.List.listExtendWith (.ref s.heap.objs.size) (.ref a) (.ref s.heap.objs.size)) _ _ _
  unfold Builtin.List.listExtendWith
  have laid : (s.heap.push { cls := .type "list", data := .seq ([] : List Value).toArray }).get? s.heap.objs.size = some { cls := .type "list", data := .seq ([] : List Value).toArray } := Heap.get?_push_size _ rfl
  have k1 : ∀ b o, s.heap.get? b = some o → (s.heap.push { cls := .type "list", data := .seq ([] : List Value).toArray }).get? b = some o := fun b o e => Heap.get?_push_of_some _ e
  have gen : ∀ {h2 : Heap}, (∀ b o, s.heap.get? b = some o → h2.get? b = some o) → h2.IsGen a g := fun {h2} q => hg.keeps q
  refine wpAny_bind (wpAny_typeOf (Heap.IsGen.typeIs (s := { s with heap := _ }) (gen k1)) ?_)
  have n1 : Builtin.List.listSameRef (.ref s.heap.objs.size) (.ref a) = false := by simp [Builtin.List.listSameRef, apart]
  have n2 : (Value.type "generator" == Value.type "list") = false := by decide
  have n3 : (Value.type "generator" == Value.type "tuple") = false := by decide
  simp only [n1, n2, n3, Bool.or_false, Bool.false_eq_true, if_false]
  refine wpAny_bind (wpAny_pyIter_gen (s := { s with heap := _ }) (gen k1) ?_)
  refine wpAny_bind (wpAny_holding ?_)
  unfold Builtin.List.listLengthHint
  refine wpAny_bind (wpAny_specialOf (Heap.IsGen.typeIs (s := { s with heap := _ }) (gen k1)) F.gen_no_len ?_)
  show wpAny _ A.in1 (specialOf (Value.ref a) (Str.ofString "__length_hint__") >>= _) _ _ _
  refine wpAny_bind (wpAny_specialOf (Heap.IsGen.typeIs (s := { s with heap := _ }) (gen k1)) F.gen_no_hint ?_)
  refine wpAny_pure ?_
  show wpAny _ A.in1 (rule "list.extend.makes-room" >>= fun _ => Builtin.List.listTouch (.ref s.heap.objs.size) >>= fun _ =>
    again (.builtin "list.extend.loop" ⟨[.ref s.heap.objs.size, .ref a, .ref s.heap.objs.size], []⟩)) _ _ _
  refine wpAny_bind (wpAny_rule ?_)
  refine wpAny_bind ?_
  show wpAny _ A.in1 (updateSeq s.heap.objs.size (·.push .none) >>= fun _ => updateSeq s.heap.objs.size (·.pop)) _ _ _
  refine wpAny_bind (wpAny_updateSeq laid rfl ?_)
  have laid2 := Heap.get?_update_self (Obj.mapSeq (·.push Value.none)) laid rfl
  refine wpAny_updateSeq (hz := by seq_fits) laid2 rfl ?_
  have laid3 := Heap.get?_update_self (Obj.mapSeq (·.pop)) laid2 rfl
  have step : ∀ (h2 : Heap) (f : Obj → Obj), (∀ b o, s.heap.get? b = some o → h2.get? b = some o) → ∀ b o, s.heap.get? b = some o → (h2.update s.heap.objs.size f).get? b = some o := fun h2 f q b o e =>
    (Heap.get?_update_other _ _ (Ne.symm (Nat.ne_of_lt (Heap.lt_size e)))).trans (q b o e)
  have k3 := step _ (Obj.mapSeq (·.pop)) (step _ (Obj.mapSeq (·.push Value.none)) k1)
  refine wpAny_pure ⟨plainId_quiet F.plain_extend_loop _, ?_⟩
  refine drain (P := P) (w := w) (outer := outer) (H := H) (sc := sc) (ex := ex) (Q := Q) (EX := L2.E0) (A := A) (g := g) hd (by omega) apart young
    (fun s1 acc c2 H2 ys q1 q2 q3 q4 q5 q6 q7 _ q9 => ?_) (fun e s1 hc => ?_) sizeLine _ (gen k3) (hl.keeps k3) ⟨_, hgs, rfl, wake _ _ _ ⟨hd, ?_, ?_⟩ hf (Nat.le_refl _) k3 ⟨_, laid3⟩ hos (allBare_setGen (s := { s with heap := _ }) hb rfl)⟩
  · show wpAny _ A (load s.heap.objs.size >>= _) _ _ s1
    refine wpAny_bind (wpAny_load q1 ?_)
    exact wpAny_pure (fin _ _ ⟨H2, ys, q2, q3, q4, q5, q6, q7, q9⟩)
  · obtain ⟨_, _, _, _, _, _, _, _, _, _, _, _, z⟩ := hc
    exact z.elim
  · show A.depth + 3 * k + 5 < _
    exact dp
  · show A.units + 1 + 1 + 16 * k + 200 < _
    omega
theorem call_tuple_made {Q1 : Value → Shared → Prop} (hr : Room (k + 1) A) (hf : A.frames = some outer) (h : GMade P w k outer H sc ex Q L2.E0 u s)
    (fin : ∀ out s1, Got P w outer H sc ex Q out s1 → Q1 (.ref s1.heap.objs.size) { s1 with heap := s1.heap.push { cls := .type "tuple", data := .seq out.toArray } }) : wpAny (model P w) A (call (.type "tuple") [u]) Q1 E s := by
  have ty : s.TypeIs u "generator" := by
    obtain ⟨a, g, cc, rfl, ha1, ha2, hg, _⟩ := h
    exact hg.typeIs
  refine callType_codes (Q₁ := fun obj s₁ => s₁.TypeIs obj "tuple" ∧ Q1 obj s₁) F.called_tuple (F.typeCall_tuple_1 _) F.entry_object_init (codeAny_of_tree ?_) fun obj s₁ h₁ => ?_
  · show wpAny _ A.in1.in1 (do checkBuiltinCall "tuple.__new__" ⟨[.type "tuple", u], []⟩; again (.builtin "tuple.__new__" ⟨[.type "tuple", u], []⟩)) _ _ s
    refine wpAny_bind (wpAny_of_eq (F.newCall_tuple_1 _) (wpAny_pure ⟨plainId_quiet F.plain_tuple_new _, codeAny_builtin F.entry_tuple_new ?_⟩))
    rw [Around.under_plainId F.plain_tuple_new _]
    have hsub := sub_tuple_self
    have hinit := init_tuple_lookup
    have hmh := madeHere_tuple
    have hTI := ty
    have gather : ∀ {Q2 : List Value → Shared → Prop} {E2 : Value → Shared → Prop}, (∀ out s1, Got P w outer H sc ex Q out s1 → Q2 out s1) → wpAny (model P w) A.in1.in1 (collect u) Q2 E2 s := fun {Q2 E2} q => collect_made hr.hd (by have := hr.dp; show A.depth + 3 * k + 5 < _; omega) (by have := hr.un; show A.units + 1 + 1 + 2 + 16 * k + 200 < _; omega) hf h q
    wp_walk using wpAny_typeOf hTI, gather
    intro out s1 got
    have hz : out.length ≤ sizeLine := by
      obtain ⟨H2, ys, v, l, _⟩ := got
      rw [← v.length]
      exact l
    show wpAny _ _ (Builtin.Tuple.tupleExact out.toArray >>= fun v => ret v) _ _ _
    unfold Builtin.Tuple.tupleExact
    refine wpAny_bind (wpAny_newObj_type ?_ (by show out.toArray.size ≤ sizeLine; simpa using hz))
    exact wpAny_pure ⟨⟨_, Heap.get?_push_size _ rfl, rfl⟩, fin out s1 got⟩
  · exact ⟨h₁.1, F.args_object_init_2 obj _, object_init_meets F.called_tuple.init.lookup F.called_tuple.made (by decide) P w A.in1 _ s₁ ⟨h₁.1, rfl, h₁.2⟩⟩
end
/-- tuple(g) -/
def tTupGx (tg : TGen) : TE := fun σ H Q => tg σ H fun out H2 => ∀ p, H2 p = none → Q (.ref p) (upd H2 p (.tup out))
section
variable {X : Cx} {k : Nat} {p pos : Pos}
theorem pe_tupGx {e : Expr} {tg : TGen} (h : PGen X k e tg L2.E0) (hr : Room (k + 1) X.A) (hg : Gl X "tuple") (hm : X.mg "tuple" = none) (hb : bootBuiltins "tuple" = some (.type "tuple"))
    (he : starEach [e] X.env = (false, eval e X.env) :: starEach [] X.env := by rfl) : PE X (.Call (.Name "tuple" p) [e] [] pos) (tTupGx tg) := by
  refine ⟨fun pins s σ H Q I hq => ?_⟩
  refine wpAny_Call_Name_kw (ld_blt I hg hm hb ?_ (by decide) (by decide))
  refine PyProof.Rows.callWith_type1 ?_ he (by rfl)
  rw [he]
  show wpAny _ _ (spliced ((false, eval e X.env) :: backTo pos (starEach [] X.env))) _ _ s
  refine Calls.spliced_cons (thn (h.run pins s σ H _ I hq) fun u s1 ⟨H1, sc, ex, I1, hex, hG⟩ => ?_)
  refine Calls.spliced_nil ?_
  refine call_tuple_made hr I1.ok.frames hG fun out s2 ⟨H2, ys, q1, q2, q3, q4, q5, q6, q7⟩ => ?_
  have J : Inv X pins σ H2 s2 := I1.call' (ch := ex) q3 q5 q6 q4 hex
  have hp : H2 s2.heap.objs.size = none := J.hok.fresh (Nat.le_refl _)
  exact ⟨.ref s2.heap.objs.size, upd H2 s2.heap.objs.size (.tup ys), J.laid (t' := s2.toks) (fun b o e => Heap.get?_push_of_some _ e) (Nat.le_refl _) ⟨q2, out, q1, ⟨_, Heap.get?_push_size _ rfl, rfl, 0, rfl⟩⟩, rfl, q7 _ hp⟩
end
/-- the block's turns over any walk: Pv by the turn, what is out, the heap -/
theorem gx_it {J : It} {n : Nat} {G : Hp → Prop} {Y : Nat → Hp → V → Hp → Prop} (w : Walk J n G Y) {g : TG} {tt : TT} {te : TE} {vs : List Nat} {σ : L2.St} {H1 : Hp} {cont : List V → Hp → Prop} (Pv : Nat → List V → Hp → Prop) (h0 : Pv 0 [] H1) (hG : ∀ i ys H, i ≤ n → Pv i ys H → G H)
    (hs : ∀ i x ys H H', i < n → Pv i ys H → Y i H x H' → g x (wipe σ vs) H' fun τ H2 => wipe τ vs = wipe σ vs ∧ tt τ H2 fun b H3 => if b = true then te τ H3 fun y H4 => ys.length < sizeLine ∧ Pv (i + 1) (ys ++ [y]) H4 else Pv (i + 1) ys H3) (hd : ∀ ys H, Pv n ys H → cont ys H) :
    ∃ W : Nat → Nat → List V → Hp → Prop, (∃ m, W 0 m [] H1) ∧ GxTurns J g tt te vs σ cont W := by
  refine ⟨fun i m ys H => m = n - i ∧ i ≤ n ∧ Pv i ys H, ⟨n, by rw [Nat.sub_zero], Nat.zero_le _, h0⟩, ?_⟩
  rintro i m ys H ⟨rfl, hi, p⟩
  have q := hG i ys H hi p
  rcases Nat.lt_or_ge i n with lt | ge
  · exact .inr ⟨w.goes i H lt q, Pv (i + 1), fun zs H' p' => ⟨n - (i + 1), by omega, rfl, lt, p'⟩, fun x H' y => hs i x ys H H' lt p (w.yields i H x H' lt q y)⟩
  · obtain rfl : i = n := Nat.le_antisymm hi ge
    exact .inl ⟨w.stops H q, hd ys H p⟩
/-- of known things in a tuple: those that are kept, what each becomes; new things may be laid on the way -/
theorem gx_anyT {α : Type} {K : PySem.W.Frag} {a : Addr} {zs : List α} {key : α → V} {keep : α → Bool} {val : α → V} {j : Nat} {tt : TT} {te : TE} {vs : List Nat} {σ : L2.St} {H1 : Hp} {cont : List V → Hp → Prop} (hq : SqT K H1 a (zs.map key)) (few : zs.length < sizeLine) (hw : ∀ v, wipe ((wipe σ vs).set j (some v)) vs = wipe σ vs)
    (hs : ∀ z ∈ zs, ∀ (H' : Hp) (R : VK) (F : Hp → Prop), Same H1 H' → (keep z = true → ∀ H3, Same H' H3 → R (val z) H3) → (keep z = false → ∀ H3, Same H' H3 → F H3) → tt ((wipe σ vs).set j (some (key z))) H' fun b H3 => if b = true then te ((wipe σ vs).set j (some (key z))) H3 R else F H3)
    (hd : ∀ H', Same H1 H' → cont ((zs.filter keep).map val) H') : ∃ W : Nat → Nat → List V → Hp → Prop, (∃ m, W 0 m [] H1) ∧ GxTurns (Itt K a) (gName j) tt te vs σ cont W := by
  refine gx_it (walk_tup (xs := zs.map key)) (fun i ys H' => Same H1 H' ∧ ys = ((zs.take i).filter keep).map val) ⟨fun _ _ e => e, rfl⟩ (fun i ys H' _ p => ?_) (fun i x ys H2 H' lt p y => ⟨hw x, ?_⟩) fun ys H' p => ?_
  · rcases hq with (h | ⟨o, h⟩) | h
    · exact .inl (.inl (p.1 _ _ h))
    · exact .inl (.inr ⟨o, p.1 _ _ h⟩)
    · exact .inr h
  · obtain ⟨rfl, hz⟩ := y
    obtain ⟨sm, rfl⟩ := p
    rw [List.getElem?_map] at hz
    cases e : zs[i]? with
    | none => rw [e] at hz; cases hz
    | some z =>
      rw [e] at hz
      cases (Option.some.inj hz : key z = x)
      refine hs z (List.mem_of_getElem? e) H' _ _ sm (fun kz H3 s3 => ⟨?_, fun b o eb => s3 _ _ (sm _ _ eb), ?_⟩) fun kz H3 s3 => ⟨fun b o eb => s3 _ _ (sm _ _ eb), ?_⟩
      · rw [List.length_map]
        have h1 := List.length_filter_le keep (zs.take i)
        have h2 : (zs.take i).length ≤ zs.length := by rw [List.length_take]; exact Nat.min_le_right _ _
        omega
      · rw [List.take_add_one, e]
        show _ = ((zs.take i ++ [z]).filter keep).map val
        rw [List.filter_append, List.map_append, List.filter_cons_of_pos (by exact kz)]
        rfl
      · rw [List.take_add_one, e]
        show _ = ((zs.take i ++ [z]).filter keep).map val
        rw [List.filter_append, List.filter_cons_of_neg (by rw [kz]; decide), List.filter_nil, List.append_nil]
  · obtain ⟨sm, rfl⟩ := p
    rw [List.length_map, List.take_length]
    exact hd H' sm
end QN

/-! the components of some transitions -/
namespace Qp
open PySem PySem.Spec PyProof.Rows L2 QN
abbrev compsN : List Str := ["graph", "names", "links", "name", "known", "state", "found", "part", "inside", "source", "target", "other"]
theorem scComps : FnScope compsN ["graph", "names"] (defScope sComps) := ⟨rfl, rfl, rfl, by decide +kernel, rfl, by decide +kernel, by decide +kernel⟩
/-- the ends of the named rows -/
def lnk (G : Gr) (xs : List Str) : List (Str × Str) := xs.map fun n => match G.rs.find? fun r => decide (r.n = n) with
  | some r => (r.s, r.t)
  | none => ("", "")
theorem lnk_row {G : Gr} (nd : (G.rs.map (·.n)).Nodup) {r : Row} (hr : r ∈ G.rs) : (match G.rs.find? fun q => decide (q.n = r.n) with | some q => (q.s, q.t) | none => (("", "") : Str × Str)) = (r.s, r.t) := by
  cases e : G.rs.find? fun q => decide (q.n = r.n) with
  | none => exact absurd (List.find?_eq_none.mp e r hr) (by simp)
  | some q =>
    have h1 := List.mem_of_find?_eq_some e
    have h2 := List.find?_some e
    rw [nm_inj nd q h1 r hr (by simpa using h2)]
theorem lnk_mem {G : Gr} {xs : List Str} (nd : (G.rs.map (·.n)).Nodup) (hx : ∀ n ∈ xs, n ∈ G.rs.map (·.n)) {l : Str × Str} : l ∈ lnk G xs ↔ ∃ r ∈ rowsOf G xs, l = (r.s, r.t) := by
  unfold lnk
  rw [List.mem_map]
  constructor
  · rintro ⟨n, hn, rfl⟩
    obtain ⟨r, hr, rfl⟩ := List.mem_map.mp (hx n hn)
    exact ⟨r, List.mem_filter.mpr ⟨hr, decide_eq_true hn⟩, lnk_row nd hr⟩
  · rintro ⟨r, hr, rfl⟩
    obtain ⟨h1, h2⟩ := List.mem_filter.mp hr
    exact ⟨r.n, of_decide_eq_true h2, lnk_row nd h1⟩
theorem rowsIn_of {G : Gr} (ok : G.Ok) (ends : EndsIn G) (xs : List Str) : RowsIn G.ns (rowsOf G xs) :=
  ⟨fun r hr => (ends r (List.mem_filter.mp hr).1).1, fun r hr => (ends r (List.mem_filter.mp hr).1).2, ok.nl⟩
theorem lnk_just {G : Gr} {xs : List Str} (ok : G.Ok) (ends : EndsIn G) (hx : ∀ n ∈ xs, n ∈ G.rs.map (·.n)) {s : Str} (hs : s ∈ G.ns) : Just (lnk G xs) s (rch G.ns (rowsOf G xs) s) := by
  have nd : (G.rs.map (·.n)).Nodup := nodup_lts ok.ra
  have R := rowsIn_of ok ends xs
  refine ⟨rch_self R hs, rch_nodup (nodup_lts ok.na) s, fun l hl h1 => ?_, fun ks hk cl => rch_least R hs hk fun r hr h1 => ?_⟩
  · obtain ⟨r, hr, rfl⟩ := (lnk_mem nd hx).mp hl
    exact rch_step R hs r hr h1
  · exact cl (r.s, r.t) ((lnk_mem nd hx).mpr ⟨r, hr, rfl⟩) h1
theorem linksAt_dp {K : PySem.W.Frag} {H : Hp} : ∀ {us : List V} {ls : List (Str × Str)}, LinksAt K H us ls → DpAll K H us (ls.map linkD)
  | _, _, .nil => .nil
  | _, _, .cons ⟨t, e, q⟩ r => by
    subst e
    exact .cons (.tup q (.cons (.str _) (.cons (.str _) .nil))) (linksAt_dp r)
theorem linksAt_at {K : PySem.W.Frag} {H : Hp} : ∀ {us : List V} {ls : List (Str × Str)} {i : Nat} {u : V}, LinksAt K H us ls → us[i]? = some u → ∃ (l : Str × Str) (t : Addr), ls[i]? = some l ∧ u = .ref t ∧ SqT K H t [.str l.1, .str l.2]
  | _, _, i, u, .nil, e => by simp at e
  | _, _, 0, u, .cons ⟨t, e1, h⟩ _, e => by
    cases e
    exact ⟨_, t, rfl, e1, h⟩
  | _, _, i + 1, u, .cons _ r, e => linksAt_at (i := i) r (by simpa using e)
/-- a dict of what is reached from each state -/
def KnownAt (H : Hp) (kd : Addr) (ns : List Str) (rs : List Row) : Prop := ∃ kvs : List (Key × V), H kd = some (.dK kvs) ∧ ∀ s ∈ ns, ∃ (d : Addr) (ks : List Str), valV kvs (Sum.inr s : Key) = some (.ref d) ∧ H d = some (.dK (knownK ks)) ∧ ∀ y, y ∈ ks ↔ y ∈ rch ns rs s
theorem knownAt_sim {H H' : Hp} (s : Sim H H') {kd : Addr} {ns : List Str} {rs : List Row} (h : KnownAt H kd ns rs) : KnownAt H' kd ns rs := by
  obtain ⟨kvs, e, k⟩ := h
  refine ⟨kvs, s.st _ _ (nt_dK _) e, fun x hx => ?_⟩
  obtain ⟨d, ks, e1, e2, e3⟩ := k x hx
  exact ⟨d, ks, e1, s.st _ _ (nt_dK _) e2, e3⟩
theorem inside_lnk {G : Gr} {xs : List Str} (nd : (G.rs.map (·.n)).Nodup) (hx : ∀ n ∈ xs, n ∈ G.rs.map (·.n)) (c : List Str) : ((lnk G xs).map fun l => decide (l.1 ∈ c ∧ l.2 ∈ c)).any id = insideP (rowsOf G xs) c := by
  unfold insideP
  rw [Bool.eq_iff_iff, List.any_map, List.any_eq_true, List.any_eq_true]
  constructor
  · rintro ⟨l, hl, h⟩
    obtain ⟨r, hr, rfl⟩ := (lnk_mem nd hx).mp hl
    exact ⟨r, hr, h⟩
  · rintro ⟨r, hr, h⟩
    exact ⟨(r.s, r.t), (lnk_mem nd hx).mpr ⟨r, hr, rfl⟩, h⟩
theorem comps_snoc {ns : List Str} {rs : List Row} {i : Nat} {s : Str} (hi : ns[i]? = some s) : comps ns rs (ns.take (i + 1)) = comps ns rs (ns.take i) ++ if isFirst ns rs s = true then [compOf ns rs s] else [] := by
  unfold comps
  rw [List.take_add_one, hi]
  show ((ns.take i ++ [s]).filter _).map _ = _
  rw [List.filter_append, List.map_append]
  by_cases f : isFirst ns rs s = true
  · rw [if_pos f, List.filter_cons_of_pos (by exact f)]
    rfl
  · rw [if_neg f, List.filter_cons_of_neg f]
    rfl
section
variable {P : Program} {w : World} {K : PySem.W.Frag} {mg : Str → Option Value} {base : Heap}
theorem ok_comps {oc : Value} {od : Option Addr} {kV doc pm ct : Value} {an : Option Addr} {osl : Array (Option Value)} {f fK fN fR fG cC PC pS fS C : Addr} {fdK fdN fdR fdS : FuncData} (lk : K.lookup f = some ⟨oc, od, .func (PySem.W.fnOf "components" "components" (defArgs sComps) (defBody sComps) (defScope sComps) .none kV doc pm an (.ref cC) ct), osl⟩) (hcd : PySem.W.codeIn K (.ref cC) "components" = true)
    (T : GraphC K mg C) (GK : FnOk P w K mg base CX0 1 fK fdK ["graph"] (spChkG K C)) (kK : PySem.W.keepIn K (.ref fK) = true) (bK : L2.Binds K fdK ["graph"] []) (gK : mg "check_graph" = some (.ref fK))
    (GN : FnOk P w K mg base CX0 4 fN fdN ["graph", "names"] (spChkNs K C)) (kN : PySem.W.keepIn K (.ref fN) = true) (bN : L2.Binds K fdN ["graph", "names"] []) (gN : mg "check_names" = some (.ref fN))
    (GR : FnOk P w K mg base CX0 1 fR fdR ["links", "state"] (spReachedX K)) (kR : PySem.W.keepIn K (.ref fR) = true) (bR : L2.Binds K fdR ["links", "state"] []) (gR : mg "reached" = some (.ref fR))
    (MG : OMeth K C "__getitem__" fG) (iG : PySem.W.fnIn K fG = true) (GG : FnR P w K mg base CX0 2 fG (spGGet K C)) (PS : PropOf K C "states" pS fS) (GS : FnOk P w K mg base CX0 1 fS fdS ["self"] (spGSts K C)) (bS : L2.Binds K fdS ["self"] []) (TB : GxR.TabB base mg cC PC)
    (B : BltP mg) (ny : mg "any" = none) : FnOk P w K mg base CX0 5 f (PySem.W.fnOf "components" "components" (defArgs sComps) (defBody sComps) (defScope sComps) .none kV doc pm an (.ref cC) ct) ["graph", "names"] (spComps K C PC) := by
  refine fn_of lk hcd scComps (fun vs H Q E h => ?_) (fun A outer s H vs Q E hr h => ?_)
  · obtain ⟨g, t, G, xs, rfl, _⟩ := h
    rfl
  · obtain ⟨g, t, G, xs, rfl, hg, ok, ends, ht, few, hx, tc, fin⟩ := h
    have r1 := hr.mono (by decide : 1 ≤ 4)
    have r2 := hr.mono (by decide : 2 ≤ 4)
    have r3 := hr.mono (by decide : 3 ≤ 4)
    refine ⟨_, PSs.nox (pss_cons (ps_expr (pe_call GK r1 (by rfl) gK kK bK .nil pass0 (pa_cons (pv 0) pa_nil)))
      (pss_cons (ps_expr (pe_call GN hr (by rfl) gN kN bN .nil pass0 (pa_cons (pv 0) (pa_cons (pv 1) pa_nil))))
      (pss_cons (ps_set (i := 2) scComps.nd rfl (.inr rfl) (pe_lc (own := [("name", 3)]) (g := gName 3) (tt := tYes) (te := tSl (rSlT K) (tItemO C (spGGet K C) L2.E0 (tVar 0) (tVar 3)) (tPart (tC (.int 1))) (tPart (tC (.int 3)))) rfl scComps.nd (pi_tup (pv 1)) (blkOk_by (N := compsN) (sc := defScope sComps) (by decide +kernel))
          (fun _ _ _ _ _ => pg_name (i := 3) scComps.nd rfl (.inl rfl)) (fun _ _ _ _ _ => pts_nil) (fun _ _ _ _ _ => pe_slice sl_tup (pe_itemO MG iG GG r3 pass0 (pv 0) (pv 3) (fun _ _ => rfl)) (po_some pe_int) (po_some pe_int))))
      (pss_cons (ps_set (i := 4) scComps.nd rfl (.inr rfl) (pe_dc (own := [("state", 5)]) (g := gName 5) (tt := tYes) (tk := tVar 5) (tv := tCall (spReachedX K) [] L2.E0 (tCons (tVar 2) (tCons (tVar 5) tNil))) rfl scComps.nd (pi_tup (pe_prop (pv 0) T.cls PS GS r2 bS .nil pass0 rfl)) (blkOk_by (N := compsN) (sc := defScope sComps) (by decide +kernel))
          (fun _ _ _ _ _ => pg_name (i := 5) scComps.nd rfl (.inl rfl)) (fun _ _ _ _ _ => pts_nil) (fun _ _ _ _ _ => pv 5) (fun _ _ _ _ _ => pe_call GR r1 (by rfl) gR kR bR .nil pass0 (pa_cons (pv 2) (pa_cons (pv 5) pa_nil)))))
      (pss_cons (ps_set (i := 6) scComps.nd rfl (.inl rfl) (pe_lst pa_nil))
      (pss_cons (ps_for PassesOwn.never rfl (pi_tup (pe_prop (pv 0) T.cls PS GS r2 bS .nil pass0 rfl)) (pg_name (i := 5) scComps.nd rfl (.inr rfl))
        (pss_cons (ps_set (i := 7) scComps.nd rfl (.inr rfl) (pe_tupGx (pgen_gx (k := 0) (own := [("other", 11)]) (bind := gName 11) (test := tAnd (tB (tDIn (tVar 11) (tDGet (tVar 4) (tVar 5)))) (tB (tDIn (tVar 5) (tDGet (tVar 4) (tVar 11))))) (mem := tVar 11) r1 rfl scComps.nd TB rfl (blkOk_by (N := compsN) (sc := defScope sComps) (by decide +kernel)) ⟨rfl, by decide +kernel, by rfl⟩ (pi_tup (pe_prop (pv 0) T.cls PS GS r2 bS .nil pass0 rfl))
            (fun _ _ _ _ _ _ _ rY => pg_name (i := 11) scComps.nd rfl (.inl rfl)) (fun _ _ _ _ _ _ _ rY => pts_one (PW.pt (pw_and (pt_cmp (pc_din (hu_of rY) (pv 11) (pe_dget (hu_of rY) (pv 4) (pv 5) (fun _ _ => rfl)))) (pw_and1 (pt_cmp (pc_din (hu_of rY) (pv 5) (pe_dget (hu_of rY) (pv 4) (pv 11) (fun _ _ => rfl)))))))) (fun _ _ _ _ _ _ _ rY => pv 11)) r2 (by rfl) B.tuple (by decide +kernel)))
        (pss_cons (ps_set (i := 8) scComps.nd rfl (.inl rfl) (pe_callB (cr_any rfl) (by rfl) ny (by decide +kernel) (pa_cons (pe_lc (own := [("source", 9), ("target", 10)]) (g := gTup K 2 (gCons (gName 9) (gCons (gName 10) gNil))) (tt := tYes) (te := tAndV (tOp (rIn K false) (tVar 9) (tVar 7)) (tOp (rIn K false) (tVar 10) (tVar 7))) rfl scComps.nd (pi_list (pv 2)) (blkOk_by (N := compsN) (sc := defScope sComps) (by decide +kernel))
            (fun _ _ _ _ _ => pg_tup (by rfl) (pgs_cons (pg_name (i := 9) scComps.nd rfl (.inl rfl)) (pgs_cons (pg_name (i := 10) scComps.nd rfl (.inl rfl)) pgs_nil))) (fun _ _ _ _ _ => pts_nil) (fun _ _ _ _ _ => pe_and (pe_cmpR op_in_seq (pv 9) (pv 7) (by rfl)) (pe_one (pe_cmpR op_in_seq (pv 10) (pv 7) (by rfl))))) pa_nil)))
        (pss_one (ps_if (PW.pt (pw_and (pt_cmpR op_eq (pe_ix (r := rIxT K) ix_tup (pv 7) pe_int (fun _ _ => rfl)) (pv 5) (nomark _)) (pw_and1 (pt_val (pv 8))))) (pss_one (ps_expr (pe_bm PySem.F.plainAttrs_list PySem.F.slot_list_append PySem.F.type_list_append mt_append (pv 6) (pa_cons (pv 7) pa_nil)))) pss_nil)))))
      (pss_one (ps_ret (pe_callTy call_tuple_of (by rfl) B.tuple (by decide +kernel) (pa_cons (pv 6) pa_nil)))))))))), ?_⟩
    have nd : (G.rs.map (·.n)).Nodup := nodup_lts ok.ra
    have R := rowsIn_of ok ends xs
    refine ⟨_, rfl, g, G, rfl, hg, ⟨_, rfl, _, rfl, g, t, G, xs, rfl, hg, ht, hx, ?_⟩⟩
    refine ⟨_, rfl, t, rfl, ⟨_, ht⟩, fun LK hLK => ?_⟩
    refine lc_tup (xs := xs.map V.str) (fun i H' => Same H H' ∧ ∃ us, H' LK = some (.lst us) ∧ LinksAt K H' us ((lnk G xs).take i)) ⟨same_new hLK, [], upd_same, .nil⟩ (fun i H' _ p => sqT_same p.1 ht) (fun i z H' hz p => ?_) fun H1 p => ?_
    · obtain ⟨sm, us, eL, lk⟩ := p
      rw [List.getElem?_map] at hz
      cases en : xs[i]? with
      | none => rw [en] at hz; cases hz
      | some n =>
        rw [en] at hz
        cases (Option.some.inj hz : V.str n = z)
        obtain ⟨r, hr', rfl⟩ := List.mem_map.mp (hx n (List.mem_of_getElem? en))
        have hg' := graphAt_sim (Sim.of sm) hg
        have hi := (List.getElem?_eq_some_iff.mp en).1
        have ll := lk.length
        rw [List.length_take] at ll
        refine ⟨rfl, yes_if ⟨_, rfl, _, rfl, g, rfl, oat_graph hg', g, G, r, rfl, hg', ok.ra, hr', fun u pu => ?_⟩⟩
        obtain ⟨a, c, ys, rfl, h1, h2, h3⟩ := pu
        refine ⟨1, rfl, 3, rfl, a, _, rfl, h1, (by show ¬ (HT.sIx 4 0 (some 1) = 0 ∧ HT.sIx 4 4 (some 3) = 4); decide), fun p hp => ⟨us, (same_new hp) _ _ eL, by rw [sizeLine_eq]; omega, same_upd' (sm.trans (same_new hp)) hLK, us ++ [.ref p], upd_same, ?_⟩⟩
        have tk : (lnk G xs).take (i + 1) = (lnk G xs).take i ++ [(r.s, r.t)] := by
          rw [List.take_add_one]
          unfold lnk
          rw [List.getElem?_map, en]
          show _ ++ [(match G.rs.find? fun q => decide (q.n = r.n) with | some q => (q.s, q.t) | none => (("", "") : Str × Str))] = _
          rw [lnk_row nd hr']
        rw [tk]
        refine Paired.snoc (links_simL simX_upd ((same_new hp) _ _ eL) (links_same (same_new hp) lk)) ⟨p, rfl, ?_⟩
        have ne : p ≠ LK := fun z => by rw [z, eL] at hp; cases hp
        exact .inl (.inl (by rw [upd_ne ne, upd_same]; rfl))
    obtain ⟨s1, us, eL, lk⟩ := p
    have lnl : (lnk G xs).length = xs.length := List.length_map _
    rw [List.length_map, List.take_of_length_le (by rw [lnl]; exact Nat.le_refl _)] at lk
    have ul := lk.length
    have hg1 := graphAt_sim (Sim.of s1) hg
    obtain ⟨dx, f1, f2, f3, f4, f5, f6, us0, i1, i2⟩ := id hg
    refine ⟨_, rfl, g, dx, _, rfl, s1 _ _ i1, g, G, rfl, hg1, fun n1 hn1 => ⟨n1, rfl, ⟨_, hn1⟩, fun KD hKD => ?_⟩⟩
    refine dc_tup (xs := G.ns.map V.str) (fun i H' => Same H1 H' ∧ ∃ kvs : List (Key × V), H' KD = some (.dK kvs) ∧ kvs.length ≤ i ∧ ∀ s ∈ G.ns.take i, ∃ (d : Addr) (ks : List Str), valV kvs (Sum.inr s : Key) = some (.ref d) ∧ d ≠ KD ∧ H' d = some (.dK (knownK ks)) ∧ ∀ y, y ∈ ks ↔ y ∈ rch G.ns (rowsOf G xs) s) ⟨same_new hKD, [], upd_same, Nat.le_refl _, fun s h => by simp at h⟩ (fun i H' _ p => sqT_same p.1 hn1) (fun i z H' hz p => ?_) fun H2 p => ?_
    · obtain ⟨sm, kvs, eK, kl, kk⟩ := p
      rw [List.getElem?_map] at hz
      cases en : G.ns[i]? with
      | none => rw [en] at hz; cases hz
      | some s =>
        rw [en] at hz
        cases (Option.some.inj hz : V.str s = z)
        have hs := List.mem_of_getElem? en
        have hi := (List.getElem?_eq_some_iff.mp en).1
        have nl := ok.nl
        refine ⟨rfl, yes_if ⟨_, rfl, _, rfl, _, rfl, LK, us, lnk G xs, s, rch G.ns (rowsOf G xs) s, rfl, .inl (.inl (sm _ _ eL)), linksAt_dp (links_same sm lk), lnk_just ok ends hx hs, ?_, by rw [lnl]; omega, fun d ks H3 s3 nd3 ed3 ek3 => ⟨kvs, Sum.inr s, rfl, s3 _ _ eK, by rw [sizeLine_eq]; omega, same_upd' (sm.trans s3) hKD, putK kvs (Sum.inr s) (.ref d), upd_same, ?_, fun x hx' => ?_⟩⟩⟩
        · have : (rch G.ns (rowsOf G xs) s).length ≤ G.ns.length := List.length_filter_le _ _
          omega
        · have : (putK kvs (Sum.inr s : Key) (.ref d)).length ≤ kvs.length + 1 := by
            unfold putK
            split
            · rw [List.length_map]
              omega
            · rw [List.length_append]
              exact Nat.le_refl _
          omega
        · have ndK : d ≠ KD := fun z => by rw [z, eK] at nd3; cases nd3
          by_cases e : x = s
          · subst e
            exact ⟨d, ks, by rw [valV_put, if_pos rfl], ndK, by rw [upd_ne ndK]; exact ed3, ek3⟩
          · have mx : x ∈ G.ns.take i := by
              rw [List.take_add_one, en] at hx'
              rcases List.mem_append.mp hx' with h | h
              · exact h
              · exact absurd (List.mem_singleton.mp h) e
            obtain ⟨d', ks', e1, e2, e3, e4⟩ := kk x mx
            refine ⟨d', ks', by rw [valV_put, if_neg (fun z => e (Sum.inr.inj z))]; exact e1, e2, by rw [upd_ne e2]; exact s3 _ _ e3, e4⟩
    obtain ⟨s2, kvs, eK, kl, kk⟩ := p
    rw [List.length_map, List.take_length] at kk
    have KA : KnownAt H2 KD G.ns (rowsOf G xs) := ⟨kvs, eK, fun s hs => by
      obtain ⟨d, ks, e1, _, e3, e4⟩ := kk s hs
      exact ⟨d, ks, e1, e3, e4⟩⟩
    have S2 : Sim H H2 := Sim.of (s1.trans s2)
    have eL2 := s2 _ _ eL
    have lk2 := links_same s2 lk
    refine ⟨(by show 0 ≤ sizeLine; decide), fun FL hFL => ?_⟩
    have sF := same_new (o := .lst []) hFL
    have S3 := S2.trans (Sim.of sF)
    have KA3 := knownAt_sim (Sim.of sF) KA
    have eF3 : (upd H2 FL (.lst [])) FL = some (.lst []) := upd_same
    have eL3 := sF _ _ eL2
    have lk3 := links_same sF lk2
    have hFLn : H FL = none := by
      cases c : H FL with
      | none => rfl
      | some o =>
        have z := s2 _ _ (s1 _ _ c)
        rw [z] at hFL
        cases hFL
    have back : ∀ n xs, SqT K (upd H2 FL (.lst [])) n xs → SqT K H2 n xs := fun n xs h => by
      rcases h with (h | ⟨o, h⟩) | h
      · by_cases z : n = FL
        · rw [z, upd_same] at h
          cases h
        · rw [upd_ne z] at h
          exact .inl (.inl h)
      · by_cases z : n = FL
        · rw [z, upd_same] at h
          cases h
        · rw [upd_ne z] at h
          exact .inl (.inr ⟨o, h⟩)
      · exact .inr h
    have S23 := Sim.of sF
    generalize upd H2 FL (.lst []) = H3 at S3 KA3 eF3 eL3 lk3 back S23
    have hg3 := graphAt_sim S3 hg
    refine ⟨_, rfl, g, dx, _, rfl, S3.st _ _ (nt_ins _ _ _) i1, g, G, rfl, hg3, fun n3 hn3' => ⟨n3, rfl, ⟨_, hn3'⟩, ?_⟩⟩
    have hn3 := back _ _ hn3'
    refine for_tup (xs := G.ns.map V.str) (fun i σ H' => ∃ (y5 y7 y8 : Option V) (ws : List V), σ = [some (.ref g), some (.ref t), some (.ref LK), none, some (.ref KD), y5, some (.ref FL), y7, y8, none, none, none] ∧ Sim H2 H' ∧ H' FL = some (.lst ws) ∧ CompsAt K H' ws (comps G.ns (rowsOf G xs) (G.ns.take i))) ⟨_, _, _, [], rfl, S23, eF3, .nil⟩ (fun i σ H' _ p => ?_) (fun i z σ H' hz p => ?_) fun σ H' p => ?_
    · obtain ⟨_, _, _, _, _, sm, _⟩ := p
      exact sqT_sim sm hn3
    · obtain ⟨y5, y7, y8, ws, rfl, sm, eF, cw⟩ := p
      rw [List.getElem?_map] at hz
      cases en : G.ns[i]? with
      | none => rw [en] at hz; cases hz
      | some s =>
        rw [en] at hz
        cases (Option.some.inj hz : V.str s = z)
        have hs := List.mem_of_getElem? en
        have nl := ok.nl
        have S4 := S2.trans sm
        have hg4 := graphAt_sim S4 hg
        obtain ⟨kvs4, eK4, kk4⟩ := knownAt_sim sm KA
        have dgt : ∀ {H' : Hp} {x : Str} {d : Addr}, H' KD = some (.dK kvs4) → valV kvs4 (Sum.inr x : Key) = some (.ref d) → DGet H' KD (.str x) (some (.ref d)) := fun {H' x d} e v => by
          have q := DGet.k (k := Sum.inr x) e
          rw [v] at q
          exact q
        refine ⟨_, rfl, g, dx, _, rfl, S4.st _ _ (nt_ins _ _ _) i1, g, G, rfl, hg4, fun n4 hn4 => ⟨n4, rfl, ⟨_, hn4⟩, S4.tb _ tc, fun H5 tb => ?_⟩⟩
        have T5 := Sim.tabbed (S4.tb _ tc) tb
        have hn5 := sqT_sim T5 hn4
        have eK5 := T5.st _ _ (nt_dK _) eK4
        refine gx_anyT (zs := G.ns) (key := V.str) (keep := fun o => decide (o ∈ rch G.ns (rowsOf G xs) s) && decide (s ∈ rch G.ns (rowsOf G xs) o)) (val := V.str) hn5 (by rw [sizeLine_eq]; omega) (fun _ => rfl) (fun o ho H6 R2 F2 s6 kt kf => ?_) fun H6 s6 p6 hp6 => ?_
        · obtain ⟨d1, k1, v1, g1, m1⟩ := kk4 s hs
          obtain ⟨d2, k2, v2, g2, m2⟩ := kk4 o ho
          refine ⟨_, rfl, _, rfl, _, rfl, KD, _, rfl, dgt (s6 _ _ eK5) v1, d1, _, rfl, DGet.k (k := Sum.inr o) (s6 _ _ (T5.st _ _ (nt_dK _) g1)), _, rfl, ?_⟩
          rw [known_has]
          by_cases c1 : o ∈ rch G.ns (rowsOf G xs) s
          · rw [decide_eq_true ((m1 o).mpr c1)]
            refine if_yes rfl ⟨_, rfl, _, rfl, _, rfl, KD, _, rfl, dgt (s6 _ _ eK5) v2, d2, _, rfl, DGet.k (k := Sum.inr s) (s6 _ _ (T5.st _ _ (nt_dK _) g2)), _, rfl, ?_⟩
            rw [known_has]
            by_cases c2 : s ∈ rch G.ns (rowsOf G xs) o
            · rw [decide_eq_true ((m2 s).mpr c2)]
              exact if_yes rfl ⟨_, rfl, kt (by rw [decide_eq_true c1, decide_eq_true c2]; rfl) _ fun _ _ e => e⟩
            · rw [decide_eq_false (fun z => c2 ((m2 s).mp z))]
              exact if_no Bool.false_ne_true (kf (by rw [decide_eq_false c2, Bool.and_false]) _ fun _ _ e => e)
          · rw [decide_eq_false (fun z => c1 ((m1 o).mp z))]
            exact if_no Bool.false_ne_true (if_no Bool.false_ne_true (kf (by rw [decide_eq_false c1, Bool.false_and]) _ fun _ _ e => e))
        · rw [← comp_ns (ns := G.ns) (rs := rowsOf G xs) s]
          have cself := comp_self R hs
          have s7 := same_new (o := .tup ((compOf G.ns (rowsOf G xs) s).map V.str)) hp6
          have e7 : (upd H6 p6 (.tup ((compOf G.ns (rowsOf G xs) s).map V.str))) p6 = some (.tup ((compOf G.ns (rowsOf G xs) s).map V.str)) := upd_same
          have T7 : Sim H5 (upd H6 p6 (.tup ((compOf G.ns (rowsOf G xs) s).map V.str))) := (Sim.of s6).trans (Sim.of s7)
          generalize upd H6 p6 (.tup ((compOf G.ns (rowsOf G xs) s).map V.str)) = H7 at s7 e7 T7
          have S7 := S4.trans (T5.trans T7)
          have sm7 := sm.trans (T5.trans T7)
          have eL7 := sm7.st _ _ (nt_lst _) eL2
          have lk7 : LinksAt K H7 us (lnk G xs) := Paired.mapP lk2 fun _ _ ⟨t, e, q⟩ => ⟨t, e, sqT_sim sm7 q⟩
          have eF7 := (T5.trans T7).st _ _ (nt_lst _) eF
          have cw7 : CompsAt K H7 ws (comps G.ns (rowsOf G xs) (G.ns.take i)) := Paired.mapP cw fun _ _ ⟨q, e, t⟩ => ⟨q, e, sqT_sim (T5.trans T7) t⟩
          refine ⟨_, rfl, LK, rfl, ⟨_, .inl (.inl eL7)⟩, fun D2 hD2 => ?_⟩
          refine lc_list (xs := us) (fun j H8 => Same H7 H8 ∧ H8 D2 = some (.lst ((((lnk G xs).take j).map fun l => decide (l.1 ∈ compOf G.ns (rowsOf G xs) s ∧ l.2 ∈ compOf G.ns (rowsOf G xs) s)).map V.bl))) ⟨same_new hD2, upd_same⟩ (fun j H8 _ p => .inl (.inl (p.1 _ _ eL7))) (fun j z8 H8 hz8 p => ?_) fun H8 p => ?_
          · obtain ⟨s8, e8⟩ := p
            obtain ⟨l, t8, hl, rfl, ht8⟩ := linksAt_at (links_same s8 lk7) hz8
            have tk : (lnk G xs).take (j + 1) = (lnk G xs).take j ++ [l] := by rw [List.take_add_one, hl]; rfl
            have hp8 : SqT K H8 p6 ((compOf G.ns (rowsOf G xs) s).map V.str) := .inl (.inl (s8 _ _ e7))
            have done : ∀ b, b = decide (l.1 ∈ compOf G.ns (rowsOf G xs) s ∧ l.2 ∈ compOf G.ns (rowsOf G xs) s) → ∃ acc, H8 D2 = some (.lst acc) ∧ acc.length < sizeLine ∧ Same H7 (upd H8 D2 (.lst (acc ++ [V.bl b]))) ∧ (upd H8 D2 (.lst (acc ++ [V.bl b]))) D2 = some (.lst ((((lnk G xs).take (j + 1)).map fun l => decide (l.1 ∈ compOf G.ns (rowsOf G xs) s ∧ l.2 ∈ compOf G.ns (rowsOf G xs) s)).map V.bl)) := fun b eb => by
              refine ⟨_, e8, ?_, same_upd' s8 hD2, ?_⟩
              · rw [List.length_map, List.length_map, List.length_take, sizeLine_eq]
                omega
              · rw [upd_same, tk, List.map_append, List.map_append, eb]
                rfl
            refine ⟨t8, _, rfl, ht8, rfl, _, _, rfl, _, _, rfl, rfl, rfl, yes_if ⟨_, rfl, _, rfl, p6, _, rfl, .inr hp8, rfl, flat_strs _, ?_⟩⟩
            rw [if_neg (by decide), in_strs_iff]
            refine ⟨_, rfl, ?_⟩
            by_cases c1 : l.1 ∈ compOf G.ns (rowsOf G xs) s
            · refine if_yes (decide_eq_true c1) ⟨_, rfl, _, rfl, p6, _, rfl, .inr hp8, rfl, flat_strs _, ?_⟩
              rw [if_neg (by decide), in_strs_iff]
              exact done _ (by simp [c1])
            · refine if_no (by rw [decide_eq_false c1]; decide) (done _ (by simp [c1]))
          · obtain ⟨s8, e8⟩ := p
            rw [ul, List.take_length] at e8
            refine ⟨D2, _, rfl, .inl (.inl e8), ?_⟩
            rw [inside_lnk nd hx]
            obtain ⟨hd0, tl, eh⟩ : ∃ x l, compOf G.ns (rowsOf G xs) s = x :: l := by
              cases e : compOf G.ns (rowsOf G xs) s with
              | nil => rw [e] at cself; cases cself
              | cons x l => exact ⟨x, l, rfl⟩
            have hp8 : SqT K H8 p6 ((compOf G.ns (rowsOf G xs) s).map V.str) := .inl (.inl (s8 _ _ e7))
            have isf : isFirst G.ns (rowsOf G xs) s = (decide (hd0 = s) && insideP (rowsOf G xs) (compOf G.ns (rowsOf G xs) s)) := by
              unfold isFirst
              rw [eh]
              show (decide (some hd0 = some s) && _) = _
              rw [decide_eq_decide.mpr ⟨Option.some.inj, congrArg some⟩]
            have sm8 := sm7.trans (Sim.of s8)
            have cw8 : CompsAt K H8 ws (comps G.ns (rowsOf G xs) (G.ns.take i)) := compsAt_same s8 cw7
            have at0 : atI ((compOf G.ns (rowsOf G xs) s).map V.str) ((0 : Nat) : Int) = some (.str hd0) := atI_nat (by rw [eh]; rfl)
            refine ⟨_, rfl, p6, _, 0, .str hd0, rfl, rfl, hp8, at0, _, rfl, rfl, _, rfl, ?_⟩
            rw [dec_str]
            by_cases c1 : hd0 = s
            · refine if_yes (decide_eq_true c1) ⟨_, rfl, _, rfl, ?_⟩
              cases c2 : insideP (rowsOf G xs) (compOf G.ns (rowsOf G xs) s) with
              | true =>
                have cl : (comps G.ns (rowsOf G xs) (G.ns.take i)).length ≤ 8 := by
                  have h1 := comps_len (ns := G.ns) (rs := rowsOf G xs) (xs := G.ns.take i)
                  rw [List.length_take] at h1
                  omega
                refine if_yes rfl ⟨_, rfl, .inl ⟨rfl, _, .inl (.inl (s8 _ _ eF7))⟩, _, rfl, FL, _, _, rfl, rfl, s8 _ _ eF7, by rw [cw8.length, sizeLine_eq]; omega, ?_⟩
                have sF8 : SimX FL H8 (upd H8 FL (.lst (ws ++ [.ref p6]))) := simX_upd
                refine ⟨_, _, _, ws ++ [.ref p6], rfl, sim_updF (Sim.refl _) hFL sm8, upd_same, ?_⟩
                rw [comps_snoc en, isf, decide_eq_true c1, c2, if_pos (by rfl)]
                refine Paired.snoc (Paired.mapP cw8 fun _ _ ⟨q, e, t⟩ => ⟨q, e, sqT_simX sF8 (s8 _ _ eF7) (fun _ e => by cases e) (fun _ _ e => by cases e) t⟩) ⟨p6, rfl, sqT_simX sF8 (s8 _ _ eF7) (fun _ e => by cases e) (fun _ _ e => by cases e) hp8⟩
              | false =>
                refine if_no Bool.false_ne_true ⟨_, _, _, ws, rfl, sm8, s8 _ _ eF7, ?_⟩
                rw [comps_snoc en, isf, c2, Bool.and_false, if_neg Bool.false_ne_true, List.append_nil]
                exact cw8
            · refine if_no (by simpa using c1) (if_no Bool.false_ne_true ⟨_, _, _, ws, rfl, sm8, s8 _ _ eF7, ?_⟩)
              rw [comps_snoc en, isf, decide_eq_false c1, Bool.false_and, if_neg Bool.false_ne_true, List.append_nil]
              exact cw8
    · obtain ⟨y5, y7, y8, ws, rfl, sm, eF, cw⟩ := p
      rw [List.length_map, List.take_length] at cw
      refine ⟨_, rfl, FL, _, rfl, .inl ⟨.inl (.inl eF), fun l hl => ?_⟩⟩
      exact fin l ws _ ((S2.trans sm).trans (Sim.of (same_new hl))) (.inl (.inl upd_same)) (compsAt_same (same_new hl) cw)
end
end Qp

/-! the law's check of components and of returning -/
namespace Qp
open PySem PySem.Spec PyProof.Rows L2 QN
open PySem.W PySem.SeqAt
theorem nice_comps : ∀ {cs : List (List Str)}, (∀ c ∈ cs, (∀ x ∈ c, NameOk x) ∧ c.length ≤ 8) → PyData.leavesShortAll 13 (cs.map compD) = true ∧ PyData.showableAll (cs.map compD) = true ∧ PyData.hasDictAll (cs.map compD) = false ∧ PyData.weightAll (cs.map compD) ≤ 80 * cs.length ∧ PyData.depthAll (cs.map compD) ≤ 1
  | [], _ => ⟨rfl, rfl, rfl, Nat.le_refl _, Nat.zero_le _⟩
  | c :: cs, h => by
    obtain ⟨a, b, e, d, f⟩ := nice_comps fun q hq => h q (List.mem_cons_of_mem _ hq)
    obtain ⟨hc, hl⟩ := h c List.mem_cons_self
    obtain ⟨a1, b1, e1, d1⟩ := nice_names hc
    refine ⟨?_, ?_, ?_, ?_, ?_⟩
    · show (PyData.leavesShortAll 13 (c.map PyData.str) && PyData.leavesShortAll 13 (cs.map compD)) = true
      rw [a1, a]
      rfl
    · show (PyData.showableAll (c.map PyData.str) && PyData.showableAll (cs.map compD)) = true
      rw [b1, b]
      rfl
    · show (PyData.hasDictAll (c.map PyData.str) || PyData.hasDictAll (cs.map compD)) = false
      rw [e1, e]
      rfl
    · show PyData.weightAll (c.map PyData.str) + 1 + PyData.weightAll (cs.map compD) ≤ 80 * (cs.length + 1)
      omega
    · show max (PyData.depthAll (c.map PyData.str) + 1) (PyData.depthAll (cs.map compD)) ≤ 1
      rw [depth_strs]
      omega
theorem shows_comps {K : PySem.W.Frag} {H : Hp} {p : Addr} {ws : List V} {cs : List (List Str)} (h : ∀ c ∈ cs, (∀ x ∈ c, NameOk x) ∧ c.length ≤ 8) (few : cs.length ≤ 8) (hp : SqT K H p ws) (hc : CompsAt K H ws cs) : Shown K H (.ref p) (PyData.tuple (cs.map compD)).shown := by
  obtain ⟨a, b, e, d, f⟩ := nice_comps h
  refine .dat (.tup hp (compsAt_dp hc)) b e ?_ (PyData.shown_fits (B := 13) (by decide) (by decide) a ?_)
  · show PyData.depthAll (cs.map compD) + 1 + 1 ≤ 64
    omega
  · show PyData.weightAll (cs.map compD) ≤ 2 ^ 20
    have e : (2 : Nat) ^ 20 = 1048576 := by decide
    omega
theorem comps_nice {G : Gr} (ok : G.Ok) (rs : List Row) (xs : List Str) (hx : ∀ s ∈ xs, s ∈ G.ns) : ∀ c ∈ comps G.ns rs xs, (∀ x ∈ c, NameOk x) ∧ c.length ≤ 8 := fun c hc => by
  obtain ⟨s, hs, rfl⟩ := List.mem_map.mp hc
  refine ⟨fun x hx => ok.nn x (comp_in hx), ?_⟩
  have h1 : (compOf G.ns rs s).length ≤ (rch G.ns rs s).length := List.length_filter_le _ _
  have h2 : (rch G.ns rs s).length ≤ G.ns.length := List.length_filter_le _ _
  have := ok.nl
  omega
theorem lay_ones {α : Type} : ∀ cs : List α, PyData.canLayAll0 (cs.map fun _ => PyData.int 1) = true ∧ PyData.depthAll (cs.map fun _ => PyData.int 1) = 0
  | [] => ⟨rfl, rfl⟩
  | c :: cs => by
    obtain ⟨a, b⟩ := lay_ones cs
    refine ⟨?_, ?_⟩
    · show (PyData.canLay0 (.int 1) && PyData.canLayAll0 (cs.map fun _ => PyData.int 1)) = true
      rw [a]
      rfl
    · show max (PyData.depth (.int 1)) (PyData.depthAll (cs.map fun _ => PyData.int 1)) = 0
      rw [b]
      rfl
theorem lay_names : ∀ {xs : List Str}, (∀ x ∈ xs, NameOk x) → PyData.canLayAll0 (xs.map PyData.str) = true := fun {xs} h => by
  have := (shaped_comps (cs := [xs]) fun c hc x hx => h x (by rw [List.mem_singleton.mp hc] at hx; exact hx)).1
  have e : PyData.canLayAll0 ([xs].map compD) = (PyData.canLayAll0 (xs.map PyData.str) && true) := rfl
  rw [e, Bool.and_true] at this
  exact this
theorem ones_dp {K : PySem.W.Frag} {H : Hp} {α : Type} : ∀ cs : List α, DpAll K H (cs.map fun _ => V.int 1) (cs.map fun _ => PyData.int 1)
  | [] => .nil
  | _ :: cs => .cons (.int 1) (ones_dp cs)
theorem eqv_nilL (ds : List PyData) : PyData.eqv (.list ds) (.list []) = ds.isEmpty := by
  cases ds <;> simp [PyData.eqv, PyData.eqvAll]
section
variable {P : Program} {w : World} {K : PySem.W.Frag} {mg : Str → Option Value} {base : Heap}
theorem ok_lparts {f fS fM fL fC fR C PC : Addr} {fd fdS fdM fdL fdC fdR : FuncData} (F : Fun K "_law_parts_right" "_law_parts_right" sLParts f fd)
    (GS : FnOk P w K mg base CX0 3 fS fdS ["_law_dice_here", "_law_items"] (spSome K)) (kS : PySem.W.keepIn K (.ref fS) = true) (bS : L2.Binds K fdS ["_law_dice_here", "_law_items"] []) (gS : mg "_law_some" = some (.ref fS))
    (GM : FnOk P w K mg base CX0 2 fM fdM ["_law_dice_here", "_law_items"] (spMixed K)) (kM : PySem.W.keepIn K (.ref fM) = true) (bM : L2.Binds K fdM ["_law_dice_here", "_law_items"] []) (gM : mg "_law_mixed" = some (.ref fM))
    (GL : FnOk P w K mg base CX0 2 fL fdL ["_law_plain", "_law_names"] (spLCo K)) (kL : PySem.W.keepIn K (.ref fL) = true) (bL : L2.Binds K fdL ["_law_plain", "_law_names"] []) (gL : mg "_law_components" = some (.ref fL))
    (GC : FnOk P w K mg base CX0 5 fC fdC ["graph", "names"] (spComps K C PC)) (kC : PySem.W.keepIn K (.ref fC) = true) (bC : L2.Binds K fdC ["graph", "names"] []) (gC : mg "components" = some (.ref fC))
    (GR : FnOk P w K mg base CX0 6 fR fdR ["graph", "names"] (spIsRet K C PC)) (kR : PySem.W.keepIn K (.ref fR) = true) (bR : L2.Binds K fdR ["graph", "names"] []) (gR : mg "is_returning" = some (.ref fR))
    (B : BltP mg) (B2 : Blt2 mg) (rp : mg "repr" = none) (so : mg "sorted" = none) : FnG P w K mg base 7 f fd ["_law_dice_here", "_law_thing", "_law_plain"] (spLParts K C PC) := by
  refine Fun_okC F scLParts (fun vs H Q E h => ?_) (fun cdv A outer s H vs Q E hcd hr hng h => ?_)
  · obtain ⟨p, g, pl, a, b, v, x, y, z, us, G, rfl, _⟩ := h
    rfl
  · obtain ⟨p, g, pl, a, b, v, x, y, z, us, G, rfl, hp, hg, pg, L, tc, fin⟩ := h
    have hng' : NoRepr (A.deeper (envOfC "_law_parts_right" (defScope sLParts) s.heap.objs.size f cdv)) := noRepr_deeper hng
    have hu80 : (A.deeper (envOfC "_law_parts_right" (defScope sLParts) s.heap.objs.size f cdv)).units + 80 < cLine := by
      have := hr.un
      omega
    have hu64 : (A.deeper (envOfC "_law_parts_right" (defScope sLParts) s.heap.objs.size f cdv)).units + 64 < cLine := by omega
    have r5 := hr.mono (by decide : 5 ≤ 6)
    have r3 := hr.mono (by decide : 3 ≤ 6)
    have r2 := hr.mono (by decide : 2 ≤ 6)
    refine ⟨_, pss_cons (ps_set (i := 3) scLParts.nd rfl (.inl rfl) (pe_call GS r3 (by rfl) gS kS bS .nil pass0 (pa_cons (pv 0) (pa_cons (pe_lc (own := [("_law_row", 7)]) (g := gName 7) (tt := tYes) (te := tOp (rIxT K) (tVar 7) (tC (.int 0))) rfl scLParts.nd (pi_tup (pe_ix (r := rIxT K) ix_tup (pv 2) pe_int (fun _ _ => rfl))) (blkOk_by (N := lpartsN) (sc := defScope sLParts) (by decide +kernel))
        (fun _ _ _ _ _ => pg_name (i := 7) scLParts.nd rfl (.inl rfl)) (fun _ _ _ _ _ => pts_nil) (fun _ _ _ _ _ => pe_ix ix_tup (pv 7) pe_int (fun _ _ => rfl))) pa_nil))))
      (pss_cons (ps_set (i := 4) scLParts.nd rfl (.inl rfl) (pe_callTy call_tuple_of (by rfl) B.tuple (by decide +kernel) (pa_cons (pe_call GM r2 (by rfl) gM kM bM .nil pass0 (pa_cons (pv 0) (pa_cons (pe_op op_cat (pv 3) (pe_slice sl_list (pv 3) po_none (po_some pe_int))) pa_nil))) pa_nil)))
      (pss_cons (ps_set (i := 5) scLParts.nd rfl (.inr rfl) (pe_call GL r2 (by rfl) gL kL bL .nil pass0 (pa_cons (pv 2) (pa_cons (pv 3) pa_nil))))
      (pss_cons (ps_set (i := 6) scLParts.nd rfl (.inr rfl) (pe_lc (own := [("_law_row", 7)]) (g := gName 7) (tt := tTest (tOp (rNeD K) (tLc (iTup K (tVar 5)) (gName 8) (tAnd (tTest (tOp (rIn K false) (tOp (rIxT K) (tVar 7) (tC (.int 1))) (tVar 8))) (tTest (tOp (rIn K false) (tOp (rIxT K) (tVar 7) (tC (.int 2))) (tVar 8)))) (tC (.int 1)) [8]) (tLst tNil))) (te := tOp (rIxT K) (tVar 7) (tC (.int 0))) rfl scLParts.nd (pi_tup (pe_ix (r := rIxT K) ix_tup (pv 2) pe_int (fun _ _ => rfl))) (blkOk_by (N := lpartsN) (sc := defScope sLParts) (by decide +kernel))
        (fun _ _ _ _ _ => pg_name (i := 7) scLParts.nd rfl (.inr rfl)) (fun _ _ _ _ _ => pts_one (pt_cmpR (op_neD hu64) (pe_lc (own := [("_law_piece", 8)]) (g := gName 8) (tt := tAnd (tTest (tOp (rIn K false) (tOp (rIxT K) (tVar 7) (tC (.int 1))) (tVar 8))) (tTest (tOp (rIn K false) (tOp (rIxT K) (tVar 7) (tC (.int 2))) (tVar 8)))) (te := tC (.int 1)) rfl scLParts.nd (pi_tup (pv 5)) (blkOk_by (N := lpartsN) (sc := { kind := .function, names := [(".0", .local), ("_law_row", .cell), ("_law_due", .cell)], isGenerator := false, isCoroutine := false }) (by decide +kernel))
          (fun _ _ _ _ _ => pg_name (i := 8) scLParts.nd rfl (.inl rfl)) (fun _ _ _ _ _ => pts_one (PW.pt (pw_and (pt_cmpR op_in_seq (pe_ix ix_tup (pv 7) pe_int (fun _ _ => rfl)) (pv 8) (by rfl)) (pw_and1 (pt_cmpR op_in_seq (pe_ix ix_tup (pv 7) pe_int (fun _ _ => rfl)) (pv 8) (by rfl)))))) (fun _ _ _ _ _ => pe_int)) (pe_lst pa_nil) (nomark _))) (fun _ _ _ _ _ => pe_ix ix_tup (pv 7) pe_int (fun _ _ => rfl))))
      (pss_cons (ps_if (PW.pt (pw_or (pt_cmpR op_ne (pe_callB (call_reprV hng' hu80) (by rfl) rp (by decide +kernel) (pa_cons (pe_call GC r5 (by rfl) gC kC bC .nil pass0 (pa_cons (pv 1) (pa_cons (pv 4) pa_nil))) pa_nil)) (pe_callB (call_reprV hng' hu80) (by rfl) rp (by decide +kernel) (pa_cons (pv 5) pa_nil)) (nomark _))
        (pw_or1 (pt_cmpR op_ne (pe_callB (call_reprV hng' hu80) (by rfl) rp (by decide +kernel) (pa_cons (pe_call GC r5 (by rfl) gC kC bC .nil pass0 (pa_cons (pv 1) (pa_cons (pe_callTy call_tuple_of (by rfl) B.tuple (by decide +kernel) (pa_cons (pe_callB (r := rSortedDt K) (cr_sortedDt hu64) (by rfl) so (by decide +kernel) (pa_cons (pv 3) pa_nil)) pa_nil)) pa_nil))) pa_nil)) (pe_callB (call_reprV hng' hu80) (by rfl) rp (by decide +kernel) (pa_cons (pv 5) pa_nil)) (nomark _))))) (pss_one (ps_ret pe_bl)) pss_nil)
      (pss_one (ps_ret (pe_cmpR op_eq (pe_callB (call_reprV hng' hu80) (by rfl) rp (by decide +kernel) (pa_cons (pe_call GR hr (by rfl) gR kR bR .nil pass0 (pa_cons (pv 1) (pa_cons (pv 4) pa_nil))) pa_nil)) (pe_callB (call_reprV hng' hu80) (by rfl) rp (by decide +kernel) (pa_cons (pe_cmpR (op_eqD hu64) (pe_lc (own := [("_law_name", 9)]) (g := gName 9) (tt := tTest (tOp (rIn K true) (tVar 9) (tVar 6))) (te := tVar 9) rfl scLParts.nd (pi_list (pv 3)) (blkOk_by (N := lpartsN) (sc := defScope sLParts) (by decide +kernel))
        (fun _ _ _ _ _ => pg_name (i := 9) scLParts.nd rfl (.inl rfl)) (fun _ _ _ _ _ => pts_one (pt_cmpR op_notIn_seq (pv 9) (pv 6) (by rfl))) (fun _ _ _ _ _ => pv 9)) (pe_lst pa_nil) (nomark _)) pa_nil)) (nomark _)))))))), ?_⟩
    have ok := L.ok
    have rl := ok.rl
    have nl := ok.nl
    have ends := L.made.ends
    have RI : RowsIn G.ns G.rs := ⟨fun r hr => (ends r hr).1, fun r hr => (ends r hr).2, nl⟩
    have nd : (G.rs.map (·.n)).Nodup := nodup_lts ok.ra
    have ul : us.length = G.rs.length := pg.hu.length
    -- the names
    refine ⟨_, rfl, _, rfl, pl, _, 2, .ref v, rfl, rfl, pg.hp, rfl, v, rfl, ⟨_, pg.hv⟩, fun D hD => ?_⟩
    refine lc_valsT (ys := (G.rs.map (·.n)).map V.str) hD pg.hv (by rw [ul, sizeLine_eq]; omega) (by rw [List.length_map, List.length_map, ul]) (fun _ => rfl) (fun i x0 H' R hx sm k => ?_) fun H1 s1 eD => ?_
    · obtain ⟨r, hr0, a0, c0, xs0, rfl, h1, h2, h3⟩ := rows_at (plAll_sim (Sim.of sm) pg.hu) hx
      exact ⟨_, rfl, a0, _, 0, .str r.n, rfl, rfl, h1, rfl, k _ (by rw [List.getElem?_map, List.getElem?_map, hr0]; rfl)⟩
    refine ⟨p, D, x, y, z, _, rfl, s1 _ _ hp, .inl (.inl (.inl eD)), by rw [List.length_map, List.length_map]; omega, noint_strs _, fun r1 ys m x1 y1 z1 H2 pm er hp2 nrp b2 => ?_⟩
    obtain ⟨xs, exs, hxs, ndx⟩ := some_texts (m := m) pm nd
    rw [exs] at er
    have bt2 : But p H H2 := but_same s1 b2
    clear exs pm hD eD s1 b2 ys
    have xl : xs.length ≤ 16 := by
      have := List.Nodup.length_le_of_subset ndx hxs
      rw [List.length_map] at this
      omega
    -- in another order, some twice
    refine ⟨_, rfl, _, rfl, _, rfl, 2, rfl, r1, _, rfl, .inl (.inl er), fun c hc => ?_⟩
    have ec : (upd H2 c (.lst (cutV (xs.map V.str) none (some 2)))) c = some (.lst ((xs.take 2).map V.str)) := by
      rw [upd_same]
      exact congrArg (fun l => some (HO.lst l)) (cut_to xs 2 V.str)
    have sc := same_new (o := .lst (cutV (xs.map V.str) none (some 2))) hc
    generalize upd H2 c (.lst (cutV (xs.map V.str) none (some 2))) = H3 at ec sc
    refine ⟨r1, c, _, _, rfl, rfl, sc _ _ er, ec, by rw [List.length_map, List.length_map, List.length_take, sizeLine_eq]; omega, fun q hq => ?_⟩
    have sq := same_new (o := .lst (xs.map V.str ++ (xs.take 2).map V.str)) hq
    have eq : (upd H3 q (.lst (xs.map V.str ++ (xs.take 2).map V.str))) q = some (.lst ((xs ++ xs.take 2).map V.str)) := by rw [upd_same, List.map_append]
    have bt4 : But p H (upd H3 q (.lst (xs.map V.str ++ (xs.take 2).map V.str))) := but_trans bt2 (same_but (sc.trans sq))
    have hp4 := sq _ _ (sc _ _ hp2)
    have er4 := sq _ _ (sc _ _ er)
    generalize upd H3 q (.lst (xs.map V.str ++ (xs.take 2).map V.str)) = H4 at sq eq bt4 hp4 er4
    refine ⟨p, q, x1, y1, z1, _, rfl, hp4, .inl (.inl (.inl eq)), by rw [List.length_map, List.length_append, List.length_take]; omega, fun r2 ys x2 y2 z2 H5 pm er2 hp5 b5 => ?_⟩
    obtain ⟨qs, rfl, pmq⟩ := perm_strs pm
    refine ⟨r2, _, rfl, .inl ⟨.inl (.inl er2), fun l hl => ?_⟩⟩
    have sl := same_new (o := .tup (qs.map V.str)) hl
    have el : SqT K (upd H5 l (.tup (qs.map V.str))) l (qs.map V.str) := .inl (.inl upd_same)
    have bt6 : But p H (upd H5 l (.tup (qs.map V.str))) := but_trans bt4 (but_trans b5 (same_but sl))
    have hp6 := sl _ _ hp5
    have er6 := sl _ _ (b5 _ _ nrp er4)
    have qset : ∀ n, n ∈ qs ↔ n ∈ xs := fun n => by
      rw [pmq.mem_iff, List.mem_append]
      exact ⟨fun h => by rcases h with h | h; exact h; exact List.mem_of_mem_take h, .inl⟩
    have ql : qs.length ≤ 18 := by
      rw [pmq.length_eq, List.length_append, List.length_take]
      omega
    have hqs : ∀ n ∈ qs, n ∈ G.rs.map (·.n) := fun n hn => hxs n ((qset n).mp hn)
    generalize upd H5 l (.tup (qs.map V.str)) = H6 at el bt6 hp6 er6
    clear sl hl er2 hp5 b5 pm pmq er4 hp4 bt4 eq sq hq sc ec hc er hp2 bt2
    have SX6 : SimX p H H6 := SimX.but bt6
    have pg6 := pg.simL SX6 hp
    have hg6 := graphAt_simL SX6 hp hg
    have tc6 : GxR.TabG H6 PC := SX6.tb _ (tabG_ne hp tc) tc
    -- what is due
    refine ⟨_, rfl, _, rfl, pl, a, b, v, r1, us, G, xs, rfl, pg6, .inl (.inl er6), ok, RI, fun du ws H7 s7 hdu cws => ?_⟩
    have cl : (comps G.ns (rowsOf G xs) G.ns).length ≤ 8 := Nat.le_trans comps_len nl
    have wl := cws.length
    have nice := comps_nice ok (rowsOf G xs) G.ns fun s h => h
    have pg7 := pg6.sim (Sim.of s7)
    have ul7 : us.length = G.rs.length := ul
    have z1 : (us.zip G.rs).map (·.1) = us := fst_zip ul
    -- those within
    refine ⟨_, rfl, pl, _, 2, .ref v, rfl, rfl, pg7.hp, rfl, v, rfl, ⟨_, pg7.hv⟩, fun D hD => ?_⟩
    refine lc_anyT (zs := us.zip G.rs) (key := fun z => z.1) (keep := fun z => inOne (comps G.ns (rowsOf G xs) G.ns) z.2) (val := fun z => .str z.2.n) hD (by rw [z1]; exact pg7.hv) (by rw [List.length_zip]; omega) (fun _ => rfl) (fun z hz H' R F sm kt kf => ?_) fun H8 s8 e8 => ?_
    · obtain ⟨ra, rc, rys, eu, h1, h2, h3⟩ := rows_zip (pg7.sim (Sim.of sm)).hu z hz
      have cwz : (ws.zip (comps G.ns (rowsOf G xs) G.ns)).map (·.1) = ws := fst_zip wl
      have cws' := compsAt_same sm cws
      have hdu' := sqT_same sm hdu
      refine ⟨_, rfl, du, rfl, ⟨_, hdu'⟩, fun D2 hD2 => ?_⟩
      refine lc_anyT (zs := ws.zip (comps G.ns (rowsOf G xs) G.ns)) (key := fun q => q.1) (keep := fun q : V × List Str => decide (z.2.s ∈ q.2 ∧ z.2.t ∈ q.2)) (val := fun _ => .int 1) hD2 (by rw [cwz]; exact hdu') (by rw [List.length_zip]; omega) (fun _ => rfl) (fun q hq H2' R2 F2 sm2 kt2 kf2 => ?_) fun H3' s3' e3' => ?_
      · obtain ⟨cq, ecq, hcq⟩ := compsAt_zip (compsAt_same sm2 cws') q hq
        refine ⟨_, rfl, ra, _, 1, .str z.2.s, eu, rfl, sqT_same sm2 h1, rfl, _, rfl, cq, _, ecq, .inr hcq, rfl, flat_strs _, ?_⟩
        rw [if_neg (by decide), in_strs_iff]
        refine ⟨_, rfl, ?_⟩
        by_cases m1 : z.2.s ∈ q.2
        · refine if_yes (by simpa using m1) ⟨_, rfl, ra, _, 2, .str z.2.t, eu, rfl, sqT_same sm2 h1, rfl, _, rfl, cq, _, ecq, .inr hcq, rfl, flat_strs _, ?_⟩
          rw [if_neg (by decide), in_strs_iff]
          refine ⟨_, rfl, ?_⟩
          by_cases m2 : z.2.t ∈ q.2
          · exact if_yes (by simpa using m2) (kt2 (decide_eq_true ⟨m1, m2⟩) _ fun _ _ e => e)
          · exact if_no (by simpa using m2) (kf2 (decide_eq_false fun m => m2 m.2) _ fun _ _ e => e)
        · exact if_no (by simpa using m1) (if_no (by decide) (kf2 (decide_eq_false fun m => m1 m.1) _ fun _ _ e => e))
      · refine ⟨(by show 0 ≤ sizeLine; decide), fun E0 hE0 => ?_⟩
        have sE := same_new (o := .lst []) hE0
        obtain ⟨l1, l2⟩ := lay_ones ((ws.zip (comps G.ns (rowsOf G xs) G.ns)).filter fun q : V × List Str => decide (z.2.s ∈ q.2 ∧ z.2.t ∈ q.2))
        refine ⟨.list (((ws.zip (comps G.ns (rowsOf G xs) G.ns)).filter fun q : V × List Str => decide (z.2.s ∈ q.2 ∧ z.2.t ∈ q.2)).map fun _ => PyData.int 1), .list [], dp_same sE _ _ (.lst (.inl (.inl e3')) (ones_dp _)), .lst (.inl (.inl upd_same)) .nil, shaped_list l1 (by rw [l2]; decide), shaped_list rfl (Nat.zero_le _), ⟨_, rfl, ?_⟩⟩
        rw [eqv_nilL]
        have ek : (!(((ws.zip (comps G.ns (rowsOf G xs) G.ns)).filter fun q : V × List Str => decide (z.2.s ∈ q.2 ∧ z.2.t ∈ q.2)).map fun _ => PyData.int 1).isEmpty) = inOne (comps G.ns (rowsOf G xs) G.ns) z.2 := by
          unfold inOne
          have e : comps G.ns (rowsOf G xs) G.ns = (ws.zip (comps G.ns (rowsOf G xs) G.ns)).map (·.2) := (snd_zip wl).symm
          conv => rhs; rw [e, List.any_map]
          generalize ws.zip (comps G.ns (rowsOf G xs) G.ns) = l
          induction l with
          | nil => rfl
          | cons q l ih =>
            rw [List.any_cons, List.filter_cons]
            by_cases m : z.2.s ∈ q.2 ∧ z.2.t ∈ q.2
            · rw [if_pos (decide_eq_true m)]
              show _ = (decide (z.2.s ∈ q.2 ∧ z.2.t ∈ q.2) || _)
              rw [decide_eq_true m]
              rfl
            · rw [if_neg (by rw [decide_eq_false m]; decide), ih]
              show _ = (decide (z.2.s ∈ q.2 ∧ z.2.t ∈ q.2) || _)
              rw [decide_eq_false m, Bool.false_or]
        rw [ek]
        have s3E : Same H' (upd H3' E0 (.lst [])) := fun b o e => sE _ _ (s3' _ _ e)
        cases ki : inOne (comps G.ns (rowsOf G xs) G.ns) z.2 with
        | true => exact if_yes rfl ⟨_, rfl, ra, _, 0, .str z.2.n, eu, rfl, sqT_same s3E h1, rfl, kt ki _ s3E⟩
        | false => exact if_no Bool.false_ne_true (kf ki _ s3E)
    have ein : ((us.zip G.rs).filter fun z => inOne (comps G.ns (rowsOf G xs) G.ns) z.2).map (fun z => V.str z.2.n) = (inNames G (comps G.ns (rowsOf G xs) G.ns)).map V.str := by
      unfold inNames
      rw [List.map_map]
      exact zip_keep (f := fun r => V.str r.n) ul _
    rw [ein] at e8
    have hg8 := graphAt_sim (Sim.of (fun b o e => s8 _ _ (s7 _ _ e))) hg6
    have S68 : Sim H6 H8 := Sim.of fun b o e => s8 _ _ (s7 _ _ e)
    have el8 := sqT_sim S68 el
    have er8 := S68.st _ _ (nt_lst _) er6
    have hdu8 := sqT_same s8 hdu
    have cws8 := compsAt_same s8 cws
    have tc8 := S68.tb _ tc6
    have ers := rowsOf_set (G := G) qset
    -- told, in the one order and in the other
    refine ⟨_, rfl, _, rfl, g, l, G, qs, rfl, hg8, ok, ends, el8, by omega, hqs, tc8, fun p9 ws9 H9 s9 hp9 cw9 => ?_⟩
    rw [ers] at cw9
    refine ⟨.ref p9, _, rfl, shows_comps nice cl hp9 cw9, _, rfl, .ref du, _, rfl, shows_comps nice cl (sqT_sim s9 hdu8) (Paired.mapP cws8 fun _ _ ⟨q, e, t⟩ => ⟨q, e, sqT_sim s9 t⟩), rfl, _, rfl, if_no (by simp) ?_⟩
    have S9 := S68.trans s9
    refine ⟨_, rfl, _, rfl, ?_⟩
    dsimp only [tNil]
    refine sorted_texts (.inl (.inl (.inl (s9.st _ _ (nt_lst _) er8)))) fun q hq => ⟨q, _, rfl, .inl ⟨.inl (.inl upd_same), fun l2 hl2 => ?_⟩⟩
    have sq := same_new (o := .lst ((sortTx xs).map V.str)) hq
    have sl := same_new (o := .tup ((sortTx xs).map V.str)) hl2
    have el2 : SqT K (upd (upd H9 q (.lst ((sortTx xs).map V.str))) l2 (.tup ((sortTx xs).map V.str))) l2 ((sortTx xs).map V.str) := .inl (.inl upd_same)
    have S10 := S9.trans (Sim.of (fun b o e => sl _ _ (sq _ _ e)))
    have S810 := s9.trans (Sim.of (fun b o e => sl _ _ (sq _ _ e)))
    generalize upd (upd H9 q (.lst ((sortTx xs).map V.str))) l2 (.tup ((sortTx xs).map V.str)) = H10 at el2 S10 S810
    have sset : ∀ n, n ∈ sortTx xs ↔ n ∈ xs := fun n => (sortTx_perm xs).mem_iff
    refine ⟨g, l2, G, sortTx xs, rfl, graphAt_sim S10 hg6, ok, ends, el2, by rw [(sortTx_perm xs).length_eq]; omega, fun n hn => hxs n ((sset n).mp hn), S10.tb _ tc6, fun p11 ws11 H11 s11 hp11 cw11 => ?_⟩
    rw [rowsOf_set (G := G) sset] at cw11
    have S811 := S810.trans s11
    have S11 := S10.trans s11
    refine ⟨.ref p11, _, rfl, shows_comps nice cl hp11 cw11, _, rfl, .ref du, _, rfl, shows_comps nice cl (sqT_sim S811 hdu8) (Paired.mapP cws8 fun _ _ ⟨q, e, t⟩ => ⟨q, e, sqT_sim S811 t⟩), rfl, _, rfl, if_no (by simp) ?_⟩
    refine ⟨_, rfl, _, rfl, g, l, G, qs, rfl, graphAt_sim S11 hg6, ok, ends, sqT_sim S11 el, by omega, hqs, S11.tb _ tc6, fun H12 s12 => ?_⟩
    refine ⟨.bl _, _, rfl, .bl _, ?_⟩
    have S12 := S11.trans s12
    have S812 := S811.trans s12
    have er12 := S12.st _ _ (nt_lst _) er6
    have e12 := S812.st _ _ (nt_lst _) e8
    refine ⟨_, rfl, r1, rfl, ⟨_, .inl (.inl er12)⟩, fun D3 hD3 => ?_⟩
    refine lc_anyL (zs := xs) (key := V.str) (keep := fun n => !decide (n ∈ inNames G (comps G.ns (rowsOf G xs) G.ns))) (val := V.str) hD3 (.inl (.inl er12)) (by omega) (fun _ => rfl) (fun n hn H' R F sm kt kf => ?_) fun H13 s13 e13 => ?_
    · refine ⟨_, rfl, _, rfl, D, _, rfl, .inl (.inl (.inl (sm _ _ e12))), rfl, flat_strs _, ?_⟩
      rw [if_pos rfl, in_strs_iff]
      refine ⟨_, rfl, ?_⟩
      cases m : !decide (n ∈ inNames G (comps G.ns (rowsOf G xs) G.ns)) with
      | true => exact if_yes rfl ⟨_, rfl, kt m _ fun _ _ e => e⟩
      | false => exact if_no Bool.false_ne_true (kf m _ fun _ _ e => e)
    · refine ⟨(by show 0 ≤ sizeLine; decide), fun E0 hE0 => ?_⟩
      have sE := same_new (o := .lst []) hE0
      have xok : ∀ n ∈ xs, NameOk n := fun n hn => by
        obtain ⟨r, hr, rfl⟩ := List.mem_map.mp (hxs n hn)
        exact (ok.ro r hr).n
      refine ⟨.list ((xs.filter fun n => !decide (n ∈ inNames G (comps G.ns (rowsOf G xs) G.ns))).map PyData.str), .list [], dp_same sE _ _ (.lst (.inl (.inl e13)) (strs_dp _)), .lst (.inl (.inl upd_same)) .nil, shaped_list (lay_names fun n hn => xok n (List.mem_filter.mp hn).1) (by rw [depth_strs]; decide), shaped_list rfl (Nat.zero_le _), .bl _, _, rfl, .bl _, rfl, ?_⟩
      rw [eqv_nilL]
      have ea : ((xs.filter fun n => !decide (n ∈ inNames G (comps G.ns (rowsOf G xs) G.ns))).map PyData.str).isEmpty = allIn G qs := by
        rw [allIn_set qset, ← outside_none ok.ra hxs]
        cases xs.filter fun n => !decide (n ∈ inNames G (comps G.ns (rowsOf G xs) G.ns)) with
        | nil => rfl
        | cons n l => rfl
      rw [ea, decide_eq_true rfl]
      refine fin x2 y2 z2 _ ?_ (SX6.trans (SimX.of (S12.trans (Sim.of fun b o e => sE _ _ (s13 _ _ e)))))
      exact sE _ _ (s13 _ _ (S12.st _ _ (nt_lst _) hp6))
end
end Qp

/-! whether the program's components, ways and returning are right, at some dice -/
namespace Qp
open PySem PySem.Spec PyProof.Rows L2 QN
open PySem.W PySem.SeqAt
abbrev sLRight11 : Stmt := top 54 -- _law_right
abbrev lright11N : List Str := ["_law_dice_here", "_law_plain", "_law_thing", "_law_turn", "_law_node", "_law_other"]
theorem scLRight11 : FnScope lright11N ["_law_dice_here"] (defScope sLRight11) := ⟨rfl, rfl, rfl, by decide +kernel, rfl, by decide +kernel, by decide +kernel⟩
def spLRight11 (PI PC PL PE : Addr) : Sp := fun vs H Q _ => ∃ (p : Addr) (x y z : Int), vs = [.ref p] ∧ H p = some (.lst (hand x y z)) ∧ GxR.TabG H PI ∧ GxR.TabG H PC ∧ GxR.TabG H PL ∧ GxR.TabG H PE ∧
  ∀ (x' y' z' : Int) (H' : Hp), H' p = some (.lst (hand x' y' z')) → SimX p H H' → Q (.bl true) H'
theorem dist_fun {G : Gr} (M : Makes G.cs G.ns G.rs G) (nl : G.ns.length ≤ 8) {o : Str} (ho : o ∈ G.ns) : ∃ dd : Str → Nat, DistTo G o dd ∧ ∀ s ∈ G.ns, dd s ≤ 8 := by
  have ex : ∀ s, ∃ k, s ∈ G.ns → k ≤ 8 ∧ IsDist G.rs s o k := fun s => by
    by_cases hs : s ∈ G.ns
    · obtain ⟨k, h1, h2⟩ := dist_ex M nl hs ho
      exact ⟨k, fun _ => ⟨h1, h2⟩⟩
    · exact ⟨0, fun h => absurd h hs⟩
  refine ⟨fun s => Classical.choose (ex s), ⟨fun s hs => (Classical.choose_spec (ex s) hs).2⟩, fun s hs => (Classical.choose_spec (ex s) hs).1⟩
theorem shaped_tup {ds : List PyData} (a : PyData.canLayAll0 ds = true) (b : PyData.depthAll ds ≤ 60) : SeqAt.shaped (.tuple ds) = true := by
  show (PyData.canLayAll0 ds && decide (PyData.depthAll ds + 1 ≤ 64)) = true
  rw [a, decide_eq_true (by omega)]
  rfl
theorem eqv_comps (cs ds : List (List Str)) : PyData.eqv (.tuple (cs.map compD)) (.tuple (ds.map compD)) = decide (cs = ds) := by
  simp only [PyData.eqv]
  exact eqvAll_map eqv_comp cs ds
theorem shows_strs {K : PySem.W.Frag} {H : Hp} {p : Addr} {xs : List Str} (h : ∀ x ∈ xs, NameOk x) (few : xs.length ≤ 100) (hp : SqT K H p (xs.map V.str)) : Shown K H (.ref p) (PyData.tuple (xs.map PyData.str)).shown := by
  obtain ⟨a, b, e, d⟩ := nice_names h
  refine .dat (.tup hp (strs_dp _)) b e ?_ (PyData.shown_fits (B := 13) (by decide) (by decide) a ?_)
  · show PyData.depthAll (xs.map PyData.str) + 1 + 1 ≤ 64
    rw [depth_strs]
    decide
  · show PyData.weightAll (xs.map PyData.str) ≤ 2 ^ 20
    have e : (2 : Nat) ^ 20 = 1048576 := by decide
    omega
theorem gway_names {rs : List Row} {dd : Str → Nat} : ∀ {k : Nat} {s : Str}, ∀ n ∈ gway rs dd k s, n ∈ rs.map (·.n)
  | 0, s, n, h => by cases h
  | k + 1, s, n, h => by
    unfold gway at h
    cases e : rs.find? fun r => decide (r.s = s) && decide (dd r.t < dd s) with
    | none => rw [e] at h; cases h
    | some r =>
      rw [e] at h
      rcases List.mem_cons.mp h with rfl | h
      · exact List.mem_map.mpr ⟨r, List.mem_of_find?_eq_some e, rfl⟩
      · exact gway_names n h
section
variable {P : Program} {w : World} {K : PySem.W.Frag} {mg : Str → Option Value} {base : Heap}
theorem ok_lright11 {f fG fB fP fC fR fW fL fQ nT fN C PI PC PL PE : Addr} {fd fdG fdB fdP fdC fdR fdW fdL fdN : FuncData} (F : Fun K "_law_right" "_law_right" sLRight11 f fd) (T : GraphC K mg C)
    (GG : FnOk P w K mg base CX0 5 fG fdG ["_law_dice_here", "_law_most_states", "_law_most_counters", "_law_more"] (spLGraph K 2 5)) (kG : PySem.W.keepIn K (.ref fG) = true) (bG : L2.Binds K fdG ["_law_dice_here", "_law_most_states", "_law_most_counters", "_law_more"] []) (gG : mg "_law_graph" = some (.ref fG))
    (GB : FnOk P w K mg base CX0 10 fB fdB ["_law_plain"] (spLBuilt K C PI)) (kB : PySem.W.keepIn K (.ref fB) = true) (bB : L2.Binds K fdB ["_law_plain"] []) (gB : mg "_law_built" = some (.ref fB))
    (GP : FnG P w K mg base 7 fP fdP ["_law_dice_here", "_law_thing", "_law_plain"] (spLParts K C PC)) (kP : PySem.W.keepIn K (.ref fP) = true) (bP : L2.Binds K fdP ["_law_dice_here", "_law_thing", "_law_plain"] []) (gP : mg "_law_parts_right" = some (.ref fP))
    (GC : FnOk P w K mg base CX0 5 fC fdC ["graph", "names"] (spComps K C PC)) (kC : PySem.W.keepIn K (.ref fC) = true) (bC : L2.Binds K fdC ["graph", "names"] []) (gC : mg "components" = some (.ref fC))
    (GR : FnOk P w K mg base CX0 6 fR fdR ["graph", "names"] (spIsRet K C PC)) (kR : PySem.W.keepIn K (.ref fR) = true) (bR : L2.Binds K fdR ["graph", "names"] []) (gR : mg "is_returning" = some (.ref fR))
    (GW : FnOk P w K mg base CX0 6 fW fdW ["graph", "state", "other"] (spWay K C PL PE)) (kW : PySem.W.keepIn K (.ref fW) = true) (bW : L2.Binds K fdW ["graph", "state", "other"] []) (gW : mg "way" = some (.ref fW))
    (GL : FnOk P w K mg base CX0 1 fL fdL ["_law_plain", "_law_node", "_law_other", "_law_upto"] (spLWk K)) (kL : PySem.W.keepIn K (.ref fL) = true) (bL : L2.Binds K fdL ["_law_plain", "_law_node", "_law_other", "_law_upto"] []) (gL : mg "_law_walks" = some (.ref fL))
    (PN : PropOf K C "names" nT fN) (GN : FnOk P w K mg base CX0 1 fN fdN ["self"] (spGNames K C)) (bN : L2.Binds K fdN ["self"] [])
    (MQ : OMeth K C "__eq__" fQ) (GQ : FnR P w K mg base CX0 1 fQ (spGEq K C)) (B : BltP mg) (B2 : Blt2 mg) (rp : mg "repr" = none) :
    FnG P w K mg base 11 f fd ["_law_dice_here"] (spLRight11 PI PC PL PE) := by
  refine Fun_okC F scLRight11 (fun vs H Q E h => ?_) (fun cdv A outer s H vs Q E hcd hr hng h => ?_)
  · obtain ⟨p, x, y, z, rfl, _⟩ := h
    rfl
  · obtain ⟨p, x, y, z, rfl, hp, ti, tc, tl, te, fin⟩ := h
    have hng' : NoRepr (A.deeper (envOfC "_law_right" (defScope sLRight11) s.heap.objs.size f cdv)) := noRepr_deeper hng
    have hu80 : (A.deeper (envOfC "_law_right" (defScope sLRight11) s.heap.objs.size f cdv)).units + 80 < cLine := by
      have := hr.un
      omega
    have hu64 : (A.deeper (envOfC "_law_right" (defScope sLRight11) s.heap.objs.size f cdv)).units + 64 < cLine := by omega
    have r6 := hr.mono (by decide : 6 ≤ 10)
    have r7 := hr.mono (by decide : 7 ≤ 10)
    have r5 := hr.mono (by decide : 5 ≤ 10)
    have r2 := hr.mono (by decide : 2 ≤ 10)
    have r1 := hr.mono (by decide : 1 ≤ 10)
    refine ⟨_, pss_cons (ps_set (i := 1) scLRight11.nd rfl (.inl rfl) (pe_call GG r5 (by rfl) gG kG bG .nil pass0 (pa_cons (pv 0) (pa_cons pe_int (pa_cons pe_int (pa_cons pe_int pa_nil))))))
      (pss_cons (ps_set (i := 2) scLRight11.nd rfl (.inl rfl) (pe_call GB hr (by rfl) gB kB bB .nil pass0 (pa_cons (pv 1) pa_nil)))
      (pss_cons (ps_for PassesOwn.never rfl (pi_range1 (by rfl) B2.rg (pa_cons pe_int pa_nil)) (pg_name (i := 3) scLRight11.nd rfl (.inl rfl))
        (pss_one (ps_if (pt_not (pt_val (pe_callG GP hng' r7 (by rfl) gP kP bP (pa_cons (pv 0) (pa_cons (pv 2) (pa_cons (pv 1) pa_nil)))))) (pss_one (ps_ret pe_bl)) pss_nil)))
      (pss_cons (ps_if (PW.pt (pw_or (pt_cmpR (op_neD hu64) (pe_call GC r5 (by rfl) gC kC bC .nil pass0 (pa_cons (pv 2) (pa_cons (pe_prop (pv 2) T.cls PN GN r2 bN .nil pass0 rfl) pa_nil))) (pe_tup (pa_cons (pe_ix (r := rIxT K) ix_tup (pv 1) pe_int (fun _ _ => rfl)) pa_nil)) (nomark _))
        (pw_or1 (pt_cmpR (op_neD hu64) (pe_call GC r5 (by rfl) gC kC bC .nil pass0 (pa_cons (pv 2) (pa_cons (pe_tup pa_nil) pa_nil))) (pe_tup pa_nil) (nomark _))))) (pss_one (ps_ret pe_bl)) pss_nil)
      (pss_cons (ps_for PassesOwn.never rfl (pi_tup (pe_ix (r := rIxT K) ix_tup (pv 1) pe_int (fun _ _ => rfl))) (pg_name (i := 4) scLRight11.nd rfl (.inl rfl))
        (pss_one (ps_for PassesOwn.never rfl (pi_tup (pe_ix (r := rIxT K) ix_tup (pv 1) pe_int (fun _ _ => rfl))) (pg_name (i := 5) scLRight11.nd rfl (.inl rfl))
          (pss_one (ps_if (pt_cmpR op_ne (pe_callB (call_reprV hng' hu80) (by rfl) rp (by decide +kernel) (pa_cons (pe_call GW r6 (by rfl) gW kW bW .nil pass0 (pa_cons (pv 2) (pa_cons (pv 4) (pa_cons (pv 5) pa_nil)))) pa_nil)) (pe_callB (call_reprV hng' hu80) (by rfl) rp (by decide +kernel) (pa_cons (pe_call GL r1 (by rfl) gL kL bL .nil pass0 (pa_cons (pv 1) (pa_cons (pv 4) (pa_cons (pv 5) (pa_cons (pe_callB (r := rLenM K) call_len_seq (by rfl) B.len PySem.boot_len (pa_cons (pe_ix (r := rIxT K) ix_tup (pv 1) pe_int (fun _ _ => rfl)) pa_nil)) pa_nil))))) pa_nil)) (nomark _)) (pss_one (ps_ret pe_bl)) pss_nil)))))
      (pss_one (ps_ret (pe_and (pe_call GR r6 (by rfl) gR kR bR .nil pass0 (pa_cons (pv 2) (pa_cons (pe_prop (pv 2) T.cls PN GN r2 bN .nil pass0 rfl) pa_nil))) (pe_and (pe_call GR r6 (by rfl) gR kR bR .nil pass0 (pa_cons (pv 2) (pa_cons (pe_tup pa_nil) pa_nil))) (pe_one (pe_cmpR (op_eqO MQ GQ r1 pass0) (pv 2) (pe_call GB hr (by rfl) gB kB bB .nil pass0 (pa_cons (pv 1) pa_nil)) (nomark _))))))))))), ?_⟩
    refine ⟨_, rfl, p, x, y, z, rfl, hp, fun pl a b v us G x1 y1 z1 H1 L e1 e2 e3 e4 e5 hp1 b1 => ?_⟩
    have pg : PlainG K H1 pl a b v us G := ⟨e1, e2, e3, e4, e5⟩
    have X1 := SimX.but b1
    have ti1 := X1.tb _ (tabG_ne hp ti) ti
    refine ⟨_, rfl, pl, a, b, v, us, G, rfl, pg, L, ti1, fun g H2 s12 hg2 => ?_⟩
    have pg2 := pg.sim s12
    have hp2 := s12.st _ _ (nt_lst _) hp1
    have ti2 := s12.tb _ ti1
    have tc2 := s12.tb _ (X1.tb _ (tabG_ne hp tc) tc)
    have tl2 := s12.tb _ (X1.tb _ (tabG_ne hp tl) tl)
    have te2 := s12.tb _ (X1.tb _ (tabG_ne hp te) te)
    have X2 := X1.trans (SimX.of s12)
    clear s12 pg hp1 ti1 X1 b1 ti tc tl te e1 e2 e3 e4 e5
    have ok := L.ok
    have rl := ok.rl
    have nl := ok.nl
    have ends := L.made.ends
    have n4 : G.ns.length ≤ 4 := List.Nodup.length_le_of_subset (nodup_lts ok.na) L.nm
    have nok : ∀ n ∈ G.rs.map (·.n), NameOk n := fun n hn => by
      obtain ⟨r, hr, rfl⟩ := List.mem_map.mp hn
      exact (ok.ro r hr).n
    refine ⟨4, rfl, by decide, by decide, ?_⟩
    refine for_range (fun i σ H' => ∃ y3, σ = [some (.ref p), some (.ref pl), some (.ref g), y3, none, none] ∧ SimX p H2 H' ∧ ∃ x y z : Int, H' p = some (.lst (hand x y z))) ⟨none, rfl, SimX.of (Sim.refl _), x1, y1, z1, hp2⟩ ?_ ?_
    · rintro i σ H3 hi ⟨y3, rfl, s3, x3, y3', z3, hp3⟩
      exact ⟨_, rfl, _, rfl, _, rfl, p, g, pl, a, b, v, x3, y3', z3, us, G, rfl, hp3, graphAt_simL s3 hp2 hg2, pg2.simL s3 hp2, L, s3.tb _ (tabG_ne hp2 tc2) tc2, fun x4 y4 z4 H4 hp4 s4 => ⟨true, rfl, if_no (by decide) ⟨_, rfl, s3.trans s4, x4, y4, z4, hp4⟩⟩⟩
    rintro σ H3 ⟨y3, rfl, s3, x3, y3', z3, hp3⟩
    have hg3 := graphAt_simL s3 hp2 hg2
    have pg3 := pg2.simL s3 hp2
    have ti3 := s3.tb _ (tabG_ne hp2 ti2) ti2
    have tc3 := s3.tb _ (tabG_ne hp2 tc2) tc2
    have tl3 := s3.tb _ (tabG_ne hp2 tl2) tl2
    have te3 := s3.tb _ (tabG_ne hp2 te2) te2
    have X3 := X2.trans s3
    clear s3 hg2 pg2 ti2 tc2 tl2 te2 hp2 X2
    obtain ⟨dx, f1, f2, f3, f4, f5, f6, us0, i1, i2⟩ := id hg3
    refine ⟨_, rfl, _, rfl, g, dx, _, rfl, i1, g, G, rfl, hg3, fun n hn => ⟨g, n, G, G.rs.map (·.n), rfl, hg3, ok, ends, hn, by rw [List.length_map]; omega, fun n h => h, tc3, fun p4 ws4 H4 s4 hp4 cw4 => ?_⟩⟩
    rw [comps_all L] at cw4
    have sc1 := shaped_comps (cs := [G.ns]) fun c hc x hx => by rw [List.mem_singleton.mp hc] at hx; exact ok.nn x hx
    refine ⟨_, rfl, pl, _, 1, .ref b, rfl, rfl, (pg3.sim s4).hp, rfl, (by show 1 ≤ sizeLine; decide), fun t ht => ?_⟩
    have st := same_new (o := .tup [.ref b]) ht
    refine ⟨.tuple ([G.ns].map compD), .tuple ([G.ns].map compD), dp_same st _ _ (.tup hp4 (compsAt_dp cw4)), .tup (.inl (.inl upd_same)) (.cons (.tup (sqT_same st (pg3.sim s4).hb) (strs_dp _)) .nil), shaped_tup sc1.1 (by have := sc1.2; omega), shaped_tup sc1.1 (by have := sc1.2; omega), _, rfl, if_no (by rw [eqv_comps]; simp) ?_⟩
    have S5 := s4.trans (Sim.of st)
    generalize upd H4 t (.tup [.ref b]) = H5 at S5
    refine ⟨_, rfl, (by show 0 ≤ sizeLine; decide), fun e he => ?_⟩
    have se := same_new (o := .tup []) he
    have S6 := S5.trans (Sim.of se)
    refine ⟨g, e, G, [], rfl, graphAt_sim S6 hg3, ok, ends, .inl (.inl upd_same), Nat.zero_le _, fun n h => (by cases h), S6.tb _ tc3, fun p7 ws7 H7 s7 hp7 cw7 => ?_⟩
    rw [comps_none] at cw7
    refine ⟨(by show 0 ≤ sizeLine; decide), fun e8 he8 => ?_⟩
    have se8 := same_new (o := .tup []) he8
    refine ⟨.tuple (([] : List (List Str)).map compD), .tuple (([] : List (List Str)).map compD), dp_same se8 _ _ (.tup hp7 (compsAt_dp cw7)), .tup (.inl (.inl upd_same)) .nil, shaped_tup rfl (Nat.zero_le _), shaped_tup rfl (Nat.zero_le _), _, rfl, if_no (by rw [eqv_comps]; simp) ?_⟩
    have S9 := S6.trans (s7.trans (Sim.of se8))
    generalize upd H7 e8 (.tup []) = H9 at S9
    -- the ways
    have pgA : ∀ {H' : Hp}, Sim H3 H' → PlainG K H' pl a b v us G := fun sm => pg3.sim sm
    refine ⟨_, rfl, pl, _, 1, .ref b, rfl, rfl, (pgA S9).hp, rfl, b, rfl, ⟨_, (pgA S9).hb⟩, ?_⟩
    refine for_tup (xs := G.ns.map V.str) (fun i σ H' => ∃ y3 y4 y5, σ = [some (.ref p), some (.ref pl), some (.ref g), y3, y4, y5] ∧ Sim H3 H') ⟨_, _, _, rfl, S9⟩ (fun i σ H' _ q => by obtain ⟨_, _, _, _, sm⟩ := q; exact (pgA sm).hb) (fun i u σ H' hu q => ?_) fun σ H' q => ?_
    · obtain ⟨y3, y4, y5, rfl, sm⟩ := q
      rw [List.getElem?_map] at hu
      cases en : G.ns[i]? with
      | none => rw [en] at hu; cases hu
      | some so =>
        rw [en] at hu
        cases (Option.some.inj hu : V.str so = u)
        have hso := List.mem_of_getElem? en
        refine ⟨_, rfl, pl, _, 1, .ref b, rfl, rfl, (pgA sm).hp, rfl, b, rfl, ⟨_, (pgA sm).hb⟩, ?_⟩
        refine for_tup (xs := G.ns.map V.str) (fun i σ H' => ∃ y3 y5, σ = [some (.ref p), some (.ref pl), some (.ref g), y3, some (.str so), y5] ∧ Sim H3 H') ⟨_, _, rfl, sm⟩ (fun i σ H' _ q => by obtain ⟨_, _, _, sm⟩ := q; exact (pgA sm).hb) (fun i u σ H' hu q => ?_) fun σ H' q => ?_
        · obtain ⟨y3, y5, rfl, sm⟩ := q
          rw [List.getElem?_map] at hu
          cases en2 : G.ns[i]? with
          | none => rw [en2] at hu; cases hu
          | some o =>
            rw [en2] at hu
            cases (Option.some.inj hu : V.str o = u)
            have ho := List.mem_of_getElem? en2
            obtain ⟨dd, DT, d8⟩ := dist_fun L.made nl ho
            have gn : ∀ n ∈ gway G.rs dd (dd so) so, NameOk n := fun n hn => nok n (gway_names n hn)
            have gl : (gway G.rs dd (dd so) so).length ≤ 100 := by
              rw [(gway_is DT ends hso rfl).2]
              have := d8 so hso
              omega
            refine ⟨_, rfl, _, rfl, _, rfl, g, so, o, G, dd, rfl, graphAt_sim sm hg3, ok, ends, hso, ho, DT, d8, sm.tb _ tl3, sm.tb _ te3, fun q1 H10 s10 hq1 => ?_⟩
            have sm1 := sm.trans s10
            refine ⟨.ref q1, _, rfl, shows_strs gn gl hq1, _, rfl, _, rfl, _, rfl, _, rfl, pl, _, 1, .ref b, rfl, rfl, (pgA sm1).hp, rfl, b, _, rfl, .inr (pgA sm1).hb, ?_⟩
            rw [List.length_map]
            refine ⟨pl, a, b, v, us, G, so, o, dd, rfl, pgA sm1, L, n4, hso, ho, DT, fun q2 H11 s11 hq2 => ?_⟩
            exact ⟨.ref q2, _, rfl, shows_strs gn gl hq2, rfl, _, rfl, if_no (by simp) ⟨_, _, rfl, sm1.trans (Sim.of s11)⟩⟩
        · obtain ⟨y3, y5, rfl, sm⟩ := q
          exact ⟨_, _, _, rfl, sm⟩
    · obtain ⟨y3, y4, y5, rfl, sm⟩ := q
      have hgA : ∀ {H' : Hp}, Sim H3 H' → GraphAt K C H' g G := fun sm => graphAt_sim sm hg3
      refine ⟨_, rfl, _, rfl, g, dx, _, rfl, sm.st _ _ (nt_ins _ _ _) i1, g, G, rfl, hgA sm, fun n hn => ⟨g, n, G, G.rs.map (·.n), rfl, hgA sm, ok, ends, hn, by rw [List.length_map]; omega, fun n h => h, sm.tb _ tc3, fun H12 s12 => ⟨_, rfl, ?_⟩⟩⟩
      rw [allIn_all L]
      have sm2 := sm.trans s12
      refine if_yes rfl ⟨_, rfl, (by show 0 ≤ sizeLine; decide), fun e13 he13 => ?_⟩
      have sm3 := sm2.trans (Sim.of (same_new (o := .tup []) he13))
      refine ⟨g, e13, G, [], rfl, hgA sm3, ok, ends, .inl (.inl upd_same), Nat.zero_le _, fun n h => (by cases h), sm3.tb _ tc3, fun H14 s14 => ⟨_, rfl, ?_⟩⟩
      rw [allIn_none]
      have sm4 := sm3.trans s14
      refine if_yes rfl ⟨_, rfl, _, rfl, pl, a, b, v, us, G, rfl, pgA sm4, L, sm4.tb _ ti3, fun g' H15 s15 hg' => ?_⟩
      have sm5 := sm4.trans s15
      exact ⟨g, rfl, oat_graph (hgA sm5), .inr ⟨g', rfl, oat_graph hg'⟩, g, g', G, rfl, hgA sm5, hg', ok, true, rfl, fin x3 y3' z3 H15 (sm5.st _ _ (nt_lst _) hp3) (X3.trans (SimX.of sm5))⟩
end
end Qp

/-! distances to a state, layer by layer: what _distances rests on -/
namespace Qp
open PySem PySem.Spec PyProof.Rows L2 QN
/-- the next layer: a row leads to the last one, and no nearer one holds the state -/
theorem dist_next {rs : List Row} {s o : Str} {k : Nat} : IsDist rs s o (k + 1) ↔ (∃ r ∈ rs, r.s = s ∧ IsDist rs r.t o k) ∧ ∀ j, j ≤ k → ¬ IsDist rs s o j := by
  constructor
  · rintro ⟨h1, h2⟩
    refine ⟨?_, fun j hj h => h2 j (by omega) h.1⟩
    rcases lay_first.mp h1 with h | ⟨r, hr, e, h⟩
    · exact absurd h (h2 k (by omega))
    · exact ⟨r, hr, e, h, fun j hj m => h2 (j + 1) (by omega) (lay_first.mpr (.inr ⟨r, hr, e, m⟩))⟩
  · rintro ⟨⟨r, hr, e, h1, h2⟩, h3⟩
    refine ⟨lay_first.mpr (.inr ⟨r, hr, e, h1⟩), fun j hj m => ?_⟩
    obtain ⟨i, hi, d⟩ := dist_least m
    exact h3 i (by omega) d
/-- where a layer is empty, all further ones are -/
theorem dist_stop {rs : List Row} {o : Str} {k : Nat} (h : ∀ s, ¬ IsDist rs s o k) : ∀ (n : Nat) (s : Str), ¬ IsDist rs s o (k + n)
  | 0, s => h s
  | n + 1, s => fun d => by
    obtain ⟨r, _, _, q⟩ := (dist_next (k := k + n)).mp d |>.1
    exact dist_stop h n r.t q
/-- so the distances found by then are all -/
theorem dist_done {rs : List Row} {o : Str} {k : Nat} (h : ∀ s, ¬ IsDist rs s o (k + 1)) {s : Str} {j : Nat} (d : IsDist rs s o j) : j ≤ k := by
  by_cases c : j ≤ k
  · exact c
  · have e : j = k + 1 + (j - (k + 1)) := by omega
    rw [e] at d
    exact absurd d (dist_stop h _ s)
theorem dist_zero {rs : List Row} {s o : Str} : IsDist rs s o 0 ↔ s = o := by
  constructor
  · rintro ⟨h, _⟩
    exact (List.mem_singleton.mp h).symm
  · rintro rfl
    exact ⟨List.mem_singleton.mpr rfl, fun j hj => by omega⟩
/-- the least of equal numbers -/
theorem least_same {k : Int} : ∀ {xs : List Int}, (∀ x ∈ xs, x = k) → xs ≠ [] → xs.foldl min k = k
  | [], _, h => absurd rfl h
  | [x], h, _ => by
    rw [h x List.mem_cons_self]
    exact Int.min_self k
  | x :: y :: xs, h, _ => by
    have e := h x List.mem_cons_self
    show (y :: xs).foldl min (min k x) = k
    rw [e, Int.min_self]
    exact least_same (fun z hz => h z (List.mem_cons_of_mem _ hz)) (by simp)
end Qp

/-! a set comprehension whose members are texts -/
namespace QN
open PySem PySem.Spec PyProof.Rows L2
section
variable {X : Cx}
/-- D the new set; a turn brings W from one number to the next -/
def tSx (P : Program) (w : World) (src : TI) (bind : TG) (test : TT) (mem : TE) (own : List Nat) : TE := fun σ H Q => src σ H fun J H1 => ∀ D, H1 D = none → ∃ W : Nat → Nat → Hp → Prop, (∃ m, W 0 m (upd H1 D (TxSetO P w D []))) ∧ ∀ i m H2, W i m H2 →
  (J.stop i H2 ∧ Q (.ref D) H2) ∨ (J.go i H2 ∧ ∃ Up : Hp → Prop, (∀ H3, Up H3 → ∃ k, k < m ∧ W (i + 1) k H3) ∧ ∀ x H3, J.yld i H2 x H3 → bind x (wipe σ own) H3 fun τ H4 => wipe τ own = wipe σ own ∧ test τ H4 fun b H5 =>
    if b = true then mem τ H5 fun y H6 => ∃ (c : Str) (l : List Str), y = .str c ∧ H6 D = some (TxSetO P w D l) ∧ l.length + 1 < scanBound ∧ Up (upd H6 D (TxSetO P w D (if c ∈ l then l else l ++ [c]))) else Up H5)
theorem add_txO {pins : List (Addr × Obj)} {σ : L2.St} {H : Hp} {s : Shared} {E : Value → Shared → Prop} {D : Addr} {l : List Str} {c : Str} {tk : Tok} {Q : Value → Shared → Prop} (I : Inv X pins σ H s) (hD : H D = some (TxSetO X.prog X.w D l)) (room : l.length + 1 < scanBound)
    (k : ∀ s2, Inv X pins σ (upd H D (TxSetO X.prog X.w D (if c ∈ l then l else l ++ [c]))) s2 → Q .none s2) : wpAny (model X.prog X.w) X.A (call (.builtin "set.add") [.ref D, .str c tk]) Q E s := by
  have R := txSetO_get I hD
  refine wpAny_call_entry F.slot_set_add R.setOf.typeIs F.entry_set_add ?_ (F.args_set_add_2 _ _)
  unfold Builtin.«set.add» Builtin.Frozenset.oneOther
  simp only [List.isEmpty_nil, bind_assoc]
  unfold Builtin.Frozenset.addrOf setAdd
  refine wpAny_bind (wpAny_pure ?_)
  try dsimp only
  refine wpAny_bind (wpAny_pure ?_)
  try dsimp only
  refine wpAny_bind (wpAny_holding (wpAny_bind ((strKind X.prog X.w).pyHash (strKind_is X.prog X.w c tk) ?_)))
  refine txs_add (s := { s with toks := s.toks + 1 }) R room fun b h2 same new => ?_
  show wpAny _ _ (ret Value.none) _ _ _
  have ⟨o, _, _, _, ho, _⟩ := new
  exact wpAny_pure ⟨_, rfl, k _ (I.write (e := D) (t' := s.toks + 1) (by rw [hD]; trivial) (.inl rfl) (fun b u hb hu => (same.2 b hb).trans hu) ⟨o, ho⟩ (txSetO_new new))⟩
theorem sx_core {pins : List (Addr × Obj)} {s : Shared} {σ : L2.St} {H : Hp} {Q : VK} {el tgt it : Expr} {ifs : List Expr} {sc : Scope} {own : List (Str × Nat)} {p1 p2 : Pos} {src : TI} {bind : TG} {test : TT} {mem : TE} {use : Option (Value → Sem Unit)} {Qf : Value → Shared → Prop}
    (calm : X.calm = true) (dup : X.N.Nodup) (I : Inv X pins σ H s) (hi : PI X tgt it src) (blk : BlkOk X.N X.env.scope sc own)
    (hg : ∀ (s : Shared) (H : Hp) (C : Addr) (cl : List (Str × Addr)) (fp : List Addr), PG (X.blk s H sc (compEnvC sc cl C X.env) fp) tgt bind) (ht : ∀ (s : Shared) (H : Hp) (C : Addr) (cl : List (Str × Addr)) (fp : List Addr), PTs (X.blk s H sc (compEnvC sc cl C X.env) fp) ifs test)
    (he : ∀ (s : Shared) (H : Hp) (C : Addr) (cl : List (Str × Addr)) (fp : List Addr), PE (X.blk s H sc (compEnvC sc cl C X.env) fp) el mem) (hs : ∀ x, foldedSetIterable it X.env x = pure x)
    (h : tSx X.prog X.w src bind test mem (own.map (·.2)) σ H Q)
    (back : ∀ D C s2 m H2, Inv X pins σ H2 s2 → Q (.ref D) H2 → s2.heap.Ns C m → FpOk X pins H2 C → compPost (model X.prog X.w) X.A X.xe use Qf (.ref D) C (.ok .next) s2) :
    wpAny (model X.prog X.w) X.A (comprehension (.SetComp el [⟨tgt, it, ifs, 0⟩] sc p1) sc X.env p2 (newSet (.type "set")) false (eval it X.env) use) Qf X.xe s := by
  have caught : ∀ y ∈ sc.names, y.2 = .free → ∃ c, X.env.cells.lookup y.1 = some c := fun y hy e => by
    rcases blk.free y hy e with k | k
    · exact I.ok.has _ (.inl k)
    · exact I.ok.has _ (.inr k)
  refine wpAny_comprehension_free (use := use) rfl hs (closure_ok caught) blk.kind (fun y hy e => by rw [blk.uniq y hy, e])
    (thn (hi.run pins s σ H _ I h) fun xv sa ha => thn ha fun iv sb hb => ?_)
  obtain ⟨w0, fp, tn, J, H2, e, I2, T, st2, f2, q⟩ := hb
  subst e
  refine PpSet.newSet_ok (newEnv_comp ?_)
  generalize eD : sb.heap.objs.size = D
  have free : H2 D = none := I2.hok.fresh (Nat.le_of_eq eD)
  obtain ⟨W, ⟨m0, begins⟩, turn⟩ := q D free
  generalize es : ({ sb with heap := sb.heap.push { cls := .type "set", dict := none, data := .set #[] 0 (.fresh 0 0 (!X.w.params.followText "set-order")) } } : Shared) = s3
  have I3 : Inv X pins σ (upd H2 D (TxSetO X.prog X.w D [])) s3 := by
    rw [← es]
    refine I2.laid (t' := sb.toks) (fun b o e => Heap.get?_push_of_some _ e) (Nat.le_of_eq eD) ?_
    rw [← eD]
    exact txSetO_new txSet_fresh
  have heap3 : s3.heap = sb.heap.push { cls := .type "set", dict := none, data := .set #[] 0 (.fresh 0 0 (!X.w.params.followText "set-order")) } := by rw [← es]
  have old : ∀ b ∈ fp, b < sb.heap.objs.size := fun b hb => by
    obtain ⟨o, e, _⟩ := T.obj _ _ st2 b hb
    exact Heap.lt_size e
  have f3 : ∀ b ∈ fp, FpOk X pins (upd H2 D (TxSetO X.prog X.w D [])) b ∧ b < s3.heap.objs.size := fun b hb => by
    have lt := old b hb
    refine ⟨⟨?_, (f2 b hb).2⟩, by rw [heap3, Heap.size_push]; exact Nat.lt_succ_of_lt lt⟩
    rw [upd_ne (by rw [← eD]; exact Nat.ne_of_lt lt)]
    exact (f2 b hb).1
  have st3 : tn 0 s3.heap := T.keep _ _ _ st2 fun b _ o e => by rw [heap3]; exact Heap.get?_push_of_some _ e
  have I4 := block_start I3 blk dup f3
  have pg := hg s3 (upd H2 D (TxSetO X.prog X.w D [])) s3.heap.objs.size (cellsFrom (s3.heap.objs.size + 1) sc.names (cloFrom X.env.cells sc.names [])) fp
  have pt := ht s3 (upd H2 D (TxSetO X.prog X.w D [])) s3.heap.objs.size (cellsFrom (s3.heap.objs.size + 1) sc.names (cloFrom X.env.cells sc.names [])) fp
  have pe := he s3 (upd H2 D (TxSetO X.prog X.w D [])) s3.heap.objs.size (cellsFrom (s3.heap.objs.size + 1) sc.names (cloFrom X.env.cells sc.names [])) fp
  show codeAny _ _ (.compStart (.SetComp el [⟨tgt, it, ifs, 0⟩] sc p1) 0 (.ref w0) (.ref D) (compEnvC sc (cellsFrom (s3.heap.objs.size + 1) sc.names (cloFrom X.env.cells sc.names [])) s3.heap.objs.size X.env)) (compPost (model X.prog X.w) X.A X.xe use Qf (.ref D) s3.heap.objs.size) { s3 with heap := pushCells (s3.heap.push { cls := .type "dict", data := .dict #[] }) sc.names }
  have unseen : ∀ b ∈ fp, (upd H2 D (TxSetO X.prog X.w D [])) b = none := fun b hb => (f3 b hb).1.1
  generalize ece : compEnvC sc (cellsFrom (s3.heap.objs.size + 1) sc.names (cloFrom X.env.cells sc.names [])) s3.heap.objs.size X.env = ce at I4 pg pt pe ⊢
  have locs : ce.locals = s3.heap.objs.size := by subst ece; rfl
  generalize eH3 : upd H2 D (TxSetO X.prog X.w D []) = H3 at I3 I4 pg pt pe begins unseen f3
  generalize es4 : ({ s3 with heap := pushCells (s3.heap.push { cls := .type "dict", data := .dict #[] }) sc.names } : Shared) = s4 at I4 ⊢
  have st4 : tn 0 s4.heap := T.keep _ _ _ st3 fun b _ o e => by rw [← es4]; exact pushCells_keeps _ _ _ _ (Heap.get?_push_of_some _ e)
  have kept : ∀ {τ : L2.St} {G : Hp} {u : Shared}, Inv (X.blk s3 H3 sc ce fp) [] τ G u → (∀ b ∈ fp, G b = none) → ∀ b ∈ fp, FpOk (X.blk s3 H3 sc ce fp) [] G b := fun {τ G u} J2 nn b hb =>
    ⟨nn b hb, (J2.ok.exf b hb).1, J2.ok.exfs b hb, .inl hb, fun x c e => (J2.ok.exf b hb).2 x c e, fun p hp => absurd (show p ∈ ([] : List (Addr × Obj)) ++ [] from hp) (by simp)⟩
  have loop : codeAny (model X.prog X.w) X.A (.compLoop (.SetComp el [⟨tgt, it, ifs, 0⟩] sc p1) 0 (.ref w0) (.ref D) ce) (compPost (model X.prog X.w) X.A X.xe use Qf (.ref D) s3.heap.objs.size) s4 := by
    refine PpSet.compLoopS_any (fun n u => ∃ i G, Inv (X.blk s3 H3 sc ce fp) [] (wipe σ (own.map (·.2))) G u ∧ tn i u.heap ∧ (∀ b ∈ fp, G b = none) ∧ W i n G) ?_ m0 ⟨0, H3, I4, st4, unseen, begins⟩
    rintro n s5 ⟨i, H5, I5, st5, n5, w5⟩
    rcases turn i n H5 w5 with ⟨stop, qq⟩ | ⟨go, Up, hUp, step⟩
    · refine thnF (T.done (X.blk s3 H3 sc ce fp) rfl rfl rfl calm i [] s5 _ H5 (fun _ _ => False) I5 (kept I5 n5) st5 stop) fun r s6 ⟨er, I6⟩ => ?_
      subst er
      have I7 : Inv X pins σ H5 s6 := I3.call' (ch := fp) I6.os I6.base I6.hok I6.bare fun b hb => ⟨(f3 b hb).1.2.2.2.1, (f3 b hb).1.2.1, (f3 b hb).1.2.2.2.2.1, (f3 b hb).1.2.2.2.2.2⟩
      have nC : H5 s3.heap.objs.size = none := by
        have z : H5 ce.locals = none := I6.free
        rw [locs] at z
        exact z
      obtain ⟨m, hn, _⟩ := I6.loc
      have hn : s6.heap.Ns ce.locals m := hn
      rw [locs] at hn
      exact back D s3.heap.objs.size s6 m H5 I7 qq hn (I3.fpOk (Nat.le_refl _) nC)
    · refine thnF (T.item (X.blk s3 H3 sc ce fp) rfl rfl rfl calm i [] s5 _ H5 (fun _ _ => False) I5 (kept I5 n5) st5 go) fun r s6 ⟨u, er, h6⟩ => ?_
      subst er
      refine thnF h6 fun _ s7 ⟨x, H7, I7, r7, y7, st7, n7⟩ => ?_
      have pinned := I7.pinned (kept I7 n7) (T.obj _ _ st7)
      refine thnF (pg.run _ s7 _ H7 x u _ pinned r7 (step x H7 y7)) fun _ s8 ⟨τ, H8, I8, hw8, q8⟩ => ?_
      refine thnF (pt.run _ s8 τ H8 _ I8 q8) fun b s9 ⟨H9, I9, q9⟩ => ?_
      have again : ∀ {u : Shared} {G : Hp}, Inv (X.blk s3 H3 sc ce fp) ([] ++ pinsAt fp s7.heap) τ G u → Up G → ∃ m, m < n ∧ ∃ i G, Inv (X.blk s3 H3 sc ce fp) [] (wipe σ (own.map (·.2))) G u ∧ tn i u.heap ∧ (∀ b ∈ fp, G b = none) ∧ W i m G := fun {u G} J2 up => by
        obtain ⟨k, hk, w2⟩ := hUp G up
        have held : ∀ b ∈ fp, ∀ o, s7.heap.get? b = some o → u.heap.get? b = some o ∧ G b = none := fun b hb o e =>
          let z := J2.pin (b, o) (List.mem_append_right _ (List.mem_append_right _ (mem_pinsAt hb e)))
          ⟨z.1, z.2.1⟩
        have hl : (wipe σ (own.map (·.2))).length = τ.length := by rw [← hw8, wipe_length]
        refine ⟨k, hk, i + 1, G, (J2.unpinned (pins := [])).weak hl (fun j v e => ?_), T.keep _ _ _ st7 fun b hb o e => (held b hb o e).1, fun b hb => ?_, w2⟩
        · rw [← hw8] at e
          exact (wipe_some e).1
        · obtain ⟨o, e, _⟩ := T.obj _ _ st7 b hb
          exact (held b hb o e).2
      cases b with
      | false =>
        simp only [Bool.false_eq_true, if_false] at q9 ⊢
        exact again I9 q9
      | true =>
        simp only [if_true] at q9 ⊢
        refine thnF (pe.run _ s9 τ H9 _ I9 q9) fun z s10 ⟨yv, H10, I10, r10, c, l, ey, hD, room, up⟩ => ?_
        subst ey
        obtain ⟨tk, rfl⟩ := (show ∃ t, z = Value.str c t from r10)
        exact add_txO (X := X.blk s3 H3 sc ce fp) I10 hD room fun s11 I11 => again I11 up
  exact PpSet.codeAny_compStart_set loop (T.self X.A 0 _ _ _ st4 loop)
theorem pe_sx {el tgt it : Expr} {ifs : List Expr} {sc : Scope} {own : List (Str × Nat)} {pos : Pos} {src : TI} {bind : TG} {test : TT} {mem : TE} (calm : X.calm = true) (dup : X.N.Nodup) (hi : PI X tgt it src) (blk : BlkOk X.N X.env.scope sc own)
    (hg : ∀ (s : Shared) (H : Hp) (C : Addr) (cl : List (Str × Addr)) (fp : List Addr), PG (X.blk s H sc (compEnvC sc cl C X.env) fp) tgt bind) (ht : ∀ (s : Shared) (H : Hp) (C : Addr) (cl : List (Str × Addr)) (fp : List Addr), PTs (X.blk s H sc (compEnvC sc cl C X.env) fp) ifs test)
    (he : ∀ (s : Shared) (H : Hp) (C : Addr) (cl : List (Str × Addr)) (fp : List Addr), PE (X.blk s H sc (compEnvC sc cl C X.env) fp) el mem) (hs : ∀ x, foldedSetIterable it X.env x = pure x := by intro _; rfl) :
    PE X (.SetComp el [⟨tgt, it, ifs, 0⟩] sc pos) (tSx X.prog X.w src bind test mem (own.map (·.2))) := by
  refine ⟨fun pins s σ H Q I h => ?_⟩
  rw [PpSet.eval_SetComp]
  refine sx_core calm dup I hi blk hg ht he hs h fun D C s2 m H2 J q hn f => ⟨m, hn, fun h3 same => ?_⟩
  obtain ⟨f0, f1, f2, f3, f4, f5⟩ := f
  exact ⟨.ref D, H2, J.turned (t' := s2.toks) (fun b o hb e => (same.2 b hb).trans e) f0 f1 f3 f4 f5, rfl, q⟩
end
/-- the members that a walk of known things gives: each once -/
def gather (l : List Str) (c : Str) : List Str := if c ∈ l then l else l ++ [c]
theorem gather_mem {l : List Str} {c x : Str} : x ∈ gather l c ↔ x ∈ l ∨ x = c := by
  unfold gather
  split
  · exact ⟨.inl, fun h => by rcases h with h | h; exact h; rw [h]; assumption⟩
  · rw [List.mem_append, List.mem_singleton]
theorem gather_len {l : List Str} {c : Str} : (gather l c).length ≤ l.length + 1 := by
  unfold gather
  split
  · exact Nat.le_succ _
  · rw [List.length_append]
    exact Nat.le_refl _
end QN

/-! what stays when a dict changes or is held -/
namespace Qp
open PySem PySem.Spec PyProof.Rows L2 QN
/-- no sequence -/
structure Oth (o : HO) : Prop where
  l : ∀ xs, o ≠ .lst xs
  t : ∀ xs, o ≠ .tup xs
  fl : ∀ b xs, o ≠ .frz b (.lst xs)
  ft : ∀ b xs, o ≠ .frz b (.tup xs)
theorem oth_dK (kvs : List (Key × V)) : Oth (.dK kvs) := ⟨fun _ e => (by cases e), fun _ e => (by cases e), fun _ _ e => (by cases e), fun _ _ e => (by cases e)⟩
theorem oth_frz (ob : Obj) (kvs : List (Key × V)) : Oth (.frz ob (.dK kvs)) := ⟨fun _ e => (by cases e), fun _ e => (by cases e), fun _ _ e => (by cases e), fun _ _ e => (by cases e)⟩
section
variable {K : PySem.W.Frag} {x : Addr} {H H' : Hp} {o : HO}
theorem sqT_simY (s : SimX x H H') (hx : H x = some o) (n : Oth o) {q : Addr} {xs : List V} (h : SqT K H q xs) : SqT K H' q xs := by
  rcases h with (h | ⟨b, h⟩) | h
  · exact .inl (.inl (s.st _ _ (fun z => by rw [z, hx] at h; exact n.t _ (Option.some.inj h)) (nt_tup _) h))
  · exact .inl (.inr ⟨b, s.st _ _ (fun z => by rw [z, hx] at h; exact n.ft _ _ (Option.some.inj h)) (nt_frz _ _) h⟩)
  · exact .inr h
theorem sqL_simY (s : SimX x H H') (hx : H x = some o) (n : Oth o) {q : Addr} {xs : List V} (h : SqL K H q xs) : SqL K H' q xs := by
  rcases h with (h | ⟨b, h⟩) | h
  · exact .inl (.inl (s.st _ _ (fun z => by rw [z, hx] at h; exact n.l _ (Option.some.inj h)) (nt_lst _) h))
  · exact .inl (.inr ⟨b, s.st _ _ (fun z => by rw [z, hx] at h; exact n.fl _ _ (Option.some.inj h)) (nt_frz _ _) h⟩)
  · exact .inr h
theorem plT_simY (s : SimX x H H') (hx : H x = some o) (n : Oth o) {a : Addr} {xs : List V} (h : PlT K H a xs) : PlT K H' a xs := by
  obtain ⟨h1, h2⟩ := h
  refine ⟨sqT_simY s hx n h1, ?_⟩
  rcases h2 with ⟨b, h, d⟩ | h
  · exact .inl ⟨b, s.st _ _ (fun z => by rw [z, hx] at h; exact n.ft _ _ (Option.some.inj h)) (nt_frz _ _) h, d⟩
  · exact .inr h
mutual
theorem dp_simY (s : SimX x H H') (hx : H x = some o) (n : Oth o) : ∀ (d : PyData) (v : V), Dp K H v d → Dp K H' v d
  | .none, _, h => by cases h; exact .non
  | .bool b, _, h => by cases h; exact .bl b
  | .int i, _, h => by cases h; exact .int i
  | .str x, _, h => by cases h; exact .str x
  | .list ds, _, h => by
    cases h with
    | lst a b => exact .lst (sqL_simY s hx n a) (dpAll_simY s hx n ds _ b)
  | .tuple ds, _, h => by
    cases h with
    | tup a b => exact .tup (sqT_simY s hx n a) (dpAll_simY s hx n ds _ b)
  | .dict _, _, h => by cases h
theorem dpAll_simY (s : SimX x H H') (hx : H x = some o) (n : Oth o) : ∀ (ds : List PyData) (vs : List V), DpAll K H vs ds → DpAll K H' vs ds
  | [], _, h => by cases h; exact .nil
  | d :: ds, _, h => by
    cases h with
    | cons a b => exact .cons (dp_simY s hx n d _ a) (dpAll_simY s hx n ds _ b)
end
theorem plRow_simY (s : SimX x H H') (hx : H x = some o) (n : Oth o) {u : V} {r : Row} (h : PlRow K H u r) : PlRow K H' u r := by
  obtain ⟨a, c, xs, rfl, h1, h2, h3⟩ := h
  exact ⟨a, c, xs, rfl, sqT_simY s hx n h1, plT_simY s hx n h2, dpAll_simY s hx n _ _ h3⟩
theorem PlainG.simY (s : SimX x H H') (hx : H x = some o) (n : Oth o) {pl a b v : Addr} {us : List V} {G : Gr} (h : PlainG K H pl a b v us G) : PlainG K H' pl a b v us G :=
  ⟨sqT_simY s hx n h.hp, sqT_simY s hx n h.ha, sqT_simY s hx n h.hb, sqT_simY s hx n h.hv, Paired.mapP h.hu fun _ _ p => plRow_simY s hx n p⟩
/-- a graph, with the addresses of its dicts -/
def GraphBK (K : PySem.W.Frag) (C : Addr) (H : Hp) (g : Addr) (G : Gr) (b k : Addr) : Prop := ∃ dx c t r n us, H g = some (.ins C dx (gFields c t r n b k)) ∧ GHas K H G c t r n b k us
theorem GraphBK.at_ {C g b k : Addr} {G : Gr} (h : GraphBK K C H g G b k) : GraphAt K C H g G := by
  obtain ⟨dx, c, t, r, n, us, h1, h2⟩ := h
  exact ⟨dx, c, t, r, n, b, k, us, h1, h2⟩
theorem graphBK_of {C g : Addr} {G : Gr} (h : GraphAt K C H g G) : ∃ b k, GraphBK K C H g G b k := by
  obtain ⟨dx, c, t, r, n, b, k, us, h1, h2⟩ := h
  exact ⟨b, k, dx, c, t, r, n, us, h1, h2⟩
theorem graphBK_sim {C g b k : Addr} {G : Gr} (s : Sim H H') (h : GraphBK K C H g G b k) : GraphBK K C H' g G b k := by
  obtain ⟨dx, c, t, r, n, us, h1, h2⟩ := h
  exact ⟨dx, c, t, r, n, us, s.st _ _ (nt_ins _ _ _) h1, gHas_sim s h2⟩
theorem graphBK_same {C g b k : Addr} {G : Gr} (s : Same H H') (h : GraphBK K C H g G b k) : GraphBK K C H' g G b k := graphBK_sim (Sim.of s) h
/-- what stands at x is none of the graph's own -/
theorem graphBK_simY {C g b k : Addr} {G : Gr} (s : SimX x H H') (hx : H x = some o) (n : Oth o) (ni : ∀ C dx fs, o ≠ .ins C dx fs) (nb : x ≠ b) (nk : x ≠ k) (h : GraphBK K C H g G b k) : GraphBK K C H' g G b k := by
  obtain ⟨dx, c, t, r, nn, us, h1, h2⟩ := h
  exact ⟨dx, c, t, r, nn, us, s.st _ _ (fun z => by rw [z, hx] at h1; exact ni _ _ _ (Option.some.inj h1)) (nt_ins _ _ _) h1, sqT_simY s hx n h2.hc, sqT_simY s hx n h2.ht, sqT_simY s hx n h2.hr, Paired.mapP h2.hp fun _ _ p => plRow_simY s hx n p, sqT_simY s hx n h2.hn, s.st _ _ nb.symm (nt_dK _) h2.hb, s.st _ _ nk.symm (nt_dK _) h2.hk⟩
theorem graphBK_simL {C g b k : Addr} {G : Gr} {l : List V} (s : SimX x H H') (hx : H x = some (.lst l)) (h : GraphBK K C H g G b k) : GraphBK K C H' g G b k := by
  have t : ∀ {q : Addr} {xs : List V}, SqT K H q xs → SqT K H' q xs := fun h => sqT_simX s hx (fun _ e => by cases e) (fun _ _ e => by cases e) h
  have o : ∀ {q : Addr} {u : HO}, NoTb u → (∀ m, u ≠ .lst m) → H q = some u → H' q = some u := fun nt nl e => s.st _ _ (fun z => by rw [z, hx] at e; exact nl _ (Option.some.inj e).symm) nt e
  obtain ⟨dx, c, st, r, n, us, h1, h2⟩ := h
  exact ⟨dx, c, st, r, n, us, o (nt_ins _ _ _) (fun _ e => by cases e) h1, t h2.hc, t h2.ht, t h2.hr, plAll_simL s hx h2.hp, t h2.hn, o (nt_dK _) (fun _ e => by cases e) h2.hb, o (nt_dK _) (fun _ e => by cases e) h2.hk⟩
/-- a new dict is none of the graph's own -/
theorem GraphBK.fresh {C g b k d : Addr} {G : Gr} (h : GraphBK K C H g G b k) (n : H d = none) : d ≠ b ∧ d ≠ k := by
  obtain ⟨dx, c, t, r, nn, us, h1, h2⟩ := h
  exact ⟨fun z => (by rw [z, h2.hb] at n; cases n), fun z => (by rw [z, h2.hk] at n; cases n)⟩
end
/-- d is held -/
abbrev held (H : Hp) (d : Addr) (od : Obj) (kvs : List (Key × V)) : Hp := upd H d (.frz od (.dK kvs))
theorem held_back {H H' : Hp} {d : Addr} {od : Obj} {kvs : List (Key × V)} (h0 : H d = some (.dK kvs)) (s : Same (held H d od kvs) H') : Same H (upd H' d (.dK kvs)) := fun b o e => by
  by_cases z : b = d
  · rw [z, h0] at e
    rw [z, upd_same, e]
  · rw [upd_ne z]
    exact s _ _ (by show upd H d (.frz od (.dK kvs)) b = some o; rw [upd_ne z]; exact e)
theorem held_simX {H : Hp} {d : Addr} {od : Obj} {kvs : List (Key × V)} : SimX d H (held H d od kvs) := simX_upd
end Qp

/-! distances to a state -/
namespace Qp
open PySem PySem.Spec PyProof.Rows L2 QN
abbrev distsN : List Str := ["graph", "other", "distances", "layer", "entering", "state", "name", "_", "source", "target"]
theorem scDists : FnScope distsN ["graph", "other"] (defScope sDists) := ⟨rfl, rfl, rfl, by decide +kernel, rfl, by decide +kernel, by decide +kernel⟩
/-- where no state is at some distance, none is further -/
theorem dd_hole {G : Gr} {o : Str} {dd : Str → Nat} (D : DistTo G o dd) (ends : EndsIn G) {k : Nat} (h : ∀ s ∈ G.ns, dd s ≠ k) : ∀ (n : Nat) {s : Str}, s ∈ G.ns → dd s ≤ n → dd s < k
  | 0, s, hs, l => by have := h s hs; omega
  | n + 1, s, hs, l => by
    by_cases z : dd s < k
    · exact z
    · have ne : s ≠ o := fun e => by
        have := (D.zero hs).mpr e
        have := h s hs
        omega
      obtain ⟨r, hr, es, near⟩ := near_row (D.is s hs) ne
      have lt := near _ (D.is r.t (ends r hr).2)
      have st := D.step ends hr
      rw [es] at st
      have := dd_hole D ends h n (ends r hr).2 (by omega)
      have := h s hs
      omega
/-- known distances -/
def distK (dd : Str → Nat) (ks : List Str) : List (Key × V) := ks.map fun s => (Sum.inr s, V.int (dd s))
theorem distK_val (dd : Str → Nat) (ks : List Str) (x : Str) : valV (distK dd ks) (Sum.inr x : Key) = if x ∈ ks then some (.int (dd x)) else none := by
  induction ks with
  | nil => rfl
  | cons y ks ih =>
    by_cases e : y = x
    · subst e
      rw [show distK dd (y :: ks) = (Sum.inr y, V.int (dd y)) :: distK dd ks from rfl, valV_pos rfl, if_pos List.mem_cons_self]
    · have e2 : valV ((Sum.inr y, V.int (dd y)) :: distK dd ks) (Sum.inr x : Key) = valV (distK dd ks) (Sum.inr x) := by
        unfold valV
        rw [List.find?_cons_of_neg (by simpa using e)]
      rw [show distK dd (y :: ks) = (Sum.inr y, V.int (dd y)) :: distK dd ks from rfl, e2, ih]
      simp [Ne.symm e]
theorem distK_put {dd : Str → Nat} {ks : List Str} {x : Str} (h : x ∉ ks) : putK (distK dd ks) (Sum.inr x) (V.int (dd x)) = distK dd (ks ++ [x]) := by
  rw [putK_new]
  · unfold distK
    rw [List.map_append]
    rfl
  · intro m
    obtain ⟨q, hq, e⟩ := List.mem_map.mp m
    obtain ⟨y, hy, rfl⟩ := List.mem_map.mp hq
    exact h (by rw [← (Sum.inr.inj e : y = x)]; exact hy)
/-- the states nearer than k + 1, and those at k -/
structure DL (G : Gr) (dd : Str → Nat) (k : Nat) (ks ls : List Str) : Prop where
  kn : ks.Nodup
  km : ∀ s, s ∈ ks ↔ s ∈ G.ns ∧ dd s ≤ k
  ln : ls.Nodup
  lm : ∀ s, s ∈ ls ↔ s ∈ G.ns ∧ dd s = k
theorem DL.kl {G : Gr} {dd : Str → Nat} {k : Nat} {ks ls : List Str} (h : DL G dd k ks ls) (nl : G.ns.length ≤ 8) : ks.length ≤ 8 :=
  Nat.le_trans (List.Nodup.length_le_of_subset h.kn fun z hz => ((h.km z).mp hz).1) nl
theorem DL.ll {G : Gr} {dd : Str → Nat} {k : Nat} {ks ls : List Str} (h : DL G dd k ks ls) (nl : G.ns.length ≤ 8) : ls.length ≤ 8 :=
  Nat.le_trans (List.Nodup.length_le_of_subset h.ln fun z hz => ((h.lm z).mp hz).1) nl
/-- the rows that enter some states -/
def into (G : Gr) (ls : List Str) : List Row := ls.flatMap fun s => G.rs.filter fun r => r.t == s
theorem into_mem {G : Gr} {ls : List Str} {r : Row} : r ∈ into G ls ↔ r ∈ G.rs ∧ r.t ∈ ls := by
  unfold into
  rw [List.mem_flatMap]
  constructor
  · rintro ⟨s, hs, h⟩
    obtain ⟨h1, h2⟩ := List.mem_filter.mp h
    have e : r.t = s := by simpa using h2
    exact ⟨h1, by rw [e]; exact hs⟩
  · rintro ⟨h1, h2⟩
    exact ⟨r.t, h2, List.mem_filter.mpr ⟨h1, by simp⟩⟩
theorem into_len {G : Gr} (rl : G.rs.length ≤ 16) : ∀ ls : List Str, (into G ls).length ≤ 16 * ls.length
  | [] => Nat.le_refl _
  | s :: ls => by
    have ih := into_len rl ls
    show ((G.rs.filter fun r => r.t == s) ++ into G ls).length ≤ 16 * (ls.length + 1)
    have := List.length_filter_le (fun r : Row => r.t == s) G.rs
    rw [List.length_append]
    omega
/-- the next states -/
theorem DL.next {G : Gr} {o : Str} {dd : Str → Nat} (D : DistTo G o dd) (ends : EndsIn G) {k : Nat} {ks ls ms : List Str} (h : DL G dd k ks ls) (nd : ms.Nodup) (hm : ∀ s, s ∈ ms ↔ ∃ r ∈ into G ls, r.s = s ∧ s ∉ ks) : DL G dd (k + 1) (ks ++ ms) ms ∧ (∀ s ∈ ms, s ∉ ks ∧ dd s = k + 1 ∧ ∃ r ∈ into G ls, r.s = s) := by
  have m1 : ∀ s, s ∈ ms ↔ s ∈ G.ns ∧ dd s = k + 1 := fun s => by
    rw [hm]
    constructor
    · rintro ⟨r, hr, rfl, nk⟩
      obtain ⟨r1, r2⟩ := into_mem.mp hr
      have e := ((h.lm _).mp r2).2
      have st := D.step ends r1
      have n : ¬ dd r.s ≤ k := fun z => nk ((h.km _).mpr ⟨(ends r r1).1, z⟩)
      exact ⟨(ends r r1).1, by omega⟩
    · rintro ⟨hs, e⟩
      have ne : s ≠ o := fun z => by
        have := (D.zero hs).mpr z
        omega
      obtain ⟨r, hr, es, near⟩ := near_row (D.is s hs) ne
      have lt := near _ (D.is r.t (ends r hr).2)
      have st := D.step ends hr
      rw [es] at st
      exact ⟨r, into_mem.mpr ⟨hr, (h.lm _).mpr ⟨(ends r hr).2, by omega⟩⟩, es, fun z => by have := ((h.km _).mp z).2; omega⟩
  refine ⟨⟨?_, fun s => ?_, nd, m1⟩, fun s hs => ?_⟩
  · refine List.nodup_append.mpr ⟨h.kn, nd, fun a ha b hb e => ?_⟩
    have := ((h.km a).mp ha).2
    have := ((m1 b).mp hb).2
    rw [e] at *
    omega
  · rw [List.mem_append, h.km, m1]
    constructor
    · rintro (⟨a, b⟩ | ⟨a, b⟩)
      · exact ⟨a, by omega⟩
      · exact ⟨a, by omega⟩
    · rintro ⟨a, b⟩
      by_cases z : dd s ≤ k
      · exact .inl ⟨a, z⟩
      · exact .inr ⟨a, by omega⟩
  · obtain ⟨r, hr, es, nk⟩ := (hm s).mp hs
    exact ⟨nk, ((m1 s).mp hs).2, r, hr, es⟩
section
variable {P : Program} {w : World} {K : PySem.W.Frag} {mg : Str → Option Value} {base : Heap}
theorem ok_dists {f fE fG C PE : Addr} {fd : FuncData} (F : Fun K "_distances" "_distances" sDists f fd) (T : GraphC K mg C)
    (ME : Meth K C "entering" fE) (GE : FnR P w K mg base CX0 3 fE (spGEnd K C PE (·.t))) (MG : OMeth K C "__getitem__" fG) (iG : PySem.W.fnIn K fG = true) (GG : FnR P w K mg base CX0 2 fG (spGGet K C)) (so : mg "sorted" = none) (mn : mg "min" = none) : FnOk P w K mg base CX0 5 f fd ["graph", "other"] (spDists K C PE) := by
  refine F.ok scDists (fun vs H Q E h => ?_) (fun cdv A outer s H vs Q E hr h => ?_)
  · obtain ⟨g, o, G, dd, rfl, _⟩ := h
    rfl
  · obtain ⟨g, o, G, dd, rfl, hg, ok, ends, ho, DT, d8, te, fin⟩ := h
    have hu64 : (A.deeper (envOfC "_distances" (defScope sDists) s.heap.objs.size f cdv)).units + 64 < cLine := by
      have := hr.un
      omega
    have hu1 : (A.deeper (envOfC "_distances" (defScope sDists) s.heap.objs.size f cdv)).units + 1 < cLine := by omega
    have r3 := hr.mono (by decide : 3 ≤ 4)
    refine ⟨_, pss_cons (ps_set (i := 2) scDists.nd rfl (.inr rfl) (pe_disp (pps_cons (pv 1) pe_int pps_nil) rfl rfl (by decide) (by decide)))
      (pss_cons (ps_set (i := 3) scDists.nd rfl (.inl rfl) (pe_lst (pa_cons (pv 1) pa_nil)))
      (pss_cons (ps_while PassesOwn.never (pt_truth (pv 3) (fun _ => rfl))
        (pss_cons (ps_setLc2 (i := 4) (own := [("state", 5), ("name", 6)]) (vs1 := [6]) (g := gName 5) (tt := tYes) (wi1 := iTup K (tMethR C "entering" (spGEnd K C PE (·.t)) L2.E0 (tVar 0) (tCons (tVar 5) tNil))) (g1 := gName 6) (tt1 := tYes) (te := tItemO C (spGGet K C) L2.E0 (tVar 0) (tVar 6)) rfl scDists.nd rfl rfl (sw_true rfl rfl rfl (by decide +kernel)) (pi_list (pv 3)) (blkOk_by (N := distsN) (sc := defScope sDists) (by decide +kernel)) (by decide)
            (fun _ _ _ _ _ => pg_name (i := 5) scDists.nd rfl (.inl rfl)) (fun _ _ _ _ _ => pts_nil) (fun _ _ _ _ _ => pi_tup (pe_methR (pv 0) T.cls ME GE r3 pass0 (pa_cons (pv 5) pa_nil))) (fun _ _ _ _ _ => pg_name (i := 6) scDists.nd rfl (.inl rfl)) (fun _ _ _ _ _ => pts_nil) (fun _ _ _ _ _ => pe_itemO MG iG GG r3 pass0 (pv 0) (pv 6) (fun _ _ => rfl)))
        (pss_cons (ps_set (i := 3) scDists.nd rfl (.inl rfl) (pe_callB (r := rSortedTx P w) (cr_sortedTx rfl hu64) (by rfl) so (by decide +kernel) (pa_cons (pe_sx (own := [("_", 7), ("source", 8)]) (bind := gTup K 4 (gCons (gName 7) (gCons (gName 8) (gCons (gName 7) (gCons (gName 7) gNil))))) (test := tB (tDNotIn (tVar 8) (tVar 2))) (mem := tVar 8) rfl scDists.nd (pi_list (pv 4)) (blkOk_by (N := distsN) (sc := defScope sDists) (by decide +kernel))
            (fun _ _ _ _ _ => pg_tup (by rfl) (pgs_cons (pg_name (i := 7) scDists.nd rfl (.inl rfl)) (pgs_cons (pg_name (i := 8) scDists.nd rfl (.inl rfl)) (pgs_cons (pg_name (i := 7) scDists.nd rfl (.inl rfl)) (pgs_cons (pg_name (i := 7) scDists.nd rfl (.inl rfl)) pgs_nil))))) (fun _ _ _ _ _ => pts_one (pt_cmp (pc_dnotin hu1 (pv 8) (pv 2)))) (fun _ _ _ _ _ => pv 8)) pa_nil)))
        (pss_one (ps_for PassesOwn.never rfl (pi_list (pv 3)) (pg_name (i := 5) scDists.nd rfl (.inr rfl))
          (pss_one (ps_dput hu1 (pv 2) (pv 5) (pe_op op_add pe_int (pe_callB (cr_min rfl) (by rfl) mn (by decide +kernel) (pa_cons (pe_lc (own := [("_", 7), ("source", 8), ("target", 9)]) (g := gTup K 4 (gCons (gName 7) (gCons (gName 8) (gCons (gName 9) (gCons (gName 7) gNil))))) (tt := tTest (tOp rEq (tVar 8) (tVar 5))) (te := tDGet (tVar 2) (tVar 9)) rfl scDists.nd (pi_list (pv 4)) (blkOk_by (N := distsN) (sc := defScope sDists) (by decide +kernel))
            (fun _ _ _ _ _ => pg_tup (by rfl) (pgs_cons (pg_name (i := 7) scDists.nd rfl (.inl rfl)) (pgs_cons (pg_name (i := 8) scDists.nd rfl (.inl rfl)) (pgs_cons (pg_name (i := 9) scDists.nd rfl (.inl rfl)) (pgs_cons (pg_name (i := 7) scDists.nd rfl (.inl rfl)) pgs_nil))))) (fun _ _ _ _ _ => pts_one (pt_cmpR op_eq (pv 8) (pv 5) (nomark _))) (fun _ _ _ _ _ => pe_dget hu1 (pv 2) (pv 9) (fun _ _ => rfl))) pa_nil))) rfl)))))))
      (pss_one (ps_ret (pv 2))))), ?_⟩
    intro d hdn
    refine ⟨_, rfl, upd_same, [(Sum.inr o, V.int 0)], rfl, (by show 1 ≤ 15; decide), ⟨_, rfl, (by show 1 ≤ sizeLine; decide), fun wl hwn => ?_⟩⟩
    have nwd : wl ≠ d := fun e => by rw [e, upd_same] at hwn; cases hwn
    have S0 : Sim H (upd (upd (upd H d (.dK [])) d (.dK (mergeK [] [(Sum.inr o, V.int 0)]))) wl (.lst [.str o])) := (Sim.of (same_upd' (same_new hdn) hdn)).trans (Sim.of (same_new hwn))
    have z0 : dd o = 0 := (DT.zero ho).mpr rfl
    have e0 : (upd (upd (upd H d (.dK [])) d (.dK (mergeK [] [(Sum.inr o, V.int 0)]))) wl (.lst [.str o])) d = some (.dK (distK dd [o])) := by
      rw [upd_ne nwd.symm, upd_same]
      unfold distK
      rw [List.map_cons, List.map_nil, z0]
      rfl
    have l0 : (upd (upd (upd H d (.dK [])) d (.dK (mergeK [] [(Sum.inr o, V.int 0)]))) wl (.lst [.str o])) wl = some (.lst ([o].map V.str)) := upd_same
    generalize (upd (upd (upd H d (.dK [])) d (.dK (mergeK [] [(Sum.inr o, V.int 0)]))) wl (.lst [.str o])) = H0 at S0 e0 l0
    have L0 : DL G dd 0 [o] [o] := by
      have q : ∀ s, s ∈ [o] ↔ s ∈ G.ns ∧ dd s = 0 := fun s => by
        rw [List.mem_singleton]
        exact ⟨fun e => by rw [e]; exact ⟨ho, z0⟩, fun ⟨a, b⟩ => (DT.zero a).mp b⟩
      exact ⟨by simp, fun s => by rw [q s, Nat.le_zero], by simp, q⟩
    refine ⟨fun m σ H' => ∃ (k : Nat) (ks ls : List Str) (LA : Addr) (y4 y5 : Option V), σ = [some (.ref g), some (.str o), some (.ref d), some (.ref LA), y4, y5, none, none, none, none] ∧ DL G dd k ks ls ∧ Sim H H' ∧ H' d = some (.dK (distK dd ks)) ∧ H' LA = some (.lst (ls.map V.str)) ∧ k ≤ 9 ∧ m = 10 - k, ⟨_, 0, [o], [o], wl, none, none, rfl, L0, S0, e0, l0, Nat.zero_le _, rfl⟩, ?_⟩
    rintro m σ H1 ⟨k, ks, ls, LA, y4, y5, rfl, L, s1, ed1, eL1, k9, rfl⟩
    have kl := L.kl ok.nl
    have ll := L.ll ok.nl
    refine ⟨_, rfl, _, .inl ⟨_, .inl (.inl eL1), rfl⟩, ?_⟩
    by_cases e : ls = []
    · subst e
      refine if_no (by decide) ⟨_, rfl, fin d _ H1 s1 ed1 fun s hs => ?_⟩
      have lt := dd_hole DT ends (k := k) (fun y hy e => by have := (L.lm y).mpr ⟨hy, e⟩; cases this) _ hs (Nat.le_refl _)
      rw [distK_val, if_pos ((L.km s).mpr ⟨hs, by omega⟩)]
    · have hne : (!(ls.map V.str).isEmpty) = true := by
        cases ls with
        | nil => exact absurd rfl e
        | cons y ws => rfl
      have k8 : k ≤ 8 := by
        obtain ⟨y, hy⟩ := List.exists_mem_of_ne_nil ls e
        obtain ⟨a, b⟩ := (L.lm y).mp hy
        have := d8 y a
        omega
      refine if_yes hne ⟨fun σ' H2 => ∃ (ks ls : List Str) (LA : Addr) (y4 y5 : Option V), σ' = [some (.ref g), some (.str o), some (.ref d), some (.ref LA), y4, y5, none, none, none, none] ∧ DL G dd (k + 1) ks ls ∧ Sim H H2 ∧ H2 d = some (.dK (distK dd ks)) ∧ H2 LA = some (.lst (ls.map V.str)), fun σ' H2 ⟨ks, ls, LA, y4, y5, q1, q2, q3, q4, q5⟩ => ⟨10 - (k + 1), by omega, k + 1, ks, ls, LA, y4, y5, q1, q2, q3, q4, q5, by omega, rfl⟩, ?_⟩
      refine ⟨_, rfl, LA, rfl, ⟨_, .inl (.inl eL1)⟩, fun D hD => ?_⟩
      refine ⟨fun i m H5 => m = ls.length - i ∧ i ≤ ls.length ∧ Sim H1 H5 ∧ ∃ us, H5 D = some (.lst us) ∧ Paired (PlRow K H5) us (into G (ls.take i)), ⟨ls.length, by rw [Nat.sub_zero], Nat.zero_le _, Sim.of (same_new hD), [], upd_same, .nil⟩, ?_⟩
      rintro i m H5 ⟨rfl, hi, s5, us, e5, p5⟩
      have eL5 : H5 LA = some (.lst (ls.map V.str)) := s5.st _ _ (nt_lst _) eL1
      have lml : (ls.map V.str).length = ls.length := List.length_map _
      rcases Nat.lt_or_ge i ls.length with lt | ge
      · refine .inr ⟨(walk_list (xs := ls.map V.str)).goes i H5 (by rw [lml]; exact lt) (.inl (.inl eL5)), fun H6 => Sim H1 H6 ∧ ∃ us, H6 D = some (.lst us) ∧ Paired (PlRow K H6) us (into G (ls.take (i + 1))), fun H6 q => ⟨ls.length - (i + 1), by omega, rfl, lt, q⟩, fun z H6 y => ?_⟩
        obtain ⟨rfl, hz⟩ := (walk_list (xs := ls.map V.str)).yields i H5 z H6 (by rw [lml]; exact lt) (.inl (.inl eL5)) y
        rw [List.getElem?_map] at hz
        cases hs : ls[i]? with
        | none => rw [hs] at hz; cases hz
        | some x =>
          rw [hs] at hz
          cases (Option.some.inj hz : V.str x = z)
          have hxn : x ∈ G.ns := ((L.lm x).mp (List.mem_of_getElem? hs)).1
          have hg5 := graphAt_sim (s1.trans s5) hg
          obtain ⟨dx, f1, f2, f3, f4, f5, f6, us0, i1, i2⟩ := id hg5
          refine ⟨rfl, yes_if ⟨_, rfl, g, dx, _, rfl, i1, rfl, _, rfl, g, G, x, rfl, hg5, ok, hxn, (s1.trans s5).tb _ te, fun t H6 s6 et => ⟨t, rfl, ⟨_, et⟩, ?_⟩⟩⟩
          have tk : into G (ls.take (i + 1)) = into G (ls.take i) ++ G.rs.filter fun r => r.t == x := by
            unfold into
            rw [List.take_add_one, hs, List.flatMap_append]
            congr 1
            exact List.append_nil _
          have lim := into_len ok.rl (ls.take i)
          have lti : (ls.take i).length ≤ 8 := by rw [List.length_take]; omega
          have lfx := List.length_filter_le (fun r : Row => r.t == x) G.rs
          have rl := ok.rl
          refine lc_inner (walk_tup (xs := ((G.rs.filter fun r => r.t == x).map (·.n)).map V.str)) (fun j H7 => Sim H1 H7 ∧ SqT K H7 t (((G.rs.filter fun r => r.t == x).map (·.n)).map V.str) ∧ ∃ us, H7 D = some (.lst us) ∧ Paired (PlRow K H7) us (into G (ls.take i) ++ (G.rs.filter fun r => r.t == x).take j)) ⟨s5.trans s6, et, us, s6.st _ _ (nt_lst _) e5, by rw [List.take_zero, List.append_nil]; exact plAll_sim s6 p5⟩ (fun j H7 _ p => p.2.1) (fun j z7 H7 H8 hj p y7 => ?_) fun H7 p => ⟨p.1, ?_⟩
          · obtain ⟨rfl, hz7⟩ := y7
            obtain ⟨p1, p2, us7, p3, p4⟩ := p
            rw [List.getElem?_map, List.getElem?_map] at hz7
            cases hr7 : (G.rs.filter fun r => r.t == x)[j]? with
            | none => rw [hr7] at hz7; cases hz7
            | some r =>
              rw [hr7] at hz7
              cases (Option.some.inj hz7 : V.str r.n = z7)
              have mr : r ∈ G.rs := (List.mem_filter.mp (List.mem_of_getElem? hr7)).1
              have hg7 := graphAt_sim (s1.trans p1) hg
              have l7 := p4.length
              rw [List.length_append, List.length_take] at l7
              refine ⟨rfl, yes_if ⟨_, rfl, _, rfl, g, rfl, oat_graph hg7, g, G, r, rfl, hg7, ok.ra, mr, fun u pu => ⟨us7, p3, by rw [sizeLine_eq]; omega, sim_updF (Sim.refl _) hD p1, sqT_simX simX_upd p3 (fun _ e => by cases e) (fun _ _ e => by cases e) p2, us7 ++ [u], upd_same, ?_⟩⟩⟩
              rw [List.take_add_one, hr7, ← List.append_assoc]
              exact Paired.snoc (plAll_simL simX_upd p3 p4) (plRow_simL simX_upd p3 pu)
          · rw [tk]
            obtain ⟨p1, p2, us7, p3, p4⟩ := p
            rw [List.length_map, List.length_map, List.take_length] at p4
            exact ⟨us7, p3, p4⟩
      · obtain rfl : i = ls.length := Nat.le_antisymm hi ge
        rw [List.take_length] at p5
        refine .inl ⟨by have q := (walk_list (K := K) (a := LA) (xs := ls.map V.str)).stops H5 (.inl (.inl eL5)); rw [lml] at q; exact q, ?_⟩
        have ul := p5.length
        have il := into_len ok.rl ls
        have ed5 := s5.st _ _ (nt_dK _) ed1
        refine ⟨_, rfl, D, rfl, ⟨_, .inl (.inl e5)⟩, fun SS hS => ?_⟩
        refine ⟨fun i m H7 => m = us.length - i ∧ i ≤ us.length ∧ Same H5 H7 ∧ ∃ l : List Str, H7 SS = some (TxSetO P w SS l) ∧ l.Nodup ∧ l.length ≤ i ∧ ∀ y, y ∈ l ↔ ∃ r ∈ (into G ls).take i, r.s = y ∧ y ∉ ks, ⟨us.length, by rw [Nat.sub_zero], Nat.zero_le _, same_new hS, [], upd_same, List.nodup_nil, Nat.le_refl _, fun y => by simp⟩, ?_⟩
        rintro i m H7 ⟨rfl, hi, s7, l, e7, nd7, ln7, me7⟩
        have e57 := s7 _ _ e5
        rcases Nat.lt_or_ge i us.length with lt | ge
        · refine .inr ⟨(walk_list (xs := us)).goes i H7 lt (.inl (.inl e57)), fun H8 => Same H5 H8 ∧ ∃ l : List Str, H8 SS = some (TxSetO P w SS l) ∧ l.Nodup ∧ l.length ≤ i + 1 ∧ ∀ y, y ∈ l ↔ ∃ r ∈ (into G ls).take (i + 1), r.s = y ∧ y ∉ ks, fun H8 q => ⟨us.length - (i + 1), by omega, rfl, lt, q⟩, fun z H8 y => ?_⟩
          obtain ⟨rfl, hz⟩ := (walk_list (xs := us)).yields i H7 z H8 lt (.inl (.inl e57)) y
          obtain ⟨r, hr7, pr⟩ := rows_at (plAll_sim (Sim.of s7) p5) hz
          obtain ⟨a, c, xs, rfl, h1, h2, h3⟩ := pr
          have tk : (into G ls).take (i + 1) = (into G ls).take i ++ [r] := by rw [List.take_add_one, hr7]; rfl
          refine ⟨a, _, rfl, h1, rfl, _, _, rfl, _, _, rfl, _, _, rfl, _, _, rfl, rfl, rfl, ?_⟩
          refine ⟨_, rfl, _, rfl, d, _, rfl, DGet.k (k := Sum.inr r.s) (s7 _ _ ed5), _, rfl, ?_⟩
          rw [distK_val]
          by_cases mk : r.s ∈ ks
          · rw [if_pos mk]
            refine if_no (show ¬ ((!true) = true) from Bool.false_ne_true) ⟨s7, l, e7, nd7, Nat.le_succ_of_le ln7, fun y => ?_⟩
            rw [me7, tk]
            constructor
            · rintro ⟨q, hq, h⟩
              exact ⟨q, List.mem_append_left _ hq, h⟩
            · rintro ⟨q, hq, h⟩
              rcases List.mem_append.mp hq with hq | hq
              · exact ⟨q, hq, h⟩
              · rw [List.mem_singleton.mp hq] at h
                exact absurd mk (by rw [h.1]; exact h.2)
          · rw [if_neg mk]
            refine if_yes (by decide) ⟨_, rfl, r.s, l, rfl, e7, by show l.length + 1 < 4096; omega, same_upd' s7 hS, gather l r.s, upd_same, ?_, Nat.le_trans gather_len (Nat.succ_le_succ ln7), fun y => ?_⟩
            · unfold gather
              split
              · exact nd7
              · rename_i nm
                exact (List.perm_append_singleton r.s l).nodup_iff.mpr (List.nodup_cons.mpr ⟨nm, nd7⟩)
            · rw [gather_mem, me7, tk]
              constructor
              · rintro (⟨q, hq, h⟩ | rfl)
                · exact ⟨q, List.mem_append_left _ hq, h⟩
                · exact ⟨r, List.mem_append_right _ (List.mem_singleton.mpr rfl), rfl, mk⟩
              · rintro ⟨q, hq, h⟩
                rcases List.mem_append.mp hq with hq | hq
                · exact .inl ⟨q, hq, h⟩
                · rw [List.mem_singleton.mp hq] at h
                  exact .inr h.1.symm
        · obtain rfl : i = us.length := Nat.le_antisymm hi ge
          rw [ul, List.take_length] at me7
          refine .inl ⟨(walk_list (xs := us)).stops H7 (.inl (.inl e57)), SS, l, rfl, e7, by omega, fun LB mm hLB pm => ?_⟩
          have msm : ∀ s, s ∈ sortTx mm ↔ ∃ r ∈ into G ls, r.s = s ∧ s ∉ ks := fun s => by rw [(sortTx_perm mm).mem_iff, pm.mem_iff, me7]
          have msn : (sortTx mm).Nodup := (sortTx_perm mm).nodup_iff.mpr (pm.nodup_iff.mpr nd7)
          obtain ⟨L2', each⟩ := L.next DT ends msn msm
          generalize sortTx mm = ms at L2' each
          have sB := same_new (o := .lst (ms.map V.str)) hLB
          have eB : (upd H7 LB (.lst (ms.map V.str))) LB = some (.lst (ms.map V.str)) := upd_same
          have edB := sB _ _ (s7 _ _ ed5)
          have eDB := sB _ _ e57
          have S8 : Sim H (upd H7 LB (.lst (ms.map V.str))) := (s1.trans s5).trans ((Sim.of s7).trans (Sim.of sB))
          have p8 : Paired (PlRow K (upd H7 LB (.lst (ms.map V.str)))) us (into G ls) := plAll_sim ((Sim.of s7).trans (Sim.of sB)) p5
          have nBd : LB ≠ d := fun z => by rw [z, s7 _ _ ed5] at hLB; cases hLB
          have nDd : D ≠ d := fun z => by rw [z, ed1] at hD; cases hD
          generalize upd H7 LB (.lst (ms.map V.str)) = H8 at eB edB eDB S8 p8
          have ml := L2'.ll ok.nl
          refine ⟨_, rfl, LB, rfl, ⟨_, .inl (.inl eB)⟩, ?_⟩
          refine for_list (xs := ms.map V.str) (fun i σ H9 => ∃ y5, σ = [some (.ref g), some (.str o), some (.ref d), some (.ref LB), some (.ref D), y5, none, none, none, none] ∧ Sim H H9 ∧ H9 d = some (.dK (distK dd (ks ++ ms.take i))) ∧ H9 LB = some (.lst (ms.map V.str)) ∧ H9 D = some (.lst us) ∧ Paired (PlRow K H9) us (into G ls)) ⟨_, rfl, S8, by rw [List.take_zero, List.append_nil]; exact edB, eB, eDB, p8⟩ (fun i σ H9 _ p => ?_) (fun i z σ H9 hz p => ?_) fun σ H9 p => ?_
          · obtain ⟨y5, _, _, _, q, _⟩ := p
            exact .inl (.inl q)
          · obtain ⟨y5, rfl, S9, ed9, eB9, eD9, p9⟩ := p
            rw [List.getElem?_map] at hz
            cases hx : ms[i]? with
            | none => rw [hx] at hz; cases hz
            | some x =>
              rw [hx] at hz
              cases (Option.some.inj hz : V.str x = z)
              have mx := List.mem_of_getElem? hx
              obtain ⟨nk, dx, r0, hr0, es0⟩ := each x mx
              refine ⟨_, rfl, D, rfl, ⟨_, .inl (.inl eD9)⟩, fun D2 hD2 => ?_⟩
              have dgt : ∀ r ∈ into G ls, r.t ∈ ks ++ ms.take i ∧ dd r.t = k := fun r hr => by
                obtain ⟨a, b⟩ := (L.lm _).mp (into_mem.mp hr).2
                exact ⟨List.mem_append_left _ ((L.km _).mpr ⟨a, by omega⟩), b⟩
              refine lc_list (xs := us) (fun j H10 => Same H9 H10 ∧ H10 D2 = some (.lst ((((into G ls).take j).filter fun r => decide (r.s = x)).map fun r => V.int (dd r.t)))) ⟨same_new hD2, upd_same⟩ (fun j H10 _ p => .inl (.inl (p.1 _ _ eD9))) (fun j z10 H10 hz10 p => ?_) fun H10 p => ?_
              · obtain ⟨s10, e10⟩ := p
                obtain ⟨r, hr7, pr⟩ := rows_at (plAll_sim (Sim.of s10) p9) hz10
                obtain ⟨a, c, xs, rfl, h1, h2, h3⟩ := pr
                have tk : (into G ls).take (j + 1) = (into G ls).take j ++ [r] := by rw [List.take_add_one, hr7]; rfl
                obtain ⟨d1, d2⟩ := dgt r (List.mem_of_getElem? hr7)
                refine ⟨a, _, rfl, h1, rfl, _, _, rfl, _, _, rfl, _, _, rfl, _, _, rfl, rfl, rfl, ?_⟩
                refine ⟨_, rfl, _, rfl, rfl, _, rfl, ?_⟩
                rw [dec_str]
                by_cases es : r.s = x
                · have dg : DGet H10 d (.str r.t) (some (.int (dd r.t))) := by
                    have q := DGet.k (k := Sum.inr r.t) (s10 _ _ ed9)
                    rw [distK_val, if_pos d1] at q
                    exact q
                  refine if_yes (decide_eq_true es) ⟨_, rfl, _, rfl, d, _, rfl, dg, _, e10, ?_, same_upd' s10 hD2, ?_⟩
                  · rw [List.length_map, sizeLine_eq]
                    have := List.length_filter_le (fun r : Row => decide (r.s = x)) ((into G ls).take j)
                    have : ((into G ls).take j).length ≤ (into G ls).length := by rw [List.length_take]; exact Nat.min_le_right _ _
                    omega
                  · rw [upd_same, tk, List.filter_append, List.map_append, List.filter_cons_of_pos (by exact decide_eq_true es)]
                    rfl
                · refine if_no (by simpa using es) ⟨s10, ?_⟩
                  rw [e10, tk, List.filter_append, List.filter_cons_of_neg (by simpa using es), List.filter_nil, List.append_nil]
              · obtain ⟨s10, e10⟩ := p
                rw [ul, List.take_length] at e10
                have ei : (((into G ls).filter fun r => decide (r.s = x)).map fun r => V.int (dd r.t)) = (((into G ls).filter fun r => decide (r.s = x)).map fun r => (dd r.t : Int)).map V.int := by
                  rw [List.map_map]
                  rfl
                rw [ei] at e10
                refine ⟨D2, _, rfl, .inl (.inl e10), ?_, fun mi hmi _ => ?_⟩
                · rw [List.length_map]
                  exact List.length_pos_of_mem (List.mem_filter.mpr ⟨hr0, decide_eq_true es0⟩)
                · obtain ⟨q, hq, rfl⟩ := List.mem_map.mp hmi
                  have e2 := (dgt q (List.mem_filter.mp hq).1).2
                  have ne : (d : Addr) ≠ D2 := fun z => by rw [← z, ed9] at hD2; cases hD2
                  have nx : x ∉ ks ++ ms.take i := fun m => by
                    rcases List.mem_append.mp m with m | m
                    · exact nk m
                    · obtain ⟨j, hj⟩ := List.getElem?_of_mem m
                      rw [List.getElem?_take] at hj
                      split at hj
                      · rename_i lt
                        have := (List.getElem?_inj (List.getElem?_eq_some_iff.mp hj).1 L2'.ln).mp (hj.trans hx.symm)
                        omega
                      · cases hj
                  have lk : (distK dd (ks ++ ms.take i)).length < sizeLine := by
                    unfold distK
                    rw [List.length_map, List.length_append, List.length_take, sizeLine_eq]
                    omega
                  refine ⟨_, _, rfl, rfl, _, rfl, _, rfl, d, _, rfl, DPut.k (k := Sum.inr x) (s10 _ _ ed9) lk, ?_⟩
                  have ev : V.int (1 + (dd q.t : Int)) = V.int (dd x) := by
                    rw [e2, dx]
                    congr 1
                    omega
                  have S10 : Sim H H10 := S9.trans (Sim.of s10)
                  refine ⟨_, rfl, ?_, ?_, ?_, ?_, ?_⟩
                  · exact sim_updF (Sim.refl _) hdn S10
                  · rw [upd_same]
                    show some (HO.dK (putK _ _ (V.int (1 + (dd q.t : Int))))) = _
                    rw [ev, distK_put nx, List.take_add_one, hx, List.append_assoc]
                    rfl
                  · rw [upd_ne nBd]
                    exact s10 _ _ eB9
                  · rw [upd_ne nDd]
                    exact s10 _ _ eD9
                  · exact Paired.mapP (plAll_sim (Sim.of s10) p9) fun _ _ p => plRow_simY simX_upd (s10 _ _ ed9) (oth_dK _) p
          · obtain ⟨y5, rfl, S9, ed9, eB9, eD9, p9⟩ := p
            rw [List.length_map, List.take_length] at ed9
            exact ⟨ks ++ ms, ms, LB, _, _, rfl, L2', S9, ed9, eB9⟩
end
end Qp

/-! written data: what such an expression gives; rows without a change -/
namespace Qp
open PySem PySem.Spec PyProof.Rows L2 QN
def LitE (K : PySem.W.Frag) (te : TE) (d : PyData) : Prop := ∀ (σ : L2.St) (H : Hp) (Q : VK), (∀ v H', Same H H' → Dp K H' v d → Q v H') → te σ H Q
def LitA (K : PySem.W.Frag) (ta : TA) (ds : List PyData) : Prop := ∀ (σ : L2.St) (H : Hp) (Q : List V → Hp → Prop), (∀ vs H', Same H H' → DpAll K H' vs ds → Q vs H') → ta σ H Q
section
variable {K : PySem.W.Frag}
theorem lit_str (x : Str) : LitE K (tC (.str x)) (.str x) := fun _ H _ k => k _ H (fun _ _ e => e) (.str x)
theorem lit_int (i : Int) : LitE K (tC (.int i)) (.int i) := fun _ H _ k => k _ H (fun _ _ e => e) (.int i)
theorem lit_bl (b : Bool) : LitE K (tC (.bl b)) (.bool b) := fun _ H _ k => k _ H (fun _ _ e => e) (.bl b)
theorem lit_nil : LitA K tNil [] := fun _ H _ k => k _ H (fun _ _ e => e) .nil
theorem lit_cons {te : TE} {ta : TA} {d : PyData} {ds : List PyData} (h : LitE K te d) (t : LitA K ta ds) : LitA K (tCons te ta) (d :: ds) := fun σ H Q k =>
  h σ H _ fun v H1 s1 dv => t σ H1 _ fun vs H2 s2 dvs => k (v :: vs) H2 (s1.trans s2) (.cons (dp_same s2 _ _ dv) dvs)
theorem lit_tup {ta : TA} {ds : List PyData} (t : LitA K ta ds) (few : ds.length ≤ 1000 := by decide) : LitE K (tTup ta) (.tuple ds) := fun σ H Q k =>
  t σ H _ fun vs H1 s1 dvs => ⟨by rw [dpAll_len dvs, sizeLine_eq]; omega, fun p hp => k (.ref p) _ (s1.trans (same_new hp)) (.tup (.inl (.inl upd_same)) (dpAll_same (same_new hp) _ _ dvs))⟩
theorem lit_lst {ta : TA} {ds : List PyData} (t : LitA K ta ds) (few : ds.length ≤ 1000 := by decide) : LitE K (tLst ta) (.list ds) := fun σ H Q k =>
  t σ H _ fun vs H1 s1 dvs => ⟨by rw [dpAll_len dvs, sizeLine_eq]; omega, fun p hp => k (.ref p) _ (s1.trans (same_new hp)) (.lst (.inl (.inl upd_same)) (dpAll_same (same_new hp) _ _ dvs))⟩
/-- a tuple of texts -/
theorem lit_vals : ∀ {xs : List Str} {vs : List V} {H : Hp}, DpAll K H vs (xs.map PyData.str) → vs = xs.map V.str
  | [], _, _, h => by cases h; rfl
  | x :: xs, _, _, h => by
    cases h with
    | cons a b =>
      cases a
      rw [lit_vals b]
      rfl
theorem lit_strs : ∀ xs : List Str, LitA K (xs.foldr (fun x t => tCons (tC (.str x)) t) tNil) (xs.map PyData.str)
  | [] => lit_nil
  | x :: xs => lit_cons (lit_str x) (lit_strs xs)
/-- (x, ..) of texts, told as a tuple -/
theorem lit_names (xs : List Str) {σ : L2.St} {H : Hp} {Q : VK} (k : ∀ (p : Addr) (H' : Hp), Same H H' → SqT K H' p (xs.map V.str) → Q (.ref p) H') (few : xs.length ≤ 1000 := by decide) : tTup (xs.foldr (fun x t => tCons (tC (.str x)) t) tNil) σ H Q := by
  refine lit_tup (K := K) (lit_strs xs) (by rw [List.length_map]; exact few) σ H Q fun v H' s d => ?_
  cases d with
  | tup a b =>
    rw [lit_vals b] at a
    exact k _ H' s a
/-- (n, s, t, ()) -/
theorem lit_row (n s t : Str) {σ : L2.St} {H : Hp} {Q : VK} (k : ∀ (p : Addr) (H' : Hp), Same H H' → PlRow K H' (.ref p) ⟨n, s, t, []⟩ → Q (.ref p) H') : tTup (tCons (tC (.str n)) (tCons (tC (.str s)) (tCons (tC (.str t)) (tCons (tTupZ tNil) tNil)))) σ H Q := by
  refine ⟨(by show 0 ≤ sizeLine; decide), fun u o hu od => ⟨(by show 4 ≤ sizeLine; decide), fun p hp => ?_⟩⟩
  have s1 := same_new (o := .frz o (.tup [])) hu
  have s2 := same_new (o := .tup [.str n, .str s, .str t, .ref u]) hp
  have eu := s2 _ _ (upd_same (H := H) (a := u) (o := .frz o (.tup [])))
  exact k p _ (s1.trans s2) ⟨p, u, [], rfl, .inl (.inl upd_same), ⟨.inl (.inr ⟨o, eu⟩), .inl ⟨o, eu, od⟩⟩, .nil⟩
end
instance (a b : Str) : Decidable (lts a b) := inferInstanceAs (Decidable (a.cps.toList < b.cps.toList))
instance (x : Str) : Decidable (NameOk x) := inferInstanceAs (Decidable (1 ≤ x.length ∧ x.length ≤ 8 ∧ ∀ c ∈ x.cps.toList, c ∈ letters.cps.toList))
/-- behind a new list at p, whatever becomes of it -/
theorem sqL_fresh {K : PySem.W.Frag} {H H' : Hp} {p q : Addr} {o : HO} {xs : List V} (n : H p = none) (s : SimX p (upd H p o) H') (h : SqL K H q xs) : SqL K H' q xs := by
  rcases h with (h | ⟨u, h⟩) | h
  · have ne : q ≠ p := fun z => by rw [z, n] at h; cases h
    exact .inl (.inl (s.st _ _ ne (nt_lst _) (by rw [upd_ne ne]; exact h)))
  · have ne : q ≠ p := fun z => by rw [z, n] at h; cases h
    exact .inl (.inr ⟨u, s.st _ _ ne (nt_frz _ _) (by rw [upd_ne ne]; exact h)⟩)
  · exact .inr h
theorem tabG_fresh {H H' : Hp} {p T : Addr} {o : HO} (n : H p = none) (s : SimX p (upd H p o) H') (h : GxR.TabG H T) : GxR.TabG H' T := by
  obtain ⟨ps, e, t⟩ := h
  have ne : T ≠ p := fun z => by rw [z, n] at e; cases e
  exact s.tb _ ne ⟨ps, by rw [upd_ne ne]; exact e, t⟩
theorem SimX.refl (x : Addr) (H : Hp) : SimX x H H := SimX.of (Sim.refl H)
end Qp

/-! C(a, .., k=v), C an own class by its global name whose __init__ takes (self, a, *b, k=..) -/
namespace QN
open PySem PySem.Spec PyProof.Rows L2 PySem.W
def tMakeKG (C : Addr) (m : Nat) (sp : List V → List V → Hp → VK → XK → Prop) (E : XK) (t tk : TA) : TE := fun σ H Q => t σ H fun vs H1 => tk σ H1 fun zs H2 => zs.length = m ∧
  ∀ x dx, H2 x = none → H2 dx = none → dx ≠ x → sp (.ref x :: vs) zs (upd (upd H2 dx (.own x)) x (.ins C dx [])) (fun v H3 => v = .non ∧ Q (.ref x) H3) E
section
variable {X : Cx} {CX : CXT} {k : Nat} {f C : Addr} {ks : List Str} {sp : List V → List V → Hp → VK → XK → Prop} {E : XK} {x : Str} {p pos : Pos} {e : Expr} {es : List Expr} {kws : List Keyword} {t tk : TA}
theorem pe_makeKG (M : Mk X.K C f) (F : FnRK X.prog X.w X.K X.mg X.base CX k f ks sp) (hr : Room (k + 1) X.A) (hg : Gl X x) (hm : X.mg x = some (.ref C)) (hx : Passes CX X E) (ha : PA X (e :: es) t) (hkw : PK X kws tk)
    (all : (backToKw pos (keywordEach kws X.env)).all (·.1.isSome) = true := by rfl) (names : (backToKw pos (keywordEach kws X.env)).filterMap (·.1) = ks := by rfl) (hdb : (x == ("__debug__" : Str)) = false := by decide)
    (one : starEach (e :: es) X.env = (false, eval e X.env) :: starEach es X.env := by rfl) (plain : ((backTo pos (starEach (e :: es) X.env)).any (·.1) || (backToKw pos (keywordEach kws X.env)).any (·.1.isNone)) = false := by rfl) :
    PE X (.Call (.Name x p) (e :: es) kws pos) (tMakeKG C ks.length sp E t tk) := by
  refine ⟨fun pins s σ H Q I h => wpAny_Call_Name_kw (ld_glob I hg hm ?_ hdb)⟩
  refine callWith_KW (h₀ := X.base) I.ok.mod.kin M.kp all (thn (ha.run pos pins s σ H _ I h) fun us s2 ⟨vs, H2, I2, r, q⟩ => ?_) plain one
  refine thn (hkw.run pos pins s2 σ H2 _ I2 q) fun ws s3 ⟨zs, H3, I3, rz, l, q2⟩ => ⟨I3.kIn, ?_⟩
  rw [names]
  exact run_makeVK M F hr hx I3 r rz l q2
end
end QN

/-! questions opened one construct at a time -/
namespace QN
open PySem PySem.Spec PyProof.Rows L2
section
variable {σ : L2.St} {H : Hp} {D : Ends} {t u : TS} {te ta tb : TE} {tl tr : TA} {g : TG} {r : R2} {rc : List V → Hp → VK → Prop} {K : PySem.W.Frag} {T : String} {rm : V → List V → Hp → VK → Prop} {Q : VK} {QA : List V → Hp → Prop} {sp : Sp} {dvs : List V} {E : XK}
theorem q_seq (h : t { D with nx := u D } σ H) : tSeq t u D σ H := h
theorem q_asg (h : te σ H fun x H1 => g x σ H1 D.nx) : tAsg te g D σ H := h
theorem q_drop (h : te σ H fun _ H1 => D.nx σ H1) : tDrop te D σ H := h
theorem q_ret (h : te σ H D.rt) : tRet te D σ H := h
theorem q_lst (h : tl σ H fun xs H1 => xs.length ≤ sizeLine ∧ ∀ p, H1 p = none → Q (.ref p) (upd H1 p (.lst xs))) : tLst tl σ H Q := h
theorem q_tup (h : tl σ H fun xs H1 => xs.length ≤ sizeLine ∧ ∀ p, H1 p = none → Q (.ref p) (upd H1 p (.tup xs))) : tTup tl σ H Q := h
theorem q_cons (h : ta σ H fun x H1 => tr σ H1 fun xs H2 => QA (x :: xs) H2) : tCons ta tr σ H QA := h
theorem q_nil (h : QA [] H) : tNil σ H QA := h
theorem q_op (h : ta σ H fun x H1 => tb σ H1 fun y H2 => r x y H2 Q) : tOp r ta tb σ H Q := h
theorem q_cb (h : tl σ H fun vs H1 => rc vs H1 Q) : tCB rc tl σ H Q := h
theorem q_call (h : tl σ H fun vs H1 => sp (vs ++ dvs) H1 Q E) : tCall sp dvs E tl σ H Q := h
theorem q_bm (h : te σ H fun x H1 => tyV K T x H1 ∧ tl σ H1 fun xs H2 => rm x xs H2 Q) : tBM K T rm te tl σ H Q := h
end
section
variable {σ : L2.St} {H : Hp} {D : Ends} {t u : TS} {c d : TT} {te : TE} {QT : Bool → Hp → Prop}
theorem q_np {QO : Option Int → Hp → Prop} (h : QO none H) : tNoPart σ H QO := h
theorem q_ifs (h : c σ H fun b H1 => if b = true then t D σ H1 else u D σ H1) : tIfS c t u D σ H := h
theorem q_or (h : c σ H fun b H1 => if b = true then QT true H1 else d σ H1 QT) : tOr c d σ H QT := h
theorem q_and (h : c σ H fun b H1 => if b = true then d σ H1 QT else QT false H1) : tAnd c d σ H QT := h
theorem q_not (h : c σ H fun b H1 => QT (!b) H1) : tNot c σ H QT := h
theorem q_tb (h : te σ H fun x H1 => ∃ b, x = .bl b ∧ QT b H1) : tB te σ H QT := h
theorem q_test (h : te σ H fun x H1 => ∃ k, x = .bl k ∧ QT k H1) : tTest te σ H QT := h
end
end QN

/-! the law of k11 -/
namespace Qp
open PySem PySem.Spec PyProof.Rows L2 QN
open PySem.W PySem.SeqAt
abbrev sLaw11 : Stmt := top 55 -- law
abbrev law11N : List Str := ["_law_script", "_law_at", "_law_dice_here", "_law_turn", "_law_rows", "_law_ring", "_law_told"]
theorem scLaw11 : FnScope law11N ["_law_script"] (defScope sLaw11) := ⟨rfl, rfl, rfl, by decide +kernel, rfl, by decide +kernel, by decide +kernel⟩
def spLaw11 (K : PySem.W.Frag) (PI PC PL PE : Addr) : Sp := fun vs H Q _ => ∃ (a : Addr) (ns : List Int), vs = [.ref a] ∧ SqL K H a (ns.map V.int) ∧ GxR.TabG H PI ∧ GxR.TabG H PC ∧ GxR.TabG H PL ∧ GxR.TabG H PE ∧ ∀ H', Q (.bl true) H'
/-- the ring of the law -/
def ringRs : List Row := [⟨"a", "p", "q", []⟩, ⟨"b", "q", "r", []⟩, ⟨"c", "r", "p", []⟩, ⟨"d", "p", "q", []⟩, ⟨"e", "q", "q", []⟩]
def ringG : Gr := ⟨["x"], ["p", "q", "r"], ringRs⟩
theorem ring_rows : ∀ r ∈ ringRs, RowOk r := by
  have h : ∀ r ∈ ringRs, NameOk r.n ∧ NameOk r.s ∧ NameOk r.t ∧ r.c = [] := by decide +kernel
  intro r hr
  obtain ⟨a, b, c, d⟩ := h r hr
  refine ⟨a, b, c, ?_⟩
  rw [d]
  exact ⟨fun _ h => (by cases h), asc_of .nil, by decide⟩
theorem ring_ok : ringG.Ok := ⟨.cons (fun _ h => by cases h) .nil, by show (["p", "q", "r"] : List Str).Pairwise lts; decide +kernel, by show (["a", "b", "c", "d", "e"] : List Str).Pairwise lts; decide +kernel, by decide, by decide, by decide, ring_rows, by decide +kernel, by decide +kernel⟩
theorem ring_made : Makes ["x"] [] ringRs ringG := by
  refine ⟨⟨"p", ["q", "r"], rfl, ⟨by decide +kernel, fun _ h => (by cases h), ring_rows, ring_ok.ca, fun z => Iff.rfl, by decide, ring_ok.na, fun z => ?_, by decide, by decide, by decide, by decide, by decide +kernel, ?_, fun ks h cl y hy => ?_, fun ks h cl y hy => ?_⟩⟩, List.Perm.refl _, ring_ok.ra⟩
  · show z ∈ (["p", "q", "r"] : List Str) ↔ z ∈ ([] : List Str) ∨ z ∈ (["p", "q", "q", "r", "r", "p", "p", "q", "q", "q"] : List Str)
    simp only [List.mem_cons, List.not_mem_nil, or_false, false_or]
    constructor
    · rintro (h | h | h) <;> simp [h]
    · rintro (h | h | h | h | h | h | h | h | h | h) <;> simp [h]
  · decide +kernel
  · have q := cl ("p", "q") (by decide +kernel) h
    have r := cl ("q", "r") (by decide +kernel) q
    rcases List.mem_cons.mp hy with rfl | hy
    · exact h
    rcases List.mem_cons.mp hy with rfl | hy
    · exact q
    · cases List.mem_singleton.mp hy
      exact r
  · have r := cl ("p", "r") (by decide +kernel) h
    have q := cl ("r", "q") (by decide +kernel) r
    rcases List.mem_cons.mp hy with rfl | hy
    · exact h
    rcases List.mem_cons.mp hy with rfl | hy
    · exact q
    · cases List.mem_singleton.mp hy
      exact r
theorem ring_ends : EndsIn ringG := by
  show ∀ r ∈ ringRs, r.s ∈ (["p", "q", "r"] : List Str) ∧ r.t ∈ (["p", "q", "r"] : List Str)
  decide +kernel
theorem ring_c1 : comps ringG.ns (rowsOf ringG ["a", "b", "d"]) ringG.ns = [] := by decide +kernel
theorem ring_c2 : comps ringG.ns (rowsOf ringG ["e", "a"]) ringG.ns = ([["q"]] : List (List Str)) := by decide +kernel
theorem ring_a : allIn ringG ["e", "a"] = false := by decide +kernel
def ddR (s : Str) : Nat := if s = "p" then 2 else if s = "q" then 1 else 0
def ddQ (s : Str) : Nat := if s = "p" then 1 else if s = "r" then 2 else 0
instance (rs : List Row) (s o : Str) (k : Nat) : Decidable (IsDist rs s o k) := inferInstanceAs (Decidable (o ∈ lay rs k s ∧ ∀ j, j < k → o ∉ lay rs j s))
theorem ring_dR : DistTo ringG "r" ddR := ⟨by show ∀ s ∈ (["p", "q", "r"] : List Str), IsDist ringRs s "r" (ddR s); decide +kernel⟩
theorem ring_dQ : DistTo ringG "q" ddQ := ⟨by show ∀ s ∈ (["p", "q", "r"] : List Str), IsDist ringRs s "q" (ddQ s); decide +kernel⟩
theorem ring_8 : (∀ s ∈ ringG.ns, ddR s ≤ 8) ∧ ∀ s ∈ ringG.ns, ddQ s ≤ 8 := by decide +kernel
theorem ring_w1 : gway ringG.rs ddR (ddR "p") "p" = (["a", "b"] : List Str) := by decide +kernel
theorem ring_w2 : gway ringG.rs ddQ (ddQ "r") "r" = (["c", "a"] : List Str) := by decide +kernel
theorem ring_w3 : gway ringG.rs ddQ (ddQ "q") "q" = [] := by decide +kernel
def ringD : PyData := .list [.tuple [], .tuple [.tuple [.str "q"]], .bool false, .tuple [.str "a", .str "b"], .tuple [.str "c", .str "a"], .tuple []]
theorem ringD_shaped : SeqAt.shaped ringD = true := by decide +kernel
theorem ringD_eqv : PyData.eqv ringD ringD = true := PySem.SeqAt.eqv_refl _ (by decide +kernel)
/-- one state, no row -/
def lone11 : Gr := ⟨["x"], ["p"], []⟩
theorem lone11_ok : lone11.Ok := ⟨.cons (fun _ h => by cases h) .nil, .cons (fun _ h => by cases h) .nil, .nil, by decide, by decide, by decide, fun _ h => (by cases h), by decide +kernel, by decide +kernel⟩
theorem lone11_made : Makes ["x"] ["p"] [] lone11 := by
  refine ⟨⟨"p", [], rfl, ⟨by decide +kernel, by decide +kernel, fun _ h => (by cases h), lone11_ok.ca, fun z => Iff.rfl, by decide, lone11_ok.na, fun z => ⟨.inl, fun h => h.elim (fun h => h) fun h => (by cases h)⟩, by decide, by decide, by decide, by decide, ?_, fun _ h => (by cases h), fun ks h _ y hy => ?_, fun ks h _ y hy => ?_⟩⟩, .nil, .nil⟩
  · decide +kernel
  · cases List.mem_singleton.mp hy
    exact h
  · cases List.mem_singleton.mp hy
    exact h
section
variable {P : Program} {w : World} {K : PySem.W.Frag} {mg : Str → Option Value} {base : Heap}
theorem ok_law11 {f fI fP fO fD fV fC fR fW C PI PC PL PE : Addr} {fd fdD fdV fdC fdR fdW : FuncData} (F : Fun K "law" "law" sLaw11 f fd) (T : GraphC K mg C) (M : Mk K C fI) (GK : FnRK P w K mg base CX0 7 fI ["states"] (spMk K C PI)) (CR : ClX.CRead K C (.type "type")) (CM : ClX.CMet K C (.type "type") "of" fP fO) (GO : FnR P w K mg base CX0 9 fO (spGOf K C PI))
    (GC : FnOk P w K mg base CX0 5 fC fdC ["graph", "names"] (spComps K C PC)) (kC : PySem.W.keepIn K (.ref fC) = true) (bC : L2.Binds K fdC ["graph", "names"] []) (gC : mg "components" = some (.ref fC))
    (GR : FnOk P w K mg base CX0 6 fR fdR ["graph", "names"] (spIsRet K C PC)) (kR : PySem.W.keepIn K (.ref fR) = true) (bR : L2.Binds K fdR ["graph", "names"] []) (gR : mg "is_returning" = some (.ref fR))
    (GW : FnOk P w K mg base CX0 6 fW fdW ["graph", "state", "other"] (spWay K C PL PE)) (kW : PySem.W.keepIn K (.ref fW) = true) (bW : L2.Binds K fdW ["graph", "state", "other"] []) (gW : mg "way" = some (.ref fW))
    (GD : FnOk P w K mg base CX0 1 fD fdD ["_law_script", "_law_at"] (spDice K)) (kD : PySem.W.keepIn K (.ref fD) = true) (bD : L2.Binds K fdD ["_law_script", "_law_at"] []) (gD : mg "_law_dice" = some (.ref fD))
    (GV : FnG P w K mg base 11 fV fdV ["_law_dice_here"] (spLRight11 PI PC PL PE)) (kV : PySem.W.keepIn K (.ref fV) = true) (bV : L2.Binds K fdV ["_law_dice_here"] []) (gV : mg "_law_right" = some (.ref fV)) (B : BltP mg) (B2 : Blt2 mg) (mx : mg "max" = none) (mn : mg "min" = none) :
    FnG P w K mg base 12 f fd ["_law_script"] (spLaw11 K PI PC PL PE) := by
  refine Fun_okC F scLaw11 (fun vs H Q E h => ?_) (fun cdv A outer s H vs Q E hcd hr hng h => ?_)
  · obtain ⟨a, ns, rfl, _⟩ := h
    rfl
  · obtain ⟨a, ns, rfl, hS, ti, tc, tl, te, fin⟩ := h
    have hng' : NoRepr (A.deeper (envOfC "law" (defScope sLaw11) s.heap.objs.size f cdv)) := noRepr_deeper hng
    have hu64 : (A.deeper (envOfC "law" (defScope sLaw11) s.heap.objs.size f cdv)).units + 64 < cLine := by
      have := hr.un
      omega
    have r9 := hr.mono (by decide : 9 ≤ 11)
    have r8 := hr.mono (by decide : 7 + 1 ≤ 11)
    have r6 := hr.mono (by decide : 6 ≤ 11)
    have r5 := hr.mono (by decide : 5 ≤ 11)
    have r1 := hr.mono (by decide : 1 ≤ 11)
    refine ⟨_, (pss_cons (ps_for PassesOwn.never rfl (pi_range1 (by rfl) B2.rg (pa_cons (pe_callB (call_max2 rfl) (by rfl) mx (by decide +kernel) (pa_cons pe_int (pa_cons (pe_callB (call_min2 rfl) (by rfl) mn (by decide +kernel) (pa_cons pe_int (pa_cons (pe_callB call_len_seq (by rfl) B.len PySem.boot_len (pa_cons (pv 0) pa_nil)) pa_nil))) pa_nil))) pa_nil)) (pg_name (i := 1) scLaw11.nd rfl (.inl rfl))
      (pss_cons (ps_set (i := 2) scLaw11.nd rfl (.inl rfl) (pe_call GD r1 (by rfl) gD kD bD .nil pass0 (pa_cons (pv 0) (pa_cons (pv 1) pa_nil))))
      (pss_one (ps_for PassesOwn.never rfl (pi_range1 (by rfl) B2.rg (pa_cons pe_int pa_nil)) (pg_name (i := 3) scLaw11.nd rfl (.inl rfl))
      (pss_one (ps_if (pt_not (pt_val (pe_callG GV hng' hr (by rfl) gV kV bV (pa_cons (pv 2) pa_nil)))) (pss_one (ps_ret pe_bl)) pss_nil))))))
      (pss_cons (ps_set (i := 4) scLaw11.nd rfl (.inl rfl) (pe_lst (pa_cons (pe_tup (pa_cons pe_str (pa_cons pe_str (pa_cons pe_str (pa_cons (pe_tupZ pa_nil) pa_nil))))) (pa_cons (pe_tup (pa_cons pe_str (pa_cons pe_str (pa_cons pe_str (pa_cons (pe_tupZ pa_nil) pa_nil))))) (pa_cons (pe_tup (pa_cons pe_str (pa_cons pe_str (pa_cons pe_str (pa_cons (pe_tupZ pa_nil) pa_nil))))) (pa_cons (pe_tup (pa_cons pe_str (pa_cons pe_str (pa_cons pe_str (pa_cons (pe_tupZ pa_nil) pa_nil))))) (pa_cons (pe_tup (pa_cons pe_str (pa_cons pe_str (pa_cons pe_str (pa_cons (pe_tupZ pa_nil) pa_nil))))) pa_nil)))))))
      (pss_cons (ps_set (i := 5) scLaw11.nd rfl (.inl rfl) (ClX.pe_cmeth (pe_glob (v := .ref C) (by rfl) T.gC rfl) CR CM GO r9 pass0 (pa_cons (pe_tup (pa_cons pe_str pa_nil)) (pa_cons (pe_callTy call_tuple_of (by rfl) B.tuple (by decide +kernel) (pa_cons (pv 4) pa_nil)) (pa_cons (pe_tup pa_nil) pa_nil)))))
      (pss_cons (ps_set (i := 6) scLaw11.nd rfl (.inl rfl) (pe_lst (pa_cons (pe_call GC r5 (by rfl) gC kC bC .nil pass0 (pa_cons (pv 5) (pa_cons (pe_tup (pa_cons pe_str (pa_cons pe_str (pa_cons pe_str pa_nil)))) pa_nil))) (pa_cons (pe_call GC r5 (by rfl) gC kC bC .nil pass0 (pa_cons (pv 5) (pa_cons (pe_tup (pa_cons pe_str (pa_cons pe_str pa_nil))) pa_nil))) (pa_cons (pe_call GR r6 (by rfl) gR kR bR .nil pass0 (pa_cons (pv 5) (pa_cons (pe_tup (pa_cons pe_str (pa_cons pe_str pa_nil))) pa_nil))) pa_nil)))))
      (pss_cons (ps_set (i := 6) scLaw11.nd rfl (.inl rfl) (pe_op op_cat (pv 6) (pe_lst (pa_cons (pe_call GW r6 (by rfl) gW kW bW .nil pass0 (pa_cons (pv 5) (pa_cons pe_str (pa_cons pe_str pa_nil)))) (pa_cons (pe_call GW r6 (by rfl) gW kW bW .nil pass0 (pa_cons (pv 5) (pa_cons pe_str (pa_cons pe_str pa_nil)))) (pa_cons (pe_call GW r6 (by rfl) gW kW bW .nil pass0 (pa_cons (pv 5) (pa_cons pe_str (pa_cons pe_str pa_nil)))) pa_nil))))))
      (pss_cons (ps_if (pt_cmpR (op_neD hu64) (pv 6) (pe_lst (pa_cons (pe_tup pa_nil) (pa_cons (pe_tup (pa_cons (pe_tup (pa_cons pe_str pa_nil)) pa_nil)) (pa_cons pe_bl (pa_cons (pe_tup (pa_cons pe_str (pa_cons pe_str pa_nil))) (pa_cons (pe_tup (pa_cons pe_str (pa_cons pe_str pa_nil))) (pa_cons (pe_tup pa_nil) pa_nil))))))) (nomark _)) (pss_one (ps_ret pe_bl)) pss_nil)
      (pss_one (ps_ret (pe_cmpR (op_eqD hu64) (pe_call GC r5 (by rfl) gC kC bC .nil pass0 (pa_cons (pe_makeKG M GK r8 (by rfl) T.gC pass0 (pa_cons (pe_tup (pa_cons pe_str pa_nil)) pa_nil) (pk_cons (pe_tup (pa_cons pe_str pa_nil)) pk_nil)) (pa_cons (pe_tup pa_nil) pa_nil))) (pe_tup pa_nil) (nomark _)))))))))), ?_⟩
    refine ⟨_, rfl, a, _, rfl, .inl hS, _, _, rfl, _, _, rfl, _, rfl, ?_, ?_, ?_⟩
    · split <;> split <;> omega
    · split <;> split <;> omega
    refine for_range (fun i σ H' => ∃ y1 y2 y3, σ = [some (.ref a), y1, y2, y3, none, none, none] ∧ SqL K H' a (ns.map V.int) ∧ GxR.TabG H' PI ∧ GxR.TabG H' PC ∧ GxR.TabG H' PL ∧ GxR.TabG H' PE) ⟨none, none, none, rfl, hS, ti, tc, tl, te⟩ ?_ ?_
    · rintro i σ H' hi ⟨y1, y2, y3, rfl, hS1, ti1, tc1, tl1, te1⟩
      refine ⟨_, rfl, _, rfl, a, ns, i, by rw [Int.zero_add]; rfl, hS1, fun p x y z np => ?_⟩
      refine ⟨2, rfl, by decide, by decide, for_range (n := 2) (fun j σ H2 => ∃ z1 z3, σ = [some (.ref a), z1, some (.ref p), z3, none, none, none] ∧ SimX p (upd H' p (.lst (hand x y z))) H2 ∧ ∃ x y z : Int, H2 p = some (.lst (hand x y z))) ⟨_, _, rfl, SimX.refl _ _, x, y, z, upd_same⟩ ?_ ?_⟩
      · rintro j σ H2 hj ⟨z1, z3, rfl, sx, x2, y2', z2, hp2⟩
        exact ⟨_, rfl, p, x2, y2', z2, rfl, hp2, tabG_fresh np sx ti1, tabG_fresh np sx tc1, tabG_fresh np sx tl1, tabG_fresh np sx te1, fun x3 y3' z3' H3 hp3 s3 => ⟨true, rfl, if_no (by decide) ⟨_, _, rfl, sx.trans s3, x3, y3', z3', hp3⟩⟩⟩
      · rintro σ H2 ⟨z1, z3, rfl, sx, _⟩
        exact ⟨_, _, _, rfl, sqL_fresh np sx hS1, tabG_fresh np sx ti1, tabG_fresh np sx tc1, tabG_fresh np sx tl1, tabG_fresh np sx te1⟩
    rintro σ H1 ⟨y1, y2, y3, rfl, _, ti1, tc1, tl1, te1⟩
    -- the ring
    dsimp only
    refine q_seq (q_asg (q_lst (q_cons ?_)))
    refine lit_row (K := K) "a" "p" "q" fun ra Ha sa pa => q_cons ?_
    refine lit_row (K := K) "b" "q" "r" fun rb Hb sb pb => q_cons ?_
    refine lit_row (K := K) "c" "r" "p" fun rc Hc sc pc => q_cons ?_
    refine lit_row (K := K) "d" "p" "q" fun rd Hd sd pd => q_cons ?_
    refine lit_row (K := K) "e" "q" "q" fun re He se pe => q_nil ?_
    refine ⟨(by show 5 ≤ sizeLine; decide), fun L hL => ?_⟩
    have sL := same_new (o := .lst [.ref ra, .ref rb, .ref rc, .ref rd, .ref re]) hL
    have eL : (upd He L (.lst [.ref ra, .ref rb, .ref rc, .ref rd, .ref re])) L = some (.lst [.ref ra, .ref rb, .ref rc, .ref rd, .ref re]) := upd_same
    have pp : Paired (PlRow K (upd He L (.lst [.ref ra, .ref rb, .ref rc, .ref rd, .ref re]))) [.ref ra, .ref rb, .ref rc, .ref rd, .ref re] ringRs :=
      plAll_sim (Sim.of sL) (.cons (plRow_sim (Sim.of (sb.trans (sc.trans (sd.trans se)))) pa) (.cons (plRow_sim (Sim.of (sc.trans (sd.trans se))) pb) (.cons (plRow_sim (Sim.of (sd.trans se)) pc) (.cons (plRow_sim (Sim.of se) pd) (.cons pe .nil)))))
    have S1 := sa.trans (sb.trans (sc.trans (sd.trans (se.trans sL))))
    generalize upd He L (.lst [.ref ra, .ref rb, .ref rc, .ref rd, .ref re]) = H2 at eL pp S1
    clear sL hL pe pd pc pb pa se sd sc sb sa
    dsimp only [gName]
    refine q_seq (q_asg ⟨rfl, q_cons ?_⟩)
    refine lit_names (K := K) ["x"] fun tx H3 s3 hx => ⟨_, rfl, L, _, rfl, .inl ⟨.inl (.inl (s3 _ _ eL)), fun l hl => ?_⟩⟩
    have sl := same_new (o := .tup [.ref ra, .ref rb, .ref rc, .ref rd, .ref re]) hl
    have el : SqT K (upd H3 l (.tup [.ref ra, .ref rb, .ref rc, .ref rd, .ref re])) l [.ref ra, .ref rb, .ref rc, .ref rd, .ref re] := .inl (.inl upd_same)
    have S3 := S1.trans (s3.trans sl)
    have pp3 := plAll_sim (Sim.of (s3.trans sl)) pp
    have hx3 := sqT_same sl hx
    generalize upd H3 l (.tup [.ref ra, .ref rb, .ref rc, .ref rd, .ref re]) = H4 at el S3 pp3 hx3
    clear s3 sl hl hx pp eL S1
    refine q_cons (lit_names (K := K) [] fun t0 H5 s5 h0 => ?_)
    refine ⟨tx, t0, l, _, ["x"], [], ringRs, ringG, rfl, sqT_same s5 hx3, h0, sqT_same s5 el, plAll_sim (Sim.of s5) pp3, tabG_same (S3.trans s5) ti1, ring_made, fun g H6 s6 hg => ?_⟩
    have S6 := (Sim.of (S3.trans s5)).trans s6
    clear S3 s5 s6 h0 hx3 pp3 el
    -- what is told of it
    dsimp only [gName]
    refine q_seq (q_asg (q_lst (q_cons (q_call ⟨_, rfl, q_cons ?_⟩))))
    refine lit_names (K := K) ["a", "b", "d"] fun t1 H7 s7 h1 => ?_
    have S7 := Sim.of s7
    refine ⟨g, t1, ringG, ["a", "b", "d"], rfl, graphAt_sim S7 hg, ring_ok, ring_ends, h1, by decide, by decide +kernel, (S6.trans S7).tb _ tc1, fun p8 ws8 H8 s8 hp8 cw8 => ?_⟩
    rw [ring_c1] at cw8
    have S8 := S7.trans s8
    refine q_cons (q_call ⟨_, rfl, q_cons ?_⟩)
    refine lit_names (K := K) ["e", "a"] fun t2 H9 s9 h2 => ?_
    have S9 := S8.trans (Sim.of s9)
    refine ⟨g, t2, ringG, ["e", "a"], rfl, graphAt_sim S9 hg, ring_ok, ring_ends, h2, by decide, by decide +kernel, (S6.trans S9).tb _ tc1, fun p10 ws10 H10 s10 hp10 cw10 => ?_⟩
    rw [ring_c2] at cw10
    have S10 := S9.trans s10
    refine q_cons (q_call ⟨_, rfl, q_cons ?_⟩)
    refine lit_names (K := K) ["e", "a"] fun t3 H11 s11 h3 => ?_
    have S11 := S10.trans (Sim.of s11)
    refine ⟨g, t3, ringG, ["e", "a"], rfl, graphAt_sim S11 hg, ring_ok, ring_ends, h3, by decide, by decide +kernel, (S6.trans S11).tb _ tc1, fun H12 s12 => ⟨(by show 3 ≤ sizeLine; decide), fun l1 hl1 => ?_⟩⟩
    rw [ring_a]
    have S12 := S11.trans s12
    have sl1 := same_new (o := .lst [.ref p8, .ref p10, .bl false]) hl1
    have el1 : (upd H12 l1 (.lst [.ref p8, .ref p10, .bl false])) l1 = some (.lst [.ref p8, .ref p10, .bl false]) := upd_same
    have S13 := S12.trans (Sim.of sl1)
    have D1 : Dp K (upd H12 l1 (.lst [.ref p8, .ref p10, .bl false])) (.ref p8) (.tuple []) := dp_sim ((Sim.of s9).trans (s10.trans ((Sim.of s11).trans (s12.trans (Sim.of sl1))))) _ _ (.tup hp8 (compsAt_dp cw8))
    have D2 : Dp K (upd H12 l1 (.lst [.ref p8, .ref p10, .bl false])) (.ref p10) (.tuple [.tuple [.str "q"]]) := dp_sim ((Sim.of s11).trans (s12.trans (Sim.of sl1))) _ _ (.tup hp10 (compsAt_dp cw10))
    generalize upd H12 l1 (.lst [.ref p8, .ref p10, .bl false]) = H13 at el1 S13 D1 D2
    have mp : ("p" : Str) ∈ ringG.ns := by decide +kernel
    have mq : ("q" : Str) ∈ ringG.ns := by decide +kernel
    have mr : ("r" : Str) ∈ ringG.ns := by decide +kernel
    refine ⟨_, rfl, _, rfl, g, "p", "r", ringG, ddR, rfl, graphAt_sim S13 hg, ring_ok, ring_ends, mp, mr, ring_dR, ring_8.1, (S6.trans S13).tb _ tl1, (S6.trans S13).tb _ te1, fun w1 H14 s14 hw1 => ?_⟩
    rw [ring_w1] at hw1
    have S14 := S13.trans s14
    refine ⟨_, rfl, g, "r", "q", ringG, ddQ, rfl, graphAt_sim S14 hg, ring_ok, ring_ends, mr, mq, ring_dQ, ring_8.2, (S6.trans S14).tb _ tl1, (S6.trans S14).tb _ te1, fun w2 H15 s15 hw2 => ?_⟩
    rw [ring_w2] at hw2
    have S15 := S14.trans s15
    refine ⟨_, rfl, g, "q", "q", ringG, ddQ, rfl, graphAt_sim S15 hg, ring_ok, ring_ends, mq, mq, ring_dQ, ring_8.2, (S6.trans S15).tb _ tl1, (S6.trans S15).tb _ te1, fun w3 H16 s16 hw3 => ⟨(by show 3 ≤ sizeLine; decide), fun l2 hl2 => ?_⟩⟩
    rw [ring_w3] at hw3
    have sl2 := same_new (o := .lst [.ref w1, .ref w2, .ref w3]) hl2
    have T16 := s14.trans (s15.trans s16)
    have el1' := sl2 _ _ (T16.st _ _ (nt_lst _) el1)
    have S17 := (S15.trans s16).trans (Sim.of sl2)
    have T17 := T16.trans (Sim.of sl2)
    have hw1' := sqT_same sl2 (sqT_sim (s15.trans s16) hw1)
    have hw2' := sqT_same sl2 (sqT_sim s16 hw2)
    have hw3' := sqT_same sl2 hw3
    have el2 : (upd H16 l2 (.lst [.ref w1, .ref w2, .ref w3])) l2 = some (.lst [.ref w1, .ref w2, .ref w3]) := upd_same
    generalize upd H16 l2 (.lst [.ref w1, .ref w2, .ref w3]) = H17 at el1' S17 T17 hw1' hw2' hw3' el2
    refine ⟨l1, l2, _, _, rfl, rfl, el1', el2, (by show 3 + 3 ≤ sizeLine; decide), fun l3 hl3 => ?_⟩
    have sl3 := same_new (o := .lst ([.ref p8, .ref p10, .bl false] ++ [.ref w1, .ref w2, .ref w3])) hl3
    have el3 : (upd H17 l3 (.lst ([.ref p8, .ref p10, .bl false] ++ [.ref w1, .ref w2, .ref w3]))) l3 = some (.lst ([.ref p8, .ref p10, .bl false] ++ [.ref w1, .ref w2, .ref w3])) := upd_same
    have S18 := S17.trans (Sim.of sl3)
    have DD : Dp K (upd H17 l3 (.lst ([.ref p8, .ref p10, .bl false] ++ [.ref w1, .ref w2, .ref w3]))) (.ref l3) ringD :=
      .lst (.inl (.inl el3)) (.cons (dp_sim (T17.trans (Sim.of sl3)) _ _ D1) (.cons (dp_sim (T17.trans (Sim.of sl3)) _ _ D2) (.cons (.bl false) (.cons (.tup (sqT_same sl3 hw1') (strs_dp ["a", "b"])) (.cons (.tup (sqT_same sl3 hw2') (strs_dp ["c", "a"])) (.cons (.tup (sqT_same sl3 hw3') (strs_dp [])) .nil))))))
    generalize upd H17 l3 (.lst ([.ref p8, .ref p10, .bl false] ++ [.ref w1, .ref w2, .ref w3])) = H18 at S18 DD
    refine ⟨_, rfl, ?_⟩
    refine lit_lst (K := K) (ds := [.tuple [], .tuple [.tuple [.str "q"]], .bool false, .tuple [.str "a", .str "b"], .tuple [.str "c", .str "a"], .tuple []]) (lit_cons (lit_tup lit_nil) (lit_cons (lit_tup (lit_cons (lit_tup (lit_cons (lit_str "q") lit_nil)) lit_nil)) (lit_cons (lit_bl false) (lit_cons (lit_tup (lit_cons (lit_str "a") (lit_cons (lit_str "b") lit_nil))) (lit_cons (lit_tup (lit_cons (lit_str "c") (lit_cons (lit_str "a") lit_nil))) (lit_cons (lit_tup lit_nil) lit_nil)))))) (by decide) _ H18 _ fun v H19 s19 dv => ?_
    refine ⟨ringD, ringD, dp_same s19 _ _ DD, dv, ringD_shaped, ringD_shaped, _, rfl, if_no (by rw [ringD_eqv]; decide) ?_⟩
    have S19 := S18.trans (Sim.of s19)
    -- one state alone
    dsimp only [tNext]
    refine q_ret (q_op (q_call (q_cons ?_)))
    dsimp only [tMakeKG]
    refine q_cons (lit_names (K := K) ["x"] fun c20 H20 s20 h20 => q_nil ?_)
    refine q_cons (lit_names (K := K) ["p"] fun d21 H21 s21 h21 => q_nil ⟨rfl, fun x dx hx hdx ne => ?_⟩)
    have sx : Same H21 (upd (upd H21 dx (.own x)) x (.ins C dx [])) := fun b o e => by
      have n1 : b ≠ x := fun z => by rw [z, hx] at e; cases e
      have n2 : b ≠ dx := fun z => by rw [z, hdx] at e; cases e
      rw [upd_ne n1, upd_ne n2]
      exact e
    have S21 := (S6.trans S19).trans (Sim.of (s20.trans s21))
    refine ⟨x, dx, c20, d21, [], ["x"], ["p"], [], lone11, rfl, rfl, upd_same, sqT_same (s21.trans sx) h20, sqT_same sx h21, .nil, tabG_same sx (S21.tb _ ti1), lone11_made, fun H22 hg2 s22 => ⟨rfl, ?_⟩⟩
    have S22 := S21.trans (sim_made hx hdx s22)
    refine lit_names (K := K) [] fun t23 H23 s23 h23 => ?_
    refine ⟨x, t23, lone11, [], rfl, graphAt_sim (Sim.of s23) hg2, lone11_ok, fun r hr => (by cases hr), h23, Nat.zero_le _, fun n h => (by cases h), (S22.trans (Sim.of s23)).tb _ tc1, fun p24 ws24 H24 s24 hp24 cw24 => ?_⟩
    rw [comps_none] at cw24
    refine lit_tup (K := K) lit_nil (by decide) _ H24 _ fun v H25 s25 dv => ?_
    refine ⟨.tuple [], .tuple [], dp_same s25 _ _ (.tup hp24 (compsAt_dp cw24)), dv, rfl, rfl, ?_⟩
    rw [show PyData.eqv (.tuple []) (.tuple []) = true from PySem.SeqAt.eqv_refl _ (by decide +kernel)]
    exact fin _
end
end Qp

/-! what the top has written -/
namespace Qp
open PySem PySem.Spec PySem.W PyProof.Rows L2 QN
def freeNames : List Str := ["len", "int", "bool", "max", "min", "abs", "isinstance", "tuple", "list", "range", "all", "str", "repr", "sorted", "set", "enumerate", "dict", "any", "sum"]
def freeLook (K : Frag) : Bool := freeNames.all fun x => nsIn K mainGlobals x == some none
theorem free_of {K : Frag} {h : Heap} {mg : Str → Option Value} (X : K.In h) (G : h.Ns mainGlobals mg) (e : freeLook K = true) {x : Str} (hx : x ∈ freeNames) : mg x = none := by
  have z := List.all_eq_true.mp e x hx
  exact mg_none_of X G (beq_iff_eq.mp z)
def fieldNames : List Str := ["_counters", "_states", "_rows", "_names", "_by_name", "_kept"]
def clsLook (K : Frag) (C : Addr) : Bool :=
  plainGet K C Str.empty && hasDictIn K C && plainOver K C && findIn K (.ref C) "__setattr__" == some (some (.builtin "object.__setattr__")) && (fieldNames.all fun x => findIn K (.ref C) x == some none) &&
  makesIn K C && keepIn K (.ref C) && readsIn K C (.type "type") && specialIn K (.ref C) "__getattribute__" == some (some (.builtin "type.__getattribute__"))
def objLook (K : Frag) (C : Addr) : Bool :=
  kitOne K (.ref C) (.ref C) == some true && findIn K (.ref C) "__class__" == some (some (.builtin "object.__class__")) &&
  specialIn K (.builtin "object.__class__") "__get__" == some (some (.builtin "getset_descriptor.__get__")) && takesIn K (.builtin "object.__class__") == some true && mroIn K C (.type "object") == some true
def kindNames : List String := ["NoneType", "tuple", "int", "str"]
def kindLook (K : Frag) (C : Addr) : Bool := (kindNames.all fun t => subIn K (.type t) (.ref C) == some false && kitOne K (.type t) (.ref C) == some false) && findIn K (.ref C) "__ne__" == some (some (.builtin "object.__ne__"))
def fnLook (K : Frag) (fs : List Addr) : Bool := fs.all fun f => isFn K (.ref f)
def propLook (K : Frag) (ps : List Addr) : Bool := ps.all fun p => specialIn K (.ref p) "__get__" == some (some (.builtin "property.__get__")) && takesIn K (.ref p) == some true
def tabsLook (K : Frag) (cs : List (Addr × Addr)) : Bool := cs.all fun p => codeHdIn K p.1 p.2 && (K.lookup p.2).isNone
def allLook (K : Frag) (C gO gG c1 P1 c2 P2 c3 P3 c4 P4 : Addr) (ps fs : List Addr) : Bool := freeLook K && clsLook K C && objLook K C && kindLook K C && fnLook K fs && propLook K ps && fnIn K gO && fnIn K gG && tabsLook K [(c1, P1), (c2, P2), (c3, P3), (c4, P4)]
def spLawT (K : PySem.W.Frag) (cs : List (Addr × Addr)) : Sp := match cs with
  | [a, b, c, d] => spLaw11 K a.2 b.2 c.2 d.2
  | _ => fun _ _ _ _ => False
theorem gx_tab {base : Heap} {mg : Str → Option Value} {c P : Addr} (t : LamX.TabB base mg c P) : GxR.TabB base mg c P := ⟨t.code, t.bm, t.gP⟩
theorem all_mk {p q : Program} {lo : List Str} {mean : ExcName → Option Value} {w : World} {K : Frag} {h : Heap} {mg mb : Str → Option Value} {fa C pO p_states p_names D e0 e1 TD c1 P1 c2 P2 c3 P3 c4 P4 : Addr} {rO r_states r_names : List Value} {tle tml tmc tcc tms tmt : Tok} (Tp : Top q lo mean mg mb h) (X : K.In h) (hfa : mg "law" = some (.ref fa))
    {g0 : Addr} {od0 an0 : Option Addr} {sl0 : Array (Option Value)} {oc0 kV0 dc0 pm0 cd0 ct0 : Value}
    {g1 : Addr} {od1 an1 : Option Addr} {sl1 : Array (Option Value)} {oc1 kV1 dc1 pm1 cd1 ct1 : Value}
    {g2 : Addr} {od2 an2 : Option Addr} {sl2 : Array (Option Value)} {oc2 kV2 dc2 pm2 cd2 ct2 : Value}
    {g3 : Addr} {od3 an3 : Option Addr} {sl3 : Array (Option Value)} {oc3 kV3 dc3 pm3 cd3 ct3 : Value}
    {g4 : Addr} {od4 an4 : Option Addr} {sl4 : Array (Option Value)} {oc4 kV4 dc4 pm4 cd4 ct4 : Value}
    {g5 : Addr} {od5 an5 : Option Addr} {sl5 : Array (Option Value)} {oc5 kV5 dc5 pm5 cd5 ct5 : Value}
    {g6 : Addr} {od6 an6 : Option Addr} {sl6 : Array (Option Value)} {oc6 kV6 dc6 pm6 cd6 ct6 : Value}
    {g7 : Addr} {od7 an7 : Option Addr} {sl7 : Array (Option Value)} {oc7 kV7 dc7 pm7 cd7 ct7 : Value}
    {g8 : Addr} {od8 an8 : Option Addr} {sl8 : Array (Option Value)} {oc8 kV8 dc8 pm8 cd8 ct8 : Value}
    {g9 : Addr} {od9 an9 : Option Addr} {sl9 : Array (Option Value)} {oc9 kV9 dc9 pm9 cd9 ct9 : Value}
    {g10 : Addr} {od10 an10 : Option Addr} {sl10 : Array (Option Value)} {oc10 kV10 dc10 pm10 cd10 ct10 : Value}
    {g11 : Addr} {od11 an11 : Option Addr} {sl11 : Array (Option Value)} {oc11 kV11 dc11 pm11 cd11 ct11 : Value}
    {g12 : Addr} {od12 an12 : Option Addr} {sl12 : Array (Option Value)} {oc12 kV12 dc12 pm12 cd12 ct12 : Value}
    {g13 : Addr} {od13 an13 : Option Addr} {sl13 : Array (Option Value)} {oc13 kV13 dc13 pm13 cd13 ct13 : Value}
    {g14 : Addr} {od14 an14 : Option Addr} {sl14 : Array (Option Value)} {oc14 kV14 dc14 pm14 cd14 ct14 : Value}
    {g15 : Addr} {od15 an15 : Option Addr} {sl15 : Array (Option Value)} {oc15 kV15 dc15 pm15 cd15 ct15 : Value}
    {g16 : Addr} {od16 an16 : Option Addr} {sl16 : Array (Option Value)} {oc16 kV16 dc16 pm16 cd16 ct16 : Value}
    {g17 : Addr} {od17 an17 : Option Addr} {sl17 : Array (Option Value)} {oc17 kV17 dc17 pm17 cd17 ct17 : Value}
    {g18 : Addr} {od18 an18 : Option Addr} {sl18 : Array (Option Value)} {oc18 kV18 dc18 pm18 cd18 ct18 : Value}
    {g19 : Addr} {od19 an19 : Option Addr} {sl19 : Array (Option Value)} {oc19 kV19 dc19 pm19 cd19 ct19 : Value}
    {g20 : Addr} {od20 an20 : Option Addr} {sl20 : Array (Option Value)} {oc20 kV20 dc20 pm20 cd20 ct20 : Value}
    {g21 : Addr} {od21 an21 : Option Addr} {sl21 : Array (Option Value)} {oc21 kV21 dc21 pm21 cd21 ct21 : Value}
    {g22 : Addr} {od22 an22 : Option Addr} {sl22 : Array (Option Value)} {oc22 kV22 dc22 pm22 cd22 ct22 : Value}
    {g23 : Addr} {od23 an23 : Option Addr} {sl23 : Array (Option Value)} {oc23 kV23 dc23 pm23 cd23 ct23 : Value}
    {g24 : Addr} {od24 an24 : Option Addr} {sl24 : Array (Option Value)} {oc24 kV24 dc24 pm24 cd24 ct24 : Value}
    {g25 : Addr} {od25 an25 : Option Addr} {sl25 : Array (Option Value)} {oc25 kV25 dc25 pm25 cd25 ct25 : Value}
    {g26 : Addr} {od26 an26 : Option Addr} {sl26 : Array (Option Value)} {oc26 kV26 dc26 pm26 cd26 ct26 : Value}
    {g27 : Addr} {od27 an27 : Option Addr} {sl27 : Array (Option Value)} {oc27 kV27 dc27 pm27 cd27 ct27 : Value}
    {g28 : Addr} {od28 an28 : Option Addr} {sl28 : Array (Option Value)} {oc28 kV28 dc28 pm28 cd28 ct28 : Value}
    {g29 : Addr} {od29 an29 : Option Addr} {sl29 : Array (Option Value)} {oc29 kV29 dc29 pm29 cd29 ct29 : Value}
    {g30 : Addr} {od30 an30 : Option Addr} {sl30 : Array (Option Value)} {oc30 kV30 dc30 pm30 cd30 ct30 : Value}
    {g31 : Addr} {od31 an31 : Option Addr} {sl31 : Array (Option Value)} {oc31 kV31 dc31 pm31 cd31 ct31 : Value}
    {g32 : Addr} {od32 an32 : Option Addr} {sl32 : Array (Option Value)} {oc32 kV32 dc32 pm32 ct32 : Value}
    {g33 : Addr} {od33 an33 : Option Addr} {sl33 : Array (Option Value)} {oc33 kV33 dc33 pm33 cd33 ct33 : Value}
    {g34 : Addr} {od34 an34 : Option Addr} {sl34 : Array (Option Value)} {oc34 kV34 dc34 pm34 cd34 ct34 : Value}
    {g35 : Addr} {od35 an35 : Option Addr} {sl35 : Array (Option Value)} {oc35 kV35 dc35 pm35 cd35 ct35 : Value}
    {g36 : Addr} {od36 an36 : Option Addr} {sl36 : Array (Option Value)} {oc36 kV36 dc36 pm36 cd36 ct36 : Value}
    {g37 : Addr} {od37 an37 : Option Addr} {sl37 : Array (Option Value)} {oc37 kV37 dc37 pm37 cd37 ct37 : Value}
    {g38 : Addr} {od38 an38 : Option Addr} {sl38 : Array (Option Value)} {oc38 dc38 pm38 ct38 : Value}
    {g39 : Addr} {od39 an39 : Option Addr} {sl39 : Array (Option Value)} {oc39 kV39 dc39 pm39 cd39 ct39 : Value}
    {g40 : Addr} {od40 an40 : Option Addr} {sl40 : Array (Option Value)} {oc40 kV40 dc40 pm40 cd40 ct40 : Value}
    {g41 : Addr} {od41 an41 : Option Addr} {sl41 : Array (Option Value)} {oc41 kV41 dc41 pm41 cd41 ct41 : Value}
    {g42 : Addr} {od42 an42 : Option Addr} {sl42 : Array (Option Value)} {oc42 kV42 dc42 pm42 cd42 ct42 : Value}
    {g43 : Addr} {od43 an43 : Option Addr} {sl43 : Array (Option Value)} {oc43 kV43 dc43 pm43 cd43 ct43 : Value}
    {g44 : Addr} {od44 an44 : Option Addr} {sl44 : Array (Option Value)} {oc44 kV44 dc44 pm44 cd44 ct44 : Value}
    {g45 : Addr} {od45 an45 : Option Addr} {sl45 : Array (Option Value)} {oc45 kV45 dc45 pm45 cd45 ct45 : Value}
    {g46 : Addr} {od46 an46 : Option Addr} {sl46 : Array (Option Value)} {oc46 kV46 dc46 pm46 ct46 : Value}
    {g47 : Addr} {od47 an47 : Option Addr} {sl47 : Array (Option Value)} {oc47 kV47 dc47 pm47 ct47 : Value}
    {cc1 : Value} {co1 : Option Addr} {cv1 : Array Value} {cs1 : Array (Option Value)} {cc2 : Value} {co2 : Option Addr} {cv2 : Array Value} {cs2 : Array (Option Value)} {cc3 : Value} {co3 : Option Addr} {cv3 : Array Value} {cs3 : Array (Option Value)} {cc4 : Value} {co4 : Option Addr} {cv4 : Array Value} {cs4 : Array (Option Value)} {eo0 to0 : Option Addr} {en0 tn0 : Nat} {es0 ts0 : Array (Option Value)}
    (nC : nsIn K mainGlobals "Graph" = some (some (.ref C))) (nLe : nsIn K mainGlobals "_LETTERS" = some (some (.str letters tle))) (nMl : nsIn K mainGlobals "_MAX_LETTERS" = some (some (.int 8 tml))) (nMc : nsIn K mainGlobals "_MAX_CHANGE" = some (some (.int 9 tmc))) (nCc : nsIn K mainGlobals "_MAX_COUNTERS" = some (some (.int 5 tcc))) (nMs : nsIn K mainGlobals "_MAX_STATES" = some (some (.int 8 tms))) (nMt : nsIn K mainGlobals "_MAX_TRANSITIONS" = some (some (.int 16 tmt)))
    (a0 : nsIn K mainGlobals "_law_dice" = some (some (.ref g0))) (l0 : K.lookup g0 = some ⟨oc0, od0, .func (fnOf "_law_dice" "_law_dice" (defArgs sDice) (defBody sDice) (defScope sDice) .none kV0 dc0 pm0 an0 cd0 ct0), sl0⟩) (u0 : codeIn K cd0 "_law_dice" = true) (k0 : keepIn K (.ref g0) = true)
    (a1 : nsIn K mainGlobals "_law_roll" = some (some (.ref g1))) (l1 : K.lookup g1 = some ⟨oc1, od1, .func (fnOf "_law_roll" "_law_roll" (defArgs sRoll) (defBody sRoll) (defScope sRoll) .none kV1 dc1 pm1 an1 cd1 ct1), sl1⟩) (u1 : codeIn K cd1 "_law_roll" = true) (k1 : keepIn K (.ref g1) = true)
    (a2 : nsIn K mainGlobals "_law_one_of" = some (some (.ref g2))) (l2 : K.lookup g2 = some ⟨oc2, od2, .func (fnOf "_law_one_of" "_law_one_of" (defArgs sOne) (defBody sOne) (defScope sOne) .none kV2 dc2 pm2 an2 cd2 ct2), sl2⟩) (u2 : codeIn K cd2 "_law_one_of" = true) (k2 : keepIn K (.ref g2) = true)
    (a3 : nsIn K mainGlobals "_law_mixed" = some (some (.ref g3))) (l3 : K.lookup g3 = some ⟨oc3, od3, .func (fnOf "_law_mixed" "_law_mixed" (defArgs sMixed) (defBody sMixed) (defScope sMixed) .none kV3 dc3 pm3 an3 cd3 ct3), sl3⟩) (u3 : codeIn K cd3 "_law_mixed" = true) (k3 : keepIn K (.ref g3) = true)
    (a4 : nsIn K mainGlobals "_law_change" = some (some (.ref g4))) (l4 : K.lookup g4 = some ⟨oc4, od4, .func (fnOf "_law_change" "_law_change" (defArgs sLChg) (defBody sLChg) (defScope sLChg) .none kV4 dc4 pm4 an4 cd4 ct4), sl4⟩) (u4 : codeIn K cd4 "_law_change" = true) (k4 : keepIn K (.ref g4) = true)
    (a5 : nsIn K mainGlobals "_law_kind" = some (some (.ref g5))) (l5 : K.lookup g5 = some ⟨oc5, od5, .func (fnOf "_law_kind" "_law_kind" (defArgs sLKind) (defBody sLKind) (defScope sLKind) .none kV5 dc5 pm5 an5 cd5 ct5), sl5⟩) (u5 : codeIn K cd5 "_law_kind" = true) (k5 : keepIn K (.ref g5) = true)
    (a6 : nsIn K mainGlobals "_law_words" = some (some (.ref g6))) (l6 : K.lookup g6 = some ⟨oc6, od6, .func (fnOf "_law_words" "_law_words" (defArgs sLWords) (defBody sLWords) (defScope sLWords) .none kV6 dc6 pm6 an6 cd6 ct6), sl6⟩) (u6 : codeIn K cd6 "_law_words" = true) (k6 : keepIn K (.ref g6) = true)
    (a7 : nsIn K mainGlobals "_law_graph" = some (some (.ref g7))) (l7 : K.lookup g7 = some ⟨oc7, od7, .func (fnOf "_law_graph" "_law_graph" (defArgs sLGraph) (defBody sLGraph) (defScope sLGraph) .none kV7 dc7 pm7 an7 cd7 ct7), sl7⟩) (u7 : codeIn K cd7 "_law_graph" = true) (k7 : keepIn K (.ref g7) = true)
    (a8 : nsIn K mainGlobals "_law_built" = some (some (.ref g8))) (l8 : K.lookup g8 = some ⟨oc8, od8, .func (fnOf "_law_built" "_law_built" (defArgs sLBuilt) (defBody sLBuilt) (defScope sLBuilt) .none kV8 dc8 pm8 an8 cd8 ct8), sl8⟩) (u8 : codeIn K cd8 "_law_built" = true) (k8 : keepIn K (.ref g8) = true)
    (a9 : nsIn K mainGlobals "_law_some" = some (some (.ref g9))) (l9 : K.lookup g9 = some ⟨oc9, od9, .func (fnOf "_law_some" "_law_some" (defArgs sLSome) (defBody sLSome) (defScope sLSome) .none kV9 dc9 pm9 an9 cd9 ct9), sl9⟩) (u9 : codeIn K cd9 "_law_some" = true) (k9 : keepIn K (.ref g9) = true)
    (a10 : nsIn K mainGlobals "_law_reached" = some (some (.ref g10))) (l10 : K.lookup g10 = some ⟨oc10, od10, .func (fnOf "_law_reached" "_law_reached" (defArgs sLRe) (defBody sLRe) (defScope sLRe) .none kV10 dc10 pm10 an10 cd10 ct10), sl10⟩) (u10 : codeIn K cd10 "_law_reached" = true) (k10 : keepIn K (.ref g10) = true)
    (a11 : nsIn K mainGlobals "_law_components" = some (some (.ref g11))) (l11 : K.lookup g11 = some ⟨oc11, od11, .func (fnOf "_law_components" "_law_components" (defArgs sLCo) (defBody sLCo) (defScope sLCo) .none kV11 dc11 pm11 an11 cd11 ct11), sl11⟩) (u11 : codeIn K cd11 "_law_components" = true) (k11 : keepIn K (.ref g11) = true)
    (a12 : nsIn K mainGlobals "_law_walks" = some (some (.ref g12))) (l12 : K.lookup g12 = some ⟨oc12, od12, .func (fnOf "_law_walks" "_law_walks" (defArgs sLWk) (defBody sLWk) (defScope sLWk) .none kV12 dc12 pm12 an12 cd12 ct12), sl12⟩) (u12 : codeIn K cd12 "_law_walks" = true) (k12 : keepIn K (.ref g12) = true)
    (a13 : nsIn K mainGlobals "_law_parts_right" = some (some (.ref g13))) (l13 : K.lookup g13 = some ⟨oc13, od13, .func (fnOf "_law_parts_right" "_law_parts_right" (defArgs sLParts) (defBody sLParts) (defScope sLParts) .none kV13 dc13 pm13 an13 cd13 ct13), sl13⟩) (u13 : codeIn K cd13 "_law_parts_right" = true) (k13 : keepIn K (.ref g13) = true)
    (a14 : nsIn K mainGlobals "_law_right" = some (some (.ref g14))) (l14 : K.lookup g14 = some ⟨oc14, od14, .func (fnOf "_law_right" "_law_right" (defArgs sLRight11) (defBody sLRight11) (defScope sLRight11) .none kV14 dc14 pm14 an14 cd14 ct14), sl14⟩) (u14 : codeIn K cd14 "_law_right" = true) (k14 : keepIn K (.ref g14) = true)
    (a15 : nsIn K mainGlobals "law" = some (some (.ref g15))) (l15 : K.lookup g15 = some ⟨oc15, od15, .func (fnOf "law" "law" (defArgs sLaw11) (defBody sLaw11) (defScope sLaw11) .none kV15 dc15 pm15 an15 cd15 ct15), sl15⟩) (u15 : codeIn K cd15 "law" = true) (k15 : keepIn K (.ref g15) = true)
    (a16 : nsIn K mainGlobals "is_name" = some (some (.ref g16))) (l16 : K.lookup g16 = some ⟨oc16, od16, .func (fnOf "is_name" "is_name" (defArgs sIsName) (defBody sIsName) (defScope sIsName) .none kV16 dc16 pm16 an16 cd16 ct16), sl16⟩) (u16 : codeIn K cd16 "is_name" = true) (k16 : keepIn K (.ref g16) = true)
    (a17 : nsIn K mainGlobals "is_tuple_of_names" = some (some (.ref g17))) (l17 : K.lookup g17 = some ⟨oc17, od17, .func (fnOf "is_tuple_of_names" "is_tuple_of_names" (defArgs sIsToN) (defBody sIsToN) (defScope sIsToN) .none kV17 dc17 pm17 an17 cd17 ct17), sl17⟩) (u17 : codeIn K cd17 "is_tuple_of_names" = true) (k17 : keepIn K (.ref g17) = true)
    (a18 : nsIn K mainGlobals "is_integer" = some (some (.ref g18))) (l18 : K.lookup g18 = some ⟨oc18, od18, .func (fnOf "is_integer" "is_integer" (defArgs sIsI) (defBody sIsI) (defScope sIsI) .none kV18 dc18 pm18 an18 cd18 ct18), sl18⟩) (u18 : codeIn K cd18 "is_integer" = true) (k18 : keepIn K (.ref g18) = true)
    (a19 : nsIn K mainGlobals "_is_amount" = some (some (.ref g19))) (l19 : K.lookup g19 = some ⟨oc19, od19, .func (fnOf "_is_amount" "_is_amount" (defArgs sIsAm) (defBody sIsAm) (defScope sIsAm) .none kV19 dc19 pm19 an19 cd19 ct19), sl19⟩) (u19 : codeIn K cd19 "_is_amount" = true) (k19 : keepIn K (.ref g19) = true)
    (a20 : nsIn K mainGlobals "_is_counter_change" = some (some (.ref g20))) (l20 : K.lookup g20 = some ⟨oc20, od20, .func (fnOf "_is_counter_change" "_is_counter_change" (defArgs sIsCC) (defBody sIsCC) (defScope sIsCC) .none kV20 dc20 pm20 an20 cd20 ct20), sl20⟩) (u20 : codeIn K cd20 "_is_counter_change" = true) (k20 : keepIn K (.ref g20) = true)
    (a21 : nsIn K mainGlobals "is_ascending" = some (some (.ref g21))) (l21 : K.lookup g21 = some ⟨oc21, od21, .func (fnOf "is_ascending" "is_ascending" (defArgs sIsAsc) (defBody sIsAsc) (defScope sIsAsc) .none kV21 dc21 pm21 an21 cd21 ct21), sl21⟩) (u21 : codeIn K cd21 "is_ascending" = true) (k21 : keepIn K (.ref g21) = true)
    (a22 : nsIn K mainGlobals "_is_change" = some (some (.ref g22))) (l22 : K.lookup g22 = some ⟨oc22, od22, .func (fnOf "_is_change" "_is_change" (defArgs sIsCh) (defBody sIsCh) (defScope sIsCh) .none kV22 dc22 pm22 an22 cd22 ct22), sl22⟩) (u22 : codeIn K cd22 "_is_change" = true) (k22 : keepIn K (.ref g22) = true)
    (a23 : nsIn K mainGlobals "is_transition" = some (some (.ref g23))) (l23 : K.lookup g23 = some ⟨oc23, od23, .func (fnOf "is_transition" "is_transition" (defArgs sIsTr) (defBody sIsTr) (defScope sIsTr) .none kV23 dc23 pm23 an23 cd23 ct23), sl23⟩) (u23 : codeIn K cd23 "is_transition" = true) (k23 : keepIn K (.ref g23) = true)
    (a24 : nsIn K mainGlobals "reached" = some (some (.ref g24))) (l24 : K.lookup g24 = some ⟨oc24, od24, .func (fnOf "reached" "reached" (defArgs sReached) (defBody sReached) (defScope sReached) .none kV24 dc24 pm24 an24 cd24 ct24), sl24⟩) (u24 : codeIn K cd24 "reached" = true) (k24 : keepIn K (.ref g24) = true)
    (a25 : nsIn K mainGlobals "_are_connected" = some (some (.ref g25))) (l25 : K.lookup g25 = some ⟨oc25, od25, .func (fnOf "_are_connected" "_are_connected" (defArgs sConn) (defBody sConn) (defScope sConn) .none kV25 dc25 pm25 an25 cd25 ct25), sl25⟩) (u25 : codeIn K cd25 "_are_connected" = true) (k25 : keepIn K (.ref g25) = true)
    (a26 : nsIn K mainGlobals "_all_states" = some (some (.ref g26))) (l26 : K.lookup g26 = some ⟨oc26, od26, .func (fnOf "_all_states" "_all_states" (defArgs sAll) (defBody sAll) (defScope sAll) .none kV26 dc26 pm26 an26 cd26 ct26), sl26⟩) (u26 : codeIn K cd26 "_all_states" = true) (k26 : keepIn K (.ref g26) = true)
    (a27 : nsIn K mainGlobals "_is_graph" = some (some (.ref g27))) (l27 : K.lookup g27 = some ⟨oc27, od27, .func (fnOf "_is_graph" "_is_graph" (defArgs sIsG) (defBody sIsG) (defScope sIsG) .none kV27 dc27 pm27 an27 cd27 ct27), sl27⟩) (u27 : codeIn K cd27 "_is_graph" = true) (k27 : keepIn K (.ref g27) = true)
    (a28 : nsIn K mainGlobals "check_graph" = some (some (.ref g28))) (l28 : K.lookup g28 = some ⟨oc28, od28, .func (fnOf "check_graph" "check_graph" (defArgs sChkG) (defBody sChkG) (defScope sChkG) .none kV28 dc28 pm28 an28 cd28 ct28), sl28⟩) (u28 : codeIn K cd28 "check_graph" = true) (k28 : keepIn K (.ref g28) = true)
    (a29 : nsIn K mainGlobals "check_name" = some (some (.ref g29))) (l29 : K.lookup g29 = some ⟨oc29, od29, .func (fnOf "check_name" "check_name" (defArgs sChkN) (defBody sChkN) (defScope sChkN) .none kV29 dc29 pm29 an29 cd29 ct29), sl29⟩) (u29 : codeIn K cd29 "check_name" = true) (k29 : keepIn K (.ref g29) = true)
    (a30 : nsIn K mainGlobals "check_names" = some (some (.ref g30))) (l30 : K.lookup g30 = some ⟨oc30, od30, .func (fnOf "check_names" "check_names" (defArgs sChkNs) (defBody sChkNs) (defScope sChkNs) .none kV30 dc30 pm30 an30 cd30 ct30), sl30⟩) (u30 : codeIn K cd30 "check_names" = true) (k30 : keepIn K (.ref g30) = true)
    (a31 : nsIn K mainGlobals "check_state" = some (some (.ref g31))) (l31 : K.lookup g31 = some ⟨oc31, od31, .func (fnOf "check_state" "check_state" (defArgs sChkSt) (defBody sChkSt) (defScope sChkSt) .none kV31 dc31 pm31 an31 cd31 ct31), sl31⟩) (u31 : codeIn K cd31 "check_state" = true) (k31 : keepIn K (.ref g31) = true)
    (a32 : nsIn K mainGlobals "components" = some (some (.ref g32))) (l32 : K.lookup g32 = some ⟨oc32, od32, .func (fnOf "components" "components" (defArgs sComps) (defBody sComps) (defScope sComps) .none kV32 dc32 pm32 an32 (.ref c2) ct32), sl32⟩) (u32 : codeIn K (.ref c2) "components" = true) (k32 : keepIn K (.ref g32) = true)
    (a33 : nsIn K mainGlobals "is_returning" = some (some (.ref g33))) (l33 : K.lookup g33 = some ⟨oc33, od33, .func (fnOf "is_returning" "is_returning" (defArgs sIsRet) (defBody sIsRet) (defScope sIsRet) .none kV33 dc33 pm33 an33 cd33 ct33), sl33⟩) (u33 : codeIn K cd33 "is_returning" = true) (k33 : keepIn K (.ref g33) = true)
    (a34 : nsIn K mainGlobals "_lies_in_one" = some (some (.ref g34))) (l34 : K.lookup g34 = some ⟨oc34, od34, .func (fnOf "_lies_in_one" "_lies_in_one" (defArgs sLiesOne) (defBody sLiesOne) (defScope sLiesOne) .none kV34 dc34 pm34 an34 cd34 ct34), sl34⟩) (u34 : codeIn K cd34 "_lies_in_one" = true) (k34 : keepIn K (.ref g34) = true)
    (a35 : nsIn K mainGlobals "lies_in" = some (some (.ref g35))) (l35 : K.lookup g35 = some ⟨oc35, od35, .func (fnOf "lies_in" "lies_in" (defArgs sLies) (defBody sLies) (defScope sLies) .none kV35 dc35 pm35 an35 cd35 ct35), sl35⟩) (u35 : codeIn K cd35 "lies_in" = true) (k35 : keepIn K (.ref g35) = true)
    (a36 : nsIn K mainGlobals "way" = some (some (.ref g36))) (l36 : K.lookup g36 = some ⟨oc36, od36, .func (fnOf "way" "way" (defArgs sWay) (defBody sWay) (defScope sWay) .none kV36 dc36 pm36 an36 cd36 ct36), sl36⟩) (u36 : codeIn K cd36 "way" = true) (k36 : keepIn K (.ref g36) = true)
    (a37 : nsIn K mainGlobals "_distances" = some (some (.ref g37))) (l37 : K.lookup g37 = some ⟨oc37, od37, .func (fnOf "_distances" "_distances" (defArgs sDists) (defBody sDists) (defScope sDists) .none kV37 dc37 pm37 an37 cd37 ct37), sl37⟩) (u37 : codeIn K cd37 "_distances" = true) (k37 : keepIn K (.ref g37) = true)
    (a38 : findIn K (.ref C) "__init__" = some (some (.ref g38))) (l38 : K.lookup g38 = some ⟨oc38, od38, .func (fnOf "__init__" "Graph.__init__" (defArgs sGInit) (defBody sGInit) (defScope sGInit) .none (.ref D) dc38 pm38 an38 (.ref c1) ct38), sl38⟩) (u38 : codeIn K (.ref c1) "Graph.__init__" = true) (k38 : keepIn K (.ref g38) = true)
    (a39 : findCls K (.ref C) (.type "type") "of" = some (.get (.builtin "classmethod.__get__") (.ref pO) .none (.ref C))) (r39 : recIn K pO "classmethod" = some (.ref g39 :: rO)) (l39 : K.lookup g39 = some ⟨oc39, od39, .func (fnOf "of" "Graph.of" (defArgs sGOf) (defBody sGOf) (defScope sGOf) (.ref TD) kV39 dc39 pm39 an39 cd39 ct39), sl39⟩) (u39 : codeIn K cd39 "Graph.of" = true) (k39 : keepIn K (.ref g39) = true)
    (a40 : findIn K (.ref C) "states" = some (some (.ref p_states))) (r40 : recIn K p_states "property" = some (.ref g40 :: r_states)) (l40 : K.lookup g40 = some ⟨oc40, od40, .func (fnOf "states" "Graph.states" (defArgs sGSts) (defBody sGSts) (defScope sGSts) .none kV40 dc40 pm40 an40 cd40 ct40), sl40⟩) (u40 : codeIn K cd40 "Graph.states" = true) (k40 : keepIn K (.ref g40) = true)
    (a41 : findIn K (.ref C) "names" = some (some (.ref p_names))) (r41 : recIn K p_names "property" = some (.ref g41 :: r_names)) (l41 : K.lookup g41 = some ⟨oc41, od41, .func (fnOf "names" "Graph.names" (defArgs sGNames) (defBody sGNames) (defScope sGNames) .none kV41 dc41 pm41 an41 cd41 ct41), sl41⟩) (u41 : codeIn K cd41 "Graph.names" = true) (k41 : keepIn K (.ref g41) = true)
    (a42 : findIn K (.ref C) "__getitem__" = some (some (.ref g42))) (l42 : K.lookup g42 = some ⟨oc42, od42, .func (fnOf "__getitem__" "Graph.__getitem__" (defArgs sGGet) (defBody sGGet) (defScope sGGet) .none kV42 dc42 pm42 an42 cd42 ct42), sl42⟩) (u42 : codeIn K cd42 "Graph.__getitem__" = true) (k42 : keepIn K (.ref g42) = true)
    (a43 : findIn K (.ref C) "__contains__" = some (some (.ref g43))) (l43 : K.lookup g43 = some ⟨oc43, od43, .func (fnOf "__contains__" "Graph.__contains__" (defArgs sGCon) (defBody sGCon) (defScope sGCon) .none kV43 dc43 pm43 an43 cd43 ct43), sl43⟩) (u43 : codeIn K cd43 "Graph.__contains__" = true) (k43 : keepIn K (.ref g43) = true)
    (a44 : findIn K (.ref C) "__eq__" = some (some (.ref g44))) (l44 : K.lookup g44 = some ⟨oc44, od44, .func (fnOf "__eq__" "Graph.__eq__" (defArgs sGEq) (defBody sGEq) (defScope sGEq) .none kV44 dc44 pm44 an44 cd44 ct44), sl44⟩) (u44 : codeIn K cd44 "Graph.__eq__" = true) (k44 : keepIn K (.ref g44) = true)
    (a45 : findIn K (.ref C) "_check_state" = some (some (.ref g45))) (l45 : K.lookup g45 = some ⟨oc45, od45, .func (fnOf "_check_state" "Graph._check_state" (defArgs sGChk) (defBody sGChk) (defScope sGChk) .none kV45 dc45 pm45 an45 cd45 ct45), sl45⟩) (u45 : codeIn K cd45 "Graph._check_state" = true) (k45 : keepIn K (.ref g45) = true)
    (a46 : findIn K (.ref C) "leaving" = some (some (.ref g46))) (l46 : K.lookup g46 = some ⟨oc46, od46, .func (fnOf "leaving" "Graph.leaving" (defArgs sGLv) (defBody sGLv) (defScope sGLv) .none kV46 dc46 pm46 an46 (.ref c3) ct46), sl46⟩) (u46 : codeIn K (.ref c3) "Graph.leaving" = true) (k46 : keepIn K (.ref g46) = true)
    (a47 : findIn K (.ref C) "entering" = some (some (.ref g47))) (l47 : K.lookup g47 = some ⟨oc47, od47, .func (fnOf "entering" "Graph.entering" (defArgs sGEn) (defBody sGEn) (defScope sGEn) .none kV47 dc47 pm47 an47 (.ref c4) ct47), sl47⟩) (u47 : codeIn K (.ref c4) "Graph.entering" = true) (k47 : keepIn K (.ref g47) = true)
    (j1 : K.lookup c1 = some ⟨cc1, co1, .fields cv1, cs1⟩) (i1 : cv1[11]? = some (.ref P1)) (em1 : h.get? P1 = some emptyTab)
    (j2 : K.lookup c2 = some ⟨cc2, co2, .fields cv2, cs2⟩) (i2 : cv2[11]? = some (.ref P2)) (em2 : h.get? P2 = some emptyTab)
    (j3 : K.lookup c3 = some ⟨cc3, co3, .fields cv3, cs3⟩) (i3 : cv3[11]? = some (.ref P3)) (em3 : h.get? P3 = some emptyTab)
    (j4 : K.lookup c4 = some ⟨cc4, co4, .fields cv4, cs4⟩) (i4 : cv4[11]? = some (.ref P4)) (em4 : h.get? P4 = some emptyTab)
    (nD : nsIn K D "states" = some (some (.ref e0))) (le0 : K.lookup e0 = some ⟨.type "tuple", eo0, .seq #[] en0, es0⟩) (lT : K.lookup TD = some ⟨.type "tuple", to0, .seq #[.ref e1] tn0, ts0⟩)
    (look : allLook K C g39 g42 c1 P1 c2 P2 c3 P3 c4 P4 [p_states, p_names] [g38, g42, g43, g44, g45, g46, g47] = true) :
    ∃ (fd : FuncData) (cs : List (Addr × Addr)), (∀ b ∈ cs.map (·.2), h.get? b = some emptyTab) ∧ (∀ b ∈ cs.map (·.2), K.lookup b = none) ∧ (∀ p ∈ cs, PySem.W.CodeHd h p.1 p.2) ∧ (∀ (s : Shared) (u : Value), BindsTo s fd ⟨[u], []⟩ [("_law_script", u)]) ∧
        (∀ (H : Hp) (a : Addr) (ns : List Int), ns.length ≤ 63 → (∀ z ∈ ns, Builtin.Int.intBits z ≤ 1048576) → (∀ p ∈ cs, H p.2 = some (.tbl #[])) → SqL K H a (ns.map V.int) → spLawT K cs [.ref a] H (fun v _ => v = .bl true) fun _ _ _ => False) ∧
        ∀ base : Heap, K.In base → base.Ns mainGlobals mg → (∀ p ∈ cs, LamX.TabB base mg p.1 p.2) → FnG p w K mg base 12 fa fd ["_law_script"] (spLawT K cs) := by
  have G := Tp.g
  have e := hfa.symm.trans (mg_of X G a15)
  cases e
  unfold allLook at look
  simp only [Bool.and_eq_true] at look
  obtain ⟨⟨⟨⟨⟨⟨⟨⟨q1, q2⟩, q3⟩, qk⟩, q4⟩, q5⟩, q7⟩, q8⟩, q9⟩ := look
  unfold clsLook at q2
  unfold objLook at q3
  unfold kindLook at qk
  unfold fnLook at q4
  unfold propLook at q5
  unfold tabsLook at q9
  simp only [Bool.and_eq_true, beq_iff_eq] at q2 q3 qk
  obtain ⟨⟨⟨⟨⟨⟨⟨⟨w1, w2⟩, w3⟩, w4⟩, w5⟩, w6⟩, w7⟩, w8⟩, w9⟩ := q2
  obtain ⟨⟨⟨⟨o1, o2⟩, o3⟩, o4⟩, o5⟩ := q3
  obtain ⟨qk, hne⟩ := qk
  have KG : ∀ t ∈ kindNames, subIn K (.type t) (.ref C) = some false ∧ kitOne K (.type t) (.ref C) = some false := fun t ht => by
    have z := List.all_eq_true.mp qk t ht
    simpa only [Bool.and_eq_true, beq_iff_eq] using z
  have pr : ∀ {p : Addr}, p ∈ [p_states, p_names] → specialIn K (.ref p) "__get__" = some (some (.builtin "property.__get__")) ∧ takesIn K (.ref p) = some true := fun {p} hp => by
    have z := List.all_eq_true.mp q5 p hp
    simpa only [Bool.and_eq_true, beq_iff_eq] using z
  have fn : ∀ {f : Addr}, f ∈ [g38, g42, g43, g44, g45, g46, g47] → isFn K (.ref f) = true := fun {f} hf => List.all_eq_true.mp q4 f hf
  have fr : ∀ {x : Str}, x ∈ freeNames → mg x = none := fun {x} hx => free_of X G q1 hx
  have tb9 : ∀ z ∈ [(c1, P1), (c2, P2), (c3, P3), (c4, P4)], codeHdIn K z.1 z.2 = true ∧ K.lookup z.2 = none := fun z hz => by
    have y := List.all_eq_true.mp q9 z hz
    simpa only [Bool.and_eq_true, Option.isNone_iff_eq_none] using y
  have t1 : K.lookup P1 = none := (tb9 (c1, P1) (by simp)).2
  have t2 : K.lookup P2 = none := (tb9 (c2, P2) (by simp)).2
  have t3 : K.lookup P3 = none := (tb9 (c3, P3) (by simp)).2
  have t4 : K.lookup P4 = none := (tb9 (c4, P4) (by simp)).2
  have na : ∀ {x : Str}, x ∈ fieldNames → NoAttr K C x := fun {x} hx => beq_iff_eq.mp (List.all_eq_true.mp w5 x hx)
  have B1 : Blt mg := ⟨fr (by decide), fr (by decide), fr (by decide), fr (by decide)⟩
  have BP : BltP mg := ⟨fr (by decide), fr (by decide), fr (by decide), fr (by decide), fr (by decide), fr (by decide), fr (by decide), fr (by decide)⟩
  have B2 : Blt2 mg := ⟨fr (by decide), fr (by decide), fr (by decide)⟩
  have so : mg "sorted" = none := fr (by decide)
  have L1 : Lim mg := ⟨⟨_, mg_of X G nLe⟩, ⟨_, mg_of X G nMl⟩⟩
  have L2' : Lim2 mg := ⟨⟨_, mg_of X G nMc⟩⟩
  have L3 : Lim3 mg := ⟨⟨_, mg_of X G nCc⟩, ⟨_, mg_of X G nMs⟩, ⟨_, mg_of X G nMt⟩, fr (by decide), so⟩
  have T : GraphC K mg C := ⟨mg_of X G nC, ⟨w1, w2, w3, w4⟩, na (by decide), na (by decide), na (by decide), na (by decide), na (by decide), na (by decide)⟩
  have O : GraphO K C := ⟨o1, o2, o3, o4, o5⟩
  have h0 := mg_of X G a0
  have F0 := fun_mk (st := sDice) l0 u0 k0
  have bi0 := F0.binds (ps := ["_law_script", "_law_at"]) fun _ _ _ _ _ _ us hl => match us, hl with | [_, _], _ => rfl
  have h1 := mg_of X G a1
  have F1 := fun_mk (st := sRoll) l1 u1 k1
  have bi1 := F1.binds (ps := ["_law_dice_here", "_law_total"]) fun _ _ _ _ _ _ us hl => match us, hl with | [_, _], _ => rfl
  have h2 := mg_of X G a2
  have F2 := fun_mk (st := sOne) l2 u2 k2
  have bi2 := F2.binds (ps := ["_law_dice_here", "_law_items"]) fun _ _ _ _ _ _ us hl => match us, hl with | [_, _], _ => rfl
  have h3 := mg_of X G a3
  have F3 := fun_mk (st := sMixed) l3 u3 k3
  have bi3 := F3.binds (ps := ["_law_dice_here", "_law_items"]) fun _ _ _ _ _ _ us hl => match us, hl with | [_, _], _ => rfl
  have h4 := mg_of X G a4
  have F4 := fun_mk (st := sLChg) l4 u4 k4
  have bi4 := F4.binds (ps := ["_law_dice_here", "_law_counters"]) fun _ _ _ _ _ _ us hl => match us, hl with | [_, _], _ => rfl
  have h5 := mg_of X G a5
  have F5 := fun_mk (st := sLKind) l5 u5 k5
  have bi5 := F5.binds (ps := ["_law_dice_here", "_law_counters"]) fun _ _ _ _ _ _ us hl => match us, hl with | [_, _], _ => rfl
  have h6 := mg_of X G a6
  have F6 := fun_mk (st := sLWords) l6 u6 k6
  have bi6 := F6.binds (ps := ["_law_dice_here", "_law_much"]) fun _ _ _ _ _ _ us hl => match us, hl with | [_, _], _ => rfl
  have h7 := mg_of X G a7
  have F7 := fun_mk (st := sLGraph) l7 u7 k7
  have bi7 := F7.binds (ps := ["_law_dice_here", "_law_most_states", "_law_most_counters", "_law_more"]) fun _ _ _ _ _ _ us hl => match us, hl with | [_, _, _, _], _ => rfl
  have h8 := mg_of X G a8
  have F8 := fun_mk (st := sLBuilt) l8 u8 k8
  have bi8 := F8.binds (ps := ["_law_plain"]) fun _ _ _ _ _ _ us hl => match us, hl with | [_], _ => rfl
  have h9 := mg_of X G a9
  have F9 := fun_mk (st := sLSome) l9 u9 k9
  have bi9 := F9.binds (ps := ["_law_dice_here", "_law_items"]) fun _ _ _ _ _ _ us hl => match us, hl with | [_, _], _ => rfl
  have h10 := mg_of X G a10
  have F10 := fun_mk (st := sLRe) l10 u10 k10
  have bi10 := F10.binds (ps := ["_law_rows", "_law_node"]) fun _ _ _ _ _ _ us hl => match us, hl with | [_, _], _ => rfl
  have h11 := mg_of X G a11
  have F11 := fun_mk (st := sLCo) l11 u11 k11
  have bi11 := F11.binds (ps := ["_law_plain", "_law_names"]) fun _ _ _ _ _ _ us hl => match us, hl with | [_, _], _ => rfl
  have h12 := mg_of X G a12
  have F12 := fun_mk (st := sLWk) l12 u12 k12
  have bi12 := F12.binds (ps := ["_law_plain", "_law_node", "_law_other", "_law_upto"]) fun _ _ _ _ _ _ us hl => match us, hl with | [_, _, _, _], _ => rfl
  have h13 := mg_of X G a13
  have F13 := fun_mk (st := sLParts) l13 u13 k13
  have bi13 := F13.binds (ps := ["_law_dice_here", "_law_thing", "_law_plain"]) fun _ _ _ _ _ _ us hl => match us, hl with | [_, _, _], _ => rfl
  have h14 := mg_of X G a14
  have F14 := fun_mk (st := sLRight11) l14 u14 k14
  have bi14 := F14.binds (ps := ["_law_dice_here"]) fun _ _ _ _ _ _ us hl => match us, hl with | [_], _ => rfl
  have h15 := mg_of X G a15
  have F15 := fun_mk (st := sLaw11) l15 u15 k15
  have h16 := mg_of X G a16
  have F16 := fun_mk (st := sIsName) l16 u16 k16
  have bi16 := F16.binds (ps := ["value"]) fun _ _ _ _ _ _ us hl => match us, hl with | [_], _ => rfl
  have h17 := mg_of X G a17
  have F17 := fun_mk (st := sIsToN) l17 u17 k17
  have bi17 := F17.binds (ps := ["value"]) fun _ _ _ _ _ _ us hl => match us, hl with | [_], _ => rfl
  have h18 := mg_of X G a18
  have F18 := fun_mk (st := sIsI) l18 u18 k18
  have bi18 := F18.binds (ps := ["value"]) fun _ _ _ _ _ _ us hl => match us, hl with | [_], _ => rfl
  have h19 := mg_of X G a19
  have F19 := fun_mk (st := sIsAm) l19 u19 k19
  have bi19 := F19.binds (ps := ["value"]) fun _ _ _ _ _ _ us hl => match us, hl with | [_], _ => rfl
  have h20 := mg_of X G a20
  have F20 := fun_mk (st := sIsCC) l20 u20 k20
  have bi20 := F20.binds (ps := ["value"]) fun _ _ _ _ _ _ us hl => match us, hl with | [_], _ => rfl
  have h21 := mg_of X G a21
  have F21 := fun_mk (st := sIsAsc) l21 u21 k21
  have bi21 := F21.binds (ps := ["values"]) fun _ _ _ _ _ _ us hl => match us, hl with | [_], _ => rfl
  have h22 := mg_of X G a22
  have F22 := fun_mk (st := sIsCh) l22 u22 k22
  have bi22 := F22.binds (ps := ["value"]) fun _ _ _ _ _ _ us hl => match us, hl with | [_], _ => rfl
  have h23 := mg_of X G a23
  have F23 := fun_mk (st := sIsTr) l23 u23 k23
  have bi23 := F23.binds (ps := ["value"]) fun _ _ _ _ _ _ us hl => match us, hl with | [_], _ => rfl
  have h24 := mg_of X G a24
  have F24 := fun_mk (st := sReached) l24 u24 k24
  have bi24 := F24.binds (ps := ["links", "state"]) fun _ _ _ _ _ _ us hl => match us, hl with | [_, _], _ => rfl
  have h25 := mg_of X G a25
  have F25 := fun_mk (st := sConn) l25 u25 k25
  have bi25 := F25.binds (ps := ["states", "transitions"]) fun _ _ _ _ _ _ us hl => match us, hl with | [_, _], _ => rfl
  have h26 := mg_of X G a26
  have F26 := fun_mk (st := sAll) l26 u26 k26
  have bi26 := F26.binds (ps := ["transitions", "states"]) fun _ _ _ _ _ _ us hl => match us, hl with | [_, _], _ => rfl
  have h27 := mg_of X G a27
  have F27 := fun_mk (st := sIsG) l27 u27 k27
  have bi27 := F27.binds (ps := ["counters", "transitions", "states"]) fun _ _ _ _ _ _ us hl => match us, hl with | [_, _, _], _ => rfl
  have h28 := mg_of X G a28
  have F28 := fun_mk (st := sChkG) l28 u28 k28
  have bi28 := F28.binds (ps := ["graph"]) fun _ _ _ _ _ _ us hl => match us, hl with | [_], _ => rfl
  have h29 := mg_of X G a29
  have F29 := fun_mk (st := sChkN) l29 u29 k29
  have bi29 := F29.binds (ps := ["graph", "name"]) fun _ _ _ _ _ _ us hl => match us, hl with | [_, _], _ => rfl
  have h30 := mg_of X G a30
  have F30 := fun_mk (st := sChkNs) l30 u30 k30
  have bi30 := F30.binds (ps := ["graph", "names"]) fun _ _ _ _ _ _ us hl => match us, hl with | [_, _], _ => rfl
  have h31 := mg_of X G a31
  have F31 := fun_mk (st := sChkSt) l31 u31 k31
  have bi31 := F31.binds (ps := ["graph", "state"]) fun _ _ _ _ _ _ us hl => match us, hl with | [_, _], _ => rfl
  have h32 := mg_of X G a32
  have F32 := fun_mk (st := sComps) l32 u32 k32
  have bi32 := F32.binds (ps := ["graph", "names"]) fun _ _ _ _ _ _ us hl => match us, hl with | [_, _], _ => rfl
  have h33 := mg_of X G a33
  have F33 := fun_mk (st := sIsRet) l33 u33 k33
  have bi33 := F33.binds (ps := ["graph", "names"]) fun _ _ _ _ _ _ us hl => match us, hl with | [_, _], _ => rfl
  have h34 := mg_of X G a34
  have F34 := fun_mk (st := sLiesOne) l34 u34 k34
  have bi34 := F34.binds (ps := ["graph", "name", "parts"]) fun _ _ _ _ _ _ us hl => match us, hl with | [_, _, _], _ => rfl
  have h35 := mg_of X G a35
  have F35 := fun_mk (st := sLies) l35 u35 k35
  have bi35 := F35.binds (ps := ["graph", "name", "part"]) fun _ _ _ _ _ _ us hl => match us, hl with | [_, _, _], _ => rfl
  have h36 := mg_of X G a36
  have F36 := fun_mk (st := sWay) l36 u36 k36
  have bi36 := F36.binds (ps := ["graph", "state", "other"]) fun _ _ _ _ _ _ us hl => match us, hl with | [_, _, _], _ => rfl
  have h37 := mg_of X G a37
  have F37 := fun_mk (st := sDists) l37 u37 k37
  have bi37 := F37.binds (ps := ["graph", "other"]) fun _ _ _ _ _ _ us hl => match us, hl with | [_, _], _ => rfl
  have F40 := fun_mk (st := sGSts) l40 u40 k40
  have bi40 := F40.binds (ps := ["self"]) fun _ _ _ _ _ _ us hl => match us, hl with | [_], _ => rfl
  have F41 := fun_mk (st := sGNames) l41 u41 k41
  have bi41 := F41.binds (ps := ["self"]) fun _ _ _ _ _ _ us hl => match us, hl with | [_], _ => rfl
  have F42 := fun_mk (st := sGGet) l42 u42 k42
  have bi42 := F42.binds (ps := ["self", "at"]) fun _ _ _ _ _ _ us hl => match us, hl with | [_, _], _ => rfl
  have F43 := fun_mk (st := sGCon) l43 u43 k43
  have bi43 := F43.binds (ps := ["self", "x"]) fun _ _ _ _ _ _ us hl => match us, hl with | [_, _], _ => rfl
  have F44 := fun_mk (st := sGEq) l44 u44 k44
  have bi44 := F44.binds (ps := ["self", "other"]) fun _ _ _ _ _ _ us hl => match us, hl with | [_, _], _ => rfl
  have F45 := fun_mk (st := sGChk) l45 u45 k45
  have bi45 := F45.binds (ps := ["self", "state"]) fun _ _ _ _ _ _ us hl => match us, hl with | [_, _], _ => rfl
  have F46 := fun_mk (st := sGLv) l46 u46 k46
  have bi46 := F46.binds (ps := ["self", "state"]) fun _ _ _ _ _ _ us hl => match us, hl with | [_, _], _ => rfl
  have F47 := fun_mk (st := sGEn) l47 u47 k47
  have bi47 := F47.binds (ps := ["self", "state"]) fun _ _ _ _ _ _ us hl => match us, hl with | [_, _], _ => rfl
  have FO : FunD K "of" "Graph.of" (defArgs sGOf) (defBody sGOf) (defScope sGOf) [.ref e1] [] g39 (fnOf "of" "Graph.of" (defArgs sGOf) (defBody sGOf) (defScope sGOf) (.ref TD) kV39 dc39 pm39 an39 cd39 ct39) :=
    ⟨⟨_, _, _, _, _, _, _, _, _, _, rfl, l39, u39, .inr ⟨by simp, TD, _, [.ref e1], _, rfl, lT, rfl, .cons rfl .nil⟩, .inl rfl⟩, k39⟩
  obtain ⟨ds, vds, bO⟩ := FO.binds1 (ps := gOnames) 4 1 (by simp) rfl fun T kV doc pm an cdv ct us its hu hi => match us, its, hu, hi with | [_, _, _, _], [_], _, _ => ⟨_, by with_unfolding_all rfl, by with_unfolding_all rfl⟩
  cases (show Vals [] ds from vds)
  have he : ∀ H, SqT K H e0 [] := fun H => .inr ⟨_, #[], en0, le0, rfl, rfl, Nat.zero_le _, .nil⟩
  refine ⟨fnOf "law" "law" (defArgs sLaw11) (defBody sLaw11) (defScope sLaw11) .none kV15 dc15 pm15 an15 cd15 ct15, [(c1, P1), (c2, P2), (c3, P3), (c4, P4)], ?_, ?_, ?_, fun s v => .of_eq rfl, ?_, fun base _ _ tb => ?_⟩
  · intro b hb
    simp only [List.map_cons, List.map_nil, List.mem_cons, List.not_mem_nil, or_false] at hb
    rcases hb with rfl | rfl | rfl | rfl
    · exact em1
    · exact em2
    · exact em3
    · exact em4
  · intro b hb
    simp only [List.map_cons, List.map_nil, List.mem_cons, List.not_mem_nil, or_false] at hb
    rcases hb with rfl | rfl | rfl | rfl
    · exact t1
    · exact t2
    · exact t3
    · exact t4
  · intro z hz
    exact codeHd_of_K X (tb9 z hz).1
  · intro H a ns _ _ ht hS
    exact ⟨a, ns, rfl, hS, ⟨_, ht (c1, P1) (by simp), True.intro⟩, ⟨_, ht (c2, P2) (by simp), True.intro⟩, ⟨_, ht (c3, P3) (by simp), True.intro⟩, ⟨_, ht (c4, P4) (by simp), True.intro⟩, fun _ => rfl⟩
  have T1 := gx_tab (tb (c1, P1) (by simp))
  have T2 := gx_tab (tb (c2, P2) (by simp))
  have T3 := gx_tab (tb (c3, P3) (by simp))
  have T4 := gx_tab (tb (c4, P4) (by simp))
  have GNm := ok_isName (P := p) (w := w) (base := base) (mg := mg) F16 BP L1
  have GTn := ok_isToN (P := p) (w := w) (base := base) (mg := mg) F17 GNm k16 bi16 h16 BP
  have GIn := ok_isI (P := p) (w := w) (base := base) (mg := mg) F18 BP
  have GAm := ok_isAm (P := p) (w := w) (base := base) (mg := mg) F19 GIn k18 bi18 h18 L2'
  have GCC := ok_isCC (P := p) (w := w) (base := base) (mg := mg) F20 GNm k16 bi16 h16 GAm k19 bi19 h19 BP
  have GAs := ok_isAsc (P := p) (w := w) (base := base) (mg := mg) F21 BP
  have GCh := ok_isCh (P := p) (w := w) (base := base) (mg := mg) F22 GCC k20 bi20 h20 GAs k21 bi21 h21 BP
  have GTr := ok_isTr (P := p) (w := w) (base := base) (mg := mg) F23 GNm k16 bi16 h16 GCh k22 bi22 h22 BP
  have GRe := ok_reached (P := p) (w := w) (base := base) (mg := mg) F24
  have GCo := ok_conn (P := p) (w := w) (base := base) (mg := mg) F25 GRe k24 bi24 h24 BP
  have GAl := ok_all (P := p) (w := w) (base := base) (mg := mg) F26 (fr (by decide)) so
  have GIg := ok_isG (P := p) (w := w) (base := base) (mg := mg) F27 GTn k17 bi17 h17 GTr k23 bi23 h23 GAl k26 bi26 h26 GCo k25 bi25 h25 BP L3
  have GK := init_kw (P := p) (w := w) (base := base) (mg := mg) l38 u38 GAl k26 bi26 h26 GIg k27 bi27 h27 BP L3 T T1
  have MI : Mk K C g38 := ⟨w6, a38, fn (by simp), w7⟩
  have ROf := Qp.FnOk.toR0 (ok_gof (P := p) (w := w) (base := base) (mg := mg) FO MI GK BP) bO
  have CR : ClX.CRead K C (.type "type") := ⟨w8, w9⟩
  have CM : ClX.CMet K C (.type "type") "of" pO g39 := ⟨a39, ⟨rO, r39⟩, q7⟩
  have PR_states : PropOf K C "states" p_states g40 := ⟨a40, (pr (by simp)).1, (pr (by simp)).2, r_states, r40⟩
  have G_states := ok_gsts (P := p) (w := w) (base := base) (mg := mg) F40 T
  have PR_names : PropOf K C "names" p_names g41 := ⟨a41, (pr (by simp)).1, (pr (by simp)).2, r_names, r41⟩
  have G_names := ok_gnames (P := p) (w := w) (base := base) (mg := mg) F41 T
  have RCon := Qp.FnOk.toR0 (ok_gcon (P := p) (w := w) (base := base) (mg := mg) F43 T BP (fr (by decide))) bi43
  have M__contains__ : OMeth K C "__contains__" g43 := ⟨a43, fn (by simp)⟩
  have R__getitem__ := Qp.FnOk.toR0 (ok_gget (P := p) (w := w) (base := base) (mg := mg) F42 T M__contains__ RCon) bi42
  have M__getitem__ : OMeth K C "__getitem__" g42 := ⟨a42, fn (by simp)⟩
  have M__eq__ : OMeth K C "__eq__" g44 := ⟨a44, fn (by simp)⟩
  have REq := Qp.FnOk.toR0 (ok_geq (P := p) (w := w) (base := base) (mg := mg) F44 T O BP) bi44
  have R_check_state := Qp.FnOk.toR0 (ok_gchk (P := p) (w := w) (base := base) (mg := mg) F45 T) bi45
  have M_check_state : Meth K C "_check_state" g45 := ⟨a45, fn (by simp), k45⟩
  have Rleaving := Qp.FnOk.toR0 (ok_gleave (P := p) (w := w) (base := base) (mg := mg) l46 u46 T BP M_check_state R_check_state T3) bi46
  have Mleaving : Meth K C "leaving" g46 := ⟨a46, fn (by simp), k46⟩
  have Rentering := Qp.FnOk.toR0 (ok_genter (P := p) (w := w) (base := base) (mg := mg) l47 u47 T BP M_check_state R_check_state T4) bi47
  have Mentering : Meth K C "entering" g47 := ⟨a47, fn (by simp), k47⟩
  have GD := ok_dice (P := p) (w := w) (base := base) (mg := mg) F0 B1
  have GR := ok_roll (P := p) (w := w) (base := base) (mg := mg) F1 B1
  have GO := ok_one (P := p) (w := w) (base := base) (mg := mg) F2 F1 bi1 h1 B1
  have GM := ok_mixed (P := p) (w := w) (base := base) (mg := mg) F3 GR k1 bi1 h1 B1 B2
  have GLc := ok_lchg (P := p) (w := w) (base := base) (mg := mg) F4 GO k2 bi2 h2 BP B2 so
  have GLk := ok_lkind (P := p) (w := w) (base := base) (mg := mg) F5 GO k2 bi2 h2 GR k1 bi1 h1 GLc k4 bi4 h4 BP so
  have GLw := ok_lwords (P := p) (w := w) (base := base) (mg := mg) F6 GM k3 bi3 h3
  have GLg := ok_lgraph (P := p) (w := w) (base := base) (mg := mg) (mc := 2) (mo := 5) (by decide) (by decide) (by decide) (by decide) F7 GO k2 bi2 h2 GR k1 bi1 h1 GM k3 bi3 h3 GLk k5 bi5 h5 GLw k6 bi6 h6 BP B2 so (fr (by decide))
  have GCk := ok_chkG (P := p) (w := w) (base := base) (mg := mg) F28 T O BP
  have GCn := ok_chkN (P := p) (w := w) (base := base) (mg := mg) F29 M__contains__ RCon
  have GCs := ok_chkNs (P := p) (w := w) (base := base) (mg := mg) F30 GCn k29 bi29 h29 BP
  have GCt := ok_chkSt (P := p) (w := w) (base := base) (mg := mg) F31 T PR_states G_states bi40
  have GLi := ok_lies (P := p) (w := w) (base := base) (mg := mg) F35 M__getitem__ q8 R__getitem__
  have GRx := ok_reachedX (P := p) (w := w) (base := base) (mg := mg) F24
  have GCm := ok_comps (P := p) (w := w) (base := base) (mg := mg) l32 u32 T GCk k28 bi28 h28 GCs k30 bi30 h30 GRx k24 bi24 h24 M__getitem__ q8 R__getitem__ PR_states G_states bi40 T2 BP (fr (by decide))
  have GL1 := ok_lies1 (P := p) (w := w) (base := base) (mg := mg) F34 GLi k35 bi35 h35 (fr (by decide))
  have GIr := ok_isRet (P := p) (w := w) (base := base) (mg := mg) F33 GCm k32 bi32 h32 GL1 k34 bi34 h34 BP
  have GDs := ok_dists (P := p) (w := w) (base := base) (mg := mg) F37 T Mentering Rentering M__getitem__ q8 R__getitem__ so (fr (by decide))
  have GWy := ok_way (P := p) (w := w) (base := base) (mg := mg) F36 T GCk k28 bi28 h28 GCt k31 bi31 h31 GDs k37 bi37 h37 Mleaving Rleaving M__getitem__ q8 R__getitem__ BP
  have GLs := ok_lsome (P := p) (w := w) (base := base) (mg := mg) F9 GR k1 bi1 h1 GM k3 bi3 h3 BP
  have GLre := ok_lre (P := p) (w := w) (base := base) (mg := mg) F10 BP so
  have GLco := ok_lco (P := p) (w := w) (base := base) (mg := mg) F11 GLre k10 bi10 h10 BP so
  have GLwk := ok_lwk (P := p) (w := w) (base := base) (mg := mg) F12 BP B2 so
  have GPr := ok_lparts (P := p) (w := w) (base := base) (mg := mg) F13 GLs k9 bi9 h9 GM k3 bi3 h3 GLco k11 bi11 h11 GCm k32 bi32 h32 GIr k33 bi33 h33 BP B2 (fr (by decide)) so
  have GLb := ok_lbuilt (P := p) (w := w) (base := base) (mg := mg) F8 T CR CM ROf
  have GRt := ok_lright11 (P := p) (w := w) (base := base) (mg := mg) F14 T GLg k7 bi7 h7 GLb k8 bi8 h8 GPr k13 bi13 h13 GCm k32 bi32 h32 GIr k33 bi33 h33 GWy k36 bi36 h36 GLwk k12 bi12 h12 PR_names G_names bi41 M__eq__ REq BP B2 (fr (by decide))
  exact ok_law11 (P := p) (w := w) (base := base) (mg := mg) F15 T MI GK CR CM ROf GCm k32 bi32 h32 GIr k33 bi33 h33 GWy k36 bi36 h36 GD k0 bi0 h0 GRt k14 bi14 h14 BP B2 (fr (by decide)) (fr (by decide))
end Qp

open PySem PySem.W PyProof.Rows
-- the head also looks at the tables of the code of methods with generator expressions: they stand empty
local macro_rules | `(tactic| o_head ($_ $k $a $e)) => `(tactic| o_head (kmHook $k $a $e [159, 360, 262, 269]))
set_option maxRecDepth 100000 in
set_option maxHeartbeats 0 in
theorem PySem.Challenge.cw_loopgrowth_k11_components_and_ways_holds : PySem.Challenge.rw_loopgrowth_k11_components_and_ways.Holds := by
  w_on; o_law; k_head; (case hw => w_witness2)
  k_fill
  refine QN.row_goesT (l := PySem.Challenge.rw_loopgrowth_k11_components_and_ways) (n := 63) (k := 12) (x := "_law_script") (sp := Qp.spLawT) rfl (by decide) rfl ⟨rfl, by decide, by decide⟩ (fun w h Y => PySem.W.km_in_of Y) ?F
  case F =>
    intro w mg mb fa h Y KX T hmg
    obtain ⟨lo, mean, T⟩ := T
    refine' Qp.all_mk T KX hmg ?nC ?nLe ?nMl ?nMc ?nCc ?nMs ?nMt ?a0 ?l0 ?u0 ?k0 ?a1 ?l1 ?u1 ?k1 ?a2 ?l2 ?u2 ?k2 ?a3 ?l3 ?u3 ?k3 ?a4 ?l4 ?u4 ?k4 ?a5 ?l5 ?u5 ?k5 ?a6 ?l6 ?u6 ?k6 ?a7 ?l7 ?u7 ?k7 ?a8 ?l8 ?u8 ?k8 ?a9 ?l9 ?u9 ?k9 ?a10 ?l10 ?u10 ?k10 ?a11 ?l11 ?u11 ?k11 ?a12 ?l12 ?u12 ?k12 ?a13 ?l13 ?u13 ?k13 ?a14 ?l14 ?u14 ?k14 ?a15 ?l15 ?u15 ?k15 ?a16 ?l16 ?u16 ?k16 ?a17 ?l17 ?u17 ?k17 ?a18 ?l18 ?u18 ?k18 ?a19 ?l19 ?u19 ?k19 ?a20 ?l20 ?u20 ?k20 ?a21 ?l21 ?u21 ?k21 ?a22 ?l22 ?u22 ?k22 ?a23 ?l23 ?u23 ?k23 ?a24 ?l24 ?u24 ?k24 ?a25 ?l25 ?u25 ?k25 ?a26 ?l26 ?u26 ?k26 ?a27 ?l27 ?u27 ?k27 ?a28 ?l28 ?u28 ?k28 ?a29 ?l29 ?u29 ?k29 ?a30 ?l30 ?u30 ?k30 ?a31 ?l31 ?u31 ?k31 ?a32 ?l32 ?u32 ?k32 ?a33 ?l33 ?u33 ?k33 ?a34 ?l34 ?u34 ?k34 ?a35 ?l35 ?u35 ?k35 ?a36 ?l36 ?u36 ?k36 ?a37 ?l37 ?u37 ?k37 ?a38 ?l38 ?u38 ?k38 ?a39 ?r39 ?l39 ?u39 ?k39 ?a40 ?r40 ?l40 ?u40 ?k40 ?a41 ?r41 ?l41 ?u41 ?k41 ?a42 ?l42 ?u42 ?k42 ?a43 ?l43 ?u43 ?k43 ?a44 ?l44 ?u44 ?k44 ?a45 ?l45 ?u45 ?k45 ?a46 ?l46 ?u46 ?k46 ?a47 ?l47 ?u47 ?k47 ?j1 ?i1 ?em1 ?j2 ?i2 ?em2 ?j3 ?i3 ?em3 ?j4 ?i4 ?em4 ?nD ?le0 ?lT ?look
    (case nC => k_is)
    (case nLe => k_is)
    (case nMl => k_is)
    (case nMc => k_is)
    (case nCc => k_is)
    (case nMs => k_is)
    (case nMt => k_is)
    (case a0 => k_is)
    (case l0 => k_is)
    (case u0 => k_is)
    (case k0 => k_is)
    (case a1 => k_is)
    (case l1 => k_is)
    (case u1 => k_is)
    (case k1 => k_is)
    (case a2 => k_is)
    (case l2 => k_is)
    (case u2 => k_is)
    (case k2 => k_is)
    (case a3 => k_is)
    (case l3 => k_is)
    (case u3 => k_is)
    (case k3 => k_is)
    (case a4 => k_is)
    (case l4 => k_is)
    (case u4 => k_is)
    (case k4 => k_is)
    (case a5 => k_is)
    (case l5 => k_is)
    (case u5 => k_is)
    (case k5 => k_is)
    (case a6 => k_is)
    (case l6 => k_is)
    (case u6 => k_is)
    (case k6 => k_is)
    (case a7 => k_is)
    (case l7 => k_is)
    (case u7 => k_is)
    (case k7 => k_is)
    (case a8 => k_is)
    (case l8 => k_is)
    (case u8 => k_is)
    (case k8 => k_is)
    (case a9 => k_is)
    (case l9 => k_is)
    (case u9 => k_is)
    (case k9 => k_is)
    (case a10 => k_is)
    (case l10 => k_is)
    (case u10 => k_is)
    (case k10 => k_is)
    (case a11 => k_is)
    (case l11 => k_is)
    (case u11 => k_is)
    (case k11 => k_is)
    (case a12 => k_is)
    (case l12 => k_is)
    (case u12 => k_is)
    (case k12 => k_is)
    (case a13 => k_is)
    (case l13 => k_is)
    (case u13 => k_is)
    (case k13 => k_is)
    (case a14 => k_is)
    (case l14 => k_is)
    (case u14 => k_is)
    (case k14 => k_is)
    (case a15 => k_is)
    (case l15 => k_is)
    (case u15 => k_is)
    (case k15 => k_is)
    (case a16 => k_is)
    (case l16 => k_is)
    (case u16 => k_is)
    (case k16 => k_is)
    (case a17 => k_is)
    (case l17 => k_is)
    (case u17 => k_is)
    (case k17 => k_is)
    (case a18 => k_is)
    (case l18 => k_is)
    (case u18 => k_is)
    (case k18 => k_is)
    (case a19 => k_is)
    (case l19 => k_is)
    (case u19 => k_is)
    (case k19 => k_is)
    (case a20 => k_is)
    (case l20 => k_is)
    (case u20 => k_is)
    (case k20 => k_is)
    (case a21 => k_is)
    (case l21 => k_is)
    (case u21 => k_is)
    (case k21 => k_is)
    (case a22 => k_is)
    (case l22 => k_is)
    (case u22 => k_is)
    (case k22 => k_is)
    (case a23 => k_is)
    (case l23 => k_is)
    (case u23 => k_is)
    (case k23 => k_is)
    (case a24 => k_is)
    (case l24 => k_is)
    (case u24 => k_is)
    (case k24 => k_is)
    (case a25 => k_is)
    (case l25 => k_is)
    (case u25 => k_is)
    (case k25 => k_is)
    (case a26 => k_is)
    (case l26 => k_is)
    (case u26 => k_is)
    (case k26 => k_is)
    (case a27 => k_is)
    (case l27 => k_is)
    (case u27 => k_is)
    (case k27 => k_is)
    (case a28 => k_is)
    (case l28 => k_is)
    (case u28 => k_is)
    (case k28 => k_is)
    (case a29 => k_is)
    (case l29 => k_is)
    (case u29 => k_is)
    (case k29 => k_is)
    (case a30 => k_is)
    (case l30 => k_is)
    (case u30 => k_is)
    (case k30 => k_is)
    (case a31 => k_is)
    (case l31 => k_is)
    (case u31 => k_is)
    (case k31 => k_is)
    (case a32 => k_is)
    (case l32 => k_is)
    (case u32 => k_is)
    (case k32 => k_is)
    (case a33 => k_is)
    (case l33 => k_is)
    (case u33 => k_is)
    (case k33 => k_is)
    (case a34 => k_is)
    (case l34 => k_is)
    (case u34 => k_is)
    (case k34 => k_is)
    (case a35 => k_is)
    (case l35 => k_is)
    (case u35 => k_is)
    (case k35 => k_is)
    (case a36 => k_is)
    (case l36 => k_is)
    (case u36 => k_is)
    (case k36 => k_is)
    (case a37 => k_is)
    (case l37 => k_is)
    (case u37 => k_is)
    (case k37 => k_is)
    (case a38 => k_is)
    (case l38 => k_is)
    (case u38 => k_is)
    (case k38 => k_is)
    (case a39 => k_is)
    (case r39 => k_is)
    (case l39 => k_is)
    (case u39 => k_is)
    (case k39 => k_is)
    (case a40 => k_is)
    (case r40 => k_is)
    (case l40 => k_is)
    (case u40 => k_is)
    (case k40 => k_is)
    (case a41 => k_is)
    (case r41 => k_is)
    (case l41 => k_is)
    (case u41 => k_is)
    (case k41 => k_is)
    (case a42 => k_is)
    (case l42 => k_is)
    (case u42 => k_is)
    (case k42 => k_is)
    (case a43 => k_is)
    (case l43 => k_is)
    (case u43 => k_is)
    (case k43 => k_is)
    (case a44 => k_is)
    (case l44 => k_is)
    (case u44 => k_is)
    (case k44 => k_is)
    (case a45 => k_is)
    (case l45 => k_is)
    (case u45 => k_is)
    (case k45 => k_is)
    (case a46 => k_is)
    (case l46 => k_is)
    (case u46 => k_is)
    (case k46 => k_is)
    (case a47 => k_is)
    (case l47 => k_is)
    (case u47 => k_is)
    (case k47 => k_is)
    (case j1 => k_is)
    (case i1 => rfl)
    (case em1 => exact PySem.W.km_tabs_of Y _ (by decide))
    (case j2 => k_is)
    (case i2 => rfl)
    (case em2 => exact PySem.W.km_tabs_of Y _ (by decide))
    (case j3 => k_is)
    (case i3 => rfl)
    (case em3 => exact PySem.W.km_tabs_of Y _ (by decide))
    (case j4 => k_is)
    (case i4 => rfl)
    (case em4 => exact PySem.W.km_tabs_of Y _ (by decide))
    (case nD => k_is)
    (case le0 => k_is)
    (case lT => k_is)
    (case look => kernel_rfl)

