import PyProof.Rows.All
import Wide.All
import OpenK.AllK
import Wide.FinOn
import HandS.ForMost
import PySem.Challenge.RW_loopgrowth_k06_graphs_made
import HandS.Lambda
import HandS.EndTab
import PyProof.ListMulRoad
import PyProof.FactsAll.tuple_2
import HandS.TupMul
import HandS.TupAny
import HandS.Style
import KE.KRevSl
import HandS.Star
import HandS.CallLocal
import KE.DataCmp
import KE.SortData
import HandS.Deep
import HandS.Wide
import HandS.IsInst
import HandS.Walk
import HandS.TupSets
import HandS.SetKeys
import HandS.SetFor
import HandS.AnyAll
import KE.GoesMore
import PyProof.TupleOfGen
import PyProof.StrBlock
import HandS.MakeKwOnly
import HandS.DictComp
import HandS.Dict
import KE.KDictPairs
import HandS.MethStar
import HandS.ClsMeth
import OpenK.KOps
import OpenK.KMeth
import KE.KOpsOwn
import KE.KCallOwn
import HandS.Records
import PyProof.InstNe
import HandS.More
import HandS.Small
import KE.KOwnIter
import HandS.IterVal
import HandS.FStr
import HandS.DictTup
import KE.KDictZip
import HandS.Zip0
import HandS.Iter
import HandS.Property
import HandS.RaiseMore
import KE.KNestM
set_option Elab.async false
set_option linter.all false
set_option maxRecDepth 100000
set_option maxHeartbeats 4000000
namespace Qp
open PySem PySem.Spec PyProof.Rows L2
def top (i : Nat) : Stmt := PySem.Challenge.pw_loopgrowth_k06_graphs_made.main.body.getD i (.Pass ⟨0, 0, 0, 0⟩)
abbrev sDice : Stmt := top 27 -- _law_dice
abbrev sRoll : Stmt := top 28 -- _law_roll
abbrev sOne : Stmt := top 29 -- _law_one_of
theorem scDice : FnScope ["_law_script", "_law_at", "_law_cell", "_law_great", "_law_mixed_here"] ["_law_script", "_law_at"] (defScope sDice) := ⟨rfl, rfl, rfl, by decide +kernel, rfl, by decide +kernel, by decide +kernel⟩
theorem scRoll : FnScope ["_law_dice_here", "_law_total", "_law_found", "_law_one", "_law_two"] ["_law_dice_here", "_law_total"] (defScope sRoll) := ⟨rfl, rfl, rfl, by decide +kernel, rfl, by decide +kernel, by decide +kernel⟩
theorem scOne : FnScope ["_law_dice_here", "_law_items"] ["_law_dice_here", "_law_items"] (defScope sOne) := ⟨rfl, rfl, rfl, by decide +kernel, rfl, by decide +kernel, by decide +kernel⟩
/-- the three numbers of a drawing hand -/
def hand (x y z : Int) : List V := [.int x, .int y, .int z]
/-- three numbers lie at p -/
def HandAt (H : Hp) (p : Addr) : Prop := ∃ x y z : Int, H p = some (.lst (hand x y z))
/-- what the built-in names still mean -/
structure Blt (mg : Str → Option Value) : Prop where
  len : mg "len" = none
  int : mg "int" = none
  abs : mg "abs" = none
  max : mg "max" = none
/-- all but p as it was -/
def But (p : Addr) (H H' : Hp) : Prop := ∀ b o, b ≠ p → H b = some o → H' b = some o
theorem but_upd {p : Addr} {H : Hp} {o : HO} : But p H (upd H p o) := fun b u n e => by
  rw [upd_ne n]
  exact e
def spRoll : Sp := fun vs H Q _ => ∃ (p : Addr) (x y z t : Int), vs = [.ref p, .int t] ∧ H p = some (.lst (hand x y z)) ∧ 0 < t ∧ t < 1073741824 ∧
  ∀ (r x' y' z' : Int) (H' : Hp), 0 ≤ r → r < t → H' p = some (.lst (hand x' y' z')) → But p H H' → Q (.int r) H'
def spOne : Sp := fun vs H Q _ => ∃ (p q : Addr) (x y z : Int) (its : List V), vs = [.ref p, .ref q] ∧ H p = some (.lst (hand x y z)) ∧ H q = some (.lst its) ∧ q ≠ p ∧ 0 < its.length ∧ its.length < 1073741824 ∧
  ∀ (v : V) (x' y' z' : Int) (H' : Hp), v ∈ its → H' p = some (.lst (hand x' y' z')) → But p H H' → Q v H'
def spDice (K : PySem.W.Frag) : Sp := fun vs H Q _ => ∃ (a : Addr) (ns : List Int) (j : Nat), vs = [.ref a, .int (j : Int)] ∧ SqL K H a (ns.map V.int) ∧
  ∀ (p : Addr) (x y z : Int), H p = none → Q (.ref p) (upd H p (.lst (hand x y z)))
section
variable {P : Program} {w : World} {K : PySem.W.Frag} {mg : Str → Option Value} {base : Heap}
theorem ix3 {K : PySem.W.Frag} {H : Hp} {p : Addr} {x y z : Int} (h : H p = some (.lst (hand x y z))) : SqL K H p (hand x y z) := .inl (.inl h)
theorem ok_roll {f : Addr} {fd : FuncData} (F : Fun K "_law_roll" "_law_roll" sRoll f fd) (B : Blt mg) : FnOk P w K mg base CX0 1 f fd ["_law_dice_here", "_law_total"] spRoll := by
  refine F.ok scRoll (fun vs H Q E h => ?_) (fun cdv A outer s H vs Q E hr h => ?_)
  · obtain ⟨p, x, y, z, t, rfl, _⟩ := h
    rfl
  · obtain ⟨p, x, y, z, t, rfl, hp, ht, ht2, k⟩ := h
    refine ⟨_, pss_cons (ps_if (pt_cmpR op_gt (pe_ix ix_list (pv 0) pe_int (fun _ _ => rfl)) pe_int (nomark _))
        (pss_cons (ps_set (i := 2) scRoll.nd rfl (.inl rfl) (pe_op op_mod (pe_callTy call_int1 (by rfl) B.int (by decide +kernel) (pa_cons (pe_ix ix_list (pv 0) pe_int (fun _ _ => rfl)) pa_nil)) (pv 1)))
        (pss_cons (ps_asg (pe_op op_fdiv (pe_ix ix_list (pv 0) pe_int (fun _ _ => rfl)) (pv 1)) (pg_sub (pv 0) pe_int set_list))
        (pss_one (ps_ret (pv 2))))) pss_nil)
      (pss_cons (ps_asg (pe_op op_add (pe_ix ix_list (pv 0) pe_int (fun _ _ => rfl)) pe_int) (pg_sub (pv 0) pe_int set_list))
      (pss_cons (ps_set (i := 3) scRoll.nd rfl (.inl rfl) (pe_op op_mod (pe_callTy call_int1 (by rfl) B.int (by decide +kernel) (pa_cons (pe_op op_add (pe_ix ix_list (pv 0) pe_int (fun _ _ => rfl)) (pe_op op_mul pe_int (pe_ix ix_list (pv 0) pe_int (fun _ _ => rfl)))) pa_nil)) pe_int))
      (pss_cons (ps_set (i := 4) scRoll.nd rfl (.inl rfl) (pe_op op_add (pe_op op_mul (pe_op op_mod (pe_callTy call_int1 (by rfl) B.int (by decide +kernel) (pa_cons (pe_op op_mul (pv 3) (pv 3)) pa_nil)) pe_int) (pv 3)) (pe_op op_mul pe_int (pe_ix ix_list (pv 0) pe_int (fun _ _ => rfl)))))
      (pss_cons (ps_set (i := 4) scRoll.nd rfl (.inl rfl) (pe_op op_mod (pe_callTy call_int1 (by rfl) B.int (by decide +kernel) (pa_cons (pv 4) pa_nil)) pe_int))
      (pss_one (ps_ret (pe_op op_mod (pe_callTy call_int1 (by rfl) B.int (by decide +kernel) (pa_cons (pe_op op_fdiv (pv 4) pe_int) pa_nil)) (pv 1)))))))), ?_⟩
    -- if hand[0] > 0
    refine ⟨_, rfl, p, hand x y z, 0, .int x, rfl, rfl, ix3 hp, rfl, x, 0, rfl, rfl, _, rfl, ite2 (fun c => ?_) (fun c => ?_)⟩
    · -- found = int(hand[0]) % total
      refine ⟨_, rfl, p, hand x y z, 0, .int x, rfl, rfl, ix3 hp, rfl, .inl ⟨x, rfl, .int t, rfl, x, t, rfl, rfl, ht, ?_⟩⟩
      -- hand[0] = hand[0] // total
      refine ⟨_, rfl, p, hand x y z, 0, .int x, rfl, rfl, ix3 hp, rfl, .int t, rfl, x, t, rfl, rfl, ⟨ht, ht2⟩, _, rfl, p, hand x y z, 0, 0, rfl, rfl, hp, rfl, ?_⟩
      exact ⟨_, rfl, k (x % t) (x / t) y z _ (Int.emod_nonneg _ (by omega)) (Int.emod_lt_of_pos _ ht) upd_same but_upd⟩
    · -- hand[2] = hand[2] + 1
      refine ⟨_, rfl, p, hand x y z, 2, .int z, rfl, rfl, ix3 hp, rfl, z, 1, rfl, rfl, _, rfl, p, hand x y z, 2, 2, rfl, rfl, hp, rfl, ?_⟩
      have hp2 : (upd H p (.lst (hand x y (z + 1)))) p = some (.lst (hand x y (z + 1))) := upd_same
      -- one = ..
      refine ⟨_, rfl, p, hand x y (z + 1), 1, .int y, rfl, rfl, ix3 hp2, rfl, _, rfl, p, hand x y (z + 1), 2, .int (z + 1), rfl, rfl, ix3 hp2, rfl, _, _, rfl, rfl, .inl ⟨by decide, by decide⟩, _, _, rfl, rfl, .inl ⟨_, rfl, _, _, rfl, rfl, (by show (0 : Int) < 2305843009213693951; decide), ?_⟩⟩
      have hb : ∀ g : Int, -(2 ^ 64) < g % 2305843009213693951 ∧ g % 2305843009213693951 < 2 ^ 64 := fun g => ⟨by omega, by omega⟩
      -- two = ..
      refine ⟨_, rfl, _, rfl, _, _, rfl, rfl, .inl (hb _), .inl ⟨_, rfl, _, _, rfl, rfl, (by show (0 : Int) < 2305843009213693921; decide), _, rfl, _, _, rfl, rfl, .inr (hb _), ?_⟩⟩
      refine ⟨_, rfl, p, hand x y (z + 1), 2, .int (z + 1), rfl, rfl, ix3 hp2, rfl, _, _, rfl, rfl, .inl ⟨by decide, by decide⟩, _, _, rfl, rfl, ?_⟩
      -- two = int(two) % ..
      refine ⟨_, rfl, .inl ⟨_, rfl, _, _, rfl, rfl, (by show (0 : Int) < 2305843009213693907; decide), ?_⟩⟩
      -- return int(two // 8192) % total
      refine ⟨_, rfl, _, _, rfl, rfl, ⟨by decide, by decide⟩, .inl ⟨_, rfl, .int t, rfl, _, t, rfl, rfl, ht, ?_⟩⟩
      exact k _ x y (z + 1) _ (Int.emod_nonneg _ (by omega)) (Int.emod_lt_of_pos _ ht) upd_same but_upd
theorem op_powX {X : Cx} : OpR X (binaryOp .Pow) (rI (fun i j => 0 ≤ j ∧ (Builtin.Int.intBits i : Int) * j ≤ 2 ^ 27) fun i j => .int (i ^ j.toNat)) := opI fun _ _ _ _ _ _ _ hc q => pow_int hc.1 hc.2 q
theorem ok_dice {f : Addr} {fd : FuncData} (F : Fun K "_law_dice" "_law_dice" sDice f fd) (B : Blt mg) : FnOk P w K mg base CX0 1 f fd ["_law_script", "_law_at"] (spDice K) := by
  refine F.ok scDice (fun vs H Q E h => ?_) (fun cdv A outer s H vs Q E hr h => ?_)
  · obtain ⟨a, ns, j, rfl, _⟩ := h
    rfl
  · obtain ⟨a, ns, j, rfl, hS, k⟩ := h
    refine ⟨_, pss_cons (ps_set (i := 2) scDice.nd rfl (.inl rfl) (pe_op op_add (pe_op op_mul pe_int (pv 1)) pe_int))
      (pss_cons (ps_if (pt_cmpR op_lt (pv 1) (pe_callB call_len_seq (by rfl) B.len PySem.boot_len (pa_cons (pv 0) pa_nil)) (nomark _))
        (pss_one (ps_set (i := 2) scDice.nd rfl (.inl rfl) (pe_ix ix_list (pv 0) (pv 1) (fun _ _ => rfl)))) pss_nil)
      (pss_cons (ps_set (i := 3) scDice.nd rfl (.inl rfl) (pe_op op_mod (pe_callTy call_int1 (by rfl) B.int (by decide +kernel) (pa_cons (pe_callB call_abs (by rfl) B.abs (by decide +kernel) (pa_cons (pv 2) pa_nil)) pa_nil)) (pe_op op_powX (pe_op op_pow pe_int pe_int) pe_int)))
      (pss_cons (ps_set (i := 4) scDice.nd rfl (.inl rfl) (pe_op op_add (pe_op op_add (pe_op op_add (pe_op op_mul (pe_op op_mod (pe_callTy call_int1 (by rfl) B.int (by decide +kernel) (pa_cons (pv 3) pa_nil)) pe_int) pe_int) (pe_op op_mul pe_int (pv 1)))
          (pe_op op_mul pe_int (pe_callTy call_int1 (by rfl) B.int (by decide +kernel) (pa_cons (pe_cmpR op_lt (pv 2) pe_int (nomark _)) pa_nil)))) pe_int))
      (pss_one (ps_ret (pe_lst (pa_cons (pe_callB (call_max2 rfl) (by rfl) B.max (by decide +kernel) (pa_cons pe_int (pa_cons (pe_op op_sub (pv 3) (pe_op op_pow pe_int pe_int)) pa_nil)))
        (pa_cons (pe_op op_mod (pe_callTy call_int1 (by rfl) B.int (by decide +kernel) (pa_cons (pv 4) pa_nil)) pe_int) (pa_cons pe_int pa_nil))))))))), ?_⟩
    -- cell = 23 * at + 5
    refine ⟨_, rfl, _, _, rfl, rfl, .inl ⟨by decide, by decide⟩, _, _, rfl, rfl, ?_⟩
    -- if at < len(script)
    refine ⟨_, rfl, .ref a, rfl, a, _, rfl, .inl hS, _, _, rfl, rfl, _, rfl, ite2 (fun e => ?inside) (fun _ => ?beyond)⟩
    case' inside =>
      have hj : j < ns.length := by
        have e2 := of_decide_eq_true e
        rw [List.length_map] at e2
        omega
      have hx : (ns.map V.int)[j]? = some (.int ns[j]) := by
        rw [List.getElem?_map, List.getElem?_eq_getElem hj]
        rfl
      refine ⟨_, rfl, _, rfl, a, _, _, _, rfl, rfl, hS, atI_nat hx, ?_⟩
    all_goals
      -- great
      refine ⟨_, rfl, _, rfl, .inl ⟨_, rfl, _, _, rfl, rfl, ⟨by decide, by decide, by decide⟩, _, _, rfl, rfl, ⟨by decide, by decide +kernel⟩, _, _, rfl, rfl, Int.pow_pos (Int.pow_pos (by decide)), ?_⟩⟩
      -- mixed
      refine ⟨_, rfl, .inl ⟨_, rfl, _, _, rfl, rfl, (by show (0 : Int) < 2147483587; decide), _, _, rfl, rfl, .inr ⟨by decide, by decide⟩, _, rfl, _, _, rfl, rfl, .inl ⟨by decide, by decide⟩, _, _, rfl, rfl, ?_⟩⟩
      refine ⟨_, rfl, _, _, rfl, rfl, .inr ⟨_, rfl, _, _, rfl, rfl, .inl ⟨by decide, by decide⟩, _, _, rfl, rfl, _, _, rfl, rfl, ?_⟩⟩
      -- the three numbers
      refine ⟨_, rfl, _, _, rfl, rfl, ⟨by decide, by decide, by decide⟩, _, _, rfl, rfl, _, _, rfl, ?_⟩
      refine ⟨_, rfl, .inl ⟨_, rfl, _, _, rfl, rfl, (by show (0 : Int) < 2147483563; decide), (by show 3 ≤ sizeLine; decide), fun p hp => ?_⟩⟩
      exact k p _ _ _ hp
theorem ok_one {f fR : Addr} {fd fdR : FuncData} (F : Fun K "_law_one_of" "_law_one_of" sOne f fd) (FR : Fun K "_law_roll" "_law_roll" sRoll fR fdR) (bR : Binds K fdR ["_law_dice_here", "_law_total"] []) (gR : mg "_law_roll" = some (.ref fR)) (B : Blt mg) :
    FnOk P w K mg base CX0 2 f fd ["_law_dice_here", "_law_items"] spOne := by
  have GR : FnOk P w K mg base CX0 1 fR fdR ["_law_dice_here", "_law_total"] spRoll := ok_roll FR B
  refine F.ok scOne (fun vs H Q E h => ?_) (fun cdv A outer s H vs Q E hr h => ?_)
  · obtain ⟨p, q, x, y, z, its, rfl, _⟩ := h
    rfl
  · obtain ⟨p, q, x, y, z, its, rfl, hp, hq, nqp, hl, hl2, k⟩ := h
    refine ⟨_, pss_one (ps_ret (pe_ix ix_list (pv 1) (pe_call GR hr (by rfl) gR FR.kp bR .nil pass0 (pa_cons (pv 0) (pa_cons (pe_callB call_len_seq (by rfl) B.len PySem.boot_len (pa_cons (pv 1) pa_nil)) pa_nil))) (fun _ _ => rfl))), ?_⟩
    refine ⟨.ref q, rfl, .ref p, rfl, .ref q, rfl, q, its, rfl, .inl (.inl (.inl hq)), p, x, y, z, _, rfl, hp, by omega, by omega, fun r x' y' z' H' h0 h1 hp' bt => ?_⟩
    obtain ⟨j, rfl⟩ := Int.eq_ofNat_of_zero_le h0
    have hj : j < its.length := by omega
    refine ⟨q, its, _, its[j], rfl, rfl, .inl (.inl (bt q _ nqp hq)), atI_nat (List.getElem?_eq_getElem hj), ?_⟩
    exact k _ x' y' z' H' (List.getElem_mem hj) hp' bt
end
end Qp

/-! Defs of which is known that no repr is under way when they are called; the end of a law whose defs hold lambdas and say repr -/
namespace QN
open PySem PySem.Spec PyProof.Rows L2
def NoRepr (A : Around) : Prop := A.guards = some []
theorem noRepr_deeper {A : Around} {e : Env} (h : NoRepr A) : NoRepr (A.deeper e) := by
  unfold NoRepr at h ⊢
  first
    | exact h
    | (show pushGuards _ A.guards = some []; rw [h]; rfl)
/-- the promise of a def at f, where no repr is under way -/
structure FnG (P : Program) (w : World) (K : PySem.W.Frag) (mg : Str → Option Value) (base : Heap) (k : Nat) (f : Addr) (fd : FuncData) (ps : List Str) (sp : Sp) : Prop where
  len : ∀ vs H Q E, sp vs H Q E → vs.length = ps.length
  go : ∀ (A : Around) (outer : List Env) (s : Shared) (H : Hp) (args : Args) (us : List Value) (vs : List V) (Q : VK) (E : XK), Room k A → NoRepr A → Env0 P w K mg base A outer s H → BindsTo s fd args (ps.zip us) → Vals vs us → sp vs H Q E →
    codeAny (model P w) A (.call (.ref f) args) (CR L2.CX0 outer P w H s Q E) s
/-- the def's body, its code object told: `told` is what the body's promise leans on -/
theorem Fun_okC {P : Program} {w : World} {K : PySem.W.Frag} {mg : Str → Option Value} {base : Heap} {x qual : Str} {st : Stmt} {f : Addr} {fd : FuncData} {N ps : List Str} {k : Nat} {sp : Sp}
    (F : Fun K x qual st f fd) (S : FnScope N ps (defScope st)) (len : ∀ vs H Q E, sp vs H Q E → vs.length = ps.length)
    (body : ∀ (cdv : Value) (A : Around) (outer : List Env) (s : Shared) (H : Hp) (vs : List V) (Q : VK) (E : XK), fd.code = cdv → Room k (A.deeper (envOfC qual (defScope st) s.heap.objs.size f cdv)) → NoRepr A → sp vs H Q E →
      ∃ t, PSs (cxOf L2.CX0 P w K mg base N qual (defScope st) f cdv A outer s H E).nox (defBody st) t ∧ t { nx := fun _ H' => Q .non H', rt := Q } (start N vs) H) :
    FnG P w K mg base (k + 1) f fd ps sp := by
  obtain ⟨oc, od, kV, doc, pm, an, cdv, ct, osl, rfl, lk, hcd⟩ := F.ex
  refine ⟨len, fun A outer s H args us vs Q E room hng env0 hbind rv hsp => ?_⟩
  have nvs := len _ _ _ _ hsp
  have inK : K.In s.heap := env0.mod.kin.keeps fun b o e => (env0.bs b o e).1
  have nolim : s.heap.NoLimit := env0.mod.nolimit.keeps fun b o e => (env0.bs b o e).1
  have kinds : ∀ y ∈ ps.zip us, (defScope st).names.lookup y.1 = some .local ∨ ((defScope st).names.lookup y.1 = some .cell ∧ ((cellsFrom (s.heap.objs.size + 1) (defScope st).names []).lookup y.1).isSome = true) := fun ⟨n, v⟩ hy => by
    rcases S.par n (List.of_mem_zip hy).1 with c | c
    · exact Or.inl c
    · exact Or.inr ⟨c, PySem.W.cellsFrom_some _ _ _ (Or.inl c)⟩
  refine codeAny_call_function room.depth (inK _ _ lk) rfl S.co S.gen rfl (PySem.W.codeRec_of inK hcd) (hbind _ _ _ _ ?_)
  refine wpAny_newFunctionEnv_cells S.kind kinds fun env he s1 entered => ?_
  subst he
  refine ⟨nolim.keeps entered.toInCall.keep, codeAny_func ?_⟩
  obtain ⟨t, ht, hq⟩ := body cdv A outer s H vs Q E rfl (room.deeper _) hng hsp
  have I0 := inv_start (CX := L2.CX0) (E := E) S room.hd env0 nvs rv entered
  refine wpAny_mono (ht.nox.run [] s1 (start N vs) H _ I0 hq) (fun fl s' hs => ?_) fun e s' hs => hs
  have close : ∀ {σ' : L2.St} {H' : Hp} {v : V} {u : Value}, Inv (cxOf L2.CX0 P w K mg base N qual (defScope st) f cdv A outer s H E) [] σ' H' s' → RelV v u → Q v H' → CE outer P w H s Q u s' :=
    fun {σ' H' v u} J r q => ⟨v, H', J.os, J.bare, J.base, J.hok, r, q⟩
  cases fl with
  | ret u =>
    obtain ⟨v, σ', H', J, r, q⟩ := hs
    exact close J r q
  | next =>
    obtain ⟨σ', H', J, q⟩ := hs
    exact close (v := V.non) (u := Value.none) J rfl q
  | brk => exact False.elim hs.choose_spec.choose_spec.2
  | cont => exact False.elim hs.choose_spec.choose_spec.2
/-- a promise that asks less is one where no repr is under way -/
theorem FnG.of {P : Program} {w : World} {K : PySem.W.Frag} {mg : Str → Option Value} {base : Heap} {k : Nat} {f : Addr} {fd : FuncData} {ps : List Str} {sp : Sp} (F : FnOk P w K mg base L2.CX0 k f fd ps sp) : FnG P w K mg base k f fd ps sp :=
  ⟨F.len, fun A outer s H args us vs Q E room _ env0 hbind rv hsp => F.run A outer s H args us vs Q E room env0 hbind rv hsp⟩
section
variable {X : Cx} {k : Nat} {f : Addr} {fd : FuncData} {ps : List Str} {sp : Sp} {x : Str} {p pos : Pos} {e : Expr} {es : List Expr} {t : TA}
/-- f(e, ..) of such a def -/
theorem pe_callG (F : FnG X.prog X.w X.K X.mg X.base k f fd ps sp) (hng : NoRepr X.A) (hr : Room k X.A) (hg : Gl X x) (hm : X.mg x = some (.ref f)) (hk : PySem.W.keepIn X.K (.ref f) = true) (hb : L2.Binds X.K fd ps []) (ha : PA X (e :: es) t)
    (hdb : (x == ("__debug__" : Str)) = false := by decide) (he : starEach (e :: es) X.env = (false, eval e X.env) :: starEach es X.env := by rfl) (hpl : (backTo pos (starEach es X.env)).any (·.1) = false := by rfl) :
    PE X (.Call (.Name x p) (e :: es) [] pos) (tCall sp [] L2.E0 t) := by
  refine ⟨fun pins s σ H Q I h => wpAny_Call_Name_kw (ld_glob I hg hm ?_ hdb)⟩
  refine PySem.W.callWith_K (h₀ := X.base) I.ok.mod.kin hk (thn (ha.run pos pins s σ H _ I h) fun us s1 ⟨vs, H1, J, rv, q⟩ => ⟨J.kIn, ?_⟩) he hpl
  have q' : sp vs H1 Q L2.E0 := by
    have z : sp (vs ++ []) H1 Q L2.E0 := q
    rw [List.append_nil] at z
    exact z
  have n1 : us.length = ps.length := by
    rw [← rv.length]
    exact F.len _ _ _ _ q'
  have bind := hb s1 us J.kIn (by rw [List.append_nil]; exact n1)
  rw [List.append_nil] at bind
  refine wpAny_call (codeAny_mono (F.go X.A X.stack s1 H1 ⟨us, []⟩ us vs Q L2.E0 hr hng J.env0 bind rv q') fun r s' hq => ?_)
  cases r with
  | error e => exact hq.elim
  | ok fl =>
    cases fl with
    | ret u => exact J.after hq
    | next => exact hq.elim
    | brk => exact hq.elim
    | cont => exact hq.elim
end
/-- an object of the tables' kind, still empty -/
abbrev emptyTab : Obj := { cls := .none, data := .fields #[] }
/-- what H tracks, hidden, is a base for the law's def: H tracks the script's list at a and the empty tables alone -/
structure Few (s : Shared) (H : Hp) (a : Addr) (items : List Value) (cs : List (Addr × Addr)) (K : PySem.W.Frag) : Prop where
  la : s.heap.get? a = some { cls := .type "list", data := .seq items.toArray }
  ta : ∀ b ∈ cs.map (·.2), s.heap.get? b = some emptyTab
  only : ∀ b, H b ≠ none → b = a ∨ b ∈ cs.map (·.2)
  hk : H a ≠ none → K.lookup a = none
  tk : ∀ b ∈ cs.map (·.2), K.lookup b = none
theorem Few.un {s : Shared} {H : Hp} {a : Addr} {items : List Value} {cs : List (Addr × Addr)} {K : PySem.W.Frag} (W : Few s H a items cs K) {b : Addr} {o : Obj} (e : s.heap.get? b = some o) (h1 : ∀ xs n, o.data ≠ .seq xs n) (h2 : o.data ≠ .fields #[]) : H b = none := by
  cases c : H b with
  | none => rfl
  | some u =>
    rcases W.only b (by rw [c]; simp) with z | z
    · subst z
      have y := W.la
      rw [e] at y
      cases y
      exact absurd rfl (h1 _ _)
    · have y := W.ta b z
      rw [e] at y
      cases y
      exact absurd rfl h2
theorem Few.mod {mg mb : Str → Option Value} {s : Shared} {H : Hp} {a : Addr} {items : List Value} {cs : List (Addr × Addr)} {K : PySem.W.Frag} (W : Few s H a items cs K) (inK : K.In s.heap) (gl : s.heap.Ns mainGlobals mg) (bl : s.heap.Ns builtinsNs mb)
    (boot : ∀ x : Str, x ≠ "__name__" → mb x = bootBuiltins x) (lim : s.heap.NoLimit) : Mod K mg (hidT s.heap H) := by
  have stays : ∀ {b : Addr} {m : Str → Option Value}, s.heap.Ns b m → (hidT s.heap H).Ns b m := fun {b m} ⟨o, es, n, e, d, r⟩ =>
    ⟨o, es, n, hidT_get e (W.un e (fun xs k z => by rw [d] at z; cases z) fun z => by rw [d] at z; cases z), d, r⟩
  refine ⟨fun b o e => hidT_get (inK b o e) ?_, stays gl, ⟨mb, stays bl, boot⟩, ?_⟩
  · cases c : H b with
    | none => rfl
    | some u =>
      rcases W.only b (by rw [c]; simp) with z | z
      · subst z
        rw [W.hk (by rw [c]; simp)] at e
        cases e
      · rw [W.tk b z] at e
        cases e
  · obtain ⟨mc, y1, y2⟩ := lim
    exact ⟨mc, stays y1, y2⟩
/-- the module of the built-in names stands -/
def BMod (mg : Str → Option Value) (h : Heap) : Prop := ∃ (bm : Addr) (ob : Obj), mg "__builtins__" = some (.ref bm) ∧ bm ≠ builtinsNs ∧ h.get? bm = some ob ∧ ob.cls = .type "module" ∧ ob.dict = some builtinsNs ∧ ob.data = .plain
theorem Few.tabs {mg : Str → Option Value} {s : Shared} {H : Hp} {a : Addr} {items : List Value} {cs : List (Addr × Addr)} {K : PySem.W.Frag} (W : Few s H a items cs K) (gl : s.heap.Ns mainGlobals mg) (bm : BMod mg s.heap) {p : Addr × Addr} (hp : p ∈ cs) (hc : PySem.W.CodeHd s.heap p.1 p.2) :
    LamX.TabB (hidT s.heap H) mg p.1 p.2 := by
  have hp2 : p.2 ∈ cs.map (·.2) := List.mem_map.mpr ⟨p, hp, rfl⟩
  have tp := W.ta _ hp2
  obtain ⟨og, eg, ng, ge, gd, _⟩ := gl
  refine ⟨?_, ?_, fun z => ?_⟩
  · obtain ⟨o, us, file, tf, flags, tg, inF, text, tt, e1, r1, r2, r3, r4, r5, r6, r7, r8, r9⟩ := hc
    refine ⟨o, us, file, tf, flags, tg, inF, text, tt, hidT_get e1 (W.un e1 (fun xs n z => by rw [r2] at z; cases z) fun z => ?_), r1, r2, r3, r4, r5, r6, r7, r8, r9⟩
    rw [r2] at z
    cases z
    simp at r3
  · obtain ⟨m, ob, m1, m2, m3, m4, m5, m6⟩ := bm
    refine ⟨m, ob, m1, m2, fun q => ?_, fun q => ?_, hidT_get m3 (W.un m3 (fun xs n z => by rw [m6] at z; cases z) fun z => by rw [m6] at z; cases z), m4, m5, m6⟩
    · rw [q, ge] at m3
      cases m3
      rw [gd] at m6
      cases m6
    · rw [q, tp] at m3
      cases m3
      cases m6
  · rw [z, tp] at ge
    cases ge
    cases gd
/-- the law's call, from its promise, where defs hold lambdas: cs, their code objects and the tables -/
theorem law_goesT {P : Program} {w : World} {K : PySem.W.Frag} {mg mb : Str → Option Value} {k : Nat} {fa a : Addr} {cs : List (Addr × Addr)} {fd : FuncData} {x : Str} {sp : Sp} {s : Shared} {items : List Value} {ns : List Int}
    (inK : K.In s.heap) (gl : s.heap.Ns mainGlobals mg) (bl : s.heap.Ns builtinsNs mb) (boot : ∀ x : Str, x ≠ "__name__" → mb x = bootBuiltins x) (lim : s.heap.NoLimit) (gens : s.gens = #[]) (bm : BMod mg s.heap)
    (ta : ∀ b ∈ cs.map (·.2), s.heap.get? b = some emptyTab) (tk : ∀ b ∈ cs.map (·.2), K.lookup b = none) (hc : ∀ p ∈ cs, PySem.W.CodeHd s.heap p.1 p.2)
    (la : s.heap.get? a = some { cls := .type "list", data := .seq items.toArray }) (intv : IntsAre items ns) (hl : ns.length ≤ sizeLine) (hr : Room k callerA)
    (F : ∀ base : Heap, K.In base → base.Ns mainGlobals mg → (∀ p ∈ cs, LamX.TabB base mg p.1 p.2) → FnG P w K mg base k fa fd [x] sp) (bind : ∀ (s : Shared) (u : Value), BindsTo s fd ⟨[u], []⟩ [(x, u)])
    (hsp : ∀ H : Hp, (∀ p ∈ cs, H p.2 = some (.tbl #[])) → SqL K H a (ns.map V.int) → sp [.ref a] H (fun v _ => v = .bl true) fun _ _ _ => False) :
    codeAny (model P w) callerA (.call (.ref fa) ⟨[.ref a], []⟩) (fun r s' => r = .ok (.ret (.bool true)) ∧ OldK s.heap s'.heap ∧ s'.os = s.os ∧ AllBare s'.gens) s := by
  have vals := vals_ints intv
  have same := intv.length
  have nota : a ∉ cs.map (·.2) := fun z => by
    have y := ta a z
    rw [la] at y
    cases y
  have go : ∀ H : Hp, Few s H a items cs K → (∀ b ∈ cs.map (·.2), H b = some (.tbl #[])) → (H a = none ∨ ∃ o xs, H a = some (.frz o (.lst xs))) → SqL K H a (ns.map V.int) → HOk P w H s.heap →
      codeAny (model P w) callerA (.call (.ref fa) ⟨[.ref a], []⟩) (fun r s' => r = .ok (.ret (.bool true)) ∧ OldK s.heap s'.heap ∧ s'.os = s.os ∧ AllBare s'.gens) s := by
    intro H W hT hA hS ok
    have mod := W.mod inK gl bl boot lim
    have env0 : Env0 P w K mg (hidT s.heap H) callerA [] s H := ⟨rfl, mod, fun b o e => of_hidT e, Nat.le_of_eq (hidT_size _ _), trivial, fun b hb => absurd (show b ∈ ([] : List Addr) from hb) (by simp), ok, .of_eq gens⟩
    have mem : ∀ p ∈ cs, p.2 ∈ cs.map (·.2) := fun p hp => List.mem_map.mpr ⟨p, hp, rfl⟩
    refine codeAny_mono ((F _ mod.kin mod.glob fun p hp => W.tabs gl bm hp (hc p hp)).go callerA [] s H ⟨[.ref a], []⟩ [.ref a] [.ref a] _ _ hr rfl env0 (bind s (.ref a)) (.cons rfl .nil) (hsp H (fun p hp => hT _ (mem p hp)) hS)) fun r s' h => ?_
    cases r with
    | error e => exact h.elim
    | ok fl =>
      cases fl with
      | next => exact h.elim
      | brk => exact h.elim
      | cont => exact h.elim
      | ret u =>
        obtain ⟨v, H', os, bare, un, ok', rv, q⟩ := h
        cases (show v = .bl true from q)
        cases (show u = Value.bool true from rv)
        have firm : ∀ b o, b ∉ cs.map (·.2) → s.heap.get? b = some o → s'.heap.get? b = some o := fun b o nb e => by
          cases c : H b with
          | none => exact un.keep b o e c (fun z => absurd (show b ∈ ([] : List Addr) from z) (by simp)) (by simp)
          | some u =>
            rcases W.only b (by rw [c]; simp) with z | z
            · subst z
              rcases hA with z | ⟨ob, xs, z⟩
              · rw [c] at z
                cases z
              · have z2 := un.frzs b ob _ z
                obtain ⟨e1, _⟩ := ok b _ z
                obtain ⟨e2, _⟩ := ok' b _ z2
                rw [e] at e1
                cases e1
                exact e2
            · exact absurd z nb
        have more : ∀ b ∈ cs.map (·.2), ∃ ms : Array Value, s'.heap.get? b = some { cls := .none, data := .fields ms } := fun b hb => by
          obtain ⟨ms, z⟩ := un.tbls b #[] (hT b hb)
          exact ⟨_, ok' b _ z⟩
        refine ⟨rfl, ⟨fun b o e => ?old, fun b o e => ?there⟩, os, bare⟩
        case old =>
          by_cases hb : b ∈ cs.map (·.2)
          · obtain ⟨ms, hm⟩ := more b hb
            obtain ⟨p, hp, rfl⟩ := List.mem_map.mp hb
            have y := ta _ hb
            rw [e] at y
            cases y
            exact .inr (.inl ⟨((hc p hp).tab (ta _ hb)).isCodeTable, rfl, #[], ms, rfl, by rw [Array.empty_append]; exact hm⟩)
          · exact .inl (firm b o hb e)
        case there =>
          by_cases hb : b ∈ cs.map (·.2)
          · obtain ⟨ms, hm⟩ := more b hb
            exact ⟨_, hm⟩
          · exact ⟨o, firm b o hb e⟩
  cases hk : K.lookup a with
  | some o =>
    have e := inK a o hk
    rw [la] at e
    cases e
    have off : (if a ∈ cs.map (·.2) then some (HO.tbl #[]) else none) = none := if_neg nota
    refine go (fun b => if b ∈ cs.map (·.2) then some (.tbl #[]) else none) ⟨la, ta, fun b z => ?_, fun z => absurd off z, tk⟩ (fun b hb => if_pos hb) (.inl off) (.inr ⟨_, items.toArray, _, hk, rfl, rfl, rfl, by rw [List.size_toArray, same]; exact hl, by simpa using vals⟩) fun b u z => ?_
    · by_cases hb : b ∈ cs.map (·.2)
      · exact .inr hb
      · exact absurd (if_neg hb) z
    · by_cases hb : b ∈ cs.map (·.2)
      · cases (if_pos hb).symm.trans z
        exact ta b hb
      · cases (if_neg hb).symm.trans z
  | none =>
    have here : (if a = a then some (HO.frz { cls := .type "list", data := .seq items.toArray } (.lst (ns.map V.int))) else if a ∈ cs.map (·.2) then some (HO.tbl #[]) else none) = some (HO.frz { cls := .type "list", data := .seq items.toArray } (.lst (ns.map V.int))) := if_pos rfl
    refine go (fun b => if b = a then some (.frz { cls := .type "list", data := .seq items.toArray } (.lst (ns.map V.int))) else if b ∈ cs.map (·.2) then some (.tbl #[]) else none) ⟨la, ta, fun b z => ?_, fun _ => hk, tk⟩
      (fun b hb => (if_neg fun z => nota (by rw [← z]; exact hb)).trans (if_pos hb)) (.inr ⟨_, _, here⟩) (.inl (.inr ⟨{ cls := .type "list", data := .seq items.toArray }, here⟩)) fun b u z => ?_
    · by_cases c : b = a
      · exact .inl c
      · by_cases hb : b ∈ cs.map (·.2)
        · exact .inr hb
        · exact absurd ((if_neg c).trans (if_neg hb)) z
    · by_cases c : b = a
      · cases (if_pos c).symm.trans z
        subst c
        exact ⟨la, by rw [List.length_map]; exact hl, items, _, vals, la⟩
      · by_cases hb : b ∈ cs.map (·.2)
        · cases ((if_neg c).trans (if_pos hb)).symm.trans z
          exact ta b hb
        · cases ((if_neg c).trans (if_neg hb)).symm.trans z
/-- the law's row, from its promise -/
theorem row_goesT {l : PySem.W.OpenLaw} {n k : Nat} {q : Program} {loose : List Str} {XP : (Str → Option Value) → Heap → Prop} {YP : World → Heap → Prop} {d : DefRec} {K : Params → PySem.W.Frag} {sp : PySem.W.Frag → List (Addr × Addr) → Sp} {x : Str}
    (hn : l.most = some n) (hn2 : n ≤ sizeLine) (hdf : d.params.defaults = []) (hr : Room k callerA)
    (hY : ∀ (w : World) (h : Heap), YP w h → (K w.params).In h)
    (F : ∀ (w : World) (mg mb : Str → Option Value) (fa : Addr) (h : Heap), YP w h → (K w.params).In h → (∃ lo mean, Top q lo mean mg mb h) → mg d.name = some (.ref fa) →
      ∃ (fd : FuncData) (cs : List (Addr × Addr)), (∀ b ∈ cs.map (·.2), h.get? b = some emptyTab) ∧ (∀ b ∈ cs.map (·.2), (K w.params).lookup b = none) ∧ (∀ p ∈ cs, PySem.W.CodeHd h p.1 p.2) ∧ (∀ (s : Shared) (u : Value), BindsTo s fd ⟨[u], []⟩ [(x, u)]) ∧
        (∀ (H : Hp) (a : Addr) (ns : List Int), ns.length ≤ n → (∀ z ∈ ns, Builtin.Int.intBits z ≤ 1048576) → (∀ p ∈ cs, H p.2 = some (.tbl #[])) → SqL (K w.params) H a (ns.map V.int) → sp (K w.params) cs [.ref a] H (fun v _ => v = .bl true) fun _ _ _ => False) ∧
        ∀ base : Heap, (K w.params).In base → base.Ns mainGlobals mg → (∀ p ∈ cs, LamX.TabB base mg p.1 p.2) → FnG l.prog w (K w.params) mg base k fa fd [x] (sp (K w.params) cs)) :
    PySem.W.WalkO q loose XP YP l.row.toRowW d [] (fun f vs => PySem.call f vs) := by
  refine Att.attach_callB hn hdf fun w s0 s mg mb fa o pm cd doc a items ns G Y ho hd hcd hmg hobj intv hlen hbits hg => ?_
  have inK := hY w _ Y
  obtain ⟨fd, cs, ta, tk, hc, bind, hsp, hF⟩ := F w mg mb fa _ Y inK ⟨_, _, G.T⟩ hmg
  exact law_goesT inK G.T.g G.T.b G.T.builtins G.T.nolimit hg G.T.bmain ta tk hc hobj intv (Nat.le_trans hlen hn2) hr hF bind fun H hH hS => hsp H a ns hlen hbits hH hS
end QN

/-! tuples: t * 0 and t * 1, t[::-1] -/
namespace QN
open PySem PySem.Spec PyProof.Rows L2
theorem tuple_mul1 (l : Addr) (items : Array Value) (n : Nat) (dd : Option Addr) (sl : Array (Option Value)) (u : Tok) :
    Meets (Builtin.«tuple.__mul__» ⟨[.ref l, .int 1 u], []⟩) (fun _ R s => s.heap.get? l = some { cls := .type "tuple", dict := dd, data := .seq items n, slots := sl } ∧ R (.ok (.ret (Value.ref l))) s) :=
  .of_wp fun prog w A R s h => by
    obtain ⟨hp, g, d, tk, os⟩ := s
    obtain ⟨hl, h⟩ := h
    have f1 := AutoSeq1.idx_int
    have c1 : (items.isEmpty || (1 : Int) == 1) = true := by simp
    wp_walk using wpAny_loadPart' hl
    repeat (first
      | (refine wpAny_ite_false (decide_eq_false (by decide)) ?_; wp_walk using wpAny_loadPart' hl)
      | (refine wpAny_ite_true (decide_eq_true (by rw [c1])) ?_; wp_walk using wpAny_loadPart' hl))
    exact ⟨_, rfl, h⟩
theorem tuple_mul0 (l : Addr) (items : Array Value) (n : Nat) (dd : Option Addr) (sl : Array (Option Value)) (u : Tok) (hi : items.isEmpty = false) :
    Meets (Builtin.«tuple.__mul__» ⟨[.ref l, .int 0 u], []⟩) (fun _ R s => s.heap.get? l = some { cls := .type "tuple", dict := dd, data := .seq items n, slots := sl } ∧
      R (.ok (.ret (Value.ref s.heap.objs.size))) { s with heap := s.heap.push { cls := Value.type "tuple", data := Data.seq #[] }, toks := s.toks }) :=
  .of_wp fun prog w A R s h => by
    obtain ⟨hp, g, d, tk, os⟩ := s
    obtain ⟨hl, h⟩ := h
    have f1 := AutoSeq1.idx_int
    have c1 : (items.isEmpty || (0 : Int) == 1) = false := by rw [hi]; rfl
    have c2 : (decide ((0 : Int) ≤ 0) || items.isEmpty) = true := by simp
    wp_walk using wpAny_loadPart' hl
    repeat (first
      | (refine wpAny_ite_false (decide_eq_false (by decide)) ?_; wp_walk using wpAny_loadPart' hl)
      | (refine wpAny_ite_false (decide_eq_false (by rw [c1]; exact Bool.false_ne_true)) ?_; wp_walk using wpAny_loadPart' hl)
      | (refine wpAny_ite_true (decide_eq_true (by rw [c2])) ?_; wp_walk using wpAny_loadPart' hl))
    exact ⟨_, rfl, h⟩
theorem fm_congr {α β : Type} {f g : α → Option β} : ∀ {l : List α}, (∀ x ∈ l, f x = g x) → l.filterMap f = l.filterMap g
  | [], _ => rfl
  | a :: l, h => by
    rw [List.filterMap_cons, List.filterMap_cons, h a List.mem_cons_self, fm_congr fun x hx => h x (List.mem_cons_of_mem _ hx)]
theorem sliceApplied_rev {prog : Program} {w : World} {A : Around} {E : Value → Shared → Prop} {s : Shared} {sl : Addr} {u : Tok} {n : Nat} {Q : Int × Int × Nat → Shared → Prop} (hs : s.heap.IsSliceOf sl .none .none (.int (-1) u))
    (h : Q ((n : Int) - 1, -1, Builtin.Slice.slicePlaces ((n : Int) - 1) (-1) (-1)) s) : wpAny (model prog w) A (Builtin.Slice.sliceApplied (.ref sl) (pure (n : Int))) Q E s := by
  obtain ⟨os, hos, hcs, hds⟩ := id hs
  unfold Builtin.Slice.sliceApplied Builtin.Slice.sliceFields
  refine wpAny_bind (wpAny_bind (wpAny_field hos hds (x := .none) rfl (wpAny_bind (wpAny_field hos hds (x := .none) rfl (wpAny_bind (wpAny_field hos hds (x := .int (-1) u) rfl (wpAny_pure ?_)))))))
  refine wpAny_bind (slicePart_int ?_)
  show wpAny _ _ (if ((-1 : Int) == 0) = true then _ else _) _ _ s
  rw [if_neg (by decide)]
  refine wpAny_bind (slicePart_none (wpAny_bind (slicePart_none (wpAny_bind (wpAny_pure ?_)))))
  exact wpAny_pure h
theorem getItem_tuple_rev {prog : Program} {w : World} {A : Around} {E : Value → Shared → Prop} {s : Shared} {t sl : Addr} {items : Array Value} {u : Tok} {Q : Value → Shared → Prop} (ht : IsTup s.heap t items) (hs : s.heap.IsSliceOf sl .none .none (.int (-1) u))
    (h : Q (.ref s.heap.objs.size) { s with heap := s.heap.push { cls := .type "tuple", data := .seq items.toList.reverse.toArray } }) (hsz : items.size ≤ sizeLine) : wpAny (model prog w) A (getItem (.ref t) (.ref sl)) Q E s := by
  have htake : sizeOk (.seq items.toList.reverse.toArray) := by
    show items.toList.reverse.toArray.size ≤ sizeLine
    rw [List.size_toArray, List.length_reverse, Array.length_toList]
    exact hsz
  obtain ⟨os, hos, hcs, hds⟩ := id hs
  have hTs : s.TypeIs (.ref sl) "slice" := ⟨os, hos, hcs⟩
  unfold getItem
  try with_reducible refine wpAny_holding ?_
  first | refine wpAny_bind (wpAny_pure ?_) | skip
  refine wpAny_bind (wpAny_sequenceKey ht.typeIs (by decide) ?_)
  refine wpAny_bind (wpAny_callSpecial?_slot (name := Str.ofString "__getitem__") ht.typeIs PyProof.Rows.slot_tuple_getitem
    (wpAny_call_entry PyProof.Rows.slot_tuple_getitem ht.typeIs entry_tuple_getitem ?_ (args_tuple_getitem _ _)))
  show wpAny _ _ (Builtin.Tuple.tupleItemsOf (.ref t) >>= _) _ _ s
  refine wpAny_bind (tupleItemsOf_ ht ?_)
  refine wpAny_bind (wpAny_typeOf hTs ?_)
  rw [if_pos (by decide)]
  have pick : ((List.range (Builtin.Slice.slicePlaces ((items.size : Int) - 1) (-1) (-1))).filterMap fun (k : Nat) => items[((items.size : Int) - 1 + (k : Int) * (-1)).toNat]?).toArray = items.toList.reverse.toArray := by
    have hp : Builtin.Slice.slicePlaces ((items.size : Int) - 1) (-1) (-1) = items.size := by
      unfold Builtin.Slice.slicePlaces
      rw [if_neg (by decide)]
      by_cases c : items.size = 0
      · rw [c, if_neg (by decide)]
        rfl
      · rw [if_pos (by omega), show (- -1 : Int) = 1 by decide, Int.ediv_one]
        omega
    rw [hp]
    have hf : ((List.range items.size).filterMap fun (k : Nat) => items[((items.size : Int) - 1 + (k : Int) * (-1)).toNat]?) = ((List.range items.size).map fun k => items.size - 1 - k).filterMap (items[·]?) := by
      rw [List.filterMap_map]
      refine fm_congr fun k hk => ?_
      have hk' := List.mem_range.mp hk
      show items[((items.size : Int) - 1 + (k : Int) * (-1)).toNat]? = items[items.size - 1 - k]?
      congr 1
      omega
    rw [hf, PySem.W.krv_range, List.filterMap_reverse, PySem.W.krv_all]
  refine wpAny_bind (sliceApplied_rev hs ?_)
  have hno : ¬ (((items.size : Int) - 1 == 0 && (-1 : Int) == 1 && Builtin.Slice.slicePlaces ((items.size : Int) - 1) (-1) (-1) == items.size) = true) := by
    intro q
    rw [Bool.and_eq_true, Bool.and_eq_true] at q
    exact absurd q.1.2 (by decide)
  show wpAny _ _ (if ((items.size : Int) - 1 == 0 && (-1 : Int) == 1 && Builtin.Slice.slicePlaces ((items.size : Int) - 1) (-1) (-1) == items.size) = true then _ else _) _ _ s
  rw [if_neg hno, pick]
  first
    | exact wpAny_bind (m := Builtin.Tuple.tupleExact _) (wpAny_newObj_type (wpAny_pure ⟨_, rfl, wpAny_pure h⟩) htake)
    | exact wpAny_bind (m := Builtin.Tuple.tupleExact _) (wpAny_newObj_type (wpAny_bind (wpAny_pure (wpAny_pure ⟨_, rfl, wpAny_pure h⟩))) htake)
    | exact wpAny_bind (wpAny_bind (m := Builtin.Tuple.tupleExact _) (wpAny_newObj_type (wpAny_pure (wpAny_pure ⟨_, rfl, wpAny_pure h⟩)) htake))
    | exact wpAny_bind (wpAny_bind (m := Builtin.Tuple.tupleExact _) (wpAny_newObj_type (wpAny_pure ⟨_, rfl, wpAny_pure h⟩) htake))
/-- t[::-1] -/
def tRevT (K : PySem.W.Frag) (te : TE) : TE := fun σ H Q => te σ H fun x H1 => ∃ a xs, x = .ref a ∧ SqT K H1 a xs ∧ ∀ p, H1 p = none → Q (.ref p) (upd H1 p (.tup xs.reverse))
theorem pe_revT {X : Cx} {e : Expr} {te : TE} {k : Nat} {p1 p2 p3 pos : Pos} (he : PE X e te) : PE X (.Subscript e (.Slice none none (some (.UnaryOp .USub (.Constant (.int 1) k p1) p2)) p3) pos) (tRevT X.K te) := by
  refine ⟨fun pins s σ H Q I h => ?_⟩
  refine Subscript_ (thn (he.run pins s σ H _ I h) fun v s1 ⟨x, H1, I1, r1, q1⟩ => ?_)
  obtain ⟨a, xs, ex, hx, q⟩ := q1
  subst ex
  cases r1
  have hst : PO X (some (.UnaryOp .USub (.Constant (.int 1) k p1) p2)) (tPart (tUn (rU fun i => .int (-i)) (tC (.int 1)))) := po_some (pe_un un_neg pe_int)
  refine wpAny_Slice (thn (po_none.run pins s1 σ H1 (fun o H2 => o = none ∧ H2 = H1) I1 ⟨rfl, rfl⟩) fun vl s2 ⟨l, H2, I2, pl, el, e2⟩ => ?_)
  subst el e2
  refine thn (po_none.run pins s2 σ H2 (fun o H3 => o = none ∧ H3 = H2) I2 ⟨rfl, rfl⟩) fun vu s3 ⟨u, H3, I3, pu, eu, e3⟩ => ?_
  subst eu e3
  refine thn (hst.run pins s3 σ H3 (fun o H4 => o = some (-1) ∧ H4 = H3) I3 ⟨1, rfl, -1, rfl, rfl, rfl⟩) fun vs s4 ⟨o, H4, I4, ps, eo, e4⟩ => ?_
  subst eo e4
  cases pl
  cases pu
  obtain ⟨t5, rfl⟩ : ∃ t5, vs = Value.int (-1) t5 := by
    cases ps
    exact ⟨_, rfl⟩
  have I5 : Inv X pins σ H4 { s4 with heap := s4.heap.push { cls := .type "slice", data := .fields #[.none, .none, .int (-1) t5] } } := I4.kept (t' := s4.toks) fun b ob q => Heap.get?_push_of_some _ q
  obtain ⟨its, r, ht, hz⟩ := I5.tuple hx
  have hlen := r.length
  show wpAny (model X.prog X.w) X.A (subscriptTail e (.Slice none none (some (.UnaryOp .USub (.Constant (.int 1) k p1) p2)) p3) (.ref a) (.ref s4.heap.objs.size)) (EP X pins σ Q) X.xe { s4 with heap := s4.heap.push { cls := .type "slice", data := .fields #[.none, .none, .int (-1) t5] } }
  refine tail_any (ops := [.ref a, .ref s4.heap.objs.size]) ht.typeIs (PyProof.Rows.slot_tuple_getitem.lookup) ?_ (by with_unfolding_all rfl)
  refine getItem_tuple_rev ht (Heap.IsSliceOf.new _ .none .none (.int (-1) t5)) ?_ (by rw [List.size_toArray]; omega)
  refine ⟨.ref _, _, I5.laid (t' := s4.toks) (o := .tup xs.reverse) (fun b ob q => Heap.get?_push_of_some _ q) (Nat.le_refl _) ?_, rfl, q _ (I5.hok.fresh (Nat.le_refl _))⟩
  exact ⟨by rw [List.length_reverse]; exact hz, _, r.reverse, IsTup.new _ _⟩
/-- t * k, k from 0 to 1000, t not empty -/
def rRepA (K : PySem.W.Frag) : R2 := fun x y H Q => ∃ l k xs, x = .ref l ∧ y = .int k ∧ SqT K H l xs ∧ xs ≠ [] ∧ 0 ≤ k ∧ k ≤ 1000 ∧ xs.length ≤ 1000 ∧ (k = 1 → Q (.ref l) H) ∧ (k ≠ 1 → ∀ p, H p = none → Q (.ref p) (upd H p (.tup (List.replicate k.toNat xs).flatten)))
theorem op_repA {X : Cx} : OpR X (binaryOp .Mult) (rRepA X.K) := by
  intro pins s σ H x y v u Q I rx ry h
  obtain ⟨l, k, xs, rfl, rfl, hT, hne, h1, h2, hz, q1, q2⟩ := h
  by_cases hk : 2 ≤ k
  · exact op_repT pins s σ H _ _ v u Q I rx ry ⟨l, k, xs, rfl, rfl, hT, hne, hk, h2, hz, q2 (by omega)⟩
  · cases rx
    obtain ⟨t, rfl⟩ := ry
    obtain ⟨its, r, ⟨⟨cls, dd, data, sl⟩, ho, hc, n, hd⟩, hs⟩ := I.tuple hT
    simp only at hc hd
    subst hc hd
    have hle : its.length = xs.length := r.length.symm
    have hi : its.toArray.isEmpty = false := by
      cases its with
      | nil =>
        exact absurd (List.eq_nil_of_length_eq_zero hle.symm) hne
      | cons a b => rfl
    by_cases k0 : k = 0
    · subst k0
      refine wpAny_binaryOp_repeat_ref (T := "tuple") (U := "int") (by decide) ⟨_, ho, rfl⟩ (fun s' => typeIs_int s' 0 t) noFill_tuple_mul F.fills_int_mul F.slot_int_rmul repeat_tuple F.slot_int_index.lookup
        (call_meets F.slot_int_rmul (typeIs_int s 0 t) F.entry_int_rmul (F.args_int_rmul_2 _ _) (int_rmul_tuple 0 t l its.toArray n dd sl)
          ⟨ho, rfl, ⟨_, ho, rfl⟩, call_meets F.slot_tuple_mul ⟨_, ho, rfl⟩ F.entry_tuple_mul (F.args_tuple_mul_2 _ _) (tuple_mul0 l its.toArray n dd sl t hi) ⟨ho, ?_⟩⟩)
      refine ⟨.ref s.heap.objs.size, _, I.laid (t' := s.toks) (o := .tup (List.replicate (0 : Int).toNat xs).flatten) (fun b ob q => Heap.get?_push_of_some _ q) (Nat.le_refl _) ?_, rfl, q2 (by decide) _ (I.hok.fresh (Nat.le_refl _))⟩
      exact ⟨Nat.zero_le _, [], .nil, IsTup.new _ _⟩
    · have k1 : k = 1 := by omega
      subst k1
      exact wpAny_binaryOp_repeat_ref (T := "tuple") (U := "int") (by decide) ⟨_, ho, rfl⟩ (fun s' => typeIs_int s' 1 t) noFill_tuple_mul F.fills_int_mul F.slot_int_rmul repeat_tuple F.slot_int_index.lookup
        (call_meets F.slot_int_rmul (typeIs_int s 1 t) F.entry_int_rmul (F.args_int_rmul_2 _ _) (int_rmul_tuple 1 t l its.toArray n dd sl)
          ⟨ho, rfl, ⟨_, ho, rfl⟩, call_meets F.slot_tuple_mul ⟨_, ho, rfl⟩ F.entry_tuple_mul (F.args_tuple_mul_2 _ _) (tuple_mul1 l its.toArray n dd sl t) ⟨ho, ⟨.ref l, H, I, rfl, q1 rfl⟩⟩⟩)
end QN

/-! own classes made: C(), cls(*e) in a classmethod -/
namespace QN
open PySem PySem.Spec PyProof.Rows L2
section
variable {X : Cx} {CX : CXT} {k i : Nat} {f C : Addr} {sp : Sp} {E : XK} {x : Str} {e : Expr} {te : TE} {p sp_ pos : Pos}
def tMakeR0 (C : Addr) (sp : Sp) (E : XK) : TE := fun σ H Q => ∀ x dx, H x = Option.none → H dx = Option.none → dx ≠ x → sp [V.ref x] (upd (upd H dx (.own x)) x (.ins C dx [])) (fun v H2 => v = .non ∧ Q (.ref x) H2) E
/-- C() -/
theorem pe_makeR0 (M : Mk X.K C f) (F : FnR X.prog X.w X.K X.mg X.base CX k f sp) (hr : Room (k + 1) X.A) (hg : Gl X x) (hm : X.mg x = some (.ref C)) (hx : Passes CX X E) (hdb : (x == ("__debug__" : Str)) = false := by decide) :
    PE X (.Call (.Name x p) [] [] pos) (tMakeR0 C sp E) := by
  refine ⟨fun pins s σ H Q I h => ?_⟩
  refine wpAny_Call_Name_kw (ld_glob I hg hm ?_ hdb)
  exact PySem.W.callWith_K0 I.kIn M.kp (StX.run_makeR M F hr hx I .nil h)
def tMakeS (K : PySem.W.Frag) (i : Nat) (C : Addr) (sp : Sp) (E : XK) (te : TE) : TE := fun σ H Q => σ[i]? = some (some (.ref C)) ∧ te σ H fun y H1 => ∃ a xs, y = V.ref a ∧ (SqT K H1 a xs ∨ SqL K H1 a xs) ∧
  ∀ x dx, H1 x = Option.none → H1 dx = Option.none → dx ≠ x → sp (V.ref x :: xs) (upd (upd H1 dx (.own x)) x (.ins C dx [])) (fun v H2 => v = .non ∧ Q (.ref x) H2) E
/-- cls(*e), cls the class C in the slot i -/
theorem pe_makeS (M : Mk X.K C f) (F : FnR X.prog X.w X.K X.mg X.base CX k f sp) (hr : Room (k + 1) X.A) (hN : X.N[i]? = some x) (hv : Vis X.env.scope x) (hx : Passes CX X E) (he : PE X e te)
    (hdb : (x == ("__debug__" : Str)) = false := by decide) (hcd : (x == ("__classdict__" : Str)) = false := by decide) (hst : starEach [.Starred e sp_] X.env = [(true, eval e X.env)] := by rfl) :
    PE X (.Call (.Name x p) [.Starred e sp_] [] pos) (tMakeS X.K i C sp E te) := by
  refine ⟨fun pins s σ H Q I h => ?_⟩
  obtain ⟨hs, ht⟩ := h
  refine wpAny_Call_Name_kw (thn ((pe_var (pos := p) hN hv hdb hcd).run pins s σ H (fun v H1 => v = .ref C ∧ H1 = H) I ⟨.ref C, hs, rfl, rfl⟩) fun u s1 ⟨v, H1, I1, r1, q1⟩ => ?_)
  obtain ⟨rfl, rfl⟩ := q1
  cases r1
  refine PySem.W.callWith_S (h₀ := X.base) I1.ok.mod.kin M.kp (thn (he.run pins s1 σ _ _ I1 ht) fun v s2 ⟨y, H2, I2, ry, a, xs, ey, hxs, q⟩ => ?_) hst
  subst ey
  obtain rfl : v = Value.ref a := ry
  exact StX.star_any I2 hxs fun us s3 I3 rv => ⟨I3.kIn, StX.run_makeR M F hr hx I3 rv q⟩
end
end QN

/-! < and > of plain data of one kind -/
namespace QN
open PySem PySem.Spec PyProof.Rows L2
/-- x < y, x > y for data that are alike -/
def rLtX (K : PySem.W.Frag) : R2 := fun x y H Q => ∃ d e : PyData, Dp K H x d ∧ Dp K H y e ∧ PySem.W.alike d e = true ∧ d ≠ .none ∧ d.depth ≤ 60 ∧ Q (.bl (PySem.W.dataLt d e)) H
def rGtX (K : PySem.W.Frag) : R2 := fun x y H Q => ∃ d e : PyData, Dp K H x d ∧ Dp K H y e ∧ PySem.W.alike d e = true ∧ d ≠ .none ∧ d.depth ≤ 60 ∧ Q (.bl (PySem.W.dataLt e d)) H
section
variable {X : Cx}
theorem op_ltX (hu : X.A.units + 64 < cLine) : OpR X (compareOp .Lt) (rLtX X.K) := by
  intro pins s σ H x y v u Q I rx ry h
  obtain ⟨d, e, hd, he, al, nn, dp, q⟩ := h
  obtain ⟨as, ra⟩ := Dp.reads I d x v hd rx
  obtain ⟨bs, rb⟩ := Dp.reads I e y u he ry
  exact PySem.W.lt_data ra rb al nn (by omega) ⟨.bl _, H, I, rfl, q⟩
theorem op_gtX (hu : X.A.units + 64 < cLine) : OpR X (compareOp .Gt) (rGtX X.K) := by
  intro pins s σ H x y v u Q I rx ry h
  obtain ⟨d, e, hd, he, al, nn, dp, q⟩ := h
  obtain ⟨as, ra⟩ := Dp.reads I d x v hd rx
  obtain ⟨bs, rb⟩ := Dp.reads I e y u he ry
  exact PySem.W.gt_data ra rb al nn (by omega) ⟨.bl _, H, I, rfl, q⟩
/-- x in t for data in a tuple -/
def rInT (K : PySem.W.Frag) : R2 := fun x y H Q => ∃ (d : PyData) (ds : List PyData), Dp K H x d ∧ Dp K H y (.tuple ds) ∧ SeqAt.shaped d = true ∧ SeqAt.shaped (.tuple ds) = true ∧ Q (.bl (ds.any fun z => PyData.eqv z d)) H
theorem op_inT (hu : X.A.units + 65 < cLine) : OpR X (compareOp .In) (rInT X.K) := by
  intro pins s σ H x y v u Q I rx ry h
  obtain ⟨d, ds, hd, he, sd, se, q⟩ := h
  obtain ⟨as, r1⟩ := Dp.reads I d x v hd rx
  obtain ⟨bs, r2⟩ := Dp.reads I (.tuple ds) y u he ry
  exact SeqAt.in_tuple_reads r2 r1 (SeqAt.canLay_of_shaped se) (SeqAt.canLay_of_shaped sd) (room_in_shaped sd hu) ⟨.bl _, H, I, rfl, q⟩
end
end QN

/-! the built-in names of the graph laws -/
namespace Qp
open PySem PySem.Spec PyProof.Rows L2 QN
theorem sqT_same {K : PySem.W.Frag} {H H' : Hp} {p : Addr} {xs : List V} (s : Same H H') (h : SqT K H p xs) : SqT K H' p xs := by
  rcases h with h | h
  · rcases h with h | ⟨o, h⟩
    · exact .inl (.inl (s _ _ h))
    · exact .inl (.inr ⟨o, s _ _ h⟩)
  · exact .inr h
theorem same_new {H : Hp} {p : Addr} {o : HO} (h : H p = none) : Same H (upd H p o) := fun b x e => by
  rw [upd_ne (ne_of_none e h)]
  exact e
theorem if_yes {c : Prop} [Decidable c] {a b : Prop} (h : c) (x : a) : if c then a else b := by rw [if_pos h]; exact x
theorem if_no {c : Prop} [Decidable c] {a b : Prop} (h : ¬ c) (x : b) : if c then a else b := by rw [if_neg h]; exact x
theorem but_same {p : Addr} {H H1 H2 : Hp} (s : Same H H1) (b : But p H1 H2) : But p H H2 := fun c o n e => b c o n (s c o e)
theorem but_trans {p : Addr} {H H1 H2 : Hp} (a : But p H H1) (b : But p H1 H2) : But p H H2 := fun c o n e => b c o n (a c o n e)
theorem same_but {p : Addr} {H H1 : Hp} (s : Same H H1) : But p H H1 := fun c o _ e => s c o e
theorem slot_set {σ : L2.St} {i : Nat} {v : V} (h : i < σ.length) : (σ.set i (some v))[i]? = some (some v) := by rw [List.getElem?_set_self h]
theorem slot_keep {σ : L2.St} {i j : Nat} {u : Option V} {v : V} (n : j ≠ i) (h : σ[i]? = some (some v)) : (σ.set j u)[i]? = some (some v) := by rw [List.getElem?_set_ne n]; exact h
/-- ints as values -/
def iv (ns : List Int) : List V := ns.map V.int

theorem yes_if {σ : L2.St} {H : Hp} {A B : Hp → Prop} (a : A H) : tYes σ H (fun b H3 => if b = true then A H3 else B H3) := by
  show (if true = true then A H else B H)
  rw [if_pos rfl]
  exact a
theorem tyx_tup {K : PySem.W.Frag} {H : Hp} {q : Addr} {xs : List V} (h : SqT K H q xs) : TyX K H (.ref q) (.type "tuple") := by
  rcases h with (h | ⟨o, h⟩) | ⟨o, its, n, h1, h2, _⟩
  · exact .base (.tup h)
  · exact .fTuple h
  · exact .kTuple h1 h2
structure Blt2 (mg : Str → Option Value) : Prop where
  rg : mg "range" = none
  tu : mg "tuple" = none
  li : mg "list" = none
structure BltP (mg : Str → Option Value) : Prop where
  isi : mg "isinstance" = none
  int : mg "int" = none
  bool : mg "bool" = none
  tuple : mg "tuple" = none
  len : mg "len" = none
  all : mg "all" = none
  str : mg "str" = none
  rg : mg "range" = none
end Qp

/-! items in a drawn order -/
namespace Qp
open PySem PySem.Spec PyProof.Rows L2 QN
abbrev sMixed : Stmt := top 30 -- _law_mixed
abbrev mixNames : List Str := ["_law_dice_here", "_law_items", "_law_left", "_law_turn"]
theorem scMixed : FnScope mixNames ["_law_dice_here", "_law_items"] (defScope sMixed) := ⟨rfl, rfl, rfl, by decide +kernel, rfl, by decide +kernel, by decide +kernel⟩
theorem sqLsm {K : PySem.W.Frag} {H H' : Hp} {q : Addr} {xs : List V} (e : Same H H') (a : SqL K H q xs) : SqL K H' q xs := by
  rcases a with (a | ⟨u, a⟩) | a
  · exact .inl (.inl (e _ _ a))
  · exact .inl (.inr ⟨u, e _ _ a⟩)
  · exact .inr a
theorem erase_perm {α : Type} : ∀ (l : List α) (j : Nat) (h : j < l.length), (l[j] :: l.eraseIdx j).Perm l
  | [], _, h => absurd h (Nat.not_lt_zero _)
  | x :: l, 0, _ => List.Perm.refl _
  | x :: l, j + 1, h => (List.Perm.swap x (l[j]'(Nat.lt_of_succ_lt_succ h)) _).trans (List.Perm.cons x (erase_perm l j (Nat.lt_of_succ_lt_succ h)))
def spMixed (K : PySem.W.Frag) : Sp := fun vs H Q _ => ∃ (p q : Addr) (x y z : Int) (its : List V), vs = [.ref p, .ref q] ∧ H p = some (.lst (hand x y z)) ∧ (SqL K H q its ∨ SqT K H q its) ∧ its.length < 1000000 ∧
  ∀ (r : Addr) (ys : List V) (x' y' z' : Int) (H' : Hp), ys.Perm its → H' r = some (.lst ys) → H' p = some (.lst (hand x' y' z')) → But p H H' → Q (.ref r) H'
def rLenM (K : PySem.W.Frag) : List V → Hp → VK → Prop := fun xs H Q => ∃ p ys, xs = [V.ref p] ∧ (SqL K H p ys ∨ SqT K H p ys) ∧ Q (V.int ys.length) H
section
variable {P : Program} {w : World} {K : PySem.W.Frag} {mg : Str → Option Value} {base : Heap}
theorem ok_mixed {f fR : Addr} {fd fdR : FuncData} (F : Fun K "_law_mixed" "_law_mixed" sMixed f fd) (GR : FnOk P w K mg base CX0 1 fR fdR ["_law_dice_here", "_law_total"] spRoll) (kR : PySem.W.keepIn K (.ref fR) = true) (bR : L2.Binds K fdR ["_law_dice_here", "_law_total"] []) (gR : mg "_law_roll" = some (.ref fR)) (B : Blt mg) (B2 : Blt2 mg) :
    FnOk P w K mg base CX0 2 f fd ["_law_dice_here", "_law_items"] (spMixed K) := by
  refine F.ok scMixed (fun vs H Q E h => ?_) (fun cdv A outer s H vs Q E hr h => ?_)
  · obtain ⟨p, q, x, y, z, its, rfl, _⟩ := h
    rfl
  · obtain ⟨p, q, x, y, z, its, rfl, hp, hq, hl, k⟩ := h
    refine ⟨_, pss_cons (ps_set (i := 2) scMixed.nd rfl (.inr rfl) (pe_callTy call_list_of (by rfl) B2.li (by decide +kernel) (pa_cons (pv 1) pa_nil)))
      (pss_one (ps_ret (pe_lc (own := [("_law_turn", 3)]) (g := gName 3) (tt := tYes)
        (te := tBM K "list" rPopAt (tVar 2) (tCons (tCall spRoll [] L2.E0 (tCons (tVar 0) (tCons (tCB (rLenM K) (tCons (tVar 2) tNil)) tNil))) tNil)) rfl scMixed.nd (pi_range1 (by rfl) B2.rg (pa_cons (pe_callB call_len_seq (by rfl) B.len PySem.boot_len (pa_cons (pv 1) pa_nil)) pa_nil)) (blkOk_by (N := mixNames) (sc := defScope sMixed) (by decide +kernel))
        (fun _ _ _ _ _ => pg_name (i := 3) scMixed.nd rfl (.inl rfl) (hf := .inr rfl)) (fun _ _ _ _ _ => pts_nil)
        (fun _ _ _ _ _ => pe_bm PySem.F.plainAttrs_list PySem.F.slot_list_pop PySem.F.type_list_pop mt_popAt (pv 2) (pa_cons (pe_call GR hr (by rfl) gR kR bR .nil pass0 (pa_cons (pv 0) (pa_cons (pe_callB call_len_seq (by rfl) B.len PySem.boot_len (pa_cons (pv 2) pa_nil)) pa_nil))) pa_nil))))), ?_⟩
    refine ⟨.ref q, rfl, q, _, rfl, hq, fun L hL => ?_⟩
    have hL1 : (upd H L (.lst its)) L = some (.lst its) := upd_same
    have sL := same_new (o := .lst its) hL
    have nLp : L ≠ p := (fun c => by rw [c, hp] at hL; cases hL)
    refine ⟨.ref q, rfl, q, its, rfl, hq.elim (fun a => .inl (sqLsm sL a)) (fun a => .inr (sqT_same sL a)), _, rfl, by omega, by omega, fun D hD => ?_⟩
    have nDp : D ≠ p := (fun c => by rw [c, sL _ _ hp] at hD; cases hD)
    have nDL : D ≠ L := (fun c => by rw [c, hL1] at hD; cases hD)
    refine lc_range (fun i H' => ∃ ms rest x y z, H' D = some (.lst ms) ∧ H' L = some (.lst rest) ∧ (ms ++ rest).Perm its ∧ ms.length = i ∧ H' p = some (.lst (hand x y z)) ∧ But p H H')
      ⟨[], its, x, y, z, upd_same, by rw [upd_ne nDL.symm]; exact hL1, List.Perm.refl _, rfl, by rw [upd_ne nDp.symm]; exact sL _ _ hp, same_but (sL.trans (same_new hD))⟩ (fun i H' hi hV => ?_) fun H' hV => ?_
    · rw [Int.toNat_natCast] at hi
      obtain ⟨ms, rest, x1, y1, z1, hD1, hL1', pm, hm, hp1, b1⟩ := hV
      have len := pm.length_eq
      rw [List.length_append] at len
      refine ⟨rfl, .ref L, rfl, .inl ⟨rfl, _, .inl (.inl hL1')⟩, .ref p, rfl, .ref L, rfl, L, rest, rfl, .inl (.inl (.inl hL1')), p, x1, y1, z1, _, rfl, hp1, by omega, by omega, fun t x2 y2 z2 H2 t0 t1 hp2 b2 => ?_⟩
      obtain ⟨j, rfl⟩ := Int.eq_ofNat_of_zero_le t0
      have hj : j < rest.length := by omega
      have hL2 := b2 _ _ nLp hL1'
      refine ⟨L, rest, _, j, rest[j], rfl, rfl, hL2, by omega, by omega, ?_, List.getElem?_eq_getElem hj, _, by rw [upd_ne nDL]; exact b2 _ _ nDp hD1, ?_, ms ++ [rest[j]], rest.eraseIdx j, x2, y2, z2, upd_same, by rw [upd_ne nDL.symm]; exact upd_same, ?_, ?_, ?_, ?_⟩
      · exact PySem.StrLaws.seqIndex_nonneg (i := (j : Int)) t0 (by omega)
      · rw [sizeLine_eq]
        omega
      · refine List.Perm.trans ?_ pm
        rw [List.append_assoc]
        refine List.Perm.append_left ms ?_
        exact erase_perm rest j hj
      · rw [List.length_append, hm]
        rfl
      · rw [upd_ne nDp.symm, upd_ne nLp.symm]
        exact hp2
      · intro b o nb e
        have e2 := b2 b o nb (b1 b o nb e)
        by_cases c : b = L
        · rw [c, hL] at e
          cases e
        by_cases c2 : b = D
        · rw [c2] at e
          rw [sL _ _ e] at hD
          cases hD
        · rw [upd_ne c2, upd_ne c]
          exact e2
    · obtain ⟨ms, rest, x1, y1, z1, hD1, hL1', pm, hm, hp1, b1⟩ := hV
      rw [Int.toNat_natCast] at hm
      have len := pm.length_eq
      rw [List.length_append] at len
      have hr0 : rest = [] := List.length_eq_zero_iff.mp (by omega)
      rw [hr0, List.append_nil] at pm
      exact k D ms x1 y1 z1 H' pm hD1 hp1 b1
end
end Qp

/-! names and tuples of names -/
namespace Qp
open PySem PySem.Spec PyProof.Rows L2 QN
abbrev sIsI : Stmt := top 8 -- is_integer
abbrev sIsName : Stmt := top 9 -- is_name
abbrev sIsToN : Stmt := top 10 -- is_tuple_of_names
abbrev sIsAsc : Stmt := top 11 -- is_ascending
theorem scIsName : FnScope ["value", "letter"] ["value"] (defScope sIsName) := ⟨rfl, rfl, rfl, by decide +kernel, rfl, by decide +kernel, by decide +kernel⟩
theorem scIsToN : FnScope ["value", "name"] ["value"] (defScope sIsToN) := ⟨rfl, rfl, rfl, by decide +kernel, rfl, by decide +kernel, by decide +kernel⟩
def letters : Str := "abcdefghijklmnopqrstuvwxyz"
/-- a name as the document asks -/
def NameOk (x : Str) : Prop := 1 ≤ x.length ∧ x.length ≤ 8 ∧ ∀ c ∈ x.cps.toList, c ∈ letters.cps.toList
structure Lim (mg : Str → Option Value) : Prop where
  le : ∃ t, mg "_LETTERS" = some (.str letters t)
  ml : ∃ t, mg "_MAX_LETTERS" = some (.int 8 t)
def spIsName : Sp := fun vs H Q _ => ∃ x, vs = [.str x] ∧ NameOk x ∧ ∀ H', Same H H' → Q (.bl true) H'
def spIsToN (K : PySem.W.Frag) : Sp := fun vs H Q _ => ∃ (a : Addr) (xs : List Str), vs = [.ref a] ∧ SqT K H a (xs.map V.str) ∧ (∀ x ∈ xs, NameOk x) ∧ xs.length ≤ 1000 ∧ ∀ H', Same H H' → Q (.bl true) H'
theorem same_at {H H1 H2 : Hp} {D : Addr} {o o' : HO} (a : Same H H1) (n : H D = none) (b : Same H1 H2) (_ : H1 D = some o) : Same H (upd H2 D o') := fun c x e => by
  have ne : c ≠ D := fun z => by rw [z, n] at e; cases e
  rw [upd_ne ne]
  exact b _ _ (a _ _ e)
/-- a comprehension whose values are all True -/
theorem all_true {J : It} {n : Nat} {G : Hp → Prop} {Yv : Nat → V → Prop} (w : Walk J n G fun i H v H' => H' = H ∧ Yv i v) {g : TG} {tt : TT} {te : TE} {vs : List Nat} {σ : L2.St} {H1 : Hp} {D : Addr} {Qd : Hp → Prop} (hD : H1 D = none) (hG : ∀ H', Same H1 H' → G H') (hn : n ≤ 1000000)
    (hs : ∀ i x Ha (QK : VK) (F : Hp → Prop), i < n → Same H1 Ha → Yv i x → (∀ H4, Same Ha H4 → QK (.bl true) H4) → g x (wipe σ vs) Ha fun σ2 H2 => wipe σ2 vs = wipe σ vs ∧ tt σ2 H2 fun b H3 => if b = true then te σ2 H3 QK else F H3)
    (hd : ∀ H', Same H1 H' → H' D = some (.lst ((List.replicate n true).map V.bl)) → Qd H') :
    ∃ W : Nat → Nat → Hp → Prop, (∃ m, W 0 m (upd H1 D (.lst []))) ∧ ∀ i m H, W i m H →
      (J.stop i H ∧ Qd H) ∨ (J.go i H ∧ ∃ Nx : Hp → Prop, (∀ H', Nx H' → ∃ m', m' < m ∧ W (i + 1) m' H') ∧ ∀ x H', J.yld i H x H' → g x (wipe σ vs) H' fun σ2 H2 => wipe σ2 vs = wipe σ vs ∧ tt σ2 H2 fun b H3 =>
        if b = true then te σ2 H3 fun y H4 => ∃ acc, H4 D = some (.lst acc) ∧ acc.length < sizeLine ∧ Nx (upd H4 D (.lst (acc ++ [y]))) else Nx H3) :=
  lc_it w (fun i H' => Same H1 H' ∧ H' D = some (.lst ((List.replicate i true).map V.bl))) ⟨same_new hD, upd_same⟩ (fun i H' _ p => hG H' p.1)
    (fun i x Ha Hb hi p y => by
      obtain ⟨rfl, y⟩ := y
      refine hs i x _ _ _ hi p.1 y fun H4 s4 => ⟨_, s4 _ _ p.2, ?_, same_at p.1 hD s4 p.2, ?_⟩
      · rw [List.length_map, List.length_replicate, sizeLine_eq]
        omega
      · rw [upd_same, List.replicate_succ', List.map_append]
        rfl)
    fun H' p => hd H' p.1 p.2
theorem all_rep (n : Nat) : (List.replicate n true).all id = true := by
  rw [List.all_eq_true]
  intro b hb
  rw [List.mem_replicate] at hb
  exact hb.2
section
variable {P : Program} {w : World} {K : PySem.W.Frag} {mg : Str → Option Value} {base : Heap}
theorem ok_isName {f : Addr} {fd : FuncData} (F : Fun K "is_name" "is_name" sIsName f fd) (B : BltP mg) (L : Lim mg) : FnOk P w K mg base CX0 1 f fd ["value"] spIsName := by
  refine F.ok scIsName (fun vs H Q E h => ?_) (fun cdv A outer s H vs Q E hr h => ?_)
  · obtain ⟨x, rfl, _⟩ := h
    rfl
  · obtain ⟨x, rfl, ok, k⟩ := h
    obtain ⟨t1, e1⟩ := L.le
    obtain ⟨t2, e2⟩ := L.ml
    refine ⟨_, pss_cons (ps_if (PW.pt (pw_or (pt_not (pt_val (pe_callB call_isi (by rfl) B.isi (by decide +kernel) (pa_cons (pv 0) (pa_cons (pe_bltn (v := .ty "str") (by rfl) B.str (by decide +kernel) rfl) pa_nil))))) (pw_or1 (pt_not (pt_chain op_le op_le pe_int (pe_callB call_len (by rfl) B.len PySem.boot_len (pa_cons (pv 0) pa_nil)) (pe_glob (v := .int 8) (by rfl) e2 ⟨_, rfl⟩)))))) (pss_one (ps_ret pe_bl)) pss_nil)
      (pss_one (ps_ret (pe_callB (cr_all rfl) (by rfl) B.all (by decide +kernel) (pa_cons (pe_lc (own := [("letter", 1)]) (g := gName 1) (tt := tYes) rfl scIsName.nd (pi_str (pv 0)) (blkOk_by (N := ["value", "letter"]) (sc := defScope sIsName) (by decide +kernel))
        (fun _ _ _ _ _ => pg_name (i := 1) scIsName.nd rfl (.inl rfl)) (fun _ _ _ _ _ => pts_nil) (fun _ _ _ _ _ => pe_cmpR op_in_sign (pv 1) (pe_glob (v := .str letters) (by rfl) e1 ⟨_, rfl⟩) rfl)) pa_nil)))), ?_⟩
    have hx := ok.2.1
    refine ⟨_, rfl, _, _, _, _, true, rfl, .ty _, .base (.str x), kit_ty (by decide +kernel), _, rfl, if_no (by decide) ?_⟩
    refine ⟨_, rfl, .str x, x.length, rfl, ⟨by rw [sizeLine_eq]; omega, rfl⟩, _, _, rfl, rfl, _, rfl, if_yes (decide_eq_true (by have := ok.1; omega)) ⟨_, _, rfl, rfl, _, rfl, if_no (by rw [decide_eq_true (by omega)]; decide) ?_⟩⟩
    refine ⟨_, rfl, x, rfl, fun D hD => ?_⟩
    refine all_true walk_str hD (fun _ _ => trivial) (by have e : x.cps.size = x.length := rfl; omega) (fun i v Ha QK Ff hi sa y q => ?_) fun H' s' hD' => ⟨D, _, rfl, .inl (.inl hD'), ?_⟩
    · obtain ⟨c, hc, rfl⟩ := y
      refine ⟨rfl, yes_if ⟨_, rfl, c, letters, rfl, rfl, ?_⟩⟩
      rw [decide_eq_true (ok.2.2 c (Array.mem_toList_iff.mpr (Array.mem_of_getElem? hc)))]
      exact q _ (Same.refl _)
    · rw [all_rep]
      exact k _ s'
theorem ok_isToN {f fN : Addr} {fd fdN : FuncData} (F : Fun K "is_tuple_of_names" "is_tuple_of_names" sIsToN f fd) (GN : FnOk P w K mg base CX0 1 fN fdN ["value"] spIsName) (kN : PySem.W.keepIn K (.ref fN) = true) (bN : L2.Binds K fdN ["value"] []) (gN : mg "is_name" = some (.ref fN)) (B : BltP mg) :
    FnOk P w K mg base CX0 2 f fd ["value"] (spIsToN K) := by
  refine F.ok scIsToN (fun vs H Q E h => ?_) (fun cdv A outer s H vs Q E hr h => ?_)
  · obtain ⟨a, xs, rfl, _⟩ := h
    rfl
  · obtain ⟨a, xs, rfl, ha, ok, few, k⟩ := h
    refine ⟨_, pss_one (ps_ret (pe_and (pe_callB call_isi (by rfl) B.isi (by decide +kernel) (pa_cons (pv 0) (pa_cons (pe_bltn (v := .ty "tuple") (by rfl) B.tuple (by decide +kernel) rfl) pa_nil))) (pe_one (pe_callB (cr_all rfl) (by rfl) B.all (by decide +kernel) (pa_cons (pe_lc (own := [("name", 1)]) (g := gName 1) (tt := tYes) rfl scIsToN.nd (pi_tup (pv 0)) (blkOk_by (N := ["value", "name"]) (sc := defScope sIsToN) (by decide +kernel))
        (fun _ _ _ _ _ => pg_name (i := 1) scIsToN.nd rfl (.inl rfl)) (fun _ _ _ _ _ => pts_nil) (fun _ _ _ _ _ => pe_call GN hr (by rfl) gN kN bN .nil pass0 (pa_cons (pv 1) pa_nil))) pa_nil))))), ?_⟩
    refine ⟨_, rfl, _, _, _, _, true, rfl, .ty _, tyx_tup ha, kit_ty (by decide +kernel), _, rfl, if_yes rfl ?_⟩
    refine ⟨_, rfl, a, rfl, ⟨_, ha⟩, fun D hD => ?_⟩
    refine all_true (walk_tup (xs := xs.map V.str)) hD (fun _ s' => sqT_same s' ha) (by rw [List.length_map]; omega) (fun i v Ha QK Ff hi sa y q => ?_) fun H' s' hD' => ⟨D, _, rfl, .inl (.inl hD'), ?_⟩
    · rw [List.getElem?_map] at y
      cases hc : xs[i]? with
      | none => rw [hc] at y; cases y
      | some x =>
        rw [hc] at y
        cases (Option.some.inj y : V.str x = v)
        exact ⟨rfl, yes_if ⟨_, rfl, x, rfl, ok x (List.mem_of_getElem? hc), q⟩⟩
    · rw [all_rep]
      exact k _ s'
end
end Qp

/-! changes and transitions -/
namespace Qp
open PySem PySem.Spec PyProof.Rows L2 QN
abbrev sIsTr : Stmt := top 17 -- is_transition
abbrev sIsCh : Stmt := top 18 -- _is_change
abbrev sIsCC : Stmt := top 19 -- _is_counter_change
abbrev sIsAm : Stmt := top 20 -- _is_amount
theorem scIsI : FnScope ["value"] ["value"] (defScope sIsI) := ⟨rfl, rfl, rfl, by decide +kernel, rfl, by decide +kernel, by decide +kernel⟩
theorem scIsAsc : FnScope ["values", "at"] ["values"] (defScope sIsAsc) := ⟨rfl, rfl, rfl, by decide +kernel, rfl, by decide +kernel, by decide +kernel⟩
theorem scIsTr : FnScope ["value", "name"] ["value"] (defScope sIsTr) := ⟨rfl, rfl, rfl, by decide +kernel, rfl, by decide +kernel, by decide +kernel⟩
theorem scIsCh : FnScope ["value", "pair", "counter", "_"] ["value"] (defScope sIsCh) := ⟨rfl, rfl, rfl, by decide +kernel, rfl, by decide +kernel, by decide +kernel⟩
theorem scIsCC : FnScope ["value"] ["value"] (defScope sIsCC) := ⟨rfl, rfl, rfl, by decide +kernel, rfl, by decide +kernel, by decide +kernel⟩
theorem scIsAm : FnScope ["value"] ["value"] (defScope sIsAm) := ⟨rfl, rfl, rfl, by decide +kernel, rfl, by decide +kernel, by decide +kernel⟩
structure Lim2 (mg : Str → Option Value) : Prop where
  mc : ∃ t, mg "_MAX_CHANGE" = some (.int 9 t)
def spIsI : Sp := fun vs H Q _ => ∃ n : Int, vs = [.int n] ∧ Q (.bl true) H
def spIsAm : Sp := fun vs H Q _ => ∃ n : Int, vs = [.int n] ∧ -9 ≤ n ∧ n ≤ 9 ∧ Q (.bl true) H
/-- the change of a counter -/
def CcOk (p : Str × Int) : Prop := NameOk p.1 ∧ p.2 ≠ 0 ∧ -9 ≤ p.2 ∧ p.2 ≤ 9
def spIsCC (K : PySem.W.Frag) : Sp := fun vs H Q _ => ∃ (a : Addr) (p : Str × Int), vs = [.ref a] ∧ SqT K H a [.str p.1, .int p.2] ∧ CcOk p ∧ ∀ H', Same H H' → Q (.bl true) H'
section
variable {P : Program} {w : World} {K : PySem.W.Frag} {mg : Str → Option Value} {base : Heap}
theorem ok_isI {f : Addr} {fd : FuncData} (F : Fun K "is_integer" "is_integer" sIsI f fd) (B : BltP mg) : FnOk P w K mg base CX0 1 f fd ["value"] spIsI := by
  refine F.ok scIsI (fun vs H Q E h => ?_) (fun cdv A outer s H vs Q E hr h => ?_)
  · obtain ⟨n, rfl, _⟩ := h
    rfl
  · obtain ⟨n, rfl, k⟩ := h
    refine ⟨_, pss_one (ps_ret (pe_and (pe_callB call_isi (by rfl) B.isi (by decide +kernel) (pa_cons (pv 0) (pa_cons (pe_bltn (v := .ty "int") (by rfl) B.int (by decide +kernel) rfl) pa_nil)))
      (pe_one (pe_not (pe_callB call_isi (by rfl) B.isi (by decide +kernel) (pa_cons (pv 0) (pa_cons (pe_bltn (v := .ty "bool") (by rfl) B.bool (by decide +kernel) rfl) pa_nil))))))), ?_⟩
    refine ⟨_, rfl, _, _, _, _, true, rfl, .ty _, .base (.int n), kit_ty (by decide +kernel), _, rfl, if_yes rfl ?_⟩
    exact ⟨_, rfl, _, _, _, _, false, rfl, .ty _, .base (.int n), kit_ty (by decide +kernel), _, rfl, k⟩
theorem ok_isAm {f fI : Addr} {fd fdI : FuncData} (F : Fun K "_is_amount" "_is_amount" sIsAm f fd) (GI : FnOk P w K mg base CX0 1 fI fdI ["value"] spIsI) (kI : PySem.W.keepIn K (.ref fI) = true) (bI : L2.Binds K fdI ["value"] []) (gI : mg "is_integer" = some (.ref fI)) (L : Lim2 mg) :
    FnOk P w K mg base CX0 2 f fd ["value"] spIsAm := by
  refine F.ok scIsAm (fun vs H Q E h => ?_) (fun cdv A outer s H vs Q E hr h => ?_)
  · obtain ⟨n, rfl, _⟩ := h
    rfl
  · obtain ⟨n, rfl, lo, hi, k⟩ := h
    obtain ⟨t, e⟩ := L.mc
    refine ⟨_, pss_one (ps_ret (pe_and (pe_call GI hr (by rfl) gI kI bI .nil pass0 (pa_cons (pv 0) pa_nil)) (pe_one (pe_chain op_le op_le (pe_un un_neg (pe_glob (v := .int 9) (by rfl) e ⟨_, rfl⟩)) (pv 0) (pe_glob (v := .int 9) (by rfl) e ⟨_, rfl⟩))))), ?_⟩
    refine ⟨_, rfl, n, rfl, _, rfl, if_yes rfl ?_⟩
    refine ⟨_, rfl, _, rfl, _, _, rfl, rfl, _, rfl, if_yes (decide_eq_true (by omega)) ⟨_, _, rfl, rfl, ?_⟩⟩
    show Q (.bl (decide (n ≤ 9))) H
    rw [decide_eq_true hi]
    exact k
theorem ok_isCC {f fN fA : Addr} {fd fdN fdA : FuncData} (F : Fun K "_is_counter_change" "_is_counter_change" sIsCC f fd) (GN : FnOk P w K mg base CX0 1 fN fdN ["value"] spIsName) (kN : PySem.W.keepIn K (.ref fN) = true) (bN : L2.Binds K fdN ["value"] []) (gN : mg "is_name" = some (.ref fN))
    (GA : FnOk P w K mg base CX0 2 fA fdA ["value"] spIsAm) (kA : PySem.W.keepIn K (.ref fA) = true) (bA : L2.Binds K fdA ["value"] []) (gA : mg "_is_amount" = some (.ref fA)) (B : BltP mg) : FnOk P w K mg base CX0 3 f fd ["value"] (spIsCC K) := by
  refine F.ok scIsCC (fun vs H Q E h => ?_) (fun cdv A outer s H vs Q E hr h => ?_)
  · obtain ⟨a, p, rfl, _⟩ := h
    rfl
  · obtain ⟨a, ⟨x, n⟩, rfl, ha, ⟨nx, n0, lo, hi⟩, k⟩ := h
    refine ⟨_, pss_cons (ps_if (PW.pt (pw_or (pt_not (pt_val (pe_callB call_isi (by rfl) B.isi (by decide +kernel) (pa_cons (pv 0) (pa_cons (pe_bltn (v := .ty "tuple") (by rfl) B.tuple (by decide +kernel) rfl) pa_nil))))) (pw_or (pt_cmpR op_ne (pe_callB call_len_seq (by rfl) B.len PySem.boot_len (pa_cons (pv 0) pa_nil)) pe_int (nomark _))
        (pw_or1 (pt_not (pt_val (pe_call GN (hr.mono (by decide)) (by rfl) gN kN bN .nil pass0 (pa_cons (pe_ix ix_tup (pv 0) pe_int (fun _ _ => rfl)) pa_nil)))))))) (pss_one (ps_ret pe_bl)) pss_nil)
      (pss_one (ps_ret (pe_and (pe_call GA hr (by rfl) gA kA bA .nil pass0 (pa_cons (pe_ix ix_tup (pv 0) pe_int (fun _ _ => rfl)) pa_nil)) (pe_one (pe_cmpR op_ne (pe_ix ix_tup (pv 0) pe_int (fun _ _ => rfl)) pe_int (nomark _)))))), ?_⟩
    refine ⟨_, rfl, _, _, _, _, true, rfl, .ty _, tyx_tup ha, kit_ty (by decide +kernel), _, rfl, if_no (by decide) ?_⟩
    refine ⟨_, rfl, a, _, rfl, .inr ha, ?_⟩
    refine ⟨rfl, _, rfl, if_no (by show ¬(!decide (V.int ((2 : Nat) : Int) = V.int 2)) = true; decide) ?_⟩
    refine ⟨_, rfl, a, _, _, .str x, rfl, rfl, ha, rfl, x, rfl, nx, fun H1 s1 => ⟨_, rfl, if_no (by decide) ?_⟩⟩
    have h1 := sqT_same s1 ha
    refine ⟨_, rfl, a, _, _, .int n, rfl, rfl, h1, rfl, n, rfl, lo, hi, _, rfl, if_yes rfl ?_⟩
    refine ⟨_, rfl, a, _, _, .int n, rfl, rfl, h1, rfl, rfl, ?_⟩
    have e : decide (V.int n = V.int 0) = false := decide_eq_false fun c => n0 (by cases c; rfl)
    show Q (V.bl !decide (V.int n = V.int 0)) H1
    rw [e]
    exact k _ s1
/-- strictly ascending texts -/
def Asc (xs : List Str) : Prop := ∀ i x y, xs[i]? = some x → xs[i + 1]? = some y → x.cps.toList < y.cps.toList
def spIsAsc (K : PySem.W.Frag) : Sp := fun vs H Q _ => ∃ (a : Addr) (xs : List Str), vs = [.ref a] ∧ SqL K H a (xs.map V.str) ∧ Asc xs ∧ xs.length ≤ 1000 ∧ ∀ H', Same H H' → Q (.bl true) H'
theorem sqL_same {K : PySem.W.Frag} {H H' : Hp} {p : Addr} {xs : List V} (s : Same H H') (h : SqL K H p xs) : SqL K H' p xs := by
  rcases h with (h | ⟨o, h⟩) | h
  · exact .inl (.inl (s _ _ h))
  · exact .inl (.inr ⟨o, s _ _ h⟩)
  · exact .inr h
theorem ok_isAsc {f : Addr} {fd : FuncData} (F : Fun K "is_ascending" "is_ascending" sIsAsc f fd) (B : BltP mg) : FnOk P w K mg base CX0 1 f fd ["values"] (spIsAsc K) := by
  refine F.ok scIsAsc (fun vs H Q E h => ?_) (fun cdv A outer s H vs Q E hr h => ?_)
  · obtain ⟨a, xs, rfl, _⟩ := h
    rfl
  · obtain ⟨a, xs, rfl, ha, asc, few, k⟩ := h
    refine ⟨_, pss_one (ps_ret (pe_callB (cr_all rfl) (by rfl) B.all (by decide +kernel) (pa_cons (pe_lc (own := [("at", 1)]) (g := gName 1) (tt := tYes) rfl scIsAsc.nd (pi_range1 (by rfl) B.rg (pa_cons (pe_op op_sub (pe_callB call_len_seq (by rfl) B.len PySem.boot_len (pa_cons (pv 0) pa_nil)) pe_int) pa_nil)) (blkOk_by (N := ["values", "at"]) (sc := defScope sIsAsc) (by decide +kernel))
        (fun _ _ _ _ _ => pg_name (i := 1) scIsAsc.nd rfl (.inl rfl)) (fun _ _ _ _ _ => pts_nil) (fun _ _ _ _ _ => pe_cmpR op_lt_str (pe_ix (r := rIxL K) ix_list (pv 0) (pv 1) (fun _ _ => rfl)) (pe_ix (r := rIxL K) ix_list (pv 0) (pe_op op_add (pv 1) pe_int) (fun _ _ => rfl)) (nomark _))) pa_nil))), ?_⟩
    refine ⟨_, rfl, a, _, rfl, .inl ha, _, _, rfl, rfl, ?_⟩
    refine ⟨_, rfl, ?_, ?_, fun D hD => ?_⟩
    · have : (0 : Int) ≤ ((xs.map V.str).length : Int) := Int.natCast_nonneg _
      show (-2 ^ 62 : Int) ≤ ((xs.map V.str).length : Int) - 1
      omega
    · rw [List.length_map]
      show ((xs.length : Nat) : Int) - 1 < 2 ^ 62
      omega
    · have bl : (((xs.map V.str).length : Int) - 1).toNat ≤ 1000 := by
        rw [List.length_map]
        omega
      refine all_true walk_range hD (fun _ _ => trivial) (by omega) (fun i v Ha QK Ff hi sa y q => ?_) fun H' s' hD' => ⟨D, _, rfl, .inl (.inl hD'), ?_⟩
      · have ev : v = .int (0 + (i : Int)) := y
        subst ev
        rw [List.length_map] at hi
        have h1 := sqL_same sa ha
        have i1 : i < xs.length := by omega
        have i2 : i + 1 < xs.length := by omega
        have a1 : atI (xs.map V.str) (0 + (i : Int)) = some (.str xs[i]) := by
          rw [Int.zero_add]
          exact atI_nat (by rw [List.getElem?_map, List.getElem?_eq_getElem i1]; rfl)
        have a2 : atI (xs.map V.str) (0 + (i : Int) + 1) = some (.str xs[i + 1]) := by
          rw [show (0 + (i : Int) + 1) = ((i + 1 : Nat) : Int) by omega]
          exact atI_nat (by rw [List.getElem?_map, List.getElem?_eq_getElem i2]; rfl)
        refine ⟨rfl, yes_if ⟨_, rfl, _, rfl, a, _, _, _, rfl, rfl, h1, a1, _, rfl, _, rfl, _, _, rfl, rfl, a, _, _, _, rfl, rfl, h1, a2, _, _, rfl, rfl, ?_⟩⟩
        rw [decide_eq_true (asc i _ _ (List.getElem?_eq_getElem i1) (List.getElem?_eq_getElem i2))]
        exact q _ (Same.refl _)
      · rw [all_rep]
        exact k _ s'
end
end Qp

/-! changes and transitions as data -/
namespace Qp
open PySem PySem.Spec PyProof.Rows L2 QN
mutual
theorem dp_same {K : PySem.W.Frag} {H H' : Hp} (s : Same H H') : ∀ (d : PyData) (v : V), Dp K H v d → Dp K H' v d
  | .none, _, h => by cases h; exact .non
  | .bool b, _, h => by cases h; exact .bl b
  | .int i, _, h => by cases h; exact .int i
  | .str x, _, h => by cases h; exact .str x
  | .list ds, _, h => by
    cases h with
    | lst a b => exact .lst (sqL_same s a) (dpAll_same s ds _ b)
  | .tuple ds, _, h => by
    cases h with
    | tup a b => exact .tup (sqT_same s a) (dpAll_same s ds _ b)
  | .dict _, _, h => by cases h
theorem dpAll_same {K : PySem.W.Frag} {H H' : Hp} (s : Same H H') : ∀ (ds : List PyData) (vs : List V), DpAll K H vs ds → DpAll K H' vs ds
  | [], _, h => by cases h; exact .nil
  | d :: ds, _, h => by
    cases h with
    | cons a b => exact .cons (dp_same s d _ a) (dpAll_same s ds _ b)
end
theorem dpAll_len {K : PySem.W.Frag} {H : Hp} : ∀ {ds : List PyData} {vs : List V}, DpAll K H vs ds → vs.length = ds.length
  | [], _, h => by cases h; rfl
  | d :: ds, _, h => by
    cases h with
    | cons a b => rw [List.length_cons, List.length_cons, dpAll_len b]
theorem dpAll_at {K : PySem.W.Frag} {H : Hp} : ∀ {ds : List PyData} {vs : List V} {i : Nat} {v : V}, DpAll K H vs ds → vs[i]? = some v → ∃ d, ds[i]? = some d ∧ Dp K H v d
  | [], _, i, v, h, e => by cases h; simp at e
  | d :: ds, _, i, v, h, e => by
    cases h with
    | cons a b =>
      cases i with
      | zero =>
        simp only [List.getElem?_cons_zero, Option.some.injEq] at e
        subst e
        exact ⟨d, rfl, a⟩
      | succ i =>
        rw [List.getElem?_cons_succ] at e ⊢
        exact dpAll_at b e
/-- a pair of a text and a number -/
def pairD (p : Str × Int) : PyData := .tuple [.str p.1, .int p.2]
/-- a change -/
def chD (ps : List (Str × Int)) : PyData := .tuple (ps.map pairD)
theorem dp_tup {K : PySem.W.Frag} {H : Hp} {v : V} {ds : List PyData} (h : Dp K H v (.tuple ds)) : ∃ a us, v = .ref a ∧ SqT K H a us ∧ DpAll K H us ds := by
  cases h with
  | tup a b => exact ⟨_, _, rfl, a, b⟩
theorem dp_pair {K : PySem.W.Frag} {H : Hp} {v : V} {p : Str × Int} (h : Dp K H v (pairD p)) : ∃ t, v = .ref t ∧ SqT K H t [.str p.1, .int p.2] := by
  obtain ⟨t, us, rfl, h1, h2⟩ := dp_tup h
  cases h2 with
  | cons a b =>
    cases b with
    | cons c d =>
      cases d
      cases a
      cases c
      exact ⟨t, rfl, h1⟩
/-- a change as the document asks -/
def ChOk (ps : List (Str × Int)) : Prop := (∀ p ∈ ps, CcOk p) ∧ Asc (ps.map (·.1)) ∧ ps.length ≤ 100
def spIsCh (K : PySem.W.Frag) : Sp := fun vs H Q _ => ∃ (v : V) (ps : List (Str × Int)), vs = [v] ∧ Dp K H v (chD ps) ∧ ChOk ps ∧ ∀ H', Same H H' → Q (.bl true) H'
section
variable {P : Program} {w : World} {K : PySem.W.Frag} {mg : Str → Option Value} {base : Heap}
theorem ok_isCh {f fC fA : Addr} {fd fdC fdA : FuncData} (F : Fun K "_is_change" "_is_change" sIsCh f fd) (GC : FnOk P w K mg base CX0 3 fC fdC ["value"] (spIsCC K)) (kC : PySem.W.keepIn K (.ref fC) = true) (bC : L2.Binds K fdC ["value"] []) (gC : mg "_is_counter_change" = some (.ref fC))
    (GA : FnOk P w K mg base CX0 1 fA fdA ["values"] (spIsAsc K)) (kA : PySem.W.keepIn K (.ref fA) = true) (bA : L2.Binds K fdA ["values"] []) (gA : mg "is_ascending" = some (.ref fA)) (B : BltP mg) : FnOk P w K mg base CX0 4 f fd ["value"] (spIsCh K) := by
  refine F.ok scIsCh (fun vs H Q E h => ?_) (fun cdv A outer s H vs Q E hr h => ?_)
  · obtain ⟨a, p, rfl, _⟩ := h
    rfl
  · obtain ⟨v, ps, rfl, hd, ⟨ok, asc, few⟩, k⟩ := h
    obtain ⟨a, us, rfl, ha, hu⟩ := dp_tup hd
    have ul : us.length = ps.length := by rw [dpAll_len hu, List.length_map]
    refine ⟨_, pss_cons (ps_if (PW.pt (pw_or (pt_not (pt_val (pe_callB call_isi (by rfl) B.isi (by decide +kernel) (pa_cons (pv 0) (pa_cons (pe_bltn (v := .ty "tuple") (by rfl) B.tuple (by decide +kernel) rfl) pa_nil)))))
        (pw_or1 (pt_not (pt_val (pe_callB (cr_all rfl) (by rfl) B.all (by decide +kernel) (pa_cons (pe_lc (own := [("pair", 1)]) (g := gName 1) (tt := tYes) rfl scIsCh.nd (pi_tup (pv 0)) (blkOk_by (N := ["value", "pair", "counter", "_"]) (sc := defScope sIsCh) (by decide +kernel))
          (fun _ _ _ _ _ => pg_name (i := 1) scIsCh.nd rfl (.inl rfl)) (fun _ _ _ _ _ => pts_nil) (fun _ _ _ _ _ => pe_call GC hr (by rfl) gC kC bC .nil pass0 (pa_cons (pv 1) pa_nil))) pa_nil))))))) (pss_one (ps_ret pe_bl)) pss_nil)
      (pss_one (ps_ret (pe_call GA (hr.mono (by decide)) (by rfl) gA kA bA .nil pass0 (pa_cons (pe_lc (own := [("counter", 2), ("_", 3)]) (g := gTup K 2 (gCons (gName 2) (gCons (gName 3) gNil))) (tt := tYes) (te := tVar 2) rfl scIsCh.nd (pi_tup (pv 0)) (blkOk_by (N := ["value", "pair", "counter", "_"]) (sc := defScope sIsCh) (by decide +kernel))
          (fun _ _ _ _ _ => pg_tup (by rfl) (pgs_cons (pg_name (i := 2) scIsCh.nd rfl (.inl rfl)) (pgs_cons (pg_name (i := 3) scIsCh.nd rfl (.inl rfl)) pgs_nil))) (fun _ _ _ _ _ => pts_nil) (fun _ _ _ _ _ => pv 2)) pa_nil)))), ?_⟩
    refine ⟨_, rfl, _, _, _, _, true, rfl, .ty _, tyx_tup ha, kit_ty (by decide +kernel), _, rfl, if_no (by decide) ?_⟩
    refine ⟨_, rfl, a, rfl, ⟨_, ha⟩, fun D hD => ?_⟩
    refine all_true (walk_tup (xs := us)) hD (fun _ s' => sqT_same s' ha) (by omega) (fun i v Ha QK Ff hi sa y q => ?_) fun H1 s1 hD1 => ⟨D, _, rfl, .inl (.inl hD1), ?_⟩
    · obtain ⟨d, hd', dv⟩ := dpAll_at hu y
      rw [List.getElem?_map] at hd'
      cases hc : ps[i]? with
      | none => rw [hc] at hd'; cases hd'
      | some p =>
        rw [hc] at hd'
        cases (Option.some.inj hd' : pairD p = d)
        obtain ⟨t, rfl, ht⟩ := dp_pair dv
        exact ⟨rfl, yes_if ⟨_, rfl, t, p, rfl, sqT_same sa ht, ok p (List.mem_of_getElem? hc), q⟩⟩
    · rw [all_rep]
      refine ⟨_, rfl, if_no (by decide) ?_⟩
      have ha1 := sqT_same s1 ha
      have hu1 := dpAll_same s1 _ _ hu
      refine ⟨_, rfl, a, rfl, ⟨_, ha1⟩, fun D2 hD2 => ?_⟩
      refine lc_tup (xs := us) (fun i H' => Same H1 H' ∧ H' D2 = some (.lst (((ps.map (·.1)).take i).map V.str))) ⟨same_new hD2, upd_same⟩ (fun i H' _ p => sqT_same p.1 ha1) (fun i v H2 hv p => ?_) fun H2 p => ?_
      · obtain ⟨d, hd', dv⟩ := dpAll_at hu1 hv
        rw [List.getElem?_map] at hd'
        cases hc : ps[i]? with
        | none => rw [hc] at hd'; cases hd'
        | some q =>
          rw [hc] at hd'
          cases (Option.some.inj hd' : pairD q = d)
          obtain ⟨t, rfl, ht⟩ := dp_pair dv
          have il : i < ps.length := (List.getElem?_eq_some_iff.mp hc).1
          refine ⟨t, _, rfl, sqT_same p.1 ht, rfl, _, _, rfl, _, _, rfl, rfl, rfl, yes_if ⟨_, rfl, _, p.2, ?_, same_at p.1 hD2 (Same.refl _) p.2, ?_⟩⟩
          · rw [List.length_map, List.length_take, List.length_map, sizeLine_eq]
            omega
          · rw [upd_same, List.take_add_one, List.getElem?_map, hc, List.map_append]
            rfl
      · refine ⟨D2, ps.map (·.1), rfl, .inl (.inl ?_), asc, by rw [List.length_map]; omega, fun H' s' => k H' (s1.trans (p.1.trans s'))⟩
        have := p.2
        rw [ul] at this
        rw [List.take_of_length_le (by rw [List.length_map]; exact Nat.le_refl _)] at this
        exact this
end
end Qp

/-! transitions as data -/
namespace Qp
open PySem PySem.Spec PyProof.Rows L2 QN
theorem sl_take {K : PySem.W.Frag} {q : Addr} {H : Hp} {Q : VK} {xs : List V} {j : Nat} (h : SqT K H q xs) (hj : j ≤ xs.length) (k : ∀ r H', Same H H' → SqT K H' r (xs.take j) → Q (.ref r) H') : rSlA K (.ref q) none (some (j : Int)) H Q := by
  refine ⟨q, xs, rfl, h, fun w => k q H (Same.refl _) ?_, fun w r hr => k r _ (same_new hr) (.inl (.inl ?_))⟩
  · have z := w.2
    rw [HT.sIx_nat] at z
    rw [List.take_of_length_le (by omega)]
    exact h
  · rw [upd_same]
    unfold cutV
    rw [HT.sIx_none, HT.sIx_nat, List.drop_zero, Nat.sub_zero, Nat.min_eq_left hj]
theorem sl_drop {K : PySem.W.Frag} {q : Addr} {H : Hp} {Q : VK} {xs : List V} {j : Nat} (h : SqT K H q xs) (hj : j ≤ xs.length) (k : ∀ r H', Same H H' → SqT K H' r (xs.drop j) → Q (.ref r) H') : rSlA K (.ref q) (some (j : Int)) none H Q := by
  refine ⟨q, xs, rfl, h, fun w => k q H (Same.refl _) ?_, fun w r hr => k r _ (same_new hr) (.inl (.inl ?_))⟩
  · have z := w.1
    rw [HT.sIx_nat] at z
    have e : j = 0 := by omega
    rw [e]
    exact h
  · rw [upd_same]
    unfold cutV
    rw [HT.sIx_none, HT.sIx_nat, Nat.min_eq_left hj]
    rw [List.take_of_length_le (by rw [List.length_drop]; exact Nat.le_refl _)]
/-- a transition -/
structure Row where
  n : Str
  s : Str
  t : Str
  c : List (Str × Int)
def rowD (r : Row) : PyData := .tuple [.str r.n, .str r.s, .str r.t, chD r.c]
/-- a transition as the document asks -/
structure RowOk (r : Row) : Prop where
  n : NameOk r.n
  s : NameOk r.s
  t : NameOk r.t
  c : ChOk r.c
theorem dp_row {K : PySem.W.Frag} {H : Hp} {v : V} {r : Row} (h : Dp K H v (rowD r)) : ∃ a u, v = .ref a ∧ SqT K H a [.str r.n, .str r.s, .str r.t, u] ∧ Dp K H u (chD r.c) := by
  obtain ⟨a, us, rfl, h1, h2⟩ := dp_tup h
  cases h2 with
  | cons b1 b2 =>
    cases b2 with
    | cons b2 b3 =>
      cases b3 with
      | cons b3 b4 =>
        cases b4 with
        | cons b4 b5 =>
          cases b5
          cases b1
          cases b2
          cases b3
          exact ⟨a, _, rfl, h1, b4⟩
def spIsTr (K : PySem.W.Frag) : Sp := fun vs H Q _ => ∃ (v : V) (r : Row), vs = [v] ∧ Dp K H v (rowD r) ∧ RowOk r ∧ ∀ H', Same H H' → Q (.bl true) H'
section
variable {P : Program} {w : World} {K : PySem.W.Frag} {mg : Str → Option Value} {base : Heap}
theorem ok_isTr {f fN fC : Addr} {fd fdN fdC : FuncData} (F : Fun K "is_transition" "is_transition" sIsTr f fd) (GN : FnOk P w K mg base CX0 1 fN fdN ["value"] spIsName) (kN : PySem.W.keepIn K (.ref fN) = true) (bN : L2.Binds K fdN ["value"] []) (gN : mg "is_name" = some (.ref fN))
    (GC : FnOk P w K mg base CX0 4 fC fdC ["value"] (spIsCh K)) (kC : PySem.W.keepIn K (.ref fC) = true) (bC : L2.Binds K fdC ["value"] []) (gC : mg "_is_change" = some (.ref fC)) (B : BltP mg) : FnOk P w K mg base CX0 5 f fd ["value"] (spIsTr K) := by
  refine F.ok scIsTr (fun vs H Q E h => ?_) (fun cdv A outer s H vs Q E hr h => ?_)
  · obtain ⟨a, p, rfl, _⟩ := h
    rfl
  · obtain ⟨v, r, rfl, hd, ok, k⟩ := h
    obtain ⟨a, u, rfl, ha, hu⟩ := dp_row hd
    refine ⟨_, pss_cons (ps_if (PW.pt (pw_or (pt_not (pt_val (pe_callB call_isi (by rfl) B.isi (by decide +kernel) (pa_cons (pv 0) (pa_cons (pe_bltn (v := .ty "tuple") (by rfl) B.tuple (by decide +kernel) rfl) pa_nil)))))
        (pw_or1 (pt_cmpR op_ne (pe_callB call_len_seq (by rfl) B.len PySem.boot_len (pa_cons (pv 0) pa_nil)) pe_int (nomark _))))) (pss_one (ps_ret pe_bl)) pss_nil)
      (pss_one (ps_ret (pe_and (pe_callB (cr_all rfl) (by rfl) B.all (by decide +kernel) (pa_cons (pe_lc (own := [("name", 1)]) (g := gName 1) (tt := tYes) rfl scIsTr.nd (pi_tup (pe_slice sl_tupA (pv 0) po_none (po_some pe_int))) (blkOk_by (N := ["value", "name"]) (sc := defScope sIsTr) (by decide +kernel))
          (fun _ _ _ _ _ => pg_name (i := 1) scIsTr.nd rfl (.inl rfl)) (fun _ _ _ _ _ => pts_nil) (fun _ _ _ _ _ => pe_call GN (hr.mono (by decide)) (by rfl) gN kN bN .nil pass0 (pa_cons (pv 1) pa_nil))) pa_nil)) (pe_one (pe_call GC hr (by rfl) gC kC bC .nil pass0 (pa_cons (pe_ix ix_tup (pv 0) pe_int (fun _ _ => rfl)) pa_nil)))))), ?_⟩
    refine ⟨_, rfl, _, _, _, _, true, rfl, .ty _, tyx_tup ha, kit_ty (by decide +kernel), _, rfl, if_no (by decide) ?_⟩
    refine ⟨_, rfl, a, _, rfl, .inr ha, rfl, _, rfl, if_no (by show ¬(!decide (V.int ((4 : Nat) : Int) = V.int 4)) = true; decide) ?_⟩
    refine ⟨_, rfl, _, rfl, ?_⟩
    refine sl_take (j := 3) ha (by show 3 ≤ 4; decide) fun q H1 s1 hq => ⟨q, rfl, ⟨_, hq⟩, fun D hD => ?_⟩
    refine all_true (walk_tup (xs := [V.str r.n, .str r.s, .str r.t])) hD (fun _ s' => sqT_same s' hq) (by show 3 ≤ 1000000; decide) (fun i v Ha QK Ff hi sa y k2 => ?_) fun H2 s2 hD2 => ⟨D, _, rfl, .inl (.inl hD2), ?_⟩
    · match i, y with
      | 0, y => cases y; exact ⟨rfl, yes_if ⟨_, rfl, r.n, rfl, ok.n, k2⟩⟩
      | 1, y => cases y; exact ⟨rfl, yes_if ⟨_, rfl, r.s, rfl, ok.s, k2⟩⟩
      | 2, y => cases y; exact ⟨rfl, yes_if ⟨_, rfl, r.t, rfl, ok.t, k2⟩⟩
    · rw [all_rep]
      have s12 := s1.trans s2
      exact ⟨_, rfl, if_yes rfl ⟨_, rfl, a, _, _, u, rfl, rfl, sqT_same s12 ha, rfl, u, r.c, rfl, dp_same s12 _ _ hu, ok.c, fun H' s' => k H' (s12.trans s')⟩⟩
end
end Qp

/-! what is reached from a state -/
namespace Qp
open PySem PySem.Spec PyProof.Rows L2 QN
abbrev sReached : Stmt := top 21 -- reached
abbrev rNames : List Str := ["links", "state", "known", "waiting", "here", "source", "target"]
theorem scReached : FnScope rNames ["links", "state"] (defScope sReached) := ⟨rfl, rfl, rfl, by decide +kernel, rfl, by decide +kernel, by decide +kernel⟩
def linkD (l : Str × Str) : PyData := .tuple [.str l.1, .str l.2]
theorem dp_link {K : PySem.W.Frag} {H : Hp} {v : V} {l : Str × Str} (h : Dp K H v (linkD l)) : ∃ t, v = .ref t ∧ SqT K H t [.str l.1, .str l.2] := by
  obtain ⟨t, us, rfl, h1, h2⟩ := dp_tup h
  cases h2 with
  | cons a b =>
    cases b with
    | cons c d =>
      cases d
      cases a
      cases c
      exact ⟨t, rfl, h1⟩
/-- a dict of names that are all True -/
def knownK (ks : List Str) : List (Key × V) := ks.map fun x => (Sum.inr x, V.bl true)
theorem known_has (ks : List Str) (x : Str) : (valV (knownK ks) (Sum.inr x)).isSome = decide (x ∈ ks) := by
  induction ks with
  | nil => rfl
  | cons y ks ih =>
    by_cases e : y = x
    · subst e
      rw [show knownK (y :: ks) = (Sum.inr y, V.bl true) :: knownK ks from rfl, valV_pos rfl]
      simp
    · have e2 : valV ((Sum.inr y, V.bl true) :: knownK ks) (Sum.inr x : Key) = valV (knownK ks) (Sum.inr x) := by
        unfold valV
        rw [List.find?_cons_of_neg (by simpa using e)]
      rw [show knownK (y :: ks) = (Sum.inr y, V.bl true) :: knownK ks from rfl, e2, ih]
      have : (x ∈ y :: ks) ↔ x ∈ ks := by simp [Ne.symm e]
      simp [this]
theorem known_put {ks : List Str} {x : Str} (h : x ∉ ks) : putK (knownK ks) (Sum.inr x) (V.bl true) = knownK (ks ++ [x]) := by
  unfold putK
  rw [if_neg]
  · unfold knownK
    rw [List.map_append]
    rfl
  · unfold knownK
    rw [List.any_map]
    simp only [List.any_eq_true, Function.comp_apply, decide_eq_true_eq, not_exists, not_and]
    intro y hy e
    cases e
    exact h hy
def spReached (K : PySem.W.Frag) : Sp := fun vs H Q _ => ∃ (a : Addr) (us : List V) (ls : List (Str × Str)) (x : Str) (st : List Str), vs = [.ref a, .str x] ∧ SqL K H a us ∧ DpAll K H us (ls.map linkD) ∧ x ∈ st ∧ st.Nodup ∧ (∀ l ∈ ls, l.2 ∈ st) ∧
  (∀ ks : List Str, x ∈ ks → (∀ l ∈ ls, l.1 ∈ ks → l.2 ∈ ks) → ∀ y ∈ st, y ∈ ks) ∧ st.length ≤ 1000 ∧ ls.length ≤ 1000 ∧ ∀ d kvs H', Same H H' → H' d = some (.dK kvs) → kvs.length = st.length → Q (.ref d) H'
theorem nodup_le : ∀ {ks st : List Str}, ks.Nodup → (∀ y ∈ ks, y ∈ st) → ks.length ≤ st.length
  | [], _, _, _ => Nat.zero_le _
  | y :: ks, st, nd, h => by
    have hy : y ∈ st := h y (List.mem_cons_self ..)
    have ny := (List.nodup_cons.mp nd).1
    have r := nodup_le (st := st.erase y) (List.nodup_cons.mp nd).2 fun z hz => (List.mem_erase_of_ne (fun e => ny (by rw [← e]; exact hz))).mpr (h z (List.mem_cons_of_mem _ hz))
    have l := List.length_erase_of_mem hy
    have p : 0 < st.length := List.length_pos_of_mem hy
    rw [List.length_cons]
    omega
theorem same_upd' {H H1 : Hp} {D : Addr} {o : HO} (a : Same H H1) (n : H D = none) : Same H (upd H1 D o) := fun c x e => by
  have ne : c ≠ D := fun z => by rw [z, n] at e; cases e
  rw [upd_ne ne]
  exact a _ _ e
/-- the names known and waiting, behind the first i links from here -/
structure Rs (H H' : Hp) (d wl : Addr) (x : Str) (ls : List (Str × Str)) (st : List Str) (here : Option Str) (i : Nat) (M : Nat) (ks ws : List Str) : Prop where
  sm : Same H H'
  hd : H' d = some (.dK (knownK ks))
  hw : H' wl = some (.lst (ws.map V.str))
  hx : x ∈ ks
  nd : ks.Nodup
  inn : ∀ y ∈ ks, y ∈ st
  wk : ∀ y ∈ ws, y ∈ ks
  cl : ∀ y ∈ ks, y ∉ ws → some y ≠ here → ∀ l ∈ ls, l.1 = y → l.2 ∈ ks
  hr : ∀ h, here = some h → h ∈ ks ∧ ∀ l ∈ ls.take i, l.1 = h → l.2 ∈ ks
  ms : 2 * (st.length - ks.length) + ws.length ≤ M
  bd : M ≤ 2001
section
variable {P : Program} {w : World} {K : PySem.W.Frag} {mg : Str → Option Value} {base : Heap}
theorem ok_reached {f : Addr} {fd : FuncData} (F : Fun K "reached" "reached" sReached f fd) : FnOk P w K mg base CX0 1 f fd ["links", "state"] (spReached K) := by
  refine F.ok scReached (fun vs H Q E h => ?_) (fun cdv A outer s H vs Q E hr h => ?_)
  · obtain ⟨a, us, ls, x, st, rfl, _⟩ := h
    rfl
  · obtain ⟨a, us, ls, x, st, rfl, ha, hu, hx, nd, inside, closed, few, few2, k⟩ := h
    have hu1 : (A.deeper (envOfC "reached" (defScope sReached) s.heap.objs.size f cdv)).units + 1 < cLine := by
      have := hr.un
      omega
    refine ⟨_, pss_cons (ps_set (i := 2) scReached.nd rfl (.inl rfl) (pe_disp (pps_cons (pv 1) pe_bl pps_nil) rfl rfl (by decide) (by decide)))
      (pss_cons (ps_set (i := 3) scReached.nd rfl (.inl rfl) (pe_lst (pa_cons (pv 1) pa_nil)))
      (pss_cons (ps_while PassesOwn.never (pt_truth (pv 3) (fun _ => rfl)) (pss_cons (ps_set (i := 4) scReached.nd rfl (.inl rfl) (pe_bm0 PySem.F.plainAttrs_list PySem.F.slot_list_pop PySem.F.type_list_pop mt_pop (pv 3)))
        (pss_one (ps_for PassesOwn.never rfl (pi_list (pv 0)) (pg_tup (by rfl) (pgs_cons (pg_name (i := 5) scReached.nd rfl (.inl rfl)) (pgs_cons (pg_name (i := 6) scReached.nd rfl (.inl rfl)) pgs_nil)))
          (pss_one (ps_if (PW.pt (pw_and (pt_cmpR op_eq (pv 5) (pv 4) (nomark _)) (pw_and1 (pt_cmp (pc_dnotin hu1 (pv 6) (pv 2)))))) (pss_cons (ps_dput hu1 (pv 2) (pv 6) pe_bl rfl) (pss_one (ps_expr (pe_bm PySem.F.plainAttrs_list PySem.F.slot_list_append PySem.F.type_list_append mt_append (pv 3) (pa_cons (pv 6) pa_nil))))) pss_nil))))))
      (pss_one (ps_ret (pv 2))))), ?_⟩
    have ul : us.length = ls.length := by rw [dpAll_len hu, List.length_map]
    intro d hdn
    refine ⟨_, rfl, upd_same, [(Sum.inr x, V.bl true)], rfl, (by show 1 ≤ 15; decide), ⟨_, rfl, (by show 1 ≤ sizeLine; decide), fun wl hwn => ?_⟩⟩
    have hwn' : H wl = none := by
      cases c : H wl with
      | none => rfl
      | some o =>
        have z : (upd (upd H d (.dK [])) d (.dK (mergeK [] [(Sum.inr x, V.bl true)]))) wl = some o := by
          rw [upd_ne (fun e => by rw [e, hdn] at c; cases c), upd_ne (fun e => by rw [e, hdn] at c; cases c)]
          exact c
        rw [z] at hwn
        cases hwn
    have nwd : wl ≠ d := fun e => by rw [e, upd_same] at hwn; cases hwn
    have start : Rs H (upd (upd (upd H d (.dK [])) d (.dK (mergeK [] [(Sum.inr x, V.bl true)]))) wl (.lst [.str x])) d wl x ls st none 0 (2 * st.length + 1) [x] [x] :=
      ⟨same_upd' (same_upd' (same_new hdn) hdn) hwn', (by rw [upd_ne nwd.symm, upd_same]; rfl), upd_same, (by simp), (by simp), (fun y hy => by rw [List.mem_singleton.mp hy]; exact hx), fun y hy => hy, fun y hy n => absurd hy n, (fun h e => by cases e), (by show 2 * (st.length - 1) + 1 ≤ 2 * st.length + 1; omega), (by omega)⟩
    generalize (upd (upd (upd H d (.dK [])) d (.dK (mergeK [] [(Sum.inr x, V.bl true)]))) wl (.lst [.str x])) = H0 at start
    refine ⟨fun m σ H' => ∃ y4 y5 y6 ks ws, σ = [some (.ref a), some (.str x), some (.ref d), some (.ref wl), y4, y5, y6] ∧ Rs H H' d wl x ls st none 0 m ks ws, ⟨_, none, none, none, [x], [x], rfl, start⟩, ?_⟩
    rintro m σ H' ⟨y4, y5, y6, ks, ws, rfl, R⟩
    refine ⟨_, rfl, _, .inl ⟨_, .inl (.inl R.hw), rfl⟩, ?_⟩
    by_cases e : ws = []
    · subst e
      refine if_no (by decide) ⟨_, rfl, k d _ H' R.sm R.hd ?_⟩
      have all : ∀ y ∈ st, y ∈ ks := closed ks R.hx fun l hl h1 => R.cl l.1 h1 (by simp) (by simp) l hl rfl
      unfold knownK
      rw [List.length_map]
      exact Nat.le_antisymm (nodup_le R.nd R.inn) (nodup_le nd all)
    · have hne : (!(ws.map V.str).isEmpty) = true := by
        cases ws with
        | nil => exact absurd rfl e
        | cons y ws => rfl
      obtain ⟨h0, hlast⟩ : ∃ h0, ws[ws.length - 1]? = some h0 := by
        have : ws.length - 1 < ws.length := by
          have := List.length_pos_iff.mpr e
          omega
        exact ⟨_, List.getElem?_eq_getElem this⟩
      have hsplit : ws = ws.dropLast ++ [h0] := by
        have hl := List.getLast?_eq_getElem? (l := ws)
        rw [hlast] at hl
        obtain ⟨ys, hy⟩ := List.getLast?_eq_some_iff.mp hl
        rw [hy, List.dropLast_concat]
      have hin : h0 ∈ ks := R.wk h0 (List.mem_of_getElem? hlast)
      have lenw : ws.length = ws.dropLast.length + 1 := by
        have := congrArg List.length hsplit
        rw [List.length_append, List.length_singleton] at this
        exact this
      have hdw : d ≠ wl := fun c => by
        have := R.hd
        rw [c, R.hw] at this
        cases this
      have R0 : Rs H (upd H' wl (.lst (ws.dropLast.map V.str))) d wl x ls st (some h0) 0 (m - 1) ks ws.dropLast :=
        ⟨same_upd' R.sm hwn', (by rw [upd_ne hdw]; exact R.hd), upd_same, R.hx, R.nd, R.inn, (fun y hy => R.wk y (by rw [hsplit]; exact List.mem_append_left _ hy)),
          (fun y hy n1 n2 => R.cl y hy (fun c => by
            rw [hsplit, List.mem_append, List.mem_singleton] at c
            rcases c with c | c
            · exact n1 c
            · exact n2 (by rw [c])) (by simp)),
          (fun h eh => by cases eh; exact ⟨hin, fun l hl => by simp at hl⟩), (by have := R.ms; omega), (by have := R.bd; omega)⟩
      have mpos : 0 < m := by
        have := R.ms
        omega
      refine if_yes hne ⟨fun σ' H2 => ∃ y4 y5 y6 ks ws, σ' = [some (.ref a), some (.str x), some (.ref d), some (.ref wl), y4, y5, y6] ∧ Rs H H2 d wl x ls st none 0 (m - 1) ks ws, fun σ' H2 q => ⟨m - 1, by omega, q⟩, ?_⟩
      refine ⟨_, rfl, .inl ⟨rfl, _, .inl (.inl R.hw)⟩, wl, ws.map V.str, .str h0, rfl, rfl, R.hw, (by rw [List.length_map, List.getElem?_map, hlast]; rfl), ?_⟩
      rw [← List.map_dropLast]
      refine ⟨_, rfl, a, rfl, ⟨_, sqL_same R0.sm ha⟩, for_list (xs := us) (fun i σ H2 => ∃ y5 y6 ks ws, σ = [some (.ref a), some (.str x), some (.ref d), some (.ref wl), some (.str h0), y5, y6] ∧ Rs H H2 d wl x ls st (some h0) i (m - 1) ks ws)
        ⟨_, _, _, _, rfl, R0⟩ (fun i σ H2 _ q => ?_) ?_ ?_⟩
      · obtain ⟨_, _, _, _, _, q⟩ := q
        exact sqL_same q.sm ha
      · rintro i v σ H2 hv ⟨z5, z6, ks2, ws2, rfl, R2⟩
        obtain ⟨dd, hd', dv⟩ := dpAll_at (dpAll_same R2.sm _ _ hu) hv
        rw [List.getElem?_map] at hd'
        cases hc : ls[i]? with
        | none => rw [hc] at hd'; cases hd'
        | some l =>
          rw [hc] at hd'
          cases (Option.some.inj hd' : linkD l = dd)
          obtain ⟨t, rfl, ht⟩ := dp_link dv
          have hl : l ∈ ls := List.mem_of_getElem? hc
          have tk : ls.take (i + 1) = ls.take i ++ [l] := by rw [List.take_add_one, hc]; rfl
          refine ⟨t, _, rfl, ht, rfl, _, _, rfl, _, _, rfl, rfl, ?_⟩
          refine ⟨_, rfl, _, rfl, rfl, _, rfl, ?_⟩
          by_cases c1 : l.1 = h0
          · refine if_yes (decide_eq_true (by rw [c1])) ⟨_, rfl, _, rfl, d, _, rfl, DGet.k (k := Sum.inr l.2) R2.hd, _, rfl, ?_⟩
            by_cases c2 : l.2 ∈ ks2
            · refine if_no (by rw [known_has, decide_eq_true c2]; decide) ⟨_, _, ks2, ws2, rfl, R2.sm, R2.hd, R2.hw, R2.hx, R2.nd, R2.inn, R2.wk, R2.cl, (fun h eh => ⟨(R2.hr h eh).1, fun l' hl' e' => ?_⟩), R2.ms, R2.bd⟩
              rw [tk, List.mem_append, List.mem_singleton] at hl'
              rcases hl' with z | z
              · exact (R2.hr h eh).2 l' z e'
              · rw [z]
                exact c2
            · have hw2 : (upd H2 d (.dK (knownK (ks2 ++ [l.2])))) wl = some (.lst (ws2.map V.str)) := by
                rw [upd_ne hdw.symm]
                exact R2.hw
              have kl : ks2.length ≤ 1000 := Nat.le_trans (nodup_le R2.nd R2.inn) few
              have wl2 : ws2.length ≤ 3000 := by
                have := R2.ms
                have := R2.bd
                omega
              refine if_yes (by rw [known_has, decide_eq_false c2]; rfl) ⟨_, rfl, _, rfl, d, _, rfl, DPut.k (k := Sum.inr l.2) R2.hd (by unfold knownK; rw [List.length_map, sizeLine_eq]; omega), ?_⟩
              rw [known_put c2]
              refine ⟨_, rfl, .inl ⟨rfl, _, .inl (.inl hw2)⟩, _, rfl, wl, _, _, rfl, rfl, hw2, (by rw [List.length_map, sizeLine_eq]; omega), ?_⟩
              have n2 : (ks2 ++ [l.2]).Nodup := (List.perm_append_singleton l.2 ks2).nodup_iff.mpr (List.nodup_cons.mpr ⟨c2, R2.nd⟩)
              have i2 : ∀ y ∈ ks2 ++ [l.2], y ∈ st := fun y hy => by
                rcases List.mem_append.mp hy with z | z
                · exact R2.inn y z
                · rw [List.mem_singleton.mp z]
                  exact inside l hl
              refine ⟨_, _, ks2 ++ [l.2], ws2 ++ [l.2], rfl, same_upd' (same_upd' R2.sm hdn) hwn', (by rw [upd_ne hdw, upd_same]), (by rw [upd_same, List.map_append]; rfl), List.mem_append_left _ R2.hx, n2, i2, (fun y hy => ?_), (fun y hy n1 n3 l' hl' e' => ?_), (fun h eh => ⟨List.mem_append_left _ (R2.hr h eh).1, fun l' hl' e' => ?_⟩), ?_, ?_⟩
              · rcases List.mem_append.mp hy with z | z
                · exact List.mem_append_left _ (R2.wk y z)
                · exact List.mem_append_right _ z
              · rcases List.mem_append.mp hy with z | z
                · exact List.mem_append_left _ (R2.cl y z (fun c => n1 (List.mem_append_left _ c)) n3 l' hl' e')
                · exact absurd (List.mem_append_right _ z) n1
              · rw [tk, List.mem_append, List.mem_singleton] at hl'
                rcases hl' with z | z
                · exact List.mem_append_left _ ((R2.hr h eh).2 l' z e')
                · rw [z]
                  exact List.mem_append_right _ (List.mem_singleton.mpr rfl)
              · have b1 := nodup_le n2 i2
                have := R2.ms
                rw [List.length_append, List.length_singleton] at b1 ⊢
                rw [List.length_append, List.length_singleton]
                omega
              · exact R2.bd
          · refine if_no (by rw [decide_eq_false (fun c => c1 (by cases c; rfl))]; decide) (if_no Bool.false_ne_true ⟨_, _, ks2, ws2, rfl, R2.sm, R2.hd, R2.hw, R2.hx, R2.nd, R2.inn, R2.wk, R2.cl, (fun h eh => ⟨(R2.hr h eh).1, fun l' hl' e' => ?_⟩), R2.ms, R2.bd⟩)
            rw [tk, List.mem_append, List.mem_singleton] at hl'
            rcases hl' with z | z
            · exact (R2.hr h eh).2 l' z e'
            · cases eh
              rw [z] at e'
              exact absurd e' c1
      · rintro σ H2 ⟨z5, z6, ks2, ws2, rfl, R2⟩
        rw [ul] at R2
        refine ⟨_, _, _, ks2, ws2, rfl, R2.sm, R2.hd, R2.hw, R2.hx, R2.nd, R2.inn, R2.wk, (fun y hy n1 _ l hl el => ?_), (fun h eh => by cases eh), R2.ms, R2.bd⟩
        by_cases c : y = h0
        · subst c
          have := (R2.hr y rfl).2 l (by rw [List.take_length]; exact hl) el
          exact this
        · exact R2.cl y hy n1 (fun z => c (Option.some.inj z)) l hl el
end
end Qp

/-! whether all hangs together -/
namespace Qp
open PySem PySem.Spec PyProof.Rows L2 QN
abbrev sConn : Stmt := top 22 -- _are_connected
abbrev cNames : List Str := ["states", "transitions", "forward", "_", "source", "target", "backward"]
theorem scConn : FnScope cNames ["states", "transitions"] (defScope sConn) := ⟨rfl, rfl, rfl, by decide +kernel, rfl, by decide +kernel, by decide +kernel⟩
theorem sqT_at {K : PySem.W.Frag} {H : Hp} {D q : Addr} {ys : List V} {o : HO} {xs : List V} (h : H D = some (.lst ys)) (a : SqT K H q xs) : SqT K (upd H D o) q xs := by
  rcases a with (a | ⟨u, a⟩) | a
  · exact .inl (.inl (by rw [upd_ne fun e => by rw [e, h] at a; cases a]; exact a))
  · exact .inl (.inr ⟨u, by rw [upd_ne fun e => by rw [e, h] at a; cases a]; exact a⟩)
  · exact .inr a
/-- pairs of texts -/
inductive Lk (K : PySem.W.Frag) (H : Hp) : List V → List (Str × Str) → Prop
  | nil : Lk K H [] []
  | cons {t : Addr} {l : Str × Str} {us : List V} {ls : List (Str × Str)} : SqT K H t [.str l.1, .str l.2] → Lk K H us ls → Lk K H (.ref t :: us) (l :: ls)
section
variable {K : PySem.W.Frag} {H H' : Hp} {us : List V} {ls : List (Str × Str)}
theorem Lk.same (s : Same H H') (h : Lk K H us ls) : Lk K H' us ls := by
  induction h with
  | nil => exact .nil
  | cons a _ ih => exact .cons (sqT_same s a) ih
theorem Lk.upd {D : Addr} {ys : List V} {o : HO} (hd : H D = some (.lst ys)) (h : Lk K H us ls) : Lk K (L2.upd H D o) us ls := by
  induction h with
  | nil => exact .nil
  | cons a _ ih => exact .cons (sqT_at hd a) ih
theorem Lk.snoc {t : Addr} {l : Str × Str} (h : Lk K H us ls) (a : SqT K H t [.str l.1, .str l.2]) : Lk K H (us ++ [.ref t]) (ls ++ [l]) := by
  induction h with
  | nil => exact .cons a .nil
  | cons b _ ih => exact .cons b ih
theorem Lk.dp (h : Lk K H us ls) : DpAll K H us (ls.map linkD) := by
  induction h with
  | nil => exact .nil
  | cons a _ ih => exact .cons (.tup a (.cons (.str _) (.cons (.str _) .nil))) ih
theorem Lk.len (h : Lk K H us ls) : us.length = ls.length := by
  induction h with
  | nil => rfl
  | cons a _ ih => rw [List.length_cons, List.length_cons, ih]
theorem Lk.at {i : Nat} {v : V} (h : Lk K H us ls) (e : us[i]? = some v) : ∃ l t, ls[i]? = some l ∧ v = .ref t ∧ SqT K H t [.str l.1, .str l.2] := by
  induction h generalizing i with
  | nil => simp at e
  | @cons t l us ls a _ ih =>
    cases i with
    | zero =>
      simp only [List.getElem?_cons_zero, Option.some.injEq] at e
      exact ⟨l, t, rfl, e.symm, a⟩
    | succ i =>
      rw [List.getElem?_cons_succ] at e ⊢
      exact ih e
end
def fwd (rs : List Row) : List (Str × Str) := rs.map fun r => (r.s, r.t)
def bwd (rs : List Row) : List (Str × Str) := rs.map fun r => (r.t, r.s)
/-- all of st are reached from x along the links -/
def Reach (x : Str) (ls : List (Str × Str)) (st : List Str) : Prop := ∀ ks : List Str, x ∈ ks → (∀ l ∈ ls, l.1 ∈ ks → l.2 ∈ ks) → ∀ y ∈ st, y ∈ ks
def spConn (K : PySem.W.Frag) : Sp := fun vs H Q _ => ∃ (a : Addr) (v : V) (rs : List Row) (x : Str) (st : List Str), vs = [.ref a, v] ∧ SqL K H a ((x :: st).map V.str) ∧ Dp K H v (.tuple (rs.map rowD)) ∧ (x :: st).Nodup ∧ (∀ r ∈ rs, r.s ∈ x :: st ∧ r.t ∈ x :: st) ∧
  Reach x (fwd rs) (x :: st) ∧ Reach x (bwd rs) (x :: st) ∧ st.length ≤ 900 ∧ rs.length ≤ 1000 ∧ ∀ H', Same H H' → Q (.bl true) H'
section
variable {P : Program} {w : World} {K : PySem.W.Frag} {mg : Str → Option Value} {base : Heap}
theorem ok_conn {f fR : Addr} {fd fdR : FuncData} (F : Fun K "_are_connected" "_are_connected" sConn f fd) (GR : FnOk P w K mg base CX0 1 fR fdR ["links", "state"] (spReached K)) (kR : PySem.W.keepIn K (.ref fR) = true) (bR : L2.Binds K fdR ["links", "state"] []) (gR : mg "reached" = some (.ref fR)) (B : BltP mg) :
    FnOk P w K mg base CX0 2 f fd ["states", "transitions"] (spConn K) := by
  refine F.ok scConn (fun vs H Q E h => ?_) (fun cdv A outer s H vs Q E hr h => ?_)
  · obtain ⟨a, v, rs, x, st, rfl, _⟩ := h
    rfl
  · obtain ⟨a, v, rs, x, st, rfl, ha, hd, nd, inside, rf, rb, few, few2, k⟩ := h
    obtain ⟨b, us, rfl, hb, hu⟩ := dp_tup hd
    have ul : us.length = rs.length := by rw [dpAll_len hu, List.length_map]
    refine ⟨_, pss_cons (ps_setLc (i := 2) (own := [("_", 3), ("source", 4), ("target", 5)]) (g := gTup K 4 (gCons (gName 3) (gCons (gName 4) (gCons (gName 5) (gCons (gName 3) gNil))))) (tt := tYes) (te := tTup (tCons (tVar 4) (tCons (tVar 5) tNil))) rfl scConn.nd rfl rfl (sw_true rfl rfl rfl (by decide +kernel)) (pi_tup (pv 1)) (blkOk_by (N := cNames) (sc := defScope sConn) (by decide +kernel))
        (fun _ _ _ _ _ => pg_tup (by rfl) (pgs_cons (pg_name (i := 3) scConn.nd rfl (.inl rfl)) (pgs_cons (pg_name (i := 4) scConn.nd rfl (.inl rfl)) (pgs_cons (pg_name (i := 5) scConn.nd rfl (.inl rfl)) (pgs_cons (pg_name (i := 3) scConn.nd rfl (.inl rfl)) pgs_nil))))) (fun _ _ _ _ _ => pts_nil) (fun _ _ _ _ _ => pe_tup (pa_cons (pv 4) (pa_cons (pv 5) pa_nil))))
      (pss_cons (ps_setLc (i := 6) (own := [("source", 4), ("target", 5)]) (g := gTup K 2 (gCons (gName 4) (gCons (gName 5) gNil))) (tt := tYes) (te := tTup (tCons (tVar 5) (tCons (tVar 4) tNil))) rfl scConn.nd rfl rfl (sw_true rfl rfl rfl (by decide +kernel)) (pi_list (pv 2)) (blkOk_by (N := cNames) (sc := defScope sConn) (by decide +kernel))
        (fun _ _ _ _ _ => pg_tup (by rfl) (pgs_cons (pg_name (i := 4) scConn.nd rfl (.inl rfl)) (pgs_cons (pg_name (i := 5) scConn.nd rfl (.inl rfl)) pgs_nil))) (fun _ _ _ _ _ => pts_nil) (fun _ _ _ _ _ => pe_tup (pa_cons (pv 5) (pa_cons (pv 4) pa_nil))))
      (pss_one (ps_ret (pe_chain op_eq op_eq (pe_callB call_lenD (by rfl) B.len PySem.boot_len (pa_cons (pe_call GR hr (by rfl) gR kR bR .nil pass0 (pa_cons (pv 2) (pa_cons (pe_ix ix_list (pv 0) pe_int (fun _ _ => rfl)) pa_nil))) pa_nil)) (pe_callB call_len_seq (by rfl) B.len PySem.boot_len (pa_cons (pv 0) pa_nil))
        (pe_callB call_lenD (by rfl) B.len PySem.boot_len (pa_cons (pe_call GR hr (by rfl) gR kR bR .nil pass0 (pa_cons (pv 6) (pa_cons (pe_ix ix_list (pv 0) pe_int (fun _ _ => rfl)) pa_nil))) pa_nil)))))), ?_⟩
    refine ⟨_, rfl, b, rfl, ⟨_, hb⟩, fun D hD => ?_⟩
    refine lc_tup (xs := us) (fun i H' => Same H H' ∧ ∃ ws, H' D = some (.lst ws) ∧ Lk K H' ws ((fwd rs).take i)) ⟨same_new hD, [], upd_same, .nil⟩ (fun i H' _ p => sqT_same p.1 hb) (fun i z H' hz p => ?_) fun H1 p => ?_
    · obtain ⟨sm, ws, hw, lk⟩ := p
      obtain ⟨d, hd', dz⟩ := dpAll_at (dpAll_same sm _ _ hu) hz
      rw [List.getElem?_map] at hd'
      cases hc : rs[i]? with
      | none => rw [hc] at hd'; cases hd'
      | some r =>
        rw [hc] at hd'
        cases (Option.some.inj hd' : rowD r = d)
        obtain ⟨q, c, rfl, hq, _⟩ := dp_row dz
        have il : i < rs.length := (List.getElem?_eq_some_iff.mp hc).1
        have wl : ws.length ≤ 1000 := by
          rw [lk.len, List.length_take]
          omega
        refine ⟨q, _, rfl, hq, rfl, _, _, rfl, _, _, rfl, _, _, rfl, _, _, rfl, rfl, rfl, yes_if ⟨_, rfl, _, rfl, (by show 2 ≤ sizeLine; decide), fun t ht => ⟨ws, (same_new ht) _ _ hw, (by rw [sizeLine_eq]; omega), same_at sm hD (same_new ht) hw, _, upd_same, ?_⟩⟩⟩
        have e : (fwd rs).take (i + 1) = (fwd rs).take i ++ [(r.s, r.t)] := by
          rw [List.take_add_one]
          unfold fwd
          rw [List.getElem?_map, hc]
          rfl
        rw [e]
        exact ((lk.same (same_new ht)).snoc (l := (r.s, r.t)) (.inl (.inl upd_same))).upd ((same_new ht) _ _ hw)
    obtain ⟨s1, ws, hw, lk⟩ := p
    rw [ul, List.take_of_length_le (by unfold fwd; rw [List.length_map]; exact Nat.le_refl _)] at lk
    have lw : ws.length = rs.length := by
      rw [lk.len]
      unfold fwd
      rw [List.length_map]
    refine ⟨_, rfl, D, rfl, ⟨_, .inl (.inl hw)⟩, fun D2 hD2 => ?_⟩
    refine lc_list (xs := ws) (fun i H' => Same H1 H' ∧ ∃ zs, H' D2 = some (.lst zs) ∧ Lk K H' zs ((bwd rs).take i)) ⟨same_new hD2, [], upd_same, .nil⟩ (fun i H' _ p => .inl (.inl (p.1 _ _ hw))) (fun i z H' hz p => ?_) fun H2 p => ?_
    · obtain ⟨sm, zs, hzs, lz⟩ := p
      obtain ⟨l, t, hl, rfl, ht⟩ := (lk.same sm).at hz
      have il : i < rs.length := by
        rw [← lw]
        exact (List.getElem?_eq_some_iff.mp hz).1
      have zl : zs.length ≤ 1000 := by
        rw [lz.len, List.length_take]
        omega
      refine ⟨t, _, rfl, ht, rfl, _, _, rfl, _, _, rfl, rfl, rfl, yes_if ⟨_, rfl, _, rfl, (by show 2 ≤ sizeLine; decide), fun u hu => ⟨zs, (same_new hu) _ _ hzs, (by rw [sizeLine_eq]; omega), same_at sm hD2 (same_new hu) hzs, _, upd_same, ?_⟩⟩⟩
      have e : (bwd rs).take (i + 1) = (bwd rs).take i ++ [(l.2, l.1)] := by
        rw [List.take_add_one]
        unfold bwd
        unfold fwd at hl
        rw [List.getElem?_map] at hl ⊢
        cases hr : rs[i]? with
        | none => rw [hr] at hl; cases hl
        | some r =>
          rw [hr] at hl
          cases hl
          rfl
      rw [e]
      exact ((lz.same (same_new hu)).snoc (l := (l.2, l.1)) (.inl (.inl upd_same))).upd ((same_new hu) _ _ hzs)
    obtain ⟨s2, zs, hzs, lz⟩ := p
    rw [lw, List.take_of_length_le (by unfold bwd; rw [List.length_map]; exact Nat.le_refl _)] at lz
    have s12 := s1.trans s2
    have fl : (fwd rs).length ≤ 1000 := by unfold fwd; rw [List.length_map]; exact few2
    have bl : (bwd rs).length ≤ 1000 := by unfold bwd; rw [List.length_map]; exact few2
    have fin : ∀ l ∈ fwd rs, l.2 ∈ x :: st := fun l hl => by
      obtain ⟨r, hr, rfl⟩ := List.mem_map.mp hl
      exact (inside r hr).2
    have bin : ∀ l ∈ bwd rs, l.2 ∈ x :: st := fun l hl => by
      obtain ⟨r, hr, rfl⟩ := List.mem_map.mp hl
      exact (inside r hr).1
    have x0 : atI ((x :: st).map V.str) 0 = some (.str x) := atI_nat (xs := (x :: st).map V.str) (j := 0) (v := .str x) rfl
    refine ⟨_, rfl, _, rfl, a, _, _, .str x, rfl, rfl, sqL_same s12 ha, x0, D, ws, fwd rs, x, x :: st, rfl, .inl (.inl (s2 _ _ hw)), (lk.same s2).dp, List.mem_cons_self .., nd, fin, rf, (by show st.length + 1 ≤ 1000; omega), fl, fun d kvs H3 s3 hd3 lk3 => ?_⟩
    refine ⟨d, kvs, rfl, hd3, _, rfl, a, _, rfl, .inl (sqL_same (s12.trans s3) ha), rfl, _, rfl, if_yes (by rw [lk3, List.length_map]; exact decide_eq_true rfl) ?_⟩
    refine ⟨_, rfl, _, rfl, a, _, _, .str x, rfl, rfl, sqL_same (s12.trans s3) ha, x0, D2, zs, bwd rs, x, x :: st, rfl, .inl (.inl (s3 _ _ hzs)), (lz.same s3).dp, List.mem_cons_self .., nd, bin, rb, (by show st.length + 1 ≤ 1000; omega), bl, fun d4 kvs4 H4 s4 hd4 lk4 => ?_⟩
    refine ⟨d4, kvs4, rfl, hd4, rfl, ?_⟩
    have e : decide (V.int (((x :: st).map V.str).length : Int) = V.int (kvs4.length : Int)) = true := by
      rw [lk4, List.length_map]
      exact decide_eq_true rfl
    rw [e]
    exact k _ (s12.trans (s3.trans s4))
end
end Qp

/-! sorted(xs) of plain data that are alike, any length; xs a list or a tuple -/
namespace QN
open PySem PySem.Spec PyProof.Rows L2 PySem.W PySem.Calls
theorem each_vals : ∀ {bs : List (V × PyData)} {its : List Value}, Vals (bs.map (·.1)) its → EachIs (fun v b => RelV b.1 v) its bs
  | [], _, h => by
    cases h
    exact .nil
  | b :: bs, _, h => by
    cases h with
    | cons r t => exact .cons r (each_vals t)
theorem vals_each : ∀ {bs : List (V × PyData)} {its : List Value}, EachIs (fun v b => RelV b.1 v) its bs → Vals (bs.map (·.1)) its
  | [], _, h => by
    cases h
    exact .nil
  | b :: bs, _, h => by
    cases h with
    | cons r t => exact .cons r (vals_each t)
mutual
/-- what is read off stands in the heap -/
theorem reads_lt {h : Heap} : ∀ {v : Value} {d : PyData} {as : List Addr}, Reads h v d as → ∀ a ∈ as, a < h.objs.size
  | _, _, _, .none, a, m => by cases m
  | _, _, _, .bool _, a, m => by cases m
  | _, _, _, .int _ _, a, m => by cases m
  | _, _, _, .str _ _, a, m => by cases m
  | _, _, _, .list g _ _ r, a, m => by
    rcases List.mem_cons.mp m with rfl | m
    · exact Heap.lt_size g
    · exact readsAll_lt r a m
  | _, _, _, .tuple _ _ _ r, a, m => readsAll_lt r a m
  | _, _, _, .dict g _ _ r q, a, m => by
    rcases List.mem_append.mp m with m | m
    · rcases List.mem_cons.mp m with rfl | m
      · exact Heap.lt_size g
      · exact readsAll_lt r a m
    · exact readsAll_lt q a m
theorem readsAll_lt {h : Heap} : ∀ {vs : List Value} {ds : List PyData} {as : List Addr}, ReadsAll h vs ds as → ∀ a ∈ as, a < h.objs.size
  | _, _, _, .nil, a, m => by cases m
  | _, _, _, .cons r q, a, m => by
    rcases List.mem_append.mp m with m | m
    · exact reads_lt r a m
    · exact readsAll_lt q a m
end
/-- what sorted does, once its items are gathered in a heap that keeps all -/
theorem sorted_gathered {prog : Program} {w : World} {A : Around} {E : Value → Shared → Prop} {s : Shared} {β : Type} {R : Value → β → Prop} {enc : β → PyData} {x : Value} {vs : List Value} {bs : List β} {Q : Value → Shared → Prop} {Mid : Shared → Prop}
    (hcol : ∀ (A' : Around) (Q' : List Value → Shared → Prop), (∀ s1, (∀ b o, s.heap.get? b = some o → s1.heap.get? b = some o) → Mid s1 → Q' vs s1) → wpAny (model prog w) A' (collect x) Q' E s)
    (ar : argsOk "sorted" ⟨[x], []⟩) (e : EachIs R vs bs) (er : EachIs (fun v b => ∃ as, Reads s.heap v (enc b) as) vs bs) (hal : AllAlike (bs.map enc)) (hk : Sortable (bs.map enc)) (hL : bs.length ≤ sizeLine)
    (hu : ∀ b, b ∈ bs → A.units + 3 + (enc b).depth < cLine)
    (h : ∀ out ep s1 (h2 : Heap), Mid s1 → (∀ b o, s.heap.get? b = some o → s1.heap.get? b = some o) → EachIs R out (bs.mergeSort (dataLe false enc)) → h2.get? s1.heap.objs.size = some (seqObj "list" out.toArray ep) → (∀ b o, s1.heap.get? b = some o → h2.get? b = some o) → Q (.ref s1.heap.objs.size) { s1 with heap := h2 }) :
    wpAny (model prog w) A (call (.builtin "sorted") [x]) Q E s := by
  have hl : vs.length ≤ sizeLine := by rw [e.length]; exact hL
  refine call_function_entry kind_sorted plain_sorted
    entry_sorted ar ?_
  unfold Builtin.«sorted»
  refine wpAny_bind (m := checkCount "sorted" 1 1 _) (wpAny_pure (wpAny_bind (hcol _ _ fun s1 k hm => wpAny_bind (wpAny_newList ?_ hl))))
  have hn : (s1.heap.push (seqObj "list" vs.toArray 0)).get? s1.heap.objs.size = some (seqObj "list" vs.toArray 0) := Heap.get?_push_size _ rfl
  have old : ∀ b o, s1.heap.get? b = some o → (s1.heap.push (seqObj "list" vs.toArray 0)).get? b = some o := fun b o g => Heap.get?_push_of_some _ g
  have er2 : EachIs (fun v b => ∃ as, Reads (s1.heap.push (seqObj "list" vs.toArray 0)) v (enc b) as ∧ s1.heap.objs.size ∉ as) vs bs := er.mono fun v b q => by
    obtain ⟨as, r⟩ := q
    have r1 := PyProof.Rows.Reads.keeps k r
    exact ⟨as, PyProof.Rows.Reads.keeps old r1, fun m => Nat.lt_irrefl _ (reads_lt r1 _ m)⟩
  have hu2 : ∀ b, b ∈ bs → A.in1.units + 1 + (enc b).depth < cLine := fun b hb => by
    have := hu b hb
    show A.units + 1 + 1 + (enc b).depth < cLine
    omega
  refine wpAny_bind (wpAny_holding (list_sort_data (A := A.in1) (s := { s1 with heap := s1.heap.push (seqObj "list" vs.toArray 0) }) (n := 0) hn e er2 hal hk hL hu2 fun out ho hs => ?_))
  obtain ⟨ep, g⟩ := PyProof.Rows.sortedHeap_at (vs := vs) (out := out.toArray) hn
  refine wpAny_pure ⟨_, rfl, h out ep s1 _ hm k hs g fun b o q => ?_⟩
  rw [PyProof.Rows.sortedHeap_old (Nat.ne_of_lt (Heap.lt_size q)) (Heap.lt_size (old b o q))]
  exact old b o q
theorem each_reads {X : Cx} {pins : List (Addr × Obj)} {σ : L2.St} {H : Hp} {s : Shared} (I : Inv X pins σ H s) : ∀ (bs : List (V × PyData)) (us : List Value), (∀ b ∈ bs, Dp X.K H b.1 b.2) → EachIs (fun v b => RelV b.1 v) us bs → EachIs (fun v b => ∃ as, Reads s.heap v b.2 as) us bs := fun bs us hd e => by
  induction e with
  | nil => exact .nil
  | cons r t ih => exact .cons (Dp.reads I _ _ _ (hd _ (List.mem_cons_self ..)) r) (ih fun b hb => hd b (List.mem_cons_of_mem _ hb))
def rSortedDt (K : PySem.W.Frag) : List V → Hp → VK → Prop := fun vs H Q => ∃ (a : Addr) (bs : List (V × PyData)), vs = [V.ref a] ∧ (SqL K H a (bs.map (·.1)) ∨ SqT K H a (bs.map (·.1))) ∧ (∀ b ∈ bs, Dp K H b.1 b.2) ∧ AllAlike (bs.map (·.2)) ∧ Sortable (bs.map (·.2)) ∧ (∀ b ∈ bs, b.2.depth ≤ 60) ∧
  ∀ p, H p = none → Q (.ref p) (upd H p (.lst ((bs.mergeSort (dataLe false (·.2))).map (·.1))))
section
variable {X : Cx}
theorem cr_sortedDt (hu : X.A.units + 64 < cLine) : CallR X (.builtin "sorted") (rSortedDt X.K) := by
  intro pins s σ H vs us Q I r h
  obtain ⟨a, bs, rfl, hs, hd, al, so, dp, q⟩ := h
  rw [Vals.ref1 r]
  obtain ⟨its, T, o, n, rv, hT, ho, hc, hd', hz⟩ : ∃ (its : List Value) (T : String) (o : Obj) (n : Nat), Vals (bs.map (·.1)) its ∧ (T = "list" ∨ T = "tuple") ∧ s.heap.get? a = some o ∧ o.cls = .type T ∧ o.data = .seq its.toArray n ∧ bs.length ≤ sizeLine := by
    rcases hs with hs | hs
    · obtain ⟨its, rv, pl, hz⟩ := I.list hs
      obtain ⟨o, ho, hc, n, hd⟩ := pl.isList
      rw [List.length_map] at hz
      exact ⟨its, _, o, n, rv, .inl rfl, ho, hc, hd, hz⟩
    · obtain ⟨its, rv, ⟨o, ho, hc, n, hd⟩, hz⟩ := I.tuple hs
      rw [List.length_map] at hz
      exact ⟨its, _, o, n, rv, .inr rfl, ho, hc, hd, hz⟩
  have e := each_vals rv
  refine sorted_gathered (R := fun v b => RelV b.1 v) (enc := (·.2)) (Mid := fun s1 => ∃ h', s1 = { s with heap := h' }) (fun A' Q' k => ?_) (args_sorted1 _) e (each_reads I _ _ hd e) al so hz (fun b hb => by have := dp b hb; omega) fun out ep s1 h2 ⟨h1, e1⟩ k1 hs g k => ?_
  · refine wpAny_collect_seq a hT ho hc hd' (fun h' hk => ?_) (by rw [List.size_toArray, e.length]; exact hz)
    rw [show its.toArray.toList = its by simp]
    exact k { s with heap := h' } hk ⟨h', rfl⟩
  · subst e1
    have I1 : Inv X pins σ H { s with heap := h1 } := I.kept (t' := s.toks) k1
    have hl2 : ((bs.mergeSort (dataLe false (·.2))).map (·.1)).length ≤ sizeLine := by
      rw [List.length_map, List.length_mergeSort]
      exact hz
    exact ⟨.ref h1.objs.size, upd H h1.objs.size (.lst ((bs.mergeSort (dataLe false (·.2))).map (·.1))), I1.laid (t' := s.toks) k (Nat.le_refl _) ⟨hl2, out, ep, vals_each hs, g⟩, rfl, q _ (I1.hok.fresh (Nat.le_refl _))⟩
end
end QN

/-! sets of texts with their members' order: what a set of texts is, and one more member -/
namespace QN
open PySem PySem.Spec PyProof.Rows L2
def txOf : Value → Str
  | .str x _ => x
  | _ => ""
/-- an entry that holds a text -/
def TxE (P : Program) (w : World) (e : Int × Value) : Prop := ∃ x t, e.2 = Value.str x t ∧ e.1 = (strKind P w).hash x
/-- the set at a holds the texts of l, each once; its table can be walked -/
def TxSet (P : Program) (w : World) (h : Heap) (a : Addr) (l : List Str) : Prop :=
  ∃ (o : Obj) (es : Array (Int × Value)) (ep : Nat) (t : SetTable), h.get? a = some o ∧ o.ExactSet ∧ o.data = .set es ep t ∧
    (∀ e ∈ es.toList, TxE P w e) ∧ (es.toList.map fun e => txOf e.2).Perm l ∧ l.Nodup ∧ es.size < scanBound ∧ t.fits es.size = true ∧ Ris t.place.toList ∧
    (w.params.followText "set-order" = true ∨ t.led = true)
section
variable {P : Program} {w : World} {h h' : Heap} {a : Addr} {l : List Str}
theorem TxSet.at (R : TxSet P w h a l) (k : ∀ o, h.get? a = some o → h'.get? a = some o) : TxSet P w h' a l := by
  obtain ⟨o, es, ep, t, g, r⟩ := R
  exact ⟨o, es, ep, t, k o g, r⟩
theorem TxSet.perm {m : List Str} (R : TxSet P w h a l) (p : l.Perm m) : TxSet P w h a m := by
  obtain ⟨o, es, ep, t, g, g1, g2, g3, g4, g5, r⟩ := R
  exact ⟨o, es, ep, t, g, g1, g2, g3, g4.trans p, p.nodup_iff.mp g5, r⟩
theorem txE_elems {es : List (Int × Value)} (g : ∀ e ∈ es, TxE P w e) : ElemsOf (strKind P w) es := fun e m => by
  obtain ⟨x, t, e1, e2⟩ := g e m
  refine ⟨⟨x, ?_, e2⟩, ?_⟩
  · rw [e1]
    exact strKind_is P w x t
  · rw [e1]
    rfl
theorem txE_is {e : Int × Value} (g : TxE P w e) (x : Str) : (strKind P w).is x e.2 = true ↔ txOf e.2 = x := by
  obtain ⟨y, t, e1, _⟩ := g
  rw [e1]
  constructor
  · intro z
    exact (strKind P w).inj _ y x (strKind_is P w y t) z
  · intro z
    have z' : y = x := z
    rw [← z']
    exact strKind_is P w y t
theorem TxSet.setOf (R : TxSet P w h a l) : h.SetOf (strKind P w) a (fun x => decide (x ∈ l)) l.length := by
  obtain ⟨o, es, ep, t, g, g1, g2, g3, g4, g5, g6, g7, _⟩ := R
  refine ⟨o, es, ep, t, g, g1, g2, txE_elems g3, fun x => ?_, g6, g7, ?_⟩
  · rw [decide_eq_true_iff, ← g4.mem_iff, List.mem_map]
    exact ⟨fun ⟨e, m, z⟩ => ⟨e, m, (txE_is (g3 e m) x).mpr z⟩, fun ⟨e, m, z⟩ => ⟨e, m, (txE_is (g3 e m) x).mp z⟩⟩
  · have := g4.length_eq
    rw [List.length_map, Array.length_toList] at this
    exact this
theorem txSet_fresh : TxSet P w (h.push { cls := .type "set", dict := none, data := .set #[] 0 (.fresh 0 0 (!w.params.followText "set-order")) }) h.objs.size [] := by
  refine ⟨_, #[], 0, _, Heap.get?_push_size _ rfl, ⟨rfl, rfl, rfl⟩, rfl, by simp, by simp, List.nodup_nil, by decide, by rfl, List.Pairwise.nil, ?_⟩
  cases c : w.params.followText "set-order" with
  | true => exact .inl rfl
  | false => exact .inr rfl
end
section
variable {P : Program} {w : World} {A : Around} {E : Value → Shared → Prop} {s : Shared} {a : Addr} {l : List Str}
/-- the entries of a table, once they are stored -/
theorem txs_stored {g : Bool → Sem Unit} (hg : ∀ (b : Bool) (u : Shared) (Q' : Unit → Shared → Prop), Q' () u → wpAny (model P w) A (g b) Q' E u) {o : Obj} {es es1 : Array (Int × Value)} {ep : Nat} {t t2 : SetTable} (ho : s.heap.get? a = some o) (hx : o.ExactSet) (hd : o.data = .set es ep t)
    (g1 : ∀ e ∈ es1.toList, TxE P w e) (p1 : (es1.toList.map fun e => txOf e.2).Perm l) (nd : l.Nodup) (hb : es1.size < scanBound) (hf : t2.fits es1.size = true) (hr : Ris t2.place.toList) (hl : w.params.followText "set-order" = true ∨ t2.led = true) {dummy : Bool} {R : Option Bool → Shared → Prop}
    (hR : ∀ h', Heap.SameBut a s.heap h' → TxSet P w h' a l → R (some true) { s with heap := h' }) :
    wpAny (model P w) A (do
      storeSet a es1 t2
      if (!dummy && t2.tooFull) = true then do
        g (relayAll t2 es1 (SetTable.grown es1.size)).2.2
        storeSet a (relayAll t2 es1 (SetTable.grown es1.size)).1 (relayAll t2 es1 (SetTable.grown es1.size)).2.1
        pure (some true)
      else pure (some true)) R E s := by
  have b1 := Heap.SameBut.update s.heap a (Obj.putSet es1 t2)
  have o1 := store_at (es' := es1) (t' := t2) ho hd
  refine wpAny_bind (wpAny_storeSet_of ho hd ?_ (fits_of_scanBound hb))
  by_cases c : (!dummy && t2.tooFull) = true
  · rw [if_pos c]
    obtain ⟨q1, q2, q3, q4⟩ := And.intro (relayAll_perm t2 es1 (SetTable.grown es1.size)) (And.intro (relayAll_fits t2 es1 (SetTable.grown es1.size)) (And.intro (relayAll_ris t2 es1 (SetTable.grown es1.size)) (relayAll_led t2 es1 (SetTable.grown es1.size))))
    obtain ⟨⟨es2, t3, gave⟩, hZ⟩ : ∃ Z, relayAll t2 es1 (SetTable.grown es1.size) = Z := ⟨_, rfl⟩
    rw [hZ] at q1 q2 q3 q4 ⊢
    have sz : es2.size = es1.size := by
      have := q1.length_eq
      rw [Array.length_toList, Array.length_toList] at this
      exact this
    refine wpAny_bind (hg _ _ _ (wpAny_bind (wpAny_storeSet_of o1 rfl ?_ (fits_of_scanBound (by rw [sz]; exact hb)))))
    have o2 := store_at (es' := es2) (t' := t3) o1 rfl
    refine wpAny_pure (hR _ (b1.trans (Heap.SameBut.update _ a _)) ⟨_, es2, _, t3, o2, hx, rfl, fun e m => g1 e (q1.mem_iff.mp m), (q1.map _).trans p1, nd, by rw [sz]; exact hb, q2, q3, ?_⟩)
    rcases hl with z | z
    · exact .inl z
    · exact .inr (q4.trans z)
  · rw [if_neg c]
    exact wpAny_pure (hR _ b1 ⟨_, es1, _, t2, o1, hx, rfl, g1, p1, nd, hb, hf, hr, hl⟩)
/-- one more member -/
theorem txs_add {x : Str} {tk : Tok} {Q : Bool → Shared → Prop} (R : TxSet P w s.heap a l) (room : l.length + 1 < scanBound)
    (hQ : ∀ (b : Bool) h', Heap.SameBut a s.heap h' → TxSet P w h' a (if x ∈ l then l else l ++ [x]) → Q b { s with heap := h' }) :
    wpAny (model P w) A (setAddHashed a (.str x tk) ((strKind P w).hash x)) Q E s := by
  obtain ⟨o, es, ep, t, ho, hx, hd, g, pm, nd, hb, hf, hr, hl⟩ := R
  have is : (strKind P w).is x (.str x tk) = true := strKind_is P w x tk
  have el := txE_elems g
  have sl : es.size = l.length := by
    have := pm.length_eq
    rw [List.length_map, Array.length_toList] at this
    exact this
  unfold setAddHashed setAddHashedIn
  refine wpAny_holding (wpAny_bind (wpAny_setState_of ho hd hf ?_))
  dsimp only
  rw [byScan_of (x := .str x tk) rfl hb el, if_pos rfl]
  unfold setAddByScan
  refine wpAny_bind (wpAny_bind (wpAny_rule (wpAny_bind (wpAny_setScan_of is ho hd hf el ?_))))
  cases found : List.findIdx? (fun e => (strKind P w).is x e.2) es.toList with
  | some j =>
    obtain ⟨hj, pj, _⟩ := List.findIdx?_eq_some_iff_getElem.mp found
    have hin : x ∈ l := pm.mem_iff.mp (List.mem_map.mpr ⟨_, List.getElem_mem hj, (txE_is (g _ (List.getElem_mem hj)) x).mp pj⟩)
    dsimp only
    have q := hQ false s.heap (Heap.SameBut.refl a s.heap) (by rw [if_pos hin]; exact ⟨o, es, ep, t, ho, hx, hd, g, pm, nd, hb, hf, hr, hl⟩)
    exact wpAny_pure (wpAny_pure q)
  | none =>
    have hout : x ∉ l := fun z => by
      obtain ⟨e, m, q⟩ := List.mem_map.mp (pm.mem_iff.mpr z)
      have := List.findIdx?_eq_none_iff.mp found e m
      rw [(txE_is (g e m) x).mpr q] at this
      cases this
    dsimp only
    have gave : ∀ (b : Bool) {u : Shared} {Q' : Unit → Shared → Prop}, Q' () u → wpAny (model P w) A (match b with | true => rule "set.scan.the-table-gave-way" | false => pure ()) Q' E u := fun b u Q' q => by
      cases b
      · exact wpAny_pure q
      · exact wpAny_rule q
    obtain ⟨q1, q2, q3, q4⟩ := And.intro (layNew_perm t es ((strKind P w).hash x) (.str x tk)) (And.intro (layNew_fits t es ((strKind P w).hash x) (.str x tk)) (And.intro (layNew_ris t es ((strKind P w).hash x) (.str x tk) hr) (layNew_led t es ((strKind P w).hash x) (.str x tk))))
    obtain ⟨⟨es1, t1, dummy, way⟩, hZ⟩ : ∃ Z, layNew t es ((strKind P w).hash x) (.str x tk) = Z := ⟨_, rfl⟩
    rw [hZ] at q1 q2 q3 q4 ⊢
    dsimp only at q1 q2 q3 q4 ⊢
    rw [Array.toList_push] at q1
    have pc : es1.toList.Perm (((strKind P w).hash x, Value.str x tk) :: es.toList) := q1.trans (List.perm_append_singleton _ _)
    have g1 : ∀ e ∈ es1.toList, TxE P w e := fun e m => by
      rcases List.mem_cons.mp (pc.mem_iff.mp m) with z | z
      · exact ⟨x, tk, by rw [z], by rw [z]⟩
      · exact g e z
    have p1 : (es1.toList.map fun e => txOf e.2).Perm (l ++ [x]) := (pc.map _).trans ((List.Perm.cons x pm).trans (List.perm_append_singleton x l).symm)
    have n1 : (l ++ [x]).Nodup := (List.perm_append_singleton x l).nodup_iff.mpr (List.nodup_cons.mpr ⟨hout, nd⟩)
    have s1 : es1.size < scanBound := by
      have := p1.length_eq
      rw [List.length_map, Array.length_toList, List.length_append, List.length_singleton] at this
      rw [this]
      exact room
    have l1 : w.params.followText "set-order" = true ∨ t1.led = true := by
      rcases hl with z | z
      · exact .inl z
      · exact .inr (q4.trans z)
    have fin : ∀ h', Heap.SameBut a s.heap h' → TxSet P w h' a (l ++ [x]) → Q true { s with heap := h' } := fun h' sb r => hQ true h' sb (by rw [if_neg hout]; exact r)
    refine wpAny_bind (gave _ ?_)
    split
    · rw [hashByValue_scannable 8 (x := .str x tk) rfl]
      refine wpAny_bind (wpAny_pure ?_)
      refine txs_stored (fun b u Q' q => gave b q) ho hx hd g1 p1 n1 s1 ?_ ?_ ?_ fun h' sb r => wpAny_pure (fin h' sb r)
      · first | exact SetTable.fits_plain_off q2 | exact q2
      · exact q3
      · exact l1
    · refine wpAny_bind (wpAny_pure ?_)
      rw [if_pos rfl]
      exact txs_stored (fun b u Q' q => gave b q) ho hx hd g1 p1 n1 s1 q2 q3 l1 fun h' sb r => wpAny_pure (fin h' sb r)
end
end QN

/-! set(xs) of texts, xs a list or a tuple -/
namespace QN
open PySem PySem.Spec PyProof.Rows L2
section
variable {P : Program} {w : World} {A : Around} {E : Value → Shared → Prop} {s : Shared} {a : Addr} {l : List Str}
theorem txs_fill {I : Addr} {fp wr : List Addr} {G : Array GenState → Array GenState → Prop} {n : Nat} {Pv : Nat → Value → Prop} {St : Nat → Shared → Prop} {R : Result → Shared → Prop} (W : WalksS P w A.in1 I fp wr G n Pv St) (S : Addr) (out : S ∉ fp)
    (xs : List Str) (hn : n = xs.length) (few : xs.length + 1 < scanBound) (hv : ∀ i v, Pv i v → ∃ x t, xs[i]? = some x ∧ v = Value.str x t) :
    ∀ (k i : Nat) (s : Shared) (l : List Str), n - i = k → i ≤ n → St i s → TxSet P w s.heap S l → l.length ≤ i → (∀ x, x ∈ l ↔ x ∈ xs.take i) →
      (∀ s' l', Moved (S :: wr) G s s' → TxSet P w s'.heap S l' → l'.length ≤ n → (∀ x, x ∈ l' ↔ x ∈ xs) → R (.ok (.ret .none)) s') →
      codeAny (model P w) A (.builtin "set.update.loop" ⟨[.ref S, .ref I], []⟩) R s := by
  have nw : S ∉ wr := fun z => out (W.sub _ z)
  have sub : ∀ b ∈ wr, b ∈ S :: wr := fun b z => List.mem_cons_of_mem _ z
  intro k
  induction k with
  | zero =>
    intro i s l e hi st R0 hl hm fin
    obtain rfl : i = n := by omega
    refine codeAny_builtin PyProof.Rows.F.entry_set_update_loop ?_
    rw [Around.under_plainId PyProof.Rows.F.plain_set_update_loop _]
    show wpAny _ A.in1 (pyNext (.ref I) >>= _) _ _ s
    refine wpAny_bind (W.done s _ _ st fun s' mv => ?_)
    rw [hn, List.take_length] at hm
    exact wpAny_pure (fin s' l (mv.mono sub) (R0.at fun o g => mv.heap S o nw g) hl hm)
  | succ k ih =>
    intro i s l e hi st R0 hl hm fin
    have lt : i < n := by omega
    refine codeAny_builtin PyProof.Rows.F.entry_set_update_loop ?_
    rw [Around.under_plainId PyProof.Rows.F.plain_set_update_loop _]
    show wpAny _ A.in1 (pyNext (.ref I) >>= _) _ _ s
    refine wpAny_bind (W.item i s _ _ lt st fun v s' pv st' mv => ?_)
    obtain ⟨x, t, hx, rfl⟩ := hv i v pv
    have R1 := R0.at fun o g => mv.heap S o nw g
    show wpAny _ A.in1 (holding [Value.str x t] (setAdd S (.str x t)) >>= _) _ _ s'
    unfold setAdd
    refine wpAny_bind (wpAny_holding (wpAny_holding (wpAny_bind ((strKind P w).pyHash (k := x) (strKind_is P w x t) (txs_add (s := { s' with toks := s'.toks + 1 }) R1 (by omega) fun b h' sb R2 => ?_)))))
    have e1 : xs.take (i + 1) = xs.take i ++ [x] := by rw [List.take_add_one, hx]; rfl
    refine wpAny_pure ⟨plainId_quiet PyProof.Rows.F.plain_set_update_loop _, ih (i + 1) _ _ (by omega) lt (W.frame _ s' _ _ st' (Nat.le_succ _) fun b m o g => ?_) R2 ?_ (fun y => ?_) fun s2 l2 mv2 R3 z1 z2 => ?_⟩
    · rw [sb.2 b fun c => out (c ▸ m)]
      exact g
    · split
      · omega
      · rw [List.length_append, List.length_singleton]
        omega
    · rw [e1, List.mem_append, List.mem_singleton, ← hm y]
      split
      · rename_i c
        exact ⟨.inl, fun z => z.elim id fun q => q ▸ c⟩
      · rw [List.mem_append, List.mem_singleton]
    · refine fin s2 l2 (Moved.trans W.gtrans ((mv.mono sub).then_heap (Nat.le_succ _) fun b o m g => ?_) mv2) R3 z1 z2
      rw [sb.2 b fun c => m (c ▸ List.mem_cons_self)]
      exact g
/-- the items of a list or a tuple -/
def SeqAt2 (h : Heap) (q : Addr) (its : Array Value) : Prop := h.IsList q its ∨ h.IsTuple q its
set_option maxRecDepth 100000 in
set_option maxHeartbeats 3200000 in
theorem call_set_txs {q : Addr} {its : Array Value} (xs : List Str) {Q : Value → Shared → Prop} (hh : A.handled = none) (hl : SeqAt2 s.heap q its) (hn : its.size = xs.length) (hv : ∀ (i : Nat) v, its[i]? = some v → ∃ x t, xs[i]? = some x ∧ v = Value.str x t) (few : xs.length + 1 < scanBound)
    (h : ∀ (h' : Heap) (tk : Nat) l, TxSet P w h' s.heap.objs.size l → l.length ≤ xs.length → (∀ x, x ∈ l ↔ x ∈ xs) → (∀ b o, s.heap.get? b = some o → h'.get? b = some o) → Q (.ref s.heap.objs.size) { s with heap := h', toks := tk }) :
    wpAny (model P w) A (call (.type "set") [.ref q]) Q E s := by
  obtain ⟨c, tl, hmro⟩ := F.called_set.mro
  have hmade := F.called_set.made
  have hsub := F.called_set.sub
  have m1 := F.called_set.notType
  have m2 := F.called_set.canCreate
  have m3 := F.typeCall_set_1 (.ref q)
  refine wpAny_call (codeAny_of_tree (?_ : wpAny _ _ (callAny (.type "set") _) _ _ _))
  refine wpAny_pure ⟨Code.quiet_builtin _ (by decide +kernel), codeAny_builtin F.entry_type_call ?_⟩
  rw [Around.under_plain (weight_type_call_type "set" [.ref q] []) rfl]
  repeat (any_goals (first | assumption | wp_step))
  obtain ⟨fresh, hfr⟩ : ∃ o : Obj, o = { cls := .type "set", dict := none, data := .set #[] 0 (.fresh 0 0 (!w.params.followText "set-order")) } := ⟨_, rfl⟩
  refine codeAny_mono (code_set_led1 (.ref q) (E := E) (Q₁ := fun obj u => obj = .ref s.heap.objs.size ∧ u = { s with heap := s.heap.push fresh }) ⟨rfl, by rw [hfr]⟩) fun r u hr => ?_
  have R0 : TxSet P w (s.heap.push fresh) s.heap.objs.size [] := by
    rw [hfr]
    exact txSet_fresh
  have g0 : (s.heap.push fresh).get? s.heap.objs.size = some fresh := Heap.get?_push_size _ (by rw [hfr]; rfl)
  match r, hr with
  | .error e, hr => exact hr
  | .ok (.ret obj), hr =>
    obtain ⟨rfl, rfl⟩ := hr
    have hT : Shared.TypeIs { s with heap := s.heap.push fresh } (.ref s.heap.objs.size) "set" := ⟨_, g0, by rw [hfr]⟩
    have hli := F.called_set.init.lookup
    have hbi := F.called_set.init.bind (.ref s.heap.objs.size)
    repeat (any_goals (first | assumption | wp_step))
    refine codeAny_mono (codeAny_call_builtin (R := wants (fun r u => r = .none ∧ ∃ h' tk l', u = { s with heap := h', toks := tk } ∧ TxSet P w h' s.heap.objs.size l' ∧ l'.length ≤ xs.length ∧ (∀ x, x ∈ l' ↔ x ∈ xs) ∧ (∀ b o, s.heap.get? b = some o → h'.get? b = some o)) E)
      F.called_set.init.plain F.entry_set_init (check_set_init_1 hT ?_)) fun r2 u2 hr2 => ?_
    · subst hfr
      rcases hl with hl | hl
      · obtain ⟨⟨oc, od, odt, osl⟩, ho, hc, n, hd⟩ := id hl
        simp only at hc hd
        subst hc
        subst hd
        have hl1 := hl.push { cls := .type "set", dict := none, data := .set #[] 0 (.fresh 0 0 (!w.params.followText "set-order")) }
        have ho1 : (s.heap.push { cls := .type "set", dict := none, data := .set #[] 0 (.fresh 0 0 (!w.params.followText "set-order")) }).get? q = some { cls := .type "list", dict := od, data := .seq its n, slots := osl } := Heap.get?_push_of_some _ ho
        have k1 := F.sub_list_set
        have k2 := F.sub_list_frozenset
        have k3 : (Value.type "list" == Value.type "dict") = false := by decide
        unfold Builtin.«set.__init__» noKeywords Builtin.Frozenset.updateFrom
        generalize hPI : pyIter = PI
        wp_walk
        subst hPI
        have sz : (s.heap.push { cls := .type "set", dict := none, data := .set #[] 0 (.fresh 0 0 (!w.params.followText "set-order")) }).objs.size = s.heap.objs.size + 1 := Heap.size_push ..
        have qs : q < s.heap.objs.size := Heap.lt_size ho
        refine wpAny_pyIter_list hl1 (wpAny_bind (wpAny_runValue (txs_fill ((Walks.list (prog := P) (w := w) (A := A.in1.in1.in1) (by simp [hh]) _ q (by rw [sz]; exact Nat.ne_of_lt (Nat.lt_succ_of_lt qs)) its).toS) s.heap.objs.size (by rw [sz]; simp only [List.mem_cons, List.not_mem_nil, or_false, not_or]; exact ⟨Nat.ne_of_lt (Nat.lt_succ_self _), Nat.ne_of_gt qs⟩)
          xs hn few hv (its.size - 0) 0 _ [] (by omega) (Nat.zero_le _) ⟨⟨_, Heap.get?_push_size _ rfl, rfl, rfl⟩, hl1.push _⟩ (R0.at fun o g => Heap.get?_push_of_some _ g) (Nat.le_refl _) (by simp) fun s' l' mv R1 z1 z2 => ?_)))
        obtain ⟨h', g2, d', tk', os'⟩ := s'
        have eg : g2 = s.gens := mv.gens
        have ed : d' = s.drawn := mv.drawn
        have eo : os' = s.os := mv.os
        subst eg
        subst ed
        subst eo
        show wpAny _ _ _ _ _ _
        refine wpAny_pure ?_
        show wpAny _ _ (ret Value.none) _ _ _
        refine wpAny_pure ⟨rfl, h', tk', l', rfl, R1, by rw [← hn]; exact z1, z2, fun b o g => ?_⟩
        have bs := Heap.lt_size g
        refine mv.heap b o ?_ (Heap.get?_push_of_some _ (Heap.get?_push_of_some _ g))
        rw [sz]
        simp only [List.mem_cons, List.not_mem_nil, or_false, not_or]
        exact ⟨Nat.ne_of_lt bs, Nat.ne_of_lt (Nat.lt_succ_of_lt bs)⟩
      · obtain ⟨⟨oc, od, odt, osl⟩, ho, hc, n, hd⟩ := id hl
        simp only at hc hd
        subst hc
        subst hd
        have hl1 := hl.push { cls := .type "set", dict := none, data := .set #[] 0 (.fresh 0 0 (!w.params.followText "set-order")) }
        have ho1 : (s.heap.push { cls := .type "set", dict := none, data := .set #[] 0 (.fresh 0 0 (!w.params.followText "set-order")) }).get? q = some { cls := .type "tuple", dict := od, data := .seq its n, slots := osl } := Heap.get?_push_of_some _ ho
        have k1 := F.sub_tuple_set
        have k2 := F.sub_tuple_frozenset
        have k3 : (Value.type "tuple" == Value.type "dict") = false := by decide
        unfold Builtin.«set.__init__» noKeywords Builtin.Frozenset.updateFrom
        generalize hPI : pyIter = PI
        wp_walk
        subst hPI
        have sz : (s.heap.push { cls := .type "set", dict := none, data := .set #[] 0 (.fresh 0 0 (!w.params.followText "set-order")) }).objs.size = s.heap.objs.size + 1 := Heap.size_push ..
        have qs : q < s.heap.objs.size := Heap.lt_size ho
        refine wpAny_pyIter_tuple hl1 (wpAny_bind (wpAny_runValue (txs_fill ((Walks.tuple (prog := P) (w := w) (A := A.in1.in1.in1) (by simp [hh]) _ q (by rw [sz]; exact Nat.ne_of_lt (Nat.lt_succ_of_lt qs)) its).toS) s.heap.objs.size (by rw [sz]; simp only [List.mem_cons, List.not_mem_nil, or_false, not_or]; exact ⟨Nat.ne_of_lt (Nat.lt_succ_self _), Nat.ne_of_gt qs⟩)
          xs hn few hv (its.size - 0) 0 _ [] (by omega) (Nat.zero_le _) ⟨⟨_, Heap.get?_push_size _ rfl, rfl, rfl⟩, hl1.push _⟩ (R0.at fun o g => Heap.get?_push_of_some _ g) (Nat.le_refl _) (by simp) fun s' l' mv R1 z1 z2 => ?_)))
        obtain ⟨h', g2, d', tk', os'⟩ := s'
        have eg : g2 = s.gens := mv.gens
        have ed : d' = s.drawn := mv.drawn
        have eo : os' = s.os := mv.os
        subst eg
        subst ed
        subst eo
        show wpAny _ _ _ _ _ _
        refine wpAny_pure ?_
        show wpAny _ _ (ret Value.none) _ _ _
        refine wpAny_pure ⟨rfl, h', tk', l', rfl, R1, by rw [← hn]; exact z1, z2, fun b o g => ?_⟩
        have bs := Heap.lt_size g
        refine mv.heap b o ?_ (Heap.get?_push_of_some _ (Heap.get?_push_of_some _ g))
        rw [sz]
        simp only [List.mem_cons, List.not_mem_nil, or_false, not_or]
        exact ⟨Nat.ne_of_lt bs, Nat.ne_of_lt (Nat.lt_succ_of_lt bs)⟩
    · match r2, hr2 with
      | .error e, hr2 => exact hr2
      | .ok (.ret v), hr2 =>
        obtain ⟨rfl, h', tk, l', rfl, z1, z2, z3, z4⟩ := hr2
        repeat (any_goals (first | assumption | wp_step))
        exact h _ _ _ z1 z2 z3 z4
end
end QN

/-! the rules: set(xs), sorted(s), len(s) of texts -/
namespace QN
open PySem PySem.Spec PyProof.Rows L2 PySem.W PySem.Calls
/-- the set of the texts of l (each once, in no order) -/
def TxSetO (P : Program) (w : World) (a : Addr) (l : List Str) : HO := .ext fun h => TxSet P w h a l
theorem txSetO_new {P : Program} {w : World} {H : Hp} {h : Heap} {a : Addr} {l : List Str} (R : TxSet P w h a l) : ObjOk P w H h a (TxSetO P w a l) := by
  have ⟨o, _, _, _, ho, _⟩ := R
  exact ⟨R, ⟨o, ho⟩, fun h1 h2 p k => TxSet.at p k⟩
theorem txSetO_get {X : Cx} {pins : List (Addr × Obj)} {σ : L2.St} {H : Hp} {s : Shared} {a : Addr} {l : List Str} (I : Inv X pins σ H s) (ha : H a = some (TxSetO X.prog X.w a l)) : TxSet X.prog X.w s.heap a l := (I.hok a _ ha).1
/-- the order of texts -/
def sortTx (l : List Str) : List Str := l.mergeSort (dataLe false fun x => .str x)
theorem sortTx_perm (l : List Str) : (sortTx l).Perm l := List.mergeSort_perm l _
/-- sorted's own sort of the list that it has made -/
theorem sorted_tail {prog : Program} {w : World} {A : Around} {E : Value → Shared → Prop} {s : Shared} {β : Type} {R : Value → β → Prop} {enc : β → PyData} {vs : List Value} {bs : List β} {Q : Value → Shared → Prop}
    (e : EachIs R vs bs) (er : EachIs (fun v b => ∃ as, Reads s.heap v (enc b) as) vs bs) (hal : AllAlike (bs.map enc)) (hk : Sortable (bs.map enc)) (hL : bs.length ≤ sizeLine) (hu : ∀ b, b ∈ bs → A.units + 2 + (enc b).depth < cLine)
    (h : ∀ out ep (h2 : Heap), EachIs R out (bs.mergeSort (dataLe false enc)) → h2.get? s.heap.objs.size = some (seqObj "list" out.toArray ep) → (∀ b o, s.heap.get? b = some o → h2.get? b = some o) → Q (.ref s.heap.objs.size) { s with heap := h2 }) :
    wpAny (model prog w) A (do
      let l ← newList vs
      let _ ← holding [l] (call (.builtin "list.sort") [l] [])
      ret l) (fun fin s' => ∃ v, fin = .done (.ret v) ∧ Q v s') E s := by
  have hn : (s.heap.push (seqObj "list" vs.toArray 0)).get? s.heap.objs.size = some (seqObj "list" vs.toArray 0) := Heap.get?_push_size _ rfl
  have old : ∀ b o, s.heap.get? b = some o → (s.heap.push (seqObj "list" vs.toArray 0)).get? b = some o := fun b o g => Heap.get?_push_of_some _ g
  have er2 : EachIs (fun v b => ∃ as, Reads (s.heap.push (seqObj "list" vs.toArray 0)) v (enc b) as ∧ s.heap.objs.size ∉ as) vs bs := er.mono fun v b q => by
    obtain ⟨as, r⟩ := q
    exact ⟨as, PyProof.Rows.Reads.keeps old r, fun m => Nat.lt_irrefl _ (reads_lt r _ m)⟩
  refine wpAny_bind (wpAny_newList ?_ (by rw [e.length]; exact hL))
  refine wpAny_bind (wpAny_holding (list_sort_data (A := A) (s := { s with heap := s.heap.push (seqObj "list" vs.toArray 0) }) (n := 0) hn e er2 hal hk hL (fun b hb => by have := hu b hb; omega) fun out ho hs => ?_))
  obtain ⟨ep, g⟩ := PyProof.Rows.sortedHeap_at (vs := vs) (out := out.toArray) hn
  refine wpAny_pure ⟨_, rfl, h out ep _ hs g fun b o q => ?_⟩
  rw [PyProof.Rows.sortedHeap_old (Nat.ne_of_lt (Heap.lt_size q)) (Heap.lt_size (old b o q))]
  exact old b o q
def rSetTx (K : PySem.W.Frag) (P : Program) (w : World) : List V → Hp → VK → Prop := fun xs H Q => ∃ (q : Addr) (us : List Str), xs = [V.ref q] ∧ (SqL K H q (us.map V.str) ∨ SqT K H q (us.map V.str)) ∧ us.length + 1 < scanBound ∧
  ∀ p l, H p = none → l.Nodup → l.length ≤ us.length → (∀ x, x ∈ l ↔ x ∈ us) → Q (.ref p) (upd H p (TxSetO P w p l))
def rSortedTx (P : Program) (w : World) : List V → Hp → VK → Prop := fun xs H Q => ∃ (q : Addr) (l : List Str), xs = [V.ref q] ∧ H q = some (TxSetO P w q l) ∧ l.length < 4000 ∧
  ∀ p m, H p = none → m.Perm l → Q (.ref p) (upd H p (.lst ((sortTx m).map V.str)))
def rLenTx (P : Program) (w : World) : List V → Hp → VK → Prop := fun xs H Q => ∃ (q : Addr) (l : List Str), xs = [V.ref q] ∧ H q = some (TxSetO P w q l) ∧ Q (.int l.length) H
section
variable {X : Cx}
theorem vals_strs : ∀ {us : List Str} {its : List Value}, Vals (us.map V.str) its → its.length = us.length ∧ ∀ (i : Nat) v, its[i]? = some v → ∃ x t, us[i]? = some x ∧ v = Value.str x t
  | [], _, r => by
    cases r
    exact ⟨rfl, fun i v e => by simp at e⟩
  | x :: us, _, r => by
    cases r with
    | cons a b =>
      obtain ⟨h1, h2⟩ := vals_strs b
      obtain ⟨t, rfl⟩ := a
      refine ⟨by rw [List.length_cons, List.length_cons, h1], fun i v e => ?_⟩
      cases i with
      | zero =>
        simp only [List.getElem?_cons_zero, Option.some.injEq] at e
        exact ⟨x, t, rfl, e.symm⟩
      | succ i =>
        rw [List.getElem?_cons_succ] at e
        obtain ⟨y, t, e1, e2⟩ := h2 i v e
        exact ⟨y, t, by rw [List.getElem?_cons_succ]; exact e1, e2⟩
theorem cr_setTx (hc : X.calm = true) : CallR X (.type "set") (rSetTx X.K X.prog X.w) := by
  intro pins s σ H xs us Q I r h
  obtain ⟨q, zs, rfl, hs, few, k⟩ := h
  rw [Vals.ref1 r]
  obtain ⟨its, rv, sq⟩ : ∃ its : List Value, Vals (zs.map V.str) its ∧ SeqAt2 s.heap q its.toArray := by
    rcases hs with hs | hs
    · obtain ⟨its, rv, pl, _⟩ := I.list hs
      exact ⟨its, rv, .inl pl.isList⟩
    · obtain ⟨its, rv, pl, _⟩ := I.tuple hs
      exact ⟨its, rv, .inr pl⟩
  obtain ⟨ln, at_⟩ := vals_strs rv
  refine call_set_txs (P := X.prog) (w := X.w) zs (I.ok.hd hc) sq (by rw [List.size_toArray]; exact ln) (fun i v e => at_ i v (by simpa using e)) few fun h' tk l R z1 z2 keep => ?_
  have nd : l.Nodup := by
    obtain ⟨_, _, _, _, _, _, _, _, _, nd, _⟩ := R
    exact nd
  exact ⟨.ref s.heap.objs.size, upd H s.heap.objs.size (TxSetO X.prog X.w s.heap.objs.size l), I.laid (t' := tk) keep (Nat.le_refl _) (txSetO_new R), rfl, k _ l (I.hok.fresh (Nat.le_refl _)) nd z1 z2⟩
theorem cr_lenTx : CallR X (.builtin "len") (rLenTx X.prog X.w) := by
  intro pins s σ H xs us Q I r h
  obtain ⟨q, l, rfl, ha, k⟩ := h
  rw [Vals.ref1 r]
  have R := (txSetO_get I ha).setOf
  obtain ⟨o, es, ep, t, ho, hex, hd, _, _, hb, hf, hn⟩ := R
  refine call_len_set ho hex hd hf (by rw [hn] at hb; rw [hn]; unfold scanBound at hb; omega) ⟨.int l.length, H, I.tok _, ⟨_, by rw [hn]⟩, k⟩
theorem each_txs : ∀ {vs : List Value}, (∀ v ∈ vs, ∃ x t, v = Value.str x t) → EachIs (fun v (x : Str) => ∃ t, v = Value.str x t) vs (vs.map txOf)
  | [], _ => .nil
  | v :: vs, h => by
    obtain ⟨x, t, e⟩ := h v (List.mem_cons_self ..)
    refine .cons ⟨t, ?_⟩ (each_txs fun u m => h u (List.mem_cons_of_mem _ m))
    rw [e]
    rfl
theorem txs_vals : ∀ {vs : List Value} {xs : List Str}, EachIs (fun v (x : Str) => ∃ t, v = Value.str x t) vs xs → Vals (xs.map V.str) vs
  | _, _, .nil => .nil
  | _, _, .cons h t => .cons h (txs_vals t)
theorem cr_sortedTx (hc : X.calm = true) (hu : X.A.units + 64 < cLine) : CallR X (.builtin "sorted") (rSortedTx X.prog X.w) := by
  intro pins s σ H xs us Q I r h
  obtain ⟨q, l, rfl, ha, few, k⟩ := h
  rw [Vals.ref1 r]
  obtain ⟨o, es, ep, t, ho, hex, hd, g, pm, nd, hb, hf, hr, hl⟩ := txSetO_get I ha
  refine call_function_entry kind_sorted plain_sorted
    entry_sorted (args_sorted1 _) ?_
  unfold Builtin.«sorted»
  refine wpAny_bind (m := checkCount "sorted" 1 1 _) (wpAny_pure (wpAny_bind (collect_set (A := X.A.in1) (I.ok.hd hc) ⟨o, ho, hex.1, hd⟩ hf hb hr hl fun s1 vs k1 hz g1 o1 p1 => ?_)))
  have tx : ∀ v ∈ vs, ∃ x t, v = Value.str x t := fun v m => by
    obtain ⟨e, me, q⟩ := List.mem_map.mp (p1.mem_iff.mp m)
    obtain ⟨x, t, e1, _⟩ := g e me
    exact ⟨x, t, by rw [← q]; exact e1⟩
  have p2 : (vs.map txOf).Perm l := by
    have := p1.map txOf
    rw [List.map_map] at this
    exact this.trans pm
  have ln : (vs.map txOf).length < 4000 := by rw [p2.length_eq]; exact few
  have e := each_txs tx
  refine sorted_tail (A := X.A.in1) (enc := fun x : Str => PyData.str x) e (e.mono fun v x z => by obtain ⟨t, rfl⟩ := z; exact ⟨_, Reads.str x t⟩) (AllAlike.of fun _ _ => rfl) (Sortable.others fun b => ⟨(fun c => by cases c), (fun xs c => by cases c)⟩) (by rw [sizeLine_eq]; omega) (fun b hb => ?_) fun out ep2 h2 hs g2 keep => ?_
  · show X.A.units + 1 + 2 + 0 < cLine
    omega
  · have hp : H s1.heap.objs.size = none := I.hok.fresh hz
    have l2 : ((sortTx (vs.map txOf)).map V.str).length ≤ sizeLine := by
      unfold sortTx
      rw [List.length_map, List.length_mergeSort, sizeLine_eq]
      omega
    have keep2 : ∀ b o, s.heap.get? b = some o → h2.get? b = some o := fun b o g => keep b o (k1 b o g)
    have J : Inv X pins σ (upd H s1.heap.objs.size (.lst ((sortTx (vs.map txOf)).map V.str))) { s with heap := h2, gens := s1.gens, drawn := s1.drawn, toks := s1.toks } :=
      I.call (ch := []) (Un.laid keep2 hz hp) (I.hok.laid keep2 hz ⟨l2, out, ep2, txs_vals hs, g2⟩) (by rw [g1]; exact I.bare) (fun _ z => nomatch z)
    have e1 : ({ s1 with heap := h2 } : Shared) = { s with heap := h2, gens := s1.gens, drawn := s1.drawn, toks := s1.toks } := by
      cases s1
      cases s
      cases o1
      rfl
    rw [e1]
    exact ⟨.ref s1.heap.objs.size, _, J, rfl, k _ _ hp p2⟩
end
end QN

/-! all states, in their order -/
namespace Qp
open PySem PySem.Spec PyProof.Rows L2 QN
abbrev sAll : Stmt := top 24 -- _all_states
abbrev aNames : List Str := ["transitions", "states", "touched", "_", "source", "target", "state"]
theorem scAll : FnScope aNames ["transitions", "states"] (defScope sAll) := ⟨rfl, rfl, rfl, by decide +kernel, rfl, by decide +kernel, by decide +kernel⟩
/-- x < y as texts -/
def lts (x y : Str) : Prop := x.cps.toList < y.cps.toList
theorem str_ext {x y : Str} (h : x.cps.toList = y.cps.toList) : x = y := by
  cases x
  cases y
  congr
  exact Array.toList_inj.mp h
theorem lts_irrefl (x : Str) : ¬ lts x x := List.lt_irrefl _
theorem lts_trans {x y z : Str} (a : lts x y) (b : lts y z) : lts x z := List.lt_trans a b
theorem lts_asymm {x y : Str} (a : lts x y) : ¬ lts y x := fun b => lts_irrefl x (lts_trans a b)
/-- two strictly ascending rows of the same texts are one -/
theorem asc_unique : ∀ {xs ys : List Str}, xs.Pairwise lts → ys.Pairwise lts → (∀ z, z ∈ xs ↔ z ∈ ys) → xs = ys
  | [], [], _, _, _ => rfl
  | [], y :: ys, _, _, h => absurd ((h y).mpr (List.mem_cons_self ..)) (by simp)
  | x :: xs, [], _, _, h => absurd ((h x).mp (List.mem_cons_self ..)) (by simp)
  | x :: xs, y :: ys, a, b, h => by
    rw [List.pairwise_cons] at a b
    have e : x = y := by
      rcases List.mem_cons.mp ((h x).mp (List.mem_cons_self ..)) with e | m1
      · exact e
      · rcases List.mem_cons.mp ((h y).mpr (List.mem_cons_self ..)) with e | m2
        · exact e.symm
        · exact absurd (a.1 y m2) (lts_asymm (b.1 x m1))
    subst e
    have r := asc_unique a.2 b.2 fun z => by
      constructor
      · intro m
        rcases List.mem_cons.mp ((h z).mp (List.mem_cons_of_mem _ m)) with e | m2
        · rw [e] at m
          exact absurd (a.1 x m) (lts_irrefl x)
        · exact m2
      · intro m
        rcases List.mem_cons.mp ((h z).mpr (List.mem_cons_of_mem _ m)) with e | m2
        · rw [e] at m
          exact absurd (b.1 x m) (lts_irrefl x)
        · exact m2
    rw [r]
theorem sortTx_asc {l : List Str} (nd : l.Nodup) : (sortTx l).Pairwise lts := by
  have s : (sortTx l).Pairwise fun a b => decide (a.cps.toList ≤ b.cps.toList) = true := by
    unfold sortTx
    rw [PySem.W.dataLe_str]
    exact List.pairwise_mergeSort (le := fun a b : Str => decide (a.cps.toList ≤ b.cps.toList)) (fun a b c h1 h2 => decide_eq_true (List.le_trans (of_decide_eq_true h1) (of_decide_eq_true h2))) (fun a b => by
      rcases List.le_total a.cps.toList b.cps.toList with h | h
      · show (decide (a.cps.toList ≤ b.cps.toList) || decide (b.cps.toList ≤ a.cps.toList)) = true
        rw [decide_eq_true h]
        rfl
      · show (decide (a.cps.toList ≤ b.cps.toList) || decide (b.cps.toList ≤ a.cps.toList)) = true
        rw [decide_eq_true h, Bool.or_true]) l
  have n : (sortTx l).Nodup := (sortTx_perm l).nodup_iff.mpr nd
  refine (s.and n).imp fun {a b} h => ?_
  have h1 : a.cps.toList ≤ b.cps.toList := of_decide_eq_true h.1
  rcases Classical.em (lts a b) with c | c
  · exact c
  · exact absurd (str_ext (List.le_antisymm h1 (List.not_lt.mp c))) h.2
/-- the states that transitions touch -/
def touched (rs : List Row) : List Str := rs.flatMap fun r => [r.s, r.t]
def spAll (K : PySem.W.Frag) : Sp := fun vs H Q _ => ∃ (v : V) (b : Addr) (rs : List Row) (ns st : List Str), vs = [v, .ref b] ∧ Dp K H v (.tuple (rs.map rowD)) ∧ SqT K H b (ns.map V.str) ∧ st.Pairwise lts ∧ (∀ x, x ∈ st ↔ x ∈ ns ∨ x ∈ touched rs) ∧ rs.length ≤ 100 ∧ ns.length ≤ 100 ∧
  ∀ p H', Same H H' → H' p = some (.lst (st.map V.str)) → Q (.ref p) H'
/-- the inner walk of a comprehension, from any heap -/
theorem lc_inner {J : It} {n : Nat} {G : Hp → Prop} {Y : Nat → Hp → V → Hp → Prop} (w : Walk J n G Y) {g : TG} {tt : TT} {te : TE} {vs : List Nat} {σ : L2.St} {H1 : Hp} {D : Addr} {Qd : Hp → Prop} (Pv : Nat → Hp → Prop) (h0 : Pv 0 H1) (hG : ∀ i H, i ≤ n → Pv i H → G H)
    (hs : ∀ i x H H', i < n → Pv i H → Y i H x H' → g x (wipe σ vs) H' fun σ2 H2 => wipe σ2 vs = wipe σ vs ∧ tt σ2 H2 fun b H3 =>
      if b = true then te σ2 H3 fun y H4 => ∃ acc, H4 D = some (.lst acc) ∧ acc.length < sizeLine ∧ Pv (i + 1) (upd H4 D (.lst (acc ++ [y]))) else Pv (i + 1) H3) (hd : ∀ H, Pv n H → Qd H) :
    ∃ W : Nat → Nat → Hp → Prop, (∃ m, W 0 m H1) ∧ ∀ i m H, W i m H →
      (J.stop i H ∧ Qd H) ∨ (J.go i H ∧ ∃ Nx : Hp → Prop, (∀ H', Nx H' → ∃ m', m' < m ∧ W (i + 1) m' H') ∧ ∀ x H', J.yld i H x H' → g x (wipe σ vs) H' fun σ2 H2 => wipe σ2 vs = wipe σ vs ∧ tt σ2 H2 fun b H3 =>
        if b = true then te σ2 H3 fun y H4 => ∃ acc, H4 D = some (.lst acc) ∧ acc.length < sizeLine ∧ Nx (upd H4 D (.lst (acc ++ [y]))) else Nx H3) := by
  refine ⟨fun i m H => m = n - i ∧ i ≤ n ∧ Pv i H, ⟨n, by rw [Nat.sub_zero], Nat.zero_le _, h0⟩, ?_⟩
  rintro i m H ⟨rfl, hi, p⟩
  have q := hG i H hi p
  rcases Nat.lt_or_ge i n with lt | ge
  · exact .inr ⟨w.goes i H lt q, Pv (i + 1), fun H' p' => ⟨n - (i + 1), by omega, rfl, lt, p'⟩, fun x H' y => hs i x H H' lt p (w.yields i H x H' lt q y)⟩
  · obtain rfl : i = n := Nat.le_antisymm hi ge
    exact .inl ⟨w.stops H q, hd H p⟩
section
variable {P : Program} {w : World} {K : PySem.W.Frag} {mg : Str → Option Value} {base : Heap}
theorem ok_all {f : Addr} {fd : FuncData} (F : Fun K "_all_states" "_all_states" sAll f fd) (se : mg "set" = none) (so : mg "sorted" = none) : FnOk P w K mg base CX0 1 f fd ["transitions", "states"] (spAll K) := by
  refine F.ok scAll (fun vs H Q E h => ?_) (fun cdv A outer s H vs Q E hr h => ?_)
  · obtain ⟨v, b, rs, ns, st, rfl, _⟩ := h
    rfl
  · obtain ⟨v, b, rs, ns, st, rfl, hd, hb, asc, mem, few, few2, k⟩ := h
    obtain ⟨a, us, rfl, ha, hu⟩ := dp_tup hd
    have ul : us.length = rs.length := by rw [dpAll_len hu, List.length_map]
    have hu1 : (A.deeper (envOfC "_all_states" (defScope sAll) s.heap.objs.size f cdv)).units + 64 < cLine := by
      have := hr.un
      omega
    refine ⟨_, pss_cons (ps_setLc2 (i := 2) (own := [("_", 3), ("source", 4), ("target", 5), ("state", 6)]) (vs1 := [6]) (g := gTup K 4 (gCons (gName 3) (gCons (gName 4) (gCons (gName 5) (gCons (gName 3) gNil))))) (tt := tYes) (wi1 := iTup K (tTup (tCons (tVar 4) (tCons (tVar 5) tNil)))) (g1 := gName 6) (tt1 := tYes) (te := tVar 6) rfl scAll.nd rfl rfl (sw_true rfl rfl rfl (by decide +kernel)) (pi_tup (pv 0)) (blkOk_by (N := aNames) (sc := defScope sAll) (by decide +kernel)) (by decide)
        (fun _ _ _ _ _ => pg_tup (by rfl) (pgs_cons (pg_name (i := 3) scAll.nd rfl (.inl rfl)) (pgs_cons (pg_name (i := 4) scAll.nd rfl (.inl rfl)) (pgs_cons (pg_name (i := 5) scAll.nd rfl (.inl rfl)) (pgs_cons (pg_name (i := 3) scAll.nd rfl (.inl rfl)) pgs_nil))))) (fun _ _ _ _ _ => pts_nil) (fun _ _ _ _ _ => pi_tup (pe_tup (pa_cons (pv 4) (pa_cons (pv 5) pa_nil)))) (fun _ _ _ _ _ => pg_name (i := 6) scAll.nd rfl (.inl rfl)) (fun _ _ _ _ _ => pts_nil) (fun _ _ _ _ _ => pv 6))
      (pss_one (ps_ret (pe_callB (cr_sortedTx rfl hu1) (by rfl) so (by decide +kernel) (pa_cons (pe_callTy (cr_setTx rfl) (by rfl) se (by decide +kernel) (pa_cons (pe_lst (StX.pa_star (pv 1) (StX.pa_star (pv 2) pa_nil))) pa_nil)) pa_nil)))), ?_⟩
    refine ⟨_, rfl, a, rfl, ⟨_, ha⟩, fun D hD => ?_⟩
    refine ⟨fun i m H' => m = us.length - i ∧ i ≤ us.length ∧ Same H H' ∧ H' D = some (.lst ((touched (rs.take i)).map V.str)), ⟨us.length, by rw [Nat.sub_zero], Nat.zero_le _, same_new hD, upd_same⟩, ?_⟩
    rintro i m H' ⟨rfl, hi, sm, hw⟩
    have tl : ∀ j, (touched (rs.take j)).length ≤ 200 := fun j => by
      have e : ∀ l : List Row, (touched l).length = 2 * l.length := fun l => by
        induction l with
        | nil => rfl
        | cons r l ih =>
          show ([r.s, r.t] ++ touched l).length = 2 * (l.length + 1)
          rw [List.length_append, ih]
          show 2 + 2 * l.length = 2 * (l.length + 1)
          omega
      rw [e, List.length_take]
      omega
    rcases Nat.lt_or_ge i us.length with lt | ge
    · refine .inr ⟨(walk_tup (xs := us)).goes i H' lt (sqT_same sm ha), fun H2 => Same H H2 ∧ H2 D = some (.lst ((touched (rs.take (i + 1))).map V.str)), fun H2 q => ⟨us.length - (i + 1), by omega, rfl, lt, q⟩, fun z H2 y => ?_⟩
      obtain ⟨rfl, hz⟩ := (walk_tup (xs := us)).yields i H' z H2 lt (sqT_same sm ha) y
      obtain ⟨d, hd', dz⟩ := dpAll_at (dpAll_same sm _ _ hu) hz
      rw [List.getElem?_map] at hd'
      cases hc : rs[i]? with
      | none => rw [hc] at hd'; cases hd'
      | some r =>
        rw [hc] at hd'
        cases (Option.some.inj hd' : rowD r = d)
        obtain ⟨q, c, rfl, hq, _⟩ := dp_row dz
        have e1 : touched (rs.take (i + 1)) = touched (rs.take i) ++ [r.s, r.t] := by
          unfold touched
          rw [List.take_add_one, hc, List.flatMap_append]
          rfl
        refine ⟨q, _, rfl, hq, rfl, _, _, rfl, _, _, rfl, _, _, rfl, _, _, rfl, rfl, rfl, yes_if ⟨_, rfl, _, rfl, (by show 2 ≤ sizeLine; decide), fun t ht => ⟨t, rfl, ⟨_, .inl (.inl upd_same)⟩, ?_⟩⟩⟩
        have st := same_new (o := .tup [.str r.s, .str r.t]) ht
        refine lc_inner (walk_tup (xs := [V.str r.s, .str r.t])) (fun j H5 => Same H H5 ∧ H5 t = some (.tup [.str r.s, .str r.t]) ∧ H5 D = some (.lst ((touched (rs.take i) ++ [r.s, r.t].take j).map V.str))) ⟨sm.trans st, upd_same, by rw [List.take_zero, List.append_nil]; exact st _ _ hw⟩ (fun j H5 _ p => .inl (.inl p.2.1)) (fun j z5 H5 H6 hj p y5 => ?_) fun H5 p => ⟨p.1, by rw [e1]; exact p.2.2⟩
        obtain ⟨rfl, hz5⟩ := y5
        obtain ⟨p1, p2, p3⟩ := p
        have ntD : t ≠ D := fun e => by rw [e, p3] at p2; cases p2
        have nD : ∀ o, Same H (upd H6 D o) := fun o => same_upd' p1 hD
        have lk : ((touched (rs.take i) ++ [r.s, r.t].take j).map V.str).length < sizeLine := by
          have := tl i
          rw [List.length_map, List.length_append, List.length_take, sizeLine_eq]
          show (touched (rs.take i)).length + min j 2 < 16777216
          omega
        match j, hz5, p3, lk with
        | 0, hz5, p3, lk =>
          cases hz5
          exact ⟨rfl, yes_if ⟨_, rfl, _, p3, lk, nD _, by rw [upd_ne ntD]; exact p2, by rw [upd_same, List.map_append, List.map_append]; simp⟩⟩
        | 1, hz5, p3, lk =>
          cases hz5
          exact ⟨rfl, yes_if ⟨_, rfl, _, p3, lk, nD _, by rw [upd_ne ntD]; exact p2, by rw [upd_same, List.map_append, List.map_append]; simp⟩⟩
    · obtain rfl : i = us.length := Nat.le_antisymm hi ge
      have er : rs.take us.length = rs := by rw [ul, List.take_length]
      rw [er] at hw
      have t2 := tl us.length
      rw [er] at t2
      refine .inl ⟨(walk_tup (xs := us)).stops H' (sqT_same sm ha), ?_⟩
      have el : (ns.map V.str ++ ((touched rs).map V.str ++ [])) = (ns ++ touched rs).map V.str := by rw [List.append_nil, List.map_append]
      refine ⟨_, rfl, b, _, rfl, .inl (sqT_same sm hb), _, rfl, D, _, rfl, .inr (.inl (.inl hw)), ?_, fun L hL => ⟨L, ns ++ touched rs, rfl, .inl (.inl (.inl (by rw [upd_same, el]))), ?_, fun p l hp nd ll me => ⟨p, l, rfl, upd_same, ?_, fun p2 m hp2 pm => ?_⟩⟩⟩
      · rw [el, List.length_map, List.length_append, sizeLine_eq]
        omega
      · rw [List.length_append]
        show ns.length + (touched rs).length + 1 < 4096
        omega
      · rw [List.length_append] at ll
        omega
      · have sq : sortTx m = st := asc_unique (sortTx_asc (pm.nodup_iff.mpr nd)) asc fun z => by
          rw [(sortTx_perm m).mem_iff, pm.mem_iff, me, mem, List.mem_append]
        rw [sq]
        exact k p2 _ (sm.trans ((same_new hL).trans ((same_new hp).trans (same_new hp2)))) upd_same
end
end Qp

/-! whether there is such a graph -/
namespace Qp
open PySem PySem.Spec PyProof.Rows L2 QN
abbrev sIsG : Stmt := top 23 -- _is_graph
abbrev gNames : List Str := ["counters", "transitions", "states", "one", "every_counter", "every_state", "things", "name", "_", "change", "counter"]
theorem scIsG : FnScope gNames ["counters", "transitions", "states"] (defScope sIsG) := ⟨rfl, rfl, rfl, by decide +kernel, rfl, by decide +kernel, by decide +kernel⟩
structure Lim3 (mg : Str → Option Value) : Prop where
  mc : ∃ t, mg "_MAX_COUNTERS" = some (.int 5 t)
  ms : ∃ t, mg "_MAX_STATES" = some (.int 8 t)
  mt : ∃ t, mg "_MAX_TRANSITIONS" = some (.int 16 t)
  se : mg "set" = none
  so : mg "sorted" = none
/-- a graph's parts as the document asks: its counters, states and rows -/
structure GOk (cs ns : List Str) (rs : List Row) (ec : List Str) (x : Str) (st : List Str) : Prop where
  cn : ∀ c ∈ cs, NameOk c
  nn : ∀ c ∈ ns, NameOk c
  ro : ∀ r ∈ rs, RowOk r
  ea : ec.Pairwise lts
  em : ∀ z, z ∈ ec ↔ z ∈ cs
  el : 1 ≤ ec.length ∧ ec.length ≤ 5
  sa : (x :: st).Pairwise lts
  sm : ∀ z, z ∈ x :: st ↔ z ∈ ns ∨ z ∈ touched rs
  sl : (x :: st).length ≤ 8
  rl : rs.length ≤ 16
  cl : cs.length ≤ 16
  nl : ns.length ≤ 16
  nd : (ec ++ rs.map (·.n)).Nodup
  cc : ∀ r ∈ rs, ∀ p ∈ r.c, p.1 ∈ ec
  rf : Reach x (fwd rs) (x :: st)
  rb : Reach x (bwd rs) (x :: st)
def spIsG (K : PySem.W.Frag) : Sp := fun vs H Q _ => ∃ (a b : Addr) (v : V) (cs ns : List Str) (rs : List Row) (ec : List Str) (x : Str) (st : List Str), vs = [.ref a, v, .ref b] ∧ SqT K H a (cs.map V.str) ∧ Dp K H v (.tuple (rs.map rowD)) ∧ SqT K H b (ns.map V.str) ∧ GOk cs ns rs ec x st ∧ ∀ H', Same H H' → Q (.bl true) H'
theorem ec_of {l ec cs : List Str} (nd : l.Nodup) (ea : ec.Pairwise lts) (em : ∀ z, z ∈ ec ↔ z ∈ cs) {m : List Str} (pm : m.Perm l) (me : ∀ z, z ∈ l ↔ z ∈ cs) : sortTx m = ec := asc_unique (sortTx_asc (pm.nodup_iff.mpr nd)) ea fun z => by rw [(sortTx_perm m).mem_iff, pm.mem_iff, me, em]
theorem wipe_set_out (σ : L2.St) (i : Nat) (x : Option V) : ∀ vs : List Nat, i ∉ vs → wipe (σ.set i x) vs = (wipe σ vs).set i x
  | [], _ => rfl
  | j :: vs, h => by
    have h1 : i ≠ j := fun e => h (by rw [e]; exact List.mem_cons_self ..)
    have h2 : i ∉ vs := fun m => h (List.mem_cons_of_mem _ m)
    show (wipe (σ.set i x) vs).set j none = ((wipe σ vs).set j none).set i x
    rw [wipe_set_out σ i x vs h2, List.set_comm _ _ h1]
theorem wipe_set (σ : L2.St) (i : Nat) (x : Option V) : ∀ vs : List Nat, i ∈ vs → wipe (σ.set i x) vs = wipe σ vs
  | [], h => by cases h
  | j :: vs, h => by
    show (wipe (σ.set i x) vs).set j none = (wipe σ vs).set j none
    by_cases m : i ∈ vs
    · rw [wipe_set σ i x vs m]
    · have e : i = j := by
        rcases List.mem_cons.mp h with z | z
        · exact z
        · exact absurd z m
      rw [wipe_set_out σ i x vs m, e, List.set_set]
theorem in_strs {x : Str} {xs : List Str} (h : x ∈ xs) : inV (.str x) (xs.map V.str) = true := by
  unfold inV
  rw [List.any_map, List.any_eq_true]
  exact ⟨x, h, by simp [eqV]⟩
theorem in_elem {K : PySem.W.Frag} {σ : L2.St} {H : Hp} {i j : Nat} {c : Str} {ce : Addr} {xs : List Str} {Q : VK} (hi : σ[i]? = some (some (.str c))) (hj : σ[j]? = some (some (.ref ce))) (hr : H ce = some (.lst (xs.map V.str))) (m : c ∈ xs) (k : Q (.bl true) H) : tOp (rIn K false) (tVar i) (tVar j) σ H Q := by
  refine ⟨_, hi, _, hj, ce, _, rfl, .inl (.inl (.inl hr)), rfl, ?_, ?_⟩
  · rw [List.all_map]
    exact List.all_eq_true.mpr fun _ _ => rfl
  · rw [if_neg Bool.false_ne_true, in_strs m]
    exact k
theorem reps (m : Nat) : (List.replicate m true).map V.bl ++ [V.bl true] = (List.replicate (m + 1) true).map V.bl := by
  rw [List.replicate_succ', List.map_append]
  rfl
section
variable {P : Program} {w : World} {K : PySem.W.Frag} {mg : Str → Option Value} {base : Heap}
theorem ok_isG {f fT fR fA fC : Addr} {fd fdT fdR fdA fdC : FuncData} (F : Fun K "_is_graph" "_is_graph" sIsG f fd) (GT : FnOk P w K mg base CX0 2 fT fdT ["value"] (spIsToN K)) (kT : PySem.W.keepIn K (.ref fT) = true) (bT : L2.Binds K fdT ["value"] []) (gT : mg "is_tuple_of_names" = some (.ref fT))
    (GR : FnOk P w K mg base CX0 5 fR fdR ["value"] (spIsTr K)) (kR : PySem.W.keepIn K (.ref fR) = true) (bR : L2.Binds K fdR ["value"] []) (gR : mg "is_transition" = some (.ref fR))
    (GA : FnOk P w K mg base CX0 1 fA fdA ["transitions", "states"] (spAll K)) (kA : PySem.W.keepIn K (.ref fA) = true) (bA : L2.Binds K fdA ["transitions", "states"] []) (gA : mg "_all_states" = some (.ref fA))
    (GC : FnOk P w K mg base CX0 2 fC fdC ["states", "transitions"] (spConn K)) (kC : PySem.W.keepIn K (.ref fC) = true) (bC : L2.Binds K fdC ["states", "transitions"] []) (gC : mg "_are_connected" = some (.ref fC)) (B : BltP mg) (L : Lim3 mg) :
    FnOk P w K mg base CX0 6 f fd ["counters", "transitions", "states"] (spIsG K) := by
  refine F.ok scIsG (fun vs H Q E h => ?_) (fun cdv A outer s H vs Q E hr h => ?_)
  · obtain ⟨a, b, v, cs, ns, rs, ec, x, st, rfl, _⟩ := h
    rfl
  · obtain ⟨a, b, v, cs, ns, rs, ec, x, st, rfl, ha, hd, hb, G, k⟩ := h
    obtain ⟨t, us, rfl, ht, hu⟩ := dp_tup hd
    have ul : us.length = rs.length := by rw [dpAll_len hu, List.length_map]
    obtain ⟨t1, m1⟩ := L.mc
    obtain ⟨t2, m2⟩ := L.ms
    obtain ⟨t3, m3⟩ := L.mt
    have hu1 : (A.deeper (envOfC "_is_graph" (defScope sIsG) s.heap.objs.size f cdv)).units + 64 < cLine := by
      have := hr.un
      omega
    have r2 := hr.mono (by decide : 2 ≤ 5)
    have r1 := hr.mono (by decide : 1 ≤ 5)
    refine ⟨_, pss_cons (ps_if (PW.pt (pw_or (pt_not (pt_val (pe_call GT r2 (by rfl) gT kT bT .nil pass0 (pa_cons (pv 0) pa_nil)))) (pw_or1 (pt_not (pt_val (pe_call GT r2 (by rfl) gT kT bT .nil pass0 (pa_cons (pv 2) pa_nil))))))) (pss_one (ps_ret pe_bl)) pss_nil)
      (pss_cons (ps_if (pt_not (pt_val (pe_callB (cr_all rfl) (by rfl) B.all (by decide +kernel) (pa_cons (pe_lc (own := [("one", 3)]) (g := gName 3) (tt := tYes) rfl scIsG.nd (pi_tup (pv 1)) (blkOk_by (N := gNames) (sc := defScope sIsG) (by decide +kernel))
          (fun _ _ _ _ _ => pg_name (i := 3) scIsG.nd rfl (.inl rfl)) (fun _ _ _ _ _ => pts_nil) (fun _ _ _ _ _ => pe_call GR hr (by rfl) gR kR bR .nil pass0 (pa_cons (pv 3) pa_nil))) pa_nil)))) (pss_one (ps_ret pe_bl)) pss_nil)
      (pss_cons (ps_set (i := 4) scIsG.nd rfl (.inr rfl) (pe_callB (cr_sortedTx rfl hu1) (by rfl) L.so (by decide +kernel) (pa_cons (pe_callTy (cr_setTx rfl) (by rfl) L.se (by decide +kernel) (pa_cons (pv 0) pa_nil)) pa_nil)))
      (pss_cons (ps_set (i := 5) scIsG.nd rfl (.inl rfl) (pe_call GA r1 (by rfl) gA kA bA .nil pass0 (pa_cons (pv 1) (pa_cons (pv 2) pa_nil))))
      (pss_cons (ps_set (i := 6) scIsG.nd rfl (.inl rfl) (pe_op op_cat (pv 4) (pe_lc (own := [("name", 7), ("_", 8)]) (g := gTup K 4 (gCons (gName 7) (gCons (gName 8) (gCons (gName 8) (gCons (gName 8) gNil))))) (tt := tYes) (te := tVar 7) rfl scIsG.nd (pi_tup (pv 1)) (blkOk_by (N := gNames) (sc := defScope sIsG) (by decide +kernel))
          (fun _ _ _ _ _ => pg_tup (by rfl) (pgs_cons (pg_name (i := 7) scIsG.nd rfl (.inl rfl)) (pgs_cons (pg_name (i := 8) scIsG.nd rfl (.inl rfl)) (pgs_cons (pg_name (i := 8) scIsG.nd rfl (.inl rfl)) (pgs_cons (pg_name (i := 8) scIsG.nd rfl (.inl rfl)) pgs_nil))))) (fun _ _ _ _ _ => pts_nil) (fun _ _ _ _ _ => pv 7))))
      (pss_cons (ps_if (PW.pt (pw_or (pt_not (pt_chain op_le op_le pe_int (pe_callB call_len_seq (by rfl) B.len PySem.boot_len (pa_cons (pv 4) pa_nil)) (pe_glob (v := .int 5) (by rfl) m1 ⟨_, rfl⟩))) (pw_or1 (pt_not (pt_chain op_le op_le pe_int (pe_callB call_len_seq (by rfl) B.len PySem.boot_len (pa_cons (pv 5) pa_nil)) (pe_glob (v := .int 8) (by rfl) m2 ⟨_, rfl⟩)))))) (pss_one (ps_ret pe_bl)) pss_nil)
      (pss_cons (ps_if (PW.pt (pw_or (pt_cmpR op_gt (pe_callB call_len_seq (by rfl) B.len PySem.boot_len (pa_cons (pv 1) pa_nil)) (pe_glob (v := .int 16) (by rfl) m3 ⟨_, rfl⟩) (nomark _)) (pw_or1 (pt_cmpR op_lt (pe_callB cr_lenTx (by rfl) B.len PySem.boot_len (pa_cons (pe_callTy (cr_setTx rfl) (by rfl) L.se (by decide +kernel) (pa_cons (pv 6) pa_nil)) pa_nil)) (pe_callB call_len_seq (by rfl) B.len PySem.boot_len (pa_cons (pv 6) pa_nil)) (nomark _))))) (pss_one (ps_ret pe_bl)) pss_nil)
      (pss_cons (ps_if (pt_not (pt_val (pe_callB (cr_all rfl) (by rfl) B.all (by decide +kernel) (pa_cons (pe_lc2 (own := [("_", 8), ("change", 9), ("counter", 10)]) (vs1 := [10, 8]) (g := gTup K 4 (gCons (gName 8) (gCons (gName 8) (gCons (gName 8) (gCons (gName 9) gNil))))) (tt := tYes) (wi1 := iTup K (tVar 9)) (g1 := gTup K 2 (gCons (gName 10) (gCons (gName 8) gNil))) (tt1 := tYes) (te := tOp (rIn K false) (tVar 10) (tVar 4)) rfl scIsG.nd (pi_tup (pv 1)) (blkOk_by (N := gNames) (sc := defScope sIsG) (by decide +kernel)) (by decide)
          (fun _ _ _ _ _ => pg_tup (by rfl) (pgs_cons (pg_name (i := 8) scIsG.nd rfl (.inl rfl)) (pgs_cons (pg_name (i := 8) scIsG.nd rfl (.inl rfl)) (pgs_cons (pg_name (i := 8) scIsG.nd rfl (.inl rfl)) (pgs_cons (pg_name (i := 9) scIsG.nd rfl (.inl rfl)) pgs_nil))))) (fun _ _ _ _ _ => pts_nil) (fun _ _ _ _ _ => pi_tup (pv 9)) (fun _ _ _ _ _ => pg_tup (by rfl) (pgs_cons (pg_name (i := 10) scIsG.nd rfl (.inl rfl)) (pgs_cons (pg_name (i := 8) scIsG.nd rfl (.inl rfl)) pgs_nil))) (fun _ _ _ _ _ => pts_nil) (fun _ _ _ _ _ => pe_cmpR op_in_seq (pv 10) (pv 4) rfl)) pa_nil)))) (pss_one (ps_ret pe_bl)) pss_nil)
      (pss_one (ps_ret (pe_call GC r2 (by rfl) gC kC bC .nil pass0 (pa_cons (pv 5) (pa_cons (pv 1) pa_nil)))))))))))), ?_⟩
    have cl1 : cs.length ≤ 1000 := by have := G.cl; omega
    have nl1 : ns.length ≤ 1000 := by have := G.nl; omega
    have rl1 := G.rl
    refine ⟨_, rfl, a, cs, rfl, ha, G.cn, cl1, fun H1 s1 => ⟨_, rfl, if_no (by decide) ⟨_, rfl, b, ns, rfl, sqT_same s1 hb, G.nn, nl1, fun H2 s2 => ⟨_, rfl, if_no (by decide) ?_⟩⟩⟩⟩
    have s12 := s1.trans s2
    have ht2 := sqT_same s12 ht
    have hu2 := dpAll_same s12 _ _ hu
    refine ⟨_, rfl, t, rfl, ⟨_, ht2⟩, fun D hD => ?_⟩
    refine all_true (walk_tup (xs := us)) hD (fun _ s' => sqT_same s' ht2) (by omega) (fun i z Ha QK Ff hi sa y q => ?_) fun H3 s3 hD3 => ⟨D, _, rfl, .inl (.inl hD3), ?_⟩
    · obtain ⟨d, hd', dz⟩ := dpAll_at hu2 y
      rw [List.getElem?_map] at hd'
      cases hc : rs[i]? with
      | none => rw [hc] at hd'; cases hd'
      | some r =>
        rw [hc] at hd'
        cases (Option.some.inj hd' : rowD r = d)
        exact ⟨rfl, yes_if ⟨_, rfl, z, r, rfl, dp_same sa _ _ dz, G.ro r (List.mem_of_getElem? hc), q⟩⟩
    rw [all_rep]
    refine ⟨_, rfl, if_no (by decide) ?_⟩
    have s13 := s12.trans s3
    -- every_counter = sorted(set(counters))
    refine ⟨_, rfl, a, cs, rfl, .inr (sqT_same s13 ha), (by show cs.length + 1 < 4096; omega), fun p l hp nd ll me => ⟨p, l, rfl, upd_same, (by omega), fun ce m hce pm => ?_⟩⟩
    rw [ec_of nd G.ea G.em pm me]
    have s4 := (same_new (o := TxSetO P w p l) hp).trans (same_new (o := .lst (ec.map V.str)) hce)
    have hce4 : (upd (upd H3 p (TxSetO P w p l)) ce (.lst (ec.map V.str))) ce = some (.lst (ec.map V.str)) := upd_same
    have s14 := s13.trans s4
    dsimp only [gName]
    -- every_state = _all_states(transitions, states)
    refine ⟨_, rfl, _, rfl, .ref t, b, rs, ns, x :: st, rfl, dp_same s14 _ _ hd, sqT_same s14 hb, G.sa, G.sm, by omega, by have := G.nl; omega, fun es H5 s5 hes => ?_⟩
    have s15 := s14.trans s5
    have hce5 := s5 _ _ hce4
    have ht5 := sqT_same s15 ht
    have hu5 := dpAll_same s15 _ _ hu
    -- things = every_counter + [name for name, _, _, _ in transitions]
    refine ⟨_, rfl, _, rfl, t, rfl, ⟨_, ht5⟩, fun D2 hD2 => ?_⟩
    refine lc_tup (xs := us) (fun i H' => Same H5 H' ∧ H' D2 = some (.lst (((rs.map (·.n)).take i).map V.str))) ⟨same_new hD2, upd_same⟩ (fun i H' _ p => sqT_same p.1 ht5) (fun i z H' hz p => ?_) fun H6 p => ?_
    · obtain ⟨d, hd', dz⟩ := dpAll_at (dpAll_same p.1 _ _ hu5) hz
      rw [List.getElem?_map] at hd'
      cases hc : rs[i]? with
      | none => rw [hc] at hd'; cases hd'
      | some r =>
        rw [hc] at hd'
        cases (Option.some.inj hd' : rowD r = d)
        obtain ⟨q, c, rfl, hq, _⟩ := dp_row dz
        refine ⟨q, _, rfl, hq, rfl, _, _, rfl, _, _, rfl, _, _, rfl, _, _, rfl, rfl, rfl, yes_if ⟨_, rfl, _, p.2, ?_, same_at p.1 hD2 (Same.refl _) p.2, ?_⟩⟩
        · rw [List.length_map, List.length_take, List.length_map, sizeLine_eq]
          omega
        · rw [upd_same, List.take_add_one, List.getElem?_map, hc, List.map_append]
          rfl
    obtain ⟨s6, hD6⟩ := p
    rw [ul, List.take_of_length_le (by rw [List.length_map]; exact Nat.le_refl _)] at hD6
    have hce6 := s6 _ _ hce5
    have hes6 := s6 _ _ hes
    refine ⟨ce, D2, _, _, rfl, rfl, hce6, hD6, (by rw [List.length_map, List.length_map, List.length_map, sizeLine_eq]; have := G.el; omega), fun th hth => ?_⟩
    have s7 := same_new (o := .lst (ec.map V.str ++ (rs.map (·.n)).map V.str)) hth
    have hth7 : (upd H6 th (.lst (ec.map V.str ++ (rs.map (·.n)).map V.str))) th = some (.lst ((ec ++ rs.map (·.n)).map V.str)) := by rw [upd_same, List.map_append]
    have s17 := s15.trans (s6.trans s7)
    have hce7 := s7 _ _ hce6
    have hes7 := s7 _ _ hes6
    obtain ⟨H7, hh⟩ : ∃ H7, upd H6 th (.lst (ec.map V.str ++ (rs.map (·.n)).map V.str)) = H7 := ⟨_, rfl⟩
    dsimp only [gName]
    rw [hh] at s17 hth7 hce7 hes7
    rw [hh]
    clear hh
    -- the numbers
    refine ⟨_, rfl, ce, _, rfl, .inl (.inl (.inl hce7)), _, _, rfl, rfl, _, rfl, if_yes (by rw [List.length_map]; exact decide_eq_true (by have := G.el; omega)) ⟨_, _, rfl, rfl, _, rfl, if_no (by rw [List.length_map, decide_eq_true (by have := G.el; omega)]; decide) ?_⟩⟩
    refine ⟨_, rfl, es, _, rfl, .inl (.inl (.inl hes7)), _, _, rfl, rfl, _, rfl, if_yes (by rw [List.length_map]; exact decide_eq_true (by rw [List.length_cons]; omega)) ⟨_, _, rfl, rfl, _, rfl, if_no (by rw [List.length_map, decide_eq_true (by have := G.sl; omega)]; decide) ?_⟩⟩
    have tlen : (ec ++ rs.map (·.n)).length ≤ 21 := by
      rw [List.length_append, List.length_map]
      have := G.el
      omega
    refine ⟨_, rfl, t, _, rfl, .inr (sqT_same s17 ht), _, _, rfl, rfl, _, rfl, if_no (by rw [ul]; simp; omega) ?_⟩
    refine ⟨_, rfl, th, ec ++ rs.map (·.n), rfl, .inl (.inl (.inl hth7)), (by show _ + 1 < 4096; omega), fun p8 l8 hp8 nd8 ll8 me8 => ⟨p8, l8, rfl, upd_same, ?_⟩⟩
    have s8 := same_new (o := TxSetO P w p8 l8) hp8
    have s18 := s17.trans s8
    have eq8 : l8.length = (ec ++ rs.map (·.n)).length := Nat.le_antisymm (nodup_le nd8 fun y hy => (me8 y).mp hy) (nodup_le G.nd fun y hy => (me8 y).mpr hy)
    refine ⟨_, rfl, th, _, rfl, .inl (.inl (.inl (s8 _ _ hth7))), _, _, rfl, rfl, _, rfl, if_no (by rw [List.length_map, eq8]; simp) ?_⟩
    have hce8 := s8 _ _ hce7
    have hes8 := s8 _ _ hes7
    have ht8 := sqT_same s18 ht
    have hu8 := dpAll_same s18 _ _ hu
    have H8e : ∃ H8, upd H7 p8 (TxSetO P w p8 l8) = H8 := ⟨_, rfl⟩
    refine ⟨_, rfl, t, rfl, ⟨_, ht8⟩, fun D3 hD3 => ?_⟩
    refine ⟨fun i m H' => m = us.length - i ∧ i ≤ us.length ∧ Same (upd H7 p8 (TxSetO P w p8 l8)) H' ∧ ∃ j, j ≤ i * 100 ∧ H' D3 = some (.lst ((List.replicate j true).map V.bl)), ⟨us.length, by rw [Nat.sub_zero], Nat.zero_le _, same_new hD3, 0, Nat.zero_le _, upd_same⟩, ?_⟩
    rintro i m H' ⟨rfl, hi, sm, j, hj, hw⟩
    rcases Nat.lt_or_ge i us.length with lt | ge
    · refine .inr ⟨(walk_tup (xs := us)).goes i H' lt (sqT_same sm ht8), fun H2 => Same (upd H7 p8 (TxSetO P w p8 l8)) H2 ∧ ∃ j, j ≤ (i + 1) * 100 ∧ H2 D3 = some (.lst ((List.replicate j true).map V.bl)), fun H2 q => ⟨us.length - (i + 1), by omega, rfl, lt, q⟩, fun z H2 y => ?_⟩
      obtain ⟨rfl, hz⟩ := (walk_tup (xs := us)).yields i H' z H2 lt (sqT_same sm ht8) y
      obtain ⟨d, hd', dz⟩ := dpAll_at hu8 hz
      rw [List.getElem?_map] at hd'
      cases hc : rs[i]? with
      | none => rw [hc] at hd'; cases hd'
      | some r =>
        rw [hc] at hd'
        cases (Option.some.inj hd' : rowD r = d)
        obtain ⟨q, cv, rfl, hq, hcv⟩ := dp_row dz
        obtain ⟨ca, cus, rfl, hca, hcu⟩ := dp_tup hcv
        have hr : r ∈ rs := List.mem_of_getElem? hc
        have cl : cus.length ≤ 100 := by
          rw [dpAll_len hcu, List.length_map]
          exact (G.ro r hr).c.2.2
        refine ⟨q, _, rfl, sqT_same sm hq, rfl, _, _, rfl, _, _, rfl, _, _, rfl, _, _, rfl, rfl, rfl, yes_if ⟨_, rfl, ca, rfl, ⟨_, sqT_same sm hca⟩, ?_⟩⟩
        refine lc_inner (walk_tup (xs := cus)) (fun e H5 => Same (upd H7 p8 (TxSetO P w p8 l8)) H5 ∧ H5 D3 = some (.lst ((List.replicate (j + e) true).map V.bl))) ⟨sm, hw⟩ (fun e H5 _ p => sqT_same p.1 hca) (fun e z5 H5 H6 he p y5 => ?_) fun H5 p => ⟨p.1, j + cus.length, by omega, p.2⟩
        obtain ⟨rfl, hz5⟩ := y5
        obtain ⟨p1, p2⟩ := p
        obtain ⟨d5, hd5, dz5⟩ := dpAll_at (dpAll_same p1 _ _ hcu) hz5
        rw [List.getElem?_map] at hd5
        cases hc5 : r.c[e]? with
        | none => rw [hc5] at hd5; cases hd5
        | some pr =>
          rw [hc5] at hd5
          cases (Option.some.inj hd5 : pairD pr = d5)
          obtain ⟨t5, rfl, ht5'⟩ := dp_pair dz5
          refine ⟨t5, _, rfl, ht5', rfl, _, _, rfl, _, _, rfl, rfl, ?_, yes_if ?_⟩
          · exact (wipe_set _ 8 _ [10, 8] (by decide)).trans (wipe_set _ 10 _ [10, 8] (by decide))
          have more : Same (upd H7 p8 (TxSetO P w p8 l8)) (upd H6 D3 (.lst ((List.replicate (j + e) true).map V.bl ++ [V.bl true]))) := same_upd' p1 hD3
          have len : ((List.replicate (j + e) true).map V.bl).length < sizeLine := by
            rw [List.length_map, List.length_replicate, sizeLine_eq]
            omega
          have here : (upd H6 D3 (.lst ((List.replicate (j + e) true).map V.bl ++ [V.bl true]))) D3 = some (.lst ((List.replicate (j + (e + 1)) true).map V.bl)) := by
            rw [upd_same, reps]
            rfl
          exact in_elem (c := pr.1) (ce := ce) (xs := ec) rfl rfl (p1 _ _ hce8) (G.cc r hr pr (List.mem_of_getElem? hc5)) ⟨_, p2, len, more, here⟩
    · obtain rfl : i = us.length := Nat.le_antisymm hi ge
      refine .inl ⟨(walk_tup (xs := us)).stops H' (sqT_same sm ht8), D3, _, rfl, .inl (.inl hw), ?_⟩
      rw [all_rep]
      refine ⟨_, rfl, if_no (by decide) ?_⟩
      have s19 := s18.trans sm
      have nds : (x :: st).Nodup := List.Pairwise.imp (R := lts) (S := fun a b => a ≠ b) (fun h e => by subst e; exact lts_irrefl _ h) G.sa
      have few : st.length ≤ 900 := by
        have := G.sl
        rw [List.length_cons] at this
        omega
      refine ⟨_, rfl, _, rfl, es, .ref t, rs, x, st, rfl, .inl (.inl (sm _ _ hes8)), dp_same s19 _ _ hd, nds, (fun r hr => ⟨(G.sm _).mpr (.inr (List.mem_flatMap.mpr ⟨r, hr, by simp⟩)), (G.sm _).mpr (.inr (List.mem_flatMap.mpr ⟨r, hr, by simp⟩))⟩), G.rf, G.rb, few, by omega, fun H9 s9 => k H9 (s19.trans s9)⟩
end
end Qp

/-! a generator expression over any walk, with any target: what each turn owes -/
namespace QN
open PySem PySem.Spec PyProof.Rows L2
abbrev NoX : Value → Shared → Prop := fun _ _ => False
/-- one turn's debt at the value v: the target is bound, the tests answer b, the element (where b) has F -/
def TurnG (prog : Program) (w : World) (cenv : Env) (target : Expr) (ifs : List Expr) (elt : Expr) (b : Bool) (F : Value → Prop) (v : Value) (s : Shared) : Prop :=
  ∀ A0 : Around, A0.handled = none → wpAny (model prog w) A0 (assign target cenv v) (fun _ s1 => GenSince cenv.locals [] s s1 ∧ (∃ m, s1.heap.Ns cenv.locals m) ∧
    ∀ A1 : Around, A1.handled = none → wpAny (model prog w) A1 (testsOf ifs cenv) (fun ok s2 => ok = b ∧ Keeps s1 s2 ∧
      (b = true → ∀ A2 : Around, A2.handled = none → wpAny (model prog w) A2 (eval elt cenv) (fun y s3 => F y ∧ Keeps s2 s3) NoX s2)) NoX s1) NoX s
section
variable {prog : Program} {w : World} {A : Around} {elt target iter : Expr} {ifs : List Expr} {scope : Scope} {pos : Pos} {I : Addr} {fp wr : List Addr} {n : Nat} {Y : Nat → Value → Heap → Prop} {St : Nat → Heap → Prop} {cenv : Env} {pz : Nat → Bool} {F : Nat → Value → Prop} {href : Heap}
/-- the turns' debts -/
def DebtG (prog : Program) (w : World) (cenv : Env) (target : Expr) (ifs : List Expr) (elt : Expr) (fp wr : List Addr) (n : Nat) (Y : Nat → Value → Heap → Prop) (pz : Nat → Bool) (F : Nat → Value → Prop) (href : Heap) : Prop :=
  ∀ i v (s : Shared) m, i < n → Y i v s.heap → s.heap.Ns cenv.locals m → (∀ b ∈ fp, b ∉ wr → ∀ o, href.get? b = some o → s.heap.get? b = some o) → TurnG prog w cenv target ifs elt (pz i) (F i) v s
abbrev GExp (elt target iter : Expr) (ifs : List Expr) (scope : Scope) (pos : Pos) : Expr := .GeneratorExp elt [⟨target, iter, ifs, 0⟩] scope pos
abbrev EndG (C : Addr) (wr : List Addr) : GenEnd := fun n s0 r s1 => r = .ok .next ∧ (n = 0 ∧ GenSince C wr s0 s1)
theorem seg_turns (hh : A.handled = none) (W : ∀ A' : Around, A'.handled = none → Goes prog w A' target I fp wr n Y St) (hco : cenv.scope.isCoroutine = false) (hC : cenv.locals ∉ fp) (q : DebtG prog w cenv target ifs elt fp wr n Y pz F href) :
    ∀ (k i : Nat) (s0 s : Shared) (m : Str → Option Value), n - i = k → i ≤ n → St i s.heap → s.heap.Ns cenv.locals m → GenSince cenv.locals wr s0 s → (∀ b ∈ fp, b ∉ wr → ∀ o, href.get? b = some o → s.heap.get? b = some o) →
      Seg (model prog w) A (EndG cenv.locals wr) (genProto cenv.locals fp wr pz n F) (passing pz n i).length s0 (.compLoop (GExp elt target iter ifs scope pos) 0 (.ref I) .none cenv)
        ((model prog w).den (.compLoop (GExp elt target iter ifs scope pos) 0 (.ref I) .none cenv)) [] s := by
  have calm : (A.over (.compLoop (GExp elt target iter ifs scope pos) 0 (.ref I) .none cenv) []).handled = none := hh
  have apart : cenv.locals ∉ wr := fun z => hC ((W A hh).sub _ z)
  intro k
  induction k with
  | zero =>
    intro i s0 s m ek le st ns since old
    obtain rfl : i = n := by omega
    show Seg _ A _ _ _ s0 _ ((compTurn (GExp elt target iter ifs scope pos) 0 (.ref I) .none cenv).onRaise (leaving cenv)) [] s
    rw [compTurn_gen, Sem.onRaise_eq_wrap]
    refine seg_bind_wrap (wpAny_standAt (seg_bind_wrap (wpAny_mono ((W _ calm).stops s (fun s1 => GenSince cenv.locals wr s0 s1) (fun _ _ => False) st fun h' tk keep _ => since.step fun b o _ nw e => keep b o nw e) (fun r s1 ⟨er, g⟩ => ?_) fun _ _ z => z.elim)))
    subst er
    exact seg_end (.ok .next) ⟨rfl, by rw [passing_end]; rfl, g⟩
  | succ k ih =>
    intro i s0 s m ek le st ns since old
    have lt : i < n := by omega
    show Seg _ A _ _ _ s0 _ ((compTurn (GExp elt target iter ifs scope pos) 0 (.ref I) .none cenv).onRaise (leaving cenv)) [] s
    rw [compTurn_gen, Sem.onRaise_eq_wrap]
    refine seg_bind_wrap (wpAny_standAt (seg_bind_wrap (wpAny_mono ((W _ calm).goes i s (fun v s1 => Y i v s1.heap ∧ St (i + 1) s1.heap ∧ ∃ h' tk, s1 = { s with heap := h', toks := tk } ∧ ∀ b o, b ∉ wr → s.heap.get? b = some o → h'.get? b = some o) (fun _ _ => False) lt st fun v h' tk y st' keep _ => ⟨y, st', ⟨h', tk, rfl, keep⟩⟩) (fun r s1 ⟨v, er, g⟩ => ?_) fun _ _ z => z.elim)))
    subst er
    refine seg_bind_wrap (wpAny_mono g (fun _ s2 ⟨y, st', h2, tk2, e2, up2⟩ => ?_) fun _ _ z => z.elim)
    subst e2
    have y : Y i v h2 := y
    have st2 : St (i + 1) h2 := st'
    have old2 : ∀ b ∈ fp, b ∉ wr → ∀ o, href.get? b = some o → h2.get? b = some o := fun b hb nw o e => up2 b o nw (old b hb nw o e)
    have ns2 : h2.Ns cenv.locals m := ns.at' fun o e => up2 _ o apart e
    have since2 : GenSince cenv.locals wr s0 { s with heap := h2, toks := tk2 } := since.step fun b o _ nw e => up2 b o nw e
    refine seg_bind_wrap (wpAny_mono (q i v { s with heap := h2, toks := tk2 } m lt y ns2 old2 _ calm) (fun _ s3 ⟨⟨h3, tk3, e3, up3⟩, ⟨m3, ns3⟩, tests⟩ => ?_) fun _ _ z => z.elim)
    subst e3
    have up3 : ∀ b o, b ≠ cenv.locals → h2.get? b = some o → h3.get? b = some o := fun b o nc e => up3 b o nc (by simp) e
    have in3 : ∀ b ∈ fp, ∀ o, h2.get? b = some o → h3.get? b = some o := fun b hb o e => up3 b o (fun z => hC (z ▸ hb)) e
    have since3 := since2.step (h' := h3) (tk := tk3) fun b o nc _ e => up3 b o nc e
    refine seg_bind_wrap (wpAny_mono (tests _ calm) (fun ok s4 ⟨e4, ⟨h4, tk4, e5, up4⟩, element⟩ => ?_) fun _ _ z => z.elim)
    subst e4 e5
    have up4 : ∀ b o, h3.get? b = some o → h4.get? b = some o := up4
    have st4 : St (i + 1) h4 := (W A hh).frame _ _ _ st2 fun b hb o e => up4 b o (in3 b hb o e)
    have old4 : ∀ b ∈ fp, b ∉ wr → ∀ o, href.get? b = some o → h4.get? b = some o := fun b hb nw o e => up4 b o (in3 b hb o (old2 b hb nw o e))
    have since4 := since3.step (h' := h4) (tk := tk4) fun b o _ _ e => up4 b o e
    have ns4 : h4.Ns cenv.locals m3 := ns3.keeps up4
    cases hb : pz i with
    | false =>
      rw [passing_false lt hb]
      simp only [Bool.false_eq_true, if_false]
      exact seg_again rfl (ih (i + 1) s0 _ m3 (by omega) lt st4 ns4 since4 old4)
    | true =>
      rw [passing_true lt hb, List.length_cons]
      simp only [if_true]
      have plain : ∀ z, yieldOut cenv z = yieldValue z := fun z => by simp only [yieldOut, hco, Bool.false_eq_true, if_false]
      simp only [plain]
      rw [Sem.bind_eq_wrap', Sem.bind_eq_wrap', Sem.wrap_wrap, Sem.wrap_wrap]
      refine seg_wrap (wpAny_mono (element hb _ calm) (fun z s5 ⟨fz, h5, tk5, e6, up5⟩ => ?_) fun _ _ z => z.elim)
      subst e6
      have up5 : ∀ b o, h4.get? b = some o → h5.get? b = some o := up5
      refine seg_at (seg_yield rfl rfl rfl ⟨⟨i, passing_here lt hb, fz⟩, since4.step fun b o _ _ e => up5 b o e, fun s6 more => seg_again rfl ?_⟩)
      have more : ∀ b ∈ cenv.locals :: fp, ∀ o, h5.get? b = some o → s6.heap.get? b = some o := more
      exact ih (i + 1) s6 s6 m3 (by omega) lt ((W A hh).frame _ _ _ st4 fun b hb o e => more b (List.mem_cons_of_mem _ hb) o (up5 b o e))
        ((ns4.keeps up5).at' fun o e => more _ List.mem_cons_self o e) (GenSince.refl _ _ _) fun b hb nw o e => more b (List.mem_cons_of_mem _ hb) o (up5 b o (old4 b hb nw o e))
theorem seg_begin (hh : A.handled = none) (W : ∀ A' : Around, A'.handled = none → Goes prog w A' target I fp wr n Y St) (hco : cenv.scope.isCoroutine = false) (hC : cenv.locals ∉ fp) (q : DebtG prog w cenv target ifs elt fp wr n Y pz F href)
    (s0 s : Shared) (m : Str → Option Value) (st : St 0 s.heap) (ns : s.heap.Ns cenv.locals m) (since : GenSince cenv.locals wr s0 s) (old : ∀ b ∈ fp, b ∉ wr → ∀ o, href.get? b = some o → s.heap.get? b = some o) :
    Seg (model prog w) A (EndG cenv.locals wr) (genProto cenv.locals fp wr pz n F) (passing pz n 0).length s0 (.compStart (GExp elt target iter ifs scope pos) 0 (.ref I) .none cenv)
      ((model prog w).den (.compStart (GExp elt target iter ifs scope pos) 0 (.ref I) .none cenv)) [] s := by
  have calm : (A.over (.compStart (GExp elt target iter ifs scope pos) 0 (.ref I) .none cenv) []).handled = none := hh
  have turns := seg_turns (iter := iter) (scope := scope) (pos := pos) hh W hco hC q n 0 s0 s m (Nat.sub_zero _) (Nat.zero_le _) st ns since old
  show Seg _ A _ _ _ s0 _ ((compStart (GExp elt target iter ifs scope pos) 0 (.ref I) .none cenv).onRaise (leaving cenv)) [] s
  unfold compStart
  rw [Sem.onRaise_eq_wrap]
  show Seg _ A _ _ _ s0 _ ((ask >>= _).wrap _ _ _ _) [] s
  refine seg_bind_wrap (wpAny_askSetting ?_)
  split
  · exact seg_again rfl turns
  · refine seg_bind_wrap (wpAny_rule ?_)
    show Seg _ A _ _ _ s0 _ ((standAt iter.pos >>= _).wrap _ _ _ _) [] s
    exact seg_bind_wrap (wpAny_standAt (seg_bind_wrap ((W _ calm).self 0 s _ _ st (seg_again rfl turns))))
theorem genAt_new {a : Addr} {g : Nat} {s : Shared} {m : Str → Option Value} (hh : A.handled = none) (W : ∀ A' : Around, A'.handled = none → Goes prog w A' target I fp wr n Y St) (hco : cenv.scope.isCoroutine = false) (hC : cenv.locals ∉ fp)
    (q : DebtG prog w cenv target ifs elt fp wr n Y pz F s.heap) (hg : s.heap.IsGen a g) (hs : s.gens[g]? = some (.fresh (.compStart (GExp elt target iter ifs scope pos) 0 (.ref I) .none cenv)))
    (st : St 0 s.heap) (ns : s.heap.Ns cenv.locals m) (nl : s.heap.NoLimit) : GenAt prog w A a g cenv.locals fp wr pz n F 0 s :=
  ⟨hg, nl, _, hs, fun s2 more => ⟨rfl, seg_begin (A := A.in1) hh W hco hC q s2 s2 m ((W A hh).frame _ _ _ st fun b hb o e => more b (List.mem_cons_of_mem _ hb) o e) (ns.at' fun o e => more _ List.mem_cons_self o e) (GenSince.refl _ _ _)
    fun b hb _ o e => more b (List.mem_cons_of_mem _ hb) o e⟩⟩
end
end QN

/-! tuple(element for target in t if ..), t a tuple; the def's code table may grow -/
namespace QN
open PySem PySem.Spec PyProof.Rows L2
theorem goes_fp {prog : Program} {w : World} {A : Around} {target : Expr} {I : Addr} {fp fq wr : List Addr} {n : Nat} {Y : Nat → Value → Heap → Prop} {St : Nat → Heap → Prop} (W : Goes prog w A target I fp wr n Y St) (h : ∀ b ∈ fp, b ∈ fq) : Goes prog w A target I fq wr n Y St :=
  ⟨fun b hb => h b (W.sub b hb), fun i h1 h2 st k => W.frame i h1 h2 st fun b hb o e => k b (h b hb) o e, W.goes, W.stops, W.self⟩
/-- the scope of the generator expression's own block -/
structure ScG (sc scope : Scope) : Prop where
  kind : scope.kind = .function
  co : scope.isCoroutine = false
  cell : ∀ y ∈ scope.names, y.2 ≠ .cell
  dot : scope.names.lookup (".0" : Str) = some NameKind.local
  free : ∀ y ∈ scope.names, y.2 = .free → sc.names.lookup y.1 = some .cell ∨ sc.names.lookup y.1 = some .free
/-- what the block does at each of xs, said of the state in which the walk begins -/
def BodyG (X : Cx) (P : Addr) (scope : Scope) (target : Expr) (ifs : List Expr) (elt : Expr) (σ : L2.St) (H : Hp) (xs : List V) (pz : Nat → Bool) (fv : Nat → V) : Prop :=
  ∀ (pins : List (Addr × Obj)) (s1 : Shared) (its : List Value) (cenv : Env), Inv X pins σ H s1 → Vals xs its → cenv.scope = scope → cenv.cells = cloFrom X.env.cells scope.names [] →
    ∀ i v (s : Shared) m, its[i]? = some v → s.heap.Ns cenv.locals m → (∀ b o, b ≠ P → s1.heap.get? b = some o → s.heap.get? b = some o) → TurnG X.prog X.w cenv target ifs elt (pz i) (RelV (fv i)) v s
def keptG (n : Nat) (pz : Nat → Bool) (fv : Nat → V) : List V := ((List.range n).filter pz).map fv
def tTupG (X : Cx) (P : Addr) (scope : Scope) (target : Expr) (ifs : List Expr) (elt : Expr) (te : TE) : TE := fun σ H Q => te σ H fun v H1 => ∃ (yl : Addr) (xs : List V) (pz : Nat → Bool) (fv : Nat → V), v = .ref yl ∧ SqT X.K H1 yl xs ∧ GxR.TabG H1 P ∧
  BodyG X P scope target ifs elt σ H1 xs pz fv ∧ ∀ H2 t, GxR.Tabbed P H1 H2 → H2 t = none → Q (.ref t) (upd H2 t (.tup (keptG xs.length pz fv)))
theorem vals_kept {n : Nat} {pz : Nat → Bool} {fv : Nat → V} {acc : Array Value} (h : ItemsOf (fun j y => ∃ i, (passing pz n 0)[j]? = some i ∧ RelV (fv i) y) acc (passing pz n 0).length) : Vals (keptG n pz fv) acc.toList := by
  have e : keptG n pz fv = (passing pz n 0).map fv := by
    unfold keptG passing
    rw [List.drop_zero]
  rw [e]
  obtain ⟨sz, at_⟩ := h
  have sz2 : acc.toList.length = (passing pz n 0).length := by simpa using sz
  have at2 : ∀ (j : Nat) (v : Value), acc.toList[j]? = some v → ∃ i, (passing pz n 0)[j]? = some i ∧ RelV (fv i) v := fun j v hv => at_ j v (by simpa using hv)
  generalize acc.toList = vs at *
  generalize passing pz n 0 = is at *
  clear at_ sz e acc
  induction is generalizing vs with
  | nil =>
    cases vs with
    | nil => exact .nil
    | cons v vs => cases sz2
  | cons i is ih =>
    cases vs with
    | nil => cases sz2
    | cons v vs =>
      obtain ⟨k, hk, r⟩ := at2 0 v rfl
      cases (show some i = some k from hk)
      exact .cons r (ih vs (by simpa using sz2) fun j u hu => at2 (j + 1) u hu)
section
variable {X : Cx} {c P : Addr} {elt target iter : Expr} {ifs : List Expr} {scope : Scope} {p pos gpos : Pos} {te : TE} {k : Nat}
theorem pe_tupG (hr : Room k X.A) (hg : Gl X "tuple") (hm : X.mg "tuple" = none) (TB : GxR.TabB X.base X.mg c P) (hcode : X.env.code = .ref c) {sc : Scope} (hsc : X.env.scope = sc) (S : ScG sc scope) (hi : PE X iter te) (hs : ∀ v, genFold iter X.env v = pure v)
    (hb : bootBuiltins "tuple" = some (.type "tuple"))
    (he : starEach [GExp elt target iter ifs scope gpos] X.env = (false, eval (GExp elt target iter ifs scope gpos) X.env) :: starEach [] X.env := by rfl) :
    PE X (.Call (.Name "tuple" p) [GExp elt target iter ifs scope gpos] [] pos) (tTupG X P scope target ifs elt te) := by
  refine ⟨fun pins s σ H Q I h => ?_⟩
  refine wpAny_Call_Name_kw (ld_blt I hg hm hb ?_ (by decide) (by decide))
  refine PyProof.Rows.callWith_type1 ?_ he (by rfl)
  rw [he]
  show wpAny _ _ (spliced ((false, eval (GExp elt target iter ifs scope gpos) X.env) :: backTo pos (starEach [] X.env))) _ _ s
  refine Calls.spliced_cons ?_
  refine wpAny_GeneratorExp_make S.co (closure_ok fun y hy e => I.ok.has _ (by subst hsc; exact S.free y hy e)) S.cell S.dot S.kind (by have := hr.dp; omega) ?_ hs
  refine thn (hi.run pins s σ H _ I h) fun xv s1 ⟨v, H1, I1, r1, q1⟩ => ?_
  obtain ⟨yl, xs, pz, fv, rfl, hyl, ⟨ps, hP, ht⟩, body, out⟩ := q1
  obtain rfl : xv = Value.ref yl := r1
  obtain ⟨its, rv, tup, hz⟩ := I1.tuple hyl
  have len : its.length = xs.length := by rw [← rv.length]
  refine wpAny_pyIter_tuple tup ?_
  generalize ho : ({ cls := .type "tuple_iterator", data := .fields #[.ref yl, .int 0 0] } : Obj) = o
  have itr : (s1.heap.push o).IsTupleIter s1.heap.objs.size yl 0 := by
    subst ho
    exact ⟨_, Heap.get?_push_size _ rfl, rfl, rfl⟩
  have ylt : yl < s1.heap.objs.size := by
    obtain ⟨_, e, _⟩ := _root_.id tup
    exact Heap.lt_size e
  have hPs : s1.heap.get? P = some { cls := .none, data := .fields ps } := I1.hok P _ hP
  have Plt : P < s1.heap.objs.size := Heap.lt_size hPs
  have hP2 : (s1.heap.push o).get? P = some { cls := .none, data := .fields ps } := Heap.get?_push_of_some _ hPs
  have cd : PySem.W.CodeHd (s1.heap.push o) c P := TB.code.keeps fun b u e => Heap.get?_push_of_some _ (I1.bk b u e)
  have lim : (s1.heap.push o).NoLimit := I1.nolimit.push o
  have ylP : yl ≠ P := fun z => by
    obtain ⟨_, e, _, _, d⟩ := _root_.id tup
    rw [z, hPs] at e
    cases e
    cases d
  have rest : ∀ (code : Value) (h3 : Heap) (tk : Nat) (more : Array Value), Heap.ExtBut P (s1.heap.push o) h3 → (s1.heap.push o).objs.size ≤ h3.objs.size → h3.get? P = some { cls := .none, data := .fields (ps ++ more) } → TriplesOk (ps ++ more).toList →
      wpAny (model X.prog X.w) X.A (builtinsFor X.env.globals X.env.builtins) (fun bi s4 => ∀ h4 : Heap, h4.Ns s4.heap.objs.size (fun y => if y = ".0" then some (.ref s1.heap.objs.size) else none) → Heap.SameBut s4.heap.objs.size (s4.heap.push { cls := .type "frame", data := .dict #[] }) h4 →
        wpAny (model X.prog X.w) X.A (spliced (backTo pos (starEach [] X.env))) (fun vs s5 => wpAny (model X.prog X.w) X.A (call (.type "tuple") (.ref h4.objs.size :: vs)) (EP X pins σ Q) X.xe s5) X.xe { s4 with
            gens := s4.gens.push (.fresh (.compStart (GExp elt target iter ifs scope gpos) 0 (.ref s1.heap.objs.size) .none (genEnv scope (cloFrom X.env.cells scope.names []) s4.heap.objs.size code bi X.env))),
            toks := s4.toks + 1 + 1 + 1,
            heap := h4.push { cls := .type "generator", data := .fields #[.int s4.gens.size 0, .str "<genexpr>" (s4.toks + 1), .str (X.env.qual ++ "<genexpr>") (s4.toks + 1 + 1)] } }) X.xe { s1 with heap := h3, toks := tk } := by
    intro code h3 tk more hx hsz hP3 ht3
    obtain ⟨bm, ob, e1, e2, e3, e4, e5, e6, e7, e8⟩ := TB.bm
    have csP : cStatics ≠ P := fun e => by
      obtain ⟨_, hns, _⟩ := I1.nolimit
      obtain ⟨o', es, ep, ho, hd, _⟩ := hns
      rw [e, hPs] at ho
      cases ho
      cases hd
    have csl : cStatics < s1.heap.objs.size := let ⟨_, hns, _⟩ := I1.nolimit; hns.lt
    have sz2 : (s1.heap.push o).objs.size = s1.heap.objs.size + 1 := Heap.size_push ..
    have keep3 : ∀ b u, b ≠ P → s1.heap.get? b = some u → h3.get? b = some u := fun b u hb e => hx b u hb (Heap.get?_push_of_some _ e)
    refine wpAny_builtinsFor (m := X.mg) (by rw [I1.ok.glob]; exact ((I1.mod.glob.keeps I1.bk).push o).extBut hx TB.gP) e1 e2 (keep3 _ _ e4 (I1.bk _ _ e5)) e6 e7 e8 ?_
    intro h4 ns4 same4
    have tup3 : h3.IsTuple yl its.toArray := by
      obtain ⟨u, e, r⟩ := _root_.id tup
      exact ⟨u, keep3 _ _ ylP e, r⟩
    have itr3 : h3.IsTupleIter s1.heap.objs.size yl 0 := itr.at fun u e => hx _ u (Nat.ne_of_gt Plt) e
    have lim3 : h3.NoLimit := lim.extBut hx csP
    have le3 : s1.heap.objs.size < h3.objs.size := Nat.lt_of_lt_of_le (by rw [sz2]; exact Nat.lt_succ_self _) hsz
    have csl3 : cStatics < h3.objs.size := Nat.lt_trans csl le3
    have sz4 : h4.objs.size = h3.objs.size + 1 := by rw [same4.1, Heap.size_push]
    have keep4 : ∀ b u, h3.get? b = some u → h4.get? b = some u := fun b u e => same4.extBut b u (Nat.ne_of_lt (Heap.lt_size e)) (Heap.get?_push_of_some _ e)
    generalize hgo : ({ cls := .type "generator", data := .fields #[.int s1.gens.size 0, .str "<genexpr>" (tk + 1), .str (X.env.qual ++ "<genexpr>") (tk + 1 + 1)] } : Obj) = go
    have keep5 : ∀ b u, h3.get? b = some u → (h4.push go).get? b = some u := fun b u e => Heap.get?_push_of_some _ (keep4 b u e)
    have gen5 : (h4.push go).IsGen h4.objs.size s1.gens.size := by
      subst hgo
      exact ⟨_, _, _, Heap.get?_push_size _ rfl, rfl, rfl, rfl⟩
    have W : ∀ A' : Around, A'.handled = none → Goes X.prog X.w A' target s1.heap.objs.size (List.range h3.objs.size) [s1.heap.objs.size] its.toArray.size (fun i v _ => its.toArray[i]? = some v) (fun i h => h.IsTupleIter s1.heap.objs.size yl i ∧ h.IsTuple yl its.toArray) := fun A' hA =>
      goes_fp (Goes.tuple hA _ _ (Nat.ne_of_lt ylt) _) fun b hb => List.mem_range.mpr (by
        rcases List.mem_cons.mp hb with z | z
        · rw [z]
          exact le3
        · rcases List.mem_cons.mp z with z | z
          · rw [z]
            exact Nat.lt_trans ylt le3
          · cases z)
    refine Calls.spliced_nil ?_
    have notin : h4.objs.size ∉ List.range h3.objs.size := fun z => by
      have z2 := List.mem_range.mp z
      rw [sz4] at z2
      exact Nat.lt_irrefl _ (Nat.lt_trans (Nat.lt_succ_self _) z2)
    have sub1 : ∀ b ∈ ([s1.heap.objs.size] : List Addr), b ∈ List.range h3.objs.size := fun b hb => by
      rcases List.mem_cons.mp hb with z | z
      · rw [z]
        exact List.mem_range.mpr le3
      · cases z
    have cs1 : cStatics ∉ ([s1.heap.objs.size] : List Addr) := fun z => by
      rcases List.mem_cons.mp z with z | z
      · exact Nat.ne_of_lt csl z
      · cases z
    have W5 := WalksS.genexpQ (prog := X.prog) (w := X.w) (A := X.A.in4) hr.hd h4.objs.size s1.gens.size h3.objs.size (List.range h3.objs.size) [s1.heap.objs.size] pz its.toArray.size (fun i y => RelV (fv i) y) (by rw [sz4]; exact Nat.succ_ne_self _) notin sub1 hr.depth (List.mem_range.mpr csl3) (Nat.ne_of_lt csl3) cs1
    have old5 : ∀ b u, b ≠ P → s1.heap.get? b = some u → (h4.push go).get? b = some u := fun b u hb e => keep5 b u (keep3 b u hb e)
    have debt : DebtG X.prog X.w (genEnv scope (cloFrom X.env.cells scope.names []) h3.objs.size code builtinsNs X.env) target ifs elt (List.range h3.objs.size) [s1.heap.objs.size] its.toArray.size (fun i v _ => its.toArray[i]? = some v) pz (fun i y => RelV (fv i) y) (h4.push go) := fun i v s m hlt hv hns hold =>
      body pins s1 its _ I1 rv rfl rfl i v s m (by simpa using hv) hns fun b u hb e => hold b (List.mem_range.mpr (Nat.lt_trans (Heap.lt_size e) le3)) (fun z => by
        rcases List.mem_cons.mp z with z | z
        · rw [z] at e
          exact Nat.lt_irrefl _ (Heap.lt_size e)
        · cases z) u (old5 b u hb e)
    have kl : (keptG xs.length pz fv).length ≤ sizeLine := by
      unfold keptG
      rw [List.length_map]
      refine Nat.le_trans (List.length_filter_le _ _) ?_
      rw [List.length_range]
      exact hz
    refine call_tuple_gen (hsz := ?size) (WalksS.in4_3 W5) (fun i s9 h9 => h9.1.typeIs) (genAt_new (A := X.A.in4) (cenv := genEnv scope (cloFrom X.env.cells scope.names []) h3.objs.size code builtinsNs X.env) hr.hd W S.co (fun z => Nat.lt_irrefl _ (List.mem_range.mp z)) debt gen5 (Array.getElem?_push_size ..)
      ⟨itr3.at fun u e => keep5 _ u e, tup3.at fun u e => keep5 _ u e⟩ (ns4.push _) (lim3.keeps keep5)) (fun b hb => ?_) List.mem_cons_self (fun s6 acc moved items => ?_)
    case size =>
      have e : (passing pz its.toArray.size 0).length = (keptG xs.length pz fv).length := by
        unfold keptG passing
        rw [List.drop_zero, List.length_map, List.size_toArray, len]
      rw [e]
      exact kl
    · show b < (h4.push go).objs.size
      rw [Heap.size_push]
      rcases List.mem_cons.mp hb with z | z
      · rw [z]
        exact Nat.lt_succ_self _
      · rcases List.mem_cons.mp z with z | z
        · rw [z, sz4]
          exact Nat.lt_trans (Nat.lt_succ_self _) (Nat.lt_succ_self _)
        · have z2 := List.mem_range.mp z
          rw [sz4]
          exact Nat.lt_trans z2 (Nat.lt_trans (Nat.lt_succ_self _) (Nat.lt_succ_self _))
    · have nwr : ∀ b u, s1.heap.get? b = some u → b ∉ h3.objs.size :: [s1.heap.objs.size] := fun b u e hb => by
        have hl := Heap.lt_size e
        rcases List.mem_cons.mp hb with z | z
        · rw [z] at hl
          exact Nat.lt_irrefl _ (Nat.lt_trans hl le3)
        · rcases List.mem_cons.mp z with z | z
          · rw [z] at hl
            exact Nat.lt_irrefl _ hl
          · cases z
      have J := GxR.inv_tab (more := more) (h' := s6.heap) (g' := s6.gens) (d' := s6.drawn) (t' := s6.toks) I1 hP (fun b u hb e => moved.heap b u (nwr b u e) (old5 b u hb e)) (moved.heap P _ (nwr P _ hPs) (keep5 P _ hP3)) (AllBare.movedS (I1.bare.push rfl) moved)
      rw [GxR.sh_eta s1 s6 moved.os] at J
      have items2 : ItemsOf (fun j y => ∃ i, (passing pz xs.length 0)[j]? = some i ∧ RelV (fv i) y) acc (passing pz xs.length 0).length := by
        have e : its.toArray.size = xs.length := by rw [List.size_toArray, len]
        rw [← e]
        exact items
      exact ⟨.ref s6.heap.objs.size, upd (upd H1 P (.tbl (ps ++ more))) s6.heap.objs.size (.tup (keptG xs.length pz fv)), J.laid (t' := s6.toks) (fun b u e => Heap.get?_push_of_some _ e) (Nat.le_refl _) ⟨kl, acc.toList, vals_kept items2, ⟨_, Heap.get?_push_size _ rfl, rfl, 0, by simp⟩⟩, rfl,
        out _ _ ⟨⟨_, upd_same, ht3⟩, fun b hb => upd_ne hb⟩ (J.hok.fresh (Nat.le_refl _))⟩
  refine ⟨lim, ?_⟩
  cases hf : codeAmong gpos ps.toList with
  | none =>
    refine wpAny_genexprCodeX hcode (cd.code hP2 ht) (cd.tab hP2) hf fun c' h' tk hx hge hlt hco' _ htab' _ => ?_
    obtain ⟨o1, vs, f1, tf, fl, tg, inF, tx, tt, op, _, _, _, _, _, _, _, _, _, htr, _⟩ := hco'
    exact rest _ h' tk _ hx (Nat.le_trans hge (Nat.le_of_lt hlt)) htab'.2 htr
  | some cv =>
    refine wpAny_genexprCode_hit hcode (cd.code hP2 ht) hf ?_
    exact rest cv (s1.heap.push o) s1.toks #[] (Heap.ExtBut.refl _ _) (Nat.le_refl _) (by simpa using hP2) (by simpa using ht)
end
end QN

/-! what such a block does at each turn: x[i] for x in t; x for x, y, .. in t if y == z, z of the def around -/
namespace QN
open PySem PySem.Spec PyProof.Rows L2
section
variable {X : Cx} {P : Addr} {scope : Scope} {target elt : Expr} {ifs : List Expr} {σ : L2.St} {H : Hp} {xs : List V} {pz : Nat → Bool} {fv : Nat → V}
theorem tup_not_tab {h : Heap} {a P : Addr} {us ps : Array Value} (t : IsTup h a us) (e : h.get? P = some { cls := .none, data := .fields ps }) : a ≠ P := fun z => by
  obtain ⟨o, e2, _, n, d⟩ := t
  rw [z, e] at e2
  cases e2
  cases d
theorem cell_not_tab {h : Heap} {c P : Addr} {v : Option Value} {ps : Array Value} (t : h.IsCell c v) (e : h.get? P = some { cls := .none, data := .fields ps }) : c ≠ P := fun z => by
  obtain ⟨o, e2, d⟩ := t
  rw [z, e] at e2
  cases e2
  cases d
theorem vals_back {i : Nat} {v : Value} : ∀ {zs : List V} {us : List Value}, Vals zs us → us[i]? = some v → ∃ z, zs[i]? = some z ∧ RelV z v := fun {zs us} r e => by
  have l := r.length
  have hi := (List.getElem?_eq_some_iff.mp e).1
  have hz : zs[i]? = some (zs[i]'(by omega)) := List.getElem?_eq_getElem _
  obtain ⟨u, eu, ru⟩ := r.get hz
  rw [e] at eu
  cases eu
  exact ⟨_, hz, ru⟩
/-- the names' values, one bound behind the other -/
def bound : List (Str × Pos) → List Value → (Str → Option Value) → Str → Option Value
  | n :: ns, v :: vs, m => bound ns vs fun y => if y = n.1 then some v else m y
  | _, _, m => m
def nameEs (ns : List (Str × Pos)) : List Expr := ns.map fun n => .Name n.1 n.2
theorem bind_names {prog : Program} {w : World} {A : Around} {cenv : Env} (hp : cenv.scope.kind = .function) : ∀ {ns : List (Str × Pos)} {us : List Value} {s : Shared} {m : Str → Option Value}, us.length = ns.length → (∀ n ∈ ns, cenv.kindOf n.1 = some .local) → s.heap.Ns cenv.locals m →
    wpAny (model prog w) A (assignInOrder ((assignEach (nameEs ns) cenv).map (·.2)) us) (fun _ s1 => GenSince cenv.locals [] s s1 ∧ s1.heap.Ns cenv.locals (bound ns us m)) NoX s
  | [], us, s, m, hl, _, hn => by
    cases us with
    | nil => exact assignInOrder_nil ⟨GenSince.refl _ _ _, hn⟩
    | cons u us => cases hl
  | n :: ns, us, s, m, hl, hk, hn => by
    cases us with
    | nil => cases hl
    | cons u us =>
      show wpAny _ A (assignInOrder (assign (.Name n.1 n.2) cenv :: (assignEach (nameEs ns) cenv).map (·.2)) (u :: us)) _ _ s
      refine assignInOrder_cons (wpAny_assign_Name (wpAny_storeName_local (hk n List.mem_cons_self) hn (fun h2 hn2 sb => ?_) (by rw [hp]; rfl)))
      refine wpAny_mono (bind_names hp (by simpa using hl) (fun k hk2 => hk k (List.mem_cons_of_mem _ hk2)) hn2) (fun _ s1 ⟨⟨h3, tk3, e3, up3⟩, ns3⟩ => ?_) fun _ _ z => z
      subst e3
      exact ⟨⟨h3, tk3, rfl, fun b o nb nw e => up3 b o nb nw (sb.extBut b o nb e)⟩, ns3⟩
/-- x[i] for x in t -/
theorem body_ix {i : Int} {kd : Nat} {x : Str} {px p1 p2 p3 : Pos} (tab : GxR.TabG H P) (hk : scope.kind = .function) (hl : scope.names.lookup x = some .local) (hd : (x == ("__debug__" : Str)) = false)
    (hx : ∀ j z, xs[j]? = some z → ∃ (a : Addr) (zs : List V), z = .ref a ∧ SqT X.K H a zs ∧ atI zs i = some (fv j)) : BodyG X P scope (.Name x px) [] (.Subscript (.Name x p1) (.Constant (.int i) kd p2) p3) σ H xs (fun _ => true) fv := by
  intro pins s1 its cenv I rv hsc hcl j v s m hv hn old A0 h0
  obtain ⟨ps, hP, _⟩ := tab
  have hPs : s1.heap.get? P = some { cls := .none, data := .fields ps } := I.hok P _ hP
  obtain ⟨z, hz, rz⟩ := vals_back rv hv
  obtain ⟨a, zs, rfl, hq, hat⟩ := hx j z hz
  obtain rfl : v = Value.ref a := rz
  obtain ⟨us, ru, tup, lim⟩ := I.tuple hq
  have tup2 : IsTup s.heap a us.toArray := by
    obtain ⟨o, e, r⟩ := _root_.id tup
    exact ⟨o, old a o (tup_not_tab tup hPs) e, r⟩
  have loc : cenv.kindOf x = some .local := by
    show cenv.scope.names.lookup x = _
    rw [hsc, hl]
  have kf : cenv.scope.kind = .function := by rw [hsc, hk]
  refine wpAny_assign_Name (wpAny_storeName_local loc hn (fun h2 hn2 sb => ?_) (by rw [kf]; rfl))
  have nC : a ≠ cenv.locals := fun z => by
    obtain ⟨o, e, _, n, d⟩ := tup2
    obtain ⟨o2, es, ep, e2, d2, _⟩ := hn
    rw [z, e2] at e
    cases e
    rw [d2] at d
    cases d
  have tup3 : IsTup h2 a us.toArray := tup2.extBut sb.extBut nC
  refine ⟨⟨h2, s.toks + 1, rfl, fun b o nb _ e => sb.extBut b o nb e⟩, ⟨_, hn2⟩, fun A1 h1 => wpAny_tests_nil ⟨rfl, GxR.keeps_refl _, fun _ A2 _ => ?_⟩⟩
  obtain ⟨k, k1, k2, k3, k4, k5⟩ := atI_get hat
  obtain ⟨u, eu, ru'⟩ := ru.get k2
  have ll := ru.length
  have l63 := line63
  refine Subscript_Constant (wpAny_Name (wpAny_loadName_local kf loc hn2 (v := .ref a) (by simp) (wpAny_Constant_int ⟨"tuple", _, slot_tuple_getitem.lookup, tup3.typeIs, ?_⟩)) hd)
  exact getItem_tuple (j := k) tup3 (by omega) (by omega) (by rw [List.size_toArray, ← ll]; exact k1) (by simpa using eu) ⟨ru', GxR.keeps_tok _ _⟩
/-- what a name is bound to at the end -/
def lastV : List (Str × Pos) → List V → Str → Option V
  | n :: ns, z :: zs, y => match lastV ns zs y with
    | some u => some u
    | none => if y = n.1 then some z else none
  | _, _, _ => none
theorem bound_old : ∀ {ns : List (Str × Pos)} {us : List Value} {m : Str → Option Value} {y : Str} {zs : List V}, Vals zs us → lastV ns zs y = none → bound ns us m y = m y
  | [], us, m, y, zs, r, h => by cases us <;> rfl
  | n :: ns, _, m, y, _, .nil, h => rfl
  | n :: ns, u :: us, m, y, z :: zs, .cons r t, h => by
    unfold lastV at h
    cases e : lastV ns zs y with
    | some w =>
      rw [e] at h
      cases h
    | none =>
      rw [e] at h
      have ne : ¬ y = n.1 := fun q => by
        rw [if_pos q] at h
        cases h
      show bound ns us _ y = _
      rw [bound_old t e, if_neg ne]
theorem bound_last : ∀ {ns : List (Str × Pos)} {us : List Value} {m : Str → Option Value} {y : Str} {zs : List V} {w : V}, Vals zs us → lastV ns zs y = some w → ∃ u, bound ns us m y = some u ∧ RelV w u
  | [], us, m, y, zs, w, r, h => by cases h
  | n :: ns, _, m, y, _, w, .nil, h => by cases h
  | n :: ns, u :: us, m, y, z :: zs, w, .cons r t, h => by
    unfold lastV at h
    cases e : lastV ns zs y with
    | some w2 =>
      rw [e] at h
      cases h
      show ∃ v, bound ns us (fun y => if y = n.1 then some u else m y) y = some v ∧ RelV w v
      exact bound_last t e
    | none =>
      rw [e] at h
      by_cases q : y = n.1
      · rw [if_pos q] at h
        cases h
        refine ⟨u, ?_, r⟩
        show bound ns us _ y = _
        rw [bound_old t e, if_pos q]
      · rw [if_neg q] at h
        cases h
/-- c for .., a, .., c, .. in t if a == b: b of the def around, a text -/
theorem body_eq {ns : List (Str × Pos)} {a b c : Str} {kt q : Nat} {tp pa pb pc pd : Pos} {st : Str} (tab : GxR.TabG H P) (hk : scope.kind = .function) (hns : ∀ n ∈ ns, scope.names.lookup n.1 = some .local) (ha : scope.names.lookup a = some .local) (hc : scope.names.lookup c = some .local)
    (hb : scope.names.lookup b = some .free) (hcl : (cloFrom X.env.cells scope.names []).lookup b = some ((X.env.cells.lookup b).getD 0)) (hN : X.N[q]? = some b) (hσ : σ[q]? = some (some (.str st))) (hB : X.env.scope.names.lookup b = some .cell)
    (da : (a == ("__debug__" : Str)) = false) (db : (b == ("__debug__" : Str)) = false) (dc : (c == ("__debug__" : Str)) = false) (db2 : (b == ("__classdict__" : Str)) = false)
    (hx : ∀ j z, xs[j]? = some z → ∃ (p : Addr) (zs : List V) (src : Str), z = .ref p ∧ SqT X.K H p zs ∧ zs.length = ns.length ∧ lastV ns zs a = some (.str src) ∧ lastV ns zs c = some (fv j) ∧ pz j = (src == st)) :
    BodyG X P scope (.Tuple (nameEs ns) kt tp) [.Compare (.Name a pa) [.Eq] [.Name b pb] pc] (.Name c pd) σ H xs pz fv := by
  intro pins s1 its cenv I rv hsc hcells j v s m hv hn old A0 h0
  obtain ⟨ps, hP, _⟩ := tab
  have hPs : s1.heap.get? P = some { cls := .none, data := .fields ps } := I.hok P _ hP
  obtain ⟨z, hz, rz⟩ := vals_back rv hv
  obtain ⟨p, zs, src, rfl, hq, hlen, l1, l2, hpz⟩ := hx j z hz
  obtain rfl : v = Value.ref p := rz
  obtain ⟨us, ru, tup, lim⟩ := I.tuple hq
  have tup2 : IsTup s.heap p us.toArray := by
    obtain ⟨o, e, r⟩ := _root_.id tup
    exact ⟨o, old p o (tup_not_tab tup hPs) e, r⟩
  have kf : cenv.scope.kind = .function := by rw [hsc, hk]
  have kl : ∀ {y : Str}, scope.names.lookup y = some .local → cenv.kindOf y = some .local := fun {y} h => by
    show cenv.scope.names.lookup y = _
    rw [hsc, h]
  -- the captured name
  obtain ⟨ml, _, look⟩ := I.loc
  obtain ⟨ub, rb, lb⟩ := look q b _ hN hσ (.inr (.inl hB))
  obtain ⟨tb, rfl⟩ := (show ∃ t, ub = Value.str st t from rb)
  obtain ⟨cc, ec, cell⟩ : ∃ cc, X.env.cells.lookup b = some cc ∧ s1.heap.IsCell cc (some (.str st tb)) := by
    rcases lb with ⟨h, _⟩ | ⟨_, h⟩
    · rw [show X.env.kindOf b = some .cell from hB] at h
      cases h
    · exact h
  have hcc : cenv.cells.lookup b = some cc := by
    rw [hcells, hcl, ec]
    rfl
  have cell2 : s.heap.IsCell cc (some (.str st tb)) := by
    obtain ⟨o, e, d⟩ := _root_.id cell
    exact ⟨o, old cc o (cell_not_tab cell hPs) e, d⟩
  have nC : cc ≠ cenv.locals := fun z => by
    obtain ⟨o, e, d⟩ := cell2
    obtain ⟨o2, es, ep, e2, d2, _⟩ := hn
    rw [z, e2] at e
    cases e
    rw [d2] at d
    cases d
  have ll := ru.length
  have aeq : ∀ ns : List (Str × Pos), (assignEach (nameEs ns) cenv).length = ns.length ∧ (assignEach (nameEs ns) cenv).findIdx? (·.1) = none := fun ns => by
    induction ns with
    | nil => exact ⟨rfl, rfl⟩
    | cons n ns ih =>
      have e : assignEach (nameEs (n :: ns)) cenv = (false, assign (.Name n.1 n.2) cenv) :: assignEach (nameEs ns) cenv := rfl
      rw [e]
      exact ⟨by rw [List.length_cons, List.length_cons, ih.1], by rw [List.findIdx?_cons, ih.2]; rfl⟩
  refine assign_Tuple_tuple h0 tup2 (by rw [(aeq ns).1, List.size_toArray, ← ll, hlen]) (aeq ns).2 fun h' hx' => ?_
  have old' : ∀ b o, s.heap.get? b = some o → h'.get? b = some o := fun b o e => hx' b o (Nat.ne_of_lt (Heap.lt_size e)) e
  have e0 : us.toArray.toList = us := by simp
  rw [e0]
  refine wpAny_mono (bind_names kf (by rw [← ll, hlen]) (fun n hn2 => kl (hns n hn2)) (hn.keeps old')) (fun _ s2 ⟨⟨h2, tk2, e2, up2⟩, ns2⟩ => ?_) fun _ _ z => z
  subst e2
  have cell3 : h2.IsCell cc (some (.str st tb)) := by
    obtain ⟨o, e, d⟩ := cell2
    exact ⟨o, up2 cc o nC (by simp) (old' cc o e), d⟩
  obtain ⟨u1, b1, r1⟩ := bound_last (m := m) ru l1
  obtain ⟨t1, rfl⟩ := (show ∃ t, u1 = Value.str src t from r1)
  obtain ⟨u2, b2, r2⟩ := bound_last (m := m) ru l2
  refine ⟨⟨h2, tk2, rfl, fun b o nb nw e => up2 b o nb nw (old' b o e)⟩, ⟨_, ns2⟩, fun A1 h1 => wpAny_tests_one (wpAny_isTrue_Compare1 (wpAny_Name (wpAny_loadName_local kf (kl ha) ns2 b1 (wpAny_Name (wpAny_loadName_free kf (by
    show cenv.scope.names.lookup b = _
    rw [hsc, hb]) hcc cell3 (eq_str (wpAny_truthy_bool ⟨hpz.symm, GxR.keeps_refl _, fun _ A2 h2 => wpAny_Name (wpAny_loadName_local kf (kl hc) ns2 b2 ⟨r2, GxR.keeps_refl _⟩) dc⟩)) db2) db)) da))⟩
end
end QN

/-! an own class whose __init__ takes (self, a, .., *b, k=..): C(a, *b, k=v) and cls(a, *b, k=v) -/
namespace QN
open PySem PySem.Spec PyProof.Rows L2 PySem.W
/-- a promise about a call with keywords named ks -/
def FnRK (P : Program) (w : World) (K : PySem.W.Frag) (mg : Str → Option Value) (base : Heap) (CX : CXT) (k : Nat) (f : Addr) (ks : List Str) (sp : List V → List V → Hp → VK → XK → Prop) : Prop :=
  ∀ (A : Around) (outer : List Env) (s : Shared) (H : Hp) (us ws : List Value) (vs zs : List V) (Q : VK) (E : XK), Room k A → Env0 P w K mg base A outer s H → Vals vs us → Vals zs ws → zs.length = ks.length → sp vs zs H Q E →
    codeAny (model P w) A (.call (.ref f) ⟨us, ks.zip ws⟩) (CR CX outer P w H s Q E) s
theorem FnRK.imp {P : Program} {w : World} {K : PySem.W.Frag} {mg : Str → Option Value} {base : Heap} {CX : CXT} {k : Nat} {f : Addr} {ks : List Str} {sp sp' : List V → List V → Hp → VK → XK → Prop} (F : FnRK P w K mg base CX k f ks sp) (h : ∀ vs zs H Q E, sp' vs zs H Q E → sp vs zs H Q E) : FnRK P w K mg base CX k f ks sp' :=
  fun A outer s H us ws vs zs Q E hr e0 r rz l q => F A outer s H us ws vs zs Q E hr e0 r rz l (h _ _ _ _ _ q)
/-- a call with stars and keywords of a thing that is kept -/
theorem callWith_starKW {M : Model} {A : Around} {E : Value → Shared → Prop} {s : Shared} {K : Frag} {env : Env} {pos : Pos} {f : Value} {first : List Value} {Q : Value → Shared → Prop} {e : Expr} {rest : List Expr} {kws : List Keyword} (hk : keepIn K f = true)
    (hall : (backToKw pos (keywordEach kws env)).all (·.1.isSome) = true)
    (h : wpAny M A (spliced (backTo pos (starEach (e :: rest) env))) (fun vs s₁ => wpAny M A (evalAll ((backToKw pos (keywordEach kws env)).map (·.2)))
      (fun ks s₂ => K.In s₂.heap ∧ wpAny M A (call f (first ++ vs) (((backToKw pos (keywordEach kws env)).filterMap (·.1)).zip ks)) Q E s₂) E s₁) E s)
    (he : starEach (e :: rest) env = (false, eval e env) :: starEach rest env := by rfl) (hst : (backTo pos (starEach rest env)).any (·.1) = true := by rfl) :
    wpAny M A (callWith pos f first (backTo pos (starEach (e :: rest) env)) (backToKw pos (keywordEach kws env))) Q E s := by
  have st : (backTo pos (starEach (e :: rest) env)).any (·.1) = true := by
    rw [he]
    show (false || (backTo pos (starEach rest env)).any (·.1)) = true
    rw [hst]
    rfl
  have z : wpAny M A (evalArgs f true (backTo pos (starEach (e :: rest) env)) (backToKw pos (keywordEach kws env))) (fun a s₁ => K.In s₁.heap ∧ wpAny M A (call f (first ++ a.pos) a.kw) Q E s₁) E s := evalArgs_kw2 hall h he
  unfold callWith
  refine wpAny_bind (wpAny_holding (wpAny_mono z (fun a u q => wpAny_bind (wpAny_standAt ?_)) fun _ _ x => x))
  obtain ⟨kp, hkp, lk⟩ := keeps_K hk _ q.1
  simp only [st, Bool.true_or]
  refine wpAny_bind (lk.here ?_)
  have out : ∀ {t : Sem Value}, wpAny M A t Q E u → wpAny M A (t >>= fun r => holding [r] point >>= fun _ => pure r) Q E u := fun ht =>
    wpAny_bind (wpAny_mono ht (fun r v hr => wpAny_bind (wpAny_holding (wpAny_point (wpAny_pure hr)))) fun _ _ x => x)
  have mk : ∀ m : Value, wpAny M A (callMarked m f (first ++ a.pos) a.kw) Q E u := fun m => by
    unfold callMarked
    exact Calls.wpAny_keep q.2
  rcases hkp with rfl | rfl | rfl
  · first | exact out (mk _) | exact out (wpAny_operating q.2)
  · first | exact out (mk _) | exact out (wpAny_operating q.2)
  · first | exact out (mk _) | exact out (wpAny_operating q.2)
section
variable {X : Cx} {CX : CXT} {k n i : Nat} {f C : Addr} {ks : List Str} {sp : List V → List V → Hp → VK → XK → Prop} {E : XK} {x : Str} {p pos : Pos} {e : Expr} {es : List Expr} {kws : List Keyword} {t tk : TA}
theorem run_makeVK {pins : List (Addr × Obj)} {σ : L2.St} {H : Hp} {s : Shared} {Q : VK} {us ws : List Value} {vs zs : List V} (M : Mk X.K C f) (F : FnRK X.prog X.w X.K X.mg X.base CX k f ks sp) (hr : Room (k + 1) X.A) (hx : Passes CX X E)
    (I : Inv X pins σ H s) (r : Vals vs us) (rz : Vals zs ws) (l : zs.length = ks.length)
    (h : ∀ x dx, H x = none → H dx = none → dx ≠ x → sp (.ref x :: vs) zs (upd (upd H dx (.own x)) x (.ins C dx [])) (fun v H2 => v = .non ∧ Q (.ref x) H2) E) :
    wpAny (model X.prog X.w) X.A (call (.ref C) us (ks.zip ws)) (EP X pins σ Q) X.xe s := by
  have q := h (s.heap.objs.size + 1) s.heap.objs.size (I.hok.fresh (Nat.le_succ _)) (I.hok.fresh (Nat.le_refl _)) (Nat.ne_of_lt (Nat.lt_succ_self _))
  have J := Inv.made (C := C) I
  have ok := F (X.A.under (.builtin "type.__call__" ⟨.ref C :: us, ks.zip ws⟩)) X.stack _ _ (Value.ref (s.heap.objs.size + 1) :: us) ws (V.ref (s.heap.objs.size + 1) :: vs) zs _ E (hr.make C us (ks.zip ws)) (J.env0.make C us (ks.zip ws)) (.cons rfl r) rz l q
  refine wpAny_call (make_map (f := f) I.kIn M.makes M.init (beq_iff_eq.mp M.fn) (codeAny_mono ok fun r s' done => ?_))
  match r, done with
  | .error e, done => exact hx pins σ _ _ e s' J done
  | .ok (.ret u), done =>
    obtain ⟨v, H', J2, rv, ev, q3⟩ := J.after done
    subst ev
    exact ⟨rv, ⟨V.ref (s.heap.objs.size + 1), H', J2, rfl, q3⟩⟩
  | .ok .next, done => exact False.elim done
  | .ok .brk, done => exact False.elim done
  | .ok .cont, done => exact False.elim done
def tMakeVK (i : Nat) (C : Addr) (m : Nat) (sp : List V → List V → Hp → VK → XK → Prop) (E : XK) (t tk : TA) : TE := fun σ H Q => σ[i]? = some (some (.ref C)) ∧ t σ H fun vs H1 => tk σ H1 fun zs H2 => zs.length = m ∧
  ∀ x dx, H2 x = none → H2 dx = none → dx ≠ x → sp (.ref x :: vs) zs (upd (upd H2 dx (.own x)) x (.ins C dx [])) (fun v H3 => v = .non ∧ Q (.ref x) H3) E
/-- cls(a, *b, k=v), cls the class C in the slot i -/
theorem pe_makeVK (M : Mk X.K C f) (F : FnRK X.prog X.w X.K X.mg X.base CX k f ks sp) (hr : Room (k + 1) X.A) (hN : X.N[i]? = some x) (hv : Vis X.env.scope x) (hx : Passes CX X E) (ha : PA X (e :: es) t) (hkw : PK X kws tk)
    (hall : (backToKw pos (keywordEach kws X.env)).all (·.1.isSome) = true := by rfl) (hks : (backToKw pos (keywordEach kws X.env)).filterMap (·.1) = ks := by rfl) (hdb : (x == ("__debug__" : Str)) = false := by decide) (hcd : (x == ("__classdict__" : Str)) = false := by decide)
    (he : starEach (e :: es) X.env = (false, eval e X.env) :: starEach es X.env := by rfl) (hst : (backTo pos (starEach es X.env)).any (·.1) = true := by rfl) :
    PE X (.Call (.Name x p) (e :: es) kws pos) (tMakeVK i C ks.length sp E t tk) := by
  refine ⟨fun pins s σ H Q I h => ?_⟩
  obtain ⟨hs, ht⟩ := h
  refine wpAny_Call_Name_kw (thn ((pe_var (pos := p) hN hv hdb hcd).run pins s σ H (fun v H1 => v = .ref C ∧ H1 = H) I ⟨.ref C, hs, rfl, rfl⟩) fun u s1 ⟨v, H1, I1, r1, q1⟩ => ?_)
  obtain ⟨rfl, rfl⟩ := q1
  cases r1
  refine callWith_starKW (K := X.K) M.kp hall (thn (ha.run pos pins s1 σ _ _ I1 ht) fun us s2 ⟨vs, H2, I2, r, q⟩ => ?_) he hst
  refine thn (hkw.run pos pins s2 σ H2 _ I2 q) fun ws s3 ⟨zs, H3, I3, rz, l, q2⟩ => ⟨I3.kIn, ?_⟩
  rw [hks]
  exact run_makeVK M F hr hx I3 r rz l q2
end
section
variable {CX : CXT} {P : Program} {w : World} {K : Frag} {mg : Str → Option Value} {base : Heap} {k n : Nat} {f : Addr} {name qual : Str} {params : Arguments} {body : List Stmt} {scope : Scope} {dV kV doc pm cdv ct oc : Value} {an od : Option Addr}
  {osl : Array (Option Value)} {N qs ks : List Str} {sp : Sp}
/-- a def (a, .., *b, k=..), called with the keywords ks; dvs: what the others are by default -/
theorem fn_starK {pv : Str} {dvs : List V} {dv : List Value} (lk : K.lookup f = some ⟨oc, od, .func (fnOf name qual params body scope dV kV doc pm an cdv ct), osl⟩) (hcd : codeIn K cdv qual = true) (S : FnScope N (qs ++ [pv]) scope) (hCX : StX.CXUp CX)
    (hq : qs.length = n + ks.length + dvs.length) (rd : Vals dvs dv)
    (hb : ∀ us rest ws : List Value, us.length = n → ws.length = ks.length → ∃ c : Sem (List (Str × Value)), bindArgs (fnOf name qual params body scope dV kV doc pm an cdv ct) ⟨us ++ rest, ks.zip ws⟩ = (c >>= fun l => newTuple rest >>= fun t => pure (l ++ [(pv, t)])) ∧
      ∀ (M : Model) (h : Heap), K.In h → Looks M h c (qs.zip (us ++ ws ++ dv)))
    (hbody : ∀ (A : Around) (outer : List Env) (s : Shared) (H : Hp) (vs : List V) (Q : VK) (E : XK), Room k (A.deeper (envOfC qual scope s.heap.objs.size f cdv)) → sp vs H Q E →
      ∃ t, PSs (cxOf CX P w K mg base N qual scope f cdv A outer s H E) body t ∧ t { nx := fun _ H' => Q .non H', rt := Q } (start N vs) H) :
    FnRK P w K mg base CX (k + 1) f ks (fun vs zs H Q E => ∃ wa rest, vs = wa ++ rest ∧ wa.length = n ∧ rest.length ≤ sizeLine ∧ ∀ p, H p = Option.none → sp (wa ++ zs ++ dvs ++ [V.ref p]) (upd H p (.tup rest)) Q E) := by
  intro A outer s H us ws vs zs Q E hr e0 r rz lz hsp
  obtain ⟨wa, rest, ev, hl, hz, hq2⟩ := hsp
  subst ev
  obtain ⟨u1, u2, eu, r1, r2⟩ := StX.vals_split r
  subst eu
  have hn : H s.heap.objs.size = Option.none := e0.hok.fresh (Nat.le_refl _)
  have l1 : u1.length = n := by rw [← r1.length]; exact hl
  have l2 : u2.length ≤ sizeLine := by rw [← r2.length]; exact hz
  have l3 : ws.length = ks.length := by rw [← rz.length]; exact lz
  have ld := rd.length
  obtain ⟨c, eb, lc⟩ := hb u1 u2 ws l1 l3
  have rr : Vals (wa ++ zs ++ dvs) (u1 ++ ws ++ dv) := (r1.append rz).append rd
  refine StX.run_bnd lk hcd S hr e0 (G := fun xs H2 => ∃ p, H p = Option.none ∧ xs = wa ++ zs ++ dvs ++ [V.ref p] ∧ H2 = upd H p (.tup rest)) (fun A' Ex Q' h => ?_) fun s2 H2 xs ⟨p, hp, ex, eH⟩ hr' => ?_
  · have KX : K.In s.heap := e0.mod.kin.keeps fun b o e => (e0.bs b o e).1
    rw [eb]
    refine wpAny_bind (lc _ _ KX _ _ _ _ (fun _ _ z => z) (wpAny_bind (wpAny_newTuple (wpAny_pure ?_) l2)))
    have new : ObjOk P w (upd H s.heap.objs.size (.tup rest)) (s.heap.push ({ cls := .type "tuple", data := .seq u2.toArray } : Obj)) s.heap.objs.size (.tup rest) := ⟨hz, u2, r2, ⟨_, Heap.get?_push_size _ rfl, rfl, _, rfl⟩⟩
    have un := StX.un_laid (fs := frs outer) (s := s) (o := ({ cls := .type "tuple", data := .seq u2.toArray } : Obj)) (u := .tup rest) hn
    have lq : qs.length = (u1 ++ ws ++ dv).length := by
      rw [List.length_append, List.length_append, hq, l1, l3, ld]
    have z := h _ _ (wa ++ zs ++ dvs ++ [V.ref s.heap.objs.size]) (u1 ++ ws ++ dv ++ [Value.ref s.heap.objs.size]) (StX.env0_laid e0 new) un rfl (fun e s' => hCX outer s H _ _ E e s' un (fun b o q => Heap.get?_push_of_some _ q) rfl) (rr.append (.cons rfl .nil))
      (by have := rr.length; simp only [List.length_append, List.length_singleton] at this lq ⊢; omega) ⟨_, hn, rfl, rfl⟩
    rw [List.zip_append lq] at z
    exact z
  · subst ex eH
    exact hbody A outer s2 _ _ Q E hr' (hq2 p hp)
theorem FnRK.toR {sp : List V → List V → Hp → VK → XK → Prop} (F : FnRK P w K mg base CX k f [] sp) : FnR P w K mg base CX k f (fun vs H Q E => sp vs [] H Q E) := fun A outer s H us vs Q E hr e0 r q => F A outer s H us [] vs [] Q E hr e0 r .nil rfl q
end
end QN

/-! rows sorted by their names -/
namespace Qp
open PySem PySem.Spec PyProof.Rows L2 QN
open PySem.W PySem.SeqAt
theorem alike_ch : ∀ c d : List (Str × Int), alikeAll (c.map pairD) (d.map pairD) = true
  | [], _ => by simp [alikeAll]
  | _ :: _, [] => by simp [alikeAll]
  | p :: c, q :: d => by
    show alikeAll (pairD p :: c.map pairD) (pairD q :: d.map pairD) = true
    rw [alikeAll, alike_ch c d]
    simp [alike, alikeAll, pairD]
theorem alike_row (a b : Row) : alike (rowD a) (rowD b) = true := by
  have h := alike_ch a.c b.c
  simp [rowD, chD, alike, alikeAll, h]
theorem depth_ch : ∀ c : List (Str × Int), PyData.depthAll (c.map pairD) ≤ 1
  | [] => by simp [PyData.depthAll]
  | p :: c => by
    have h := depth_ch c
    show PyData.depthAll (pairD p :: c.map pairD) ≤ 1
    simp [PyData.depthAll, PyData.depth, pairD]
    omega
theorem depth_row (r : Row) : (rowD r).depth ≤ 10 := by
  have h := depth_ch r.c
  simp [rowD, chD, PyData.depth, PyData.depthAll]
  omega
theorem name_inj : ∀ {rs : List Row}, (rs.map (·.n)).Nodup → ∀ a ∈ rs, ∀ b ∈ rs, a.n = b.n → a = b
  | [], _, a, ha, _, _, _ => by cases ha
  | r :: rs, nd, a, ha, b, hb, e => by
    have nd2 := List.nodup_cons.mp nd
    rcases List.mem_cons.mp ha with ea | ha2
    · rcases List.mem_cons.mp hb with eb | hb2
      · rw [ea, eb]
      · refine absurd (List.mem_map.mpr ⟨b, hb2, ?_⟩) nd2.1
        rw [← e, ea]
    · rcases List.mem_cons.mp hb with eb | hb2
      · refine absurd (List.mem_map.mpr ⟨a, ha2, ?_⟩) nd2.1
        rw [e, eb]
      · exact name_inj nd2.2 a ha2 b hb2 e
theorem data_irrefl (x : PyData) : dataLt x x = false := lex_irrefl _
theorem le_row {rs : List Row} (nd : (rs.map (·.n)).Nodup) (a : Row) (ha : a ∈ rs) (b : Row) (hb : b ∈ rs) : dataLe false rowD a b = dataLe false (fun x : Str => PyData.str x) a.n b.n := by
  show (!dataLt (rowD b) (rowD a)) = !dataLt (.str b.n) (.str a.n)
  by_cases e : a.n = b.n
  · rw [name_inj nd a ha b hb e, data_irrefl, data_irrefl]
  · congr 1
    unfold rowD
    have ne : PyData.eqv (.str b.n) (.str a.n) = false := by
      simp only [PyData.eqv]
      exact beq_eq_false_iff_ne.mpr fun z => e z.symm
    rw [dataLt_tuple, dataLt_cons (by simp [alike]), ne, if_neg Bool.false_ne_true]
theorem sort_rows0 {rs srt : List Row} (nd : (rs.map (·.n)).Nodup) (pm : srt.Perm rs) (asc : (srt.map (·.n)).Pairwise lts) : rs.mergeSort (dataLe false rowD) = srt := by
  have e1 : (rs.mergeSort (dataLe false rowD)).map (·.n) = srt.map (·.n) := by
    rw [List.map_mergeSort (s := dataLe false fun x : Str => PyData.str x) (le_row nd)]
    exact asc_unique (sortTx_asc nd) asc fun z => by
      show z ∈ sortTx (rs.map (·.n)) ↔ _
      rw [(sortTx_perm _).mem_iff]
      exact ⟨fun m => by obtain ⟨r, hr, e⟩ := List.mem_map.mp m; exact List.mem_map.mpr ⟨r, pm.mem_iff.mpr hr, e⟩, fun m => by obtain ⟨r, hr, e⟩ := List.mem_map.mp m; exact List.mem_map.mpr ⟨r, pm.mem_iff.mp hr, e⟩⟩
  have a1 : (rs.mergeSort (dataLe false rowD)).Pairwise fun a b => lts a.n b.n := List.pairwise_map.mp (by rw [e1]; exact asc)
  have a2 : srt.Pairwise fun a b => lts a.n b.n := List.pairwise_map.mp asc
  exact List.Perm.eq_of_pairwise (fun a b _ _ h1 h2 => absurd h2 (lts_asymm h1)) a1 a2 ((List.mergeSort_perm _ _).trans pm.symm)
theorem snd_zip {α β : Type} : ∀ {us : List α} {ds : List β}, us.length = ds.length → (us.zip ds).map (·.2) = ds
  | [], [], _ => rfl
  | [], _ :: _, h => by cases h
  | _ :: _, [], h => by cases h
  | u :: us, d :: ds, h => by
    rw [List.zip_cons_cons, List.map_cons, snd_zip (by simpa using h)]
theorem fst_zip {α β : Type} : ∀ {us : List α} {ds : List β}, us.length = ds.length → (us.zip ds).map (·.1) = us
  | [], [], _ => rfl
  | [], _ :: _, h => by cases h
  | _ :: _, [], h => by cases h
  | u :: us, d :: ds, h => by
    rw [List.zip_cons_cons, List.map_cons, fst_zip (by simpa using h)]
theorem sort_rows {us : List V} {rs srt : List Row} (hl : us.length = rs.length) (nd : (rs.map (·.n)).Nodup) (pm : srt.Perm rs) (asc : (srt.map (·.n)).Pairwise lts) : ((us.zip (rs.map rowD)).mergeSort (dataLe false (·.2))).map (·.2) = srt.map rowD := by
  rw [List.map_mergeSort (r := dataLe false fun b : V × PyData => b.2) (s := dataLe false id) (fun _ _ _ _ => rfl), snd_zip (by rw [List.length_map]; exact hl), ← sort_rows0 nd pm asc]
  exact (List.map_mergeSort (f := rowD) (r := dataLe false rowD) (s := dataLe false id) (fun _ _ _ _ => rfl)).symm
/-- what is gathered in a list or tuple of data -/
theorem dpAll_zip {K : PySem.W.Frag} {H : Hp} : ∀ {bs : List (V × PyData)}, (∀ b ∈ bs, Dp K H b.1 b.2) → DpAll K H (bs.map (·.1)) (bs.map (·.2))
  | [], _ => .nil
  | b :: bs, h => .cons (h b List.mem_cons_self) (dpAll_zip fun c hc => h c (List.mem_cons_of_mem _ hc))
theorem zip_dpAll {K : PySem.W.Frag} {H : Hp} : ∀ {us : List V} {ds : List PyData}, DpAll K H us ds → ∀ b ∈ us.zip ds, Dp K H b.1 b.2
  | _, _, .nil, b, hb => by cases hb
  | _, _, .cons h t, b, hb => by
    rcases List.mem_cons.mp hb with rfl | hb
    · exact h
    · exact zip_dpAll t b hb
end Qp

/-! dict(t), t a tuple of pairs of which is known that it has no dict of its own; tuples that keep that knowledge -/
namespace QN
open PySem PySem.Spec PyProof.Rows L2 PySem.W
/-- a tuple without a dict -/
def PlT (K : Frag) (H : Hp) (a : Addr) (xs : List V) : Prop := SqT K H a xs ∧ ((∃ o, H a = some (.frz o (.tup xs)) ∧ o.dict = none) ∨ ∃ o, K.lookup a = some o ∧ o.dict = none)
theorem PlT.at_ {X : Cx} {pins : List (Addr × Obj)} {σ : L2.St} {H : Hp} {s : Shared} {a : Addr} {xs : List V} (I : Inv X pins σ H s) (h : PlT X.K H a xs) : ∃ its : List Value, Vals xs its ∧ PlainSeq "tuple" s.heap a its.toArray ∧ xs.length ≤ sizeLine := by
  obtain ⟨its, rv, ⟨o, ho, hc, n, hd⟩, hz⟩ := I.tuple h.1
  refine ⟨its, rv, ⟨o, n, ho, hc, ?_, hd⟩, hz⟩
  rcases h.2 with ⟨o2, h2, d2⟩ | ⟨o2, h2, d2⟩
  · have e : s.heap.get? a = some o2 := (I.hok a _ h2).1
    rw [ho] at e
    cases e
    exact d2
  · have e := I.kIn a o2 h2
    rw [ho] at e
    cases e
    exact d2
section
variable {X : Cx}
/-- tuple(l), l a list -/
theorem call_tuple_ofZ : CallR X (.type "tuple") (fun xs H Q => ∃ p ys, xs = [.ref p] ∧ SqL X.K H p ys ∧ ∀ l o, H l = none → o.dict = none → Q (.ref l) (upd H l (.frz o (.tup ys)))) := by
  intro pins s σ H xs us Q I r ⟨p, ys, ex, hq, q⟩
  subst ex
  obtain ⟨u, rfl, rx⟩ := vals1 r
  cases rx
  obtain ⟨its, rl, pl, hz⟩ := I.list hq
  refine call_tuple_list pl.isList (fun h' kp => ?_) (by rw [List.size_toArray, ← rl.length]; exact hz)
  have J : Inv X pins σ H { s with heap := h' } := I.kept (t' := s.toks) kp
  exact ⟨.ref h'.objs.size, upd H h'.objs.size (.frz { cls := .type "tuple", data := .seq its.toArray } (.tup ys)), J.laid (t' := s.toks) (fun b o e => Heap.get?_push_of_some _ e) (Nat.le_refl _) ⟨Heap.get?_push_size _ rfl, hz, its, rl, IsTup.new _ _⟩, rfl,
    q _ _ (J.hok.fresh (Nat.le_refl _)) rfl⟩
def tTupZ (t : TA) : TE := fun σ H Q => t σ H fun xs H1 => xs.length ≤ sizeLine ∧ ∀ p o, H1 p = none → o.dict = none → Q (.ref p) (upd H1 p (.frz o (.tup xs)))
/-- (e, ..) -/
theorem pe_tupZ {es : List Expr} {t : TA} {pos : Pos} {x1} (h : PA X es t) : PE X (.Tuple es x1 pos) (tTupZ t) := by
  refine ⟨fun pins s σ H Q I hq => wpAny_Tuple_spliced (thn (h.run pos pins s σ H _ I hq) fun us s1 ⟨xs, H1, I1, r, z, q⟩ => ⟨by rw [← r.length]; exact z, ?_⟩)⟩
  exact ⟨.ref s1.heap.objs.size, upd H1 s1.heap.objs.size (.frz { cls := .type "tuple", data := .seq us.toArray } (.tup xs)), I1.laid (t' := s1.toks) (fun b u e => Heap.get?_push_of_some _ e) (Nat.le_refl _) ⟨Heap.get?_push_size _ rfl, z, us, r, ⟨_, Heap.get?_push_size _ rfl, rfl, _, rfl⟩⟩, rfl,
    q _ _ (I1.hok.fresh (Nat.le_refl _)) rfl⟩
theorem each_at {ps : List Addr} {kvs : List (Key × V)} {F : Addr → Key × V → Prop} (h : Paired F ps kvs) : ps.length = kvs.length := h.length
/-- dict(t) -/
theorem call_dictTP (hcalm : X.calm = true) : CallR X (.type "dict") (fun xs H Q => ∃ (a : Addr) (ps : List Addr) (kvs : List (Key × V)), xs = [.ref a] ∧ PlT X.K H a (ps.map V.ref) ∧ Paired (fun p kv => SqT X.K H p [kV kv.1, kv.2]) ps kvs ∧
    ∀ p, H p = none → Q (.ref p) (upd H p (.dK (mergeK [] kvs)))) := by
  intro pins s σ H xs us Q I r ⟨a, ps, kvs, ex, hq, hp, q⟩
  subst ex
  obtain ⟨u, rfl, rx⟩ := vals1 r
  cases rx
  obtain ⟨its, rv, pl, hz⟩ := PlT.at_ I hq
  have ei := refs_at rv
  subst ei
  rw [List.length_map] at hz
  obtain ⟨prs, rel, hl, hpr⟩ := pairs_of I hp
  -- the pairs as values
  obtain ⟨raw, hraw⟩ : ∃ raw : List (Value × Value), raw.length = prs.length ∧ ∀ (j : Nat) (p : Key × Value), prs[j]? = some p → ∃ (b : Addr) (u : Value), ps[j]? = some b ∧ raw[j]? = some (u, p.2) ∧ IsTup s.heap b #[u, p.2] ∧ keyIs p.1 u = true := by
    clear rel q hp
    revert hl hpr
    generalize ps = qs
    induction prs generalizing qs with
    | nil => exact fun _ _ => ⟨[], rfl, fun j p e => by cases e⟩
    | cons p prs ih =>
      intro hl hpr
      cases qs with
      | nil => cases hl
      | cons b qs =>
        obtain ⟨raw, h1, h2⟩ := ih qs (by simpa using hl) fun j z e => by
          obtain ⟨b2, u2, e1, e2⟩ := hpr (j + 1) z e
          exact ⟨b2, u2, e1, e2⟩
        obtain ⟨b0, u0, e0, e1, e2⟩ := hpr 0 p rfl
        refine ⟨(u0, p.2) :: raw, by rw [List.length_cons, List.length_cons, h1], fun j z e => ?_⟩
        cases j with
        | zero =>
          cases e
          exact ⟨b0, u0, e0, rfl, e1, e2⟩
        | succ j => exact h2 j z e
  obtain ⟨rl, hraw⟩ := hraw
  have items : PairItems s.heap (ps.map Value.ref).toArray (fun j => ps.getD j 0) raw := by
    refine ⟨by rw [List.size_toArray, List.length_map, rl, hl], fun j k v e => ?_⟩
    have hj := (List.getElem?_eq_some_iff.mp e).1
    obtain ⟨b, u, e1, e2, e3, e4⟩ := hraw j (prs[j]'(by omega)) (List.getElem?_eq_getElem _)
    rw [e] at e2
    cases e2
    have eb : ps.getD j 0 = b := by rw [List.getD_eq_getElem?_getD, e1]; rfl
    exact ⟨by show (ps.map Value.ref).toArray[j]? = some (.ref (ps.getD j 0)); rw [eb]; simp [e1], .inl (by show IsTup s.heap (ps.getD j 0) _; rw [eb]; exact e3)⟩
  have have_ : PairsHave (mixKind X.prog X.w) raw.length (PairRel raw) prs := by
    refine ⟨rl.symm, fun i key v e => ?_⟩
    have hi := (List.getElem?_eq_some_iff.mp e).1
    obtain ⟨b, u, e1, e2, e3, e4⟩ := hraw i (prs[i]'(by omega)) (List.getElem?_eq_getElem _)
    rw [show raw[i]? = some (key, v) from e] at e2
    cases e2
    exact ⟨(prs[i]'(by omega)).1, List.getElem?_eq_getElem _, e4⟩
  refine PySem.call_dict_pairs (PairArg.tuple a (ps.map Value.ref).toArray (fun j => ps.getD j 0) raw) (I.ok.hd hcalm) ⟨pl, items⟩ have_ (by rw [rl, hl]; exact hz) fun h' tk hd' k => ?_
  have hm : (s.heap.objs.size == sysModules) = false := beq_eq_false_iff_ne.mpr (Nat.ne_of_gt I.big)
  have hlen : (mergeK [] kvs).length ≤ sizeLine := by
    refine Nat.le_trans (length_mergeK kvs []) ?_
    rw [List.length_nil, Nat.zero_add, rel.length, hl]
    exact hz
  exact ⟨.ref s.heap.objs.size, upd H s.heap.objs.size (.dK (mergeK [] kvs)), I.laid (t' := tk) (fun b o e => k b o (by simp) e) (Nat.le_refl _) (show ObjOk X.prog X.w _ _ _ (.dK (mergeK [] kvs)) from ⟨hlen, hm, merged [] prs, KV.merge rel .nil, hd'⟩), rfl, q _ (I.hok.fresh (Nat.le_refl _))⟩
end
end QN

/-! heaps that differ in new things and in what the code tables hold -/
namespace Qp
open PySem PySem.Spec PyProof.Rows L2 QN
def NoTb (o : HO) : Prop := ∀ ps, o ≠ .tbl ps
/-- what is no table stands as it stood, tables are tables -/
structure Sim (H H' : Hp) : Prop where
  st : ∀ b o, NoTb o → H b = some o → H' b = some o
  tb : ∀ b, GxR.TabG H b → GxR.TabG H' b
theorem Sim.refl (H : Hp) : Sim H H := ⟨fun _ _ _ e => e, fun _ e => e⟩
theorem Sim.trans {H H1 H2 : Hp} (a : Sim H H1) (b : Sim H1 H2) : Sim H H2 := ⟨fun c o n e => b.st c o n (a.st c o n e), fun c e => b.tb c (a.tb c e)⟩
theorem tabG_same {H H' : Hp} {b : Addr} (s : Same H H') (h : GxR.TabG H b) : GxR.TabG H' b := by
  obtain ⟨ps, e, t⟩ := h
  exact ⟨ps, s _ _ e, t⟩
theorem Sim.of {H H' : Hp} (s : Same H H') : Sim H H' := ⟨fun _ _ _ e => s _ _ e, fun _ e => tabG_same s e⟩
theorem Sim.tabbed {H H' : Hp} {P : Addr} (g : GxR.TabG H P) (h : GxR.Tabbed P H H') : Sim H H' := by
  obtain ⟨t, k⟩ := h
  refine ⟨fun b o n e => ?_, fun b e => ?_⟩
  · by_cases z : b = P
    · obtain ⟨ps, e2, _⟩ := g
      rw [z, e2] at e
      cases e
      exact absurd rfl (n ps)
    · rw [k b z]
      exact e
  · by_cases z : b = P
    · rw [z]
      exact t
    · obtain ⟨ps, e2, t2⟩ := e
      exact ⟨ps, by rw [k b z]; exact e2, t2⟩
theorem nt_lst (xs : List V) : NoTb (.lst xs) := fun _ e => by cases e
theorem nt_tup (xs : List V) : NoTb (.tup xs) := fun _ e => by cases e
theorem nt_frz (o : Obj) (u : HO) : NoTb (.frz o u) := fun _ e => by cases e
theorem nt_ins (C dx : Addr) (fs : List (Str × V)) : NoTb (.ins C dx fs) := fun _ e => by cases e
theorem nt_dK (kvs : List (Key × V)) : NoTb (.dK kvs) := fun _ e => by cases e
theorem sqT_sim {K : PySem.W.Frag} {H H' : Hp} (s : Sim H H') {q : Addr} {xs : List V} (h : SqT K H q xs) : SqT K H' q xs := by
  rcases h with (h | ⟨o, h⟩) | h
  · exact .inl (.inl (s.st _ _ (nt_tup _) h))
  · exact .inl (.inr ⟨o, s.st _ _ (nt_frz _ _) h⟩)
  · exact .inr h
theorem sqL_sim {K : PySem.W.Frag} {H H' : Hp} (s : Sim H H') {q : Addr} {xs : List V} (h : SqL K H q xs) : SqL K H' q xs := by
  rcases h with (h | ⟨o, h⟩) | h
  · exact .inl (.inl (s.st _ _ (nt_lst _) h))
  · exact .inl (.inr ⟨o, s.st _ _ (nt_frz _ _) h⟩)
  · exact .inr h
mutual
theorem dp_sim {K : PySem.W.Frag} {H H' : Hp} (s : Sim H H') : ∀ (d : PyData) (v : V), Dp K H v d → Dp K H' v d
  | .none, _, h => by cases h; exact .non
  | .bool b, _, h => by cases h; exact .bl b
  | .int i, _, h => by cases h; exact .int i
  | .str x, _, h => by cases h; exact .str x
  | .list ds, _, h => by
    cases h with
    | lst a b => exact .lst (sqL_sim s a) (dpAll_sim s ds _ b)
  | .tuple ds, _, h => by
    cases h with
    | tup a b => exact .tup (sqT_sim s a) (dpAll_sim s ds _ b)
  | .dict _, _, h => by cases h
theorem dpAll_sim {K : PySem.W.Frag} {H H' : Hp} (s : Sim H H') : ∀ (ds : List PyData) (vs : List V), DpAll K H vs ds → DpAll K H' vs ds
  | [], _, h => by cases h; exact .nil
  | d :: ds, _, h => by
    cases h with
    | cons a b => exact .cons (dp_sim s d _ a) (dpAll_sim s ds _ b)
end
/-- the same, but for what stands at x -/
structure SimX (x : Addr) (H H' : Hp) : Prop where
  st : ∀ b o, b ≠ x → NoTb o → H b = some o → H' b = some o
  tb : ∀ b, b ≠ x → GxR.TabG H b → GxR.TabG H' b
theorem SimX.of {x : Addr} {H H' : Hp} (s : Sim H H') : SimX x H H' := ⟨fun b o _ n e => s.st b o n e, fun b _ e => s.tb b e⟩
theorem SimX.trans {x : Addr} {H H1 H2 : Hp} (a : SimX x H H1) (b : SimX x H1 H2) : SimX x H H2 := ⟨fun c o z n e => b.st c o z n (a.st c o z n e), fun c z e => b.tb c z (a.tb c z e)⟩
theorem simX_upd {x : Addr} {H : Hp} {o : HO} : SimX x H (upd H x o) := ⟨fun b u z _ e => by rw [upd_ne z]; exact e, fun b z ⟨ps, e, t⟩ => ⟨ps, by rw [upd_ne z]; exact e, t⟩⟩
/-- behind a new object at x with its dict at dx -/
theorem sim_made {H H' : Hp} {x dx C : Addr} (hx : H x = none) (hd : H dx = none) (s : SimX x (upd (upd H dx (.own x)) x (.ins C dx [])) H') : Sim H H' := by
  have ne : ∀ c o, H c = some o → c ≠ x ∧ c ≠ dx := fun c o e => ⟨fun z => (by rw [z, hx] at e; cases e), fun z => (by rw [z, hd] at e; cases e)⟩
  refine ⟨fun c o n e => ?_, fun c ⟨ps, e, t⟩ => ?_⟩
  · obtain ⟨n1, n2⟩ := ne c o e
    exact s.st c o n1 n (by rw [upd_ne n1, upd_ne n2]; exact e)
  · obtain ⟨n1, n2⟩ := ne c _ e
    exact s.tb c n1 ⟨ps, by rw [upd_ne n1, upd_ne n2]; exact e, t⟩
theorem sqT_simX {K : PySem.W.Frag} {x : Addr} {H H' : Hp} {o : HO} (s : SimX x H H') (hx : H x = some o) (n1 : ∀ xs, o ≠ .tup xs) (n2 : ∀ b u, o ≠ .frz b u) {q : Addr} {xs : List V} (h : SqT K H q xs) : SqT K H' q xs := by
  rcases h with (h | ⟨b, h⟩) | h
  · exact .inl (.inl (s.st _ _ (fun z => by rw [z, hx] at h; exact n1 _ (Option.some.inj h)) (nt_tup _) h))
  · exact .inl (.inr ⟨b, s.st _ _ (fun z => by rw [z, hx] at h; exact n2 _ _ (Option.some.inj h)) (nt_frz _ _) h⟩)
  · exact .inr h
theorem sqL_simX {K : PySem.W.Frag} {x : Addr} {H H' : Hp} {o : HO} (s : SimX x H H') (hx : H x = some o) (n1 : ∀ xs, o ≠ .lst xs) (n2 : ∀ b u, o ≠ .frz b u) {q : Addr} {xs : List V} (h : SqL K H q xs) : SqL K H' q xs := by
  rcases h with (h | ⟨b, h⟩) | h
  · exact .inl (.inl (s.st _ _ (fun z => by rw [z, hx] at h; exact n1 _ (Option.some.inj h)) (nt_lst _) h))
  · exact .inl (.inr ⟨b, s.st _ _ (fun z => by rw [z, hx] at h; exact n2 _ _ (Option.some.inj h)) (nt_frz _ _) h⟩)
  · exact .inr h
/-- a row's tuple, its change a tuple without a dict -/
def PlRow (K : PySem.W.Frag) (H : Hp) (u : V) (r : Row) : Prop := ∃ (a c : Addr) (xs : List V), u = .ref a ∧ SqT K H a [.str r.n, .str r.s, .str r.t, .ref c] ∧ PlT K H c xs ∧ DpAll K H xs (r.c.map pairD)
theorem plRow_dp {K : PySem.W.Frag} {H : Hp} {u : V} {r : Row} (h : PlRow K H u r) : Dp K H u (rowD r) := by
  obtain ⟨a, c, xs, rfl, h1, h2, h3⟩ := h
  exact .tup h1 (.cons (.str _) (.cons (.str _) (.cons (.str _) (.cons (.tup h2.1 h3) .nil))))
theorem plAll_dp {K : PySem.W.Frag} {H : Hp} : ∀ {us : List V} {rs : List Row}, Paired (PlRow K H) us rs → DpAll K H us (rs.map rowD)
  | _, _, .nil => .nil
  | _, _, .cons h t => .cons (plRow_dp h) (plAll_dp t)
theorem pairD_inj {p q : Str × Int} (h : pairD p = pairD q) : p = q := by
  unfold pairD at h
  injection h with h
  injection h with h1 h
  injection h with h2 _
  injection h1 with h1
  injection h2 with h2
  exact Prod.ext h1 h2
theorem chD_inj : ∀ {c d : List (Str × Int)}, c.map pairD = d.map pairD → c = d
  | [], [], _ => rfl
  | [], _ :: _, h => by cases h
  | _ :: _, [], h => by cases h
  | p :: c, q :: d, h => by
    rw [List.map_cons, List.map_cons] at h
    injection h with h1 h2
    rw [pairD_inj h1, chD_inj h2]
theorem rowD_inj {p q : Row} (h : rowD p = rowD q) : p = q := by
  unfold rowD chD at h
  injection h with h
  injection h with h1 h
  injection h with h2 h
  injection h with h3 h
  injection h with h4 _
  injection h1 with h1
  injection h2 with h2
  injection h3 with h3
  injection h4 with h4
  cases p
  cases q
  cases h1
  cases h2
  cases h3
  cases (chD_inj h4)
  rfl
theorem plAll_zip {K : PySem.W.Frag} {H : Hp} : ∀ {us : List V} {rs : List Row}, Paired (PlRow K H) us rs → ∀ b ∈ us.zip (rs.map rowD), ∃ r, b.2 = rowD r ∧ PlRow K H b.1 r
  | _, _, .nil, b, hb => by cases hb
  | _, _, .cons (b := r) h t, b, hb => by
    rcases List.mem_cons.mp hb with rfl | hb
    · exact ⟨r, rfl, h⟩
    · exact plAll_zip t b hb
theorem zip_plAll {K : PySem.W.Frag} {H : Hp} : ∀ {bs : List (V × PyData)} {rs : List Row}, bs.map (·.2) = rs.map rowD → (∀ b ∈ bs, ∃ r, b.2 = rowD r ∧ PlRow K H b.1 r) → Paired (PlRow K H) (bs.map (·.1)) rs
  | [], [], _, _ => .nil
  | [], _ :: _, h, _ => by cases h
  | _ :: _, [], h, _ => by cases h
  | b :: bs, r :: rs, h, k => by
    rw [List.map_cons, List.map_cons] at h
    injection h with h1 h2
    obtain ⟨r', e, p⟩ := k b List.mem_cons_self
    have er : r' = r := rowD_inj (e.symm.trans h1)
    subst er
    exact .cons p (zip_plAll h2 fun c hc => k c (List.mem_cons_of_mem _ hc))
theorem plT_sim {K : PySem.W.Frag} {H H' : Hp} (s : Sim H H') {a : Addr} {xs : List V} (h : PlT K H a xs) : PlT K H' a xs := by
  obtain ⟨h1, h2⟩ := h
  refine ⟨sqT_sim s h1, ?_⟩
  rcases h2 with ⟨o, h, d⟩ | h
  · exact .inl ⟨o, s.st _ _ (nt_frz _ _) h, d⟩
  · exact .inr h
theorem plT_simX {K : PySem.W.Frag} {x : Addr} {H H' : Hp} {o : HO} (s : SimX x H H') (hx : H x = some o) (n1 : ∀ xs, o ≠ .tup xs) (n2 : ∀ b u, o ≠ .frz b u) {q : Addr} {xs : List V} (h : PlT K H q xs) : PlT K H' q xs := by
  obtain ⟨h1, h2⟩ := h
  refine ⟨sqT_simX s hx n1 n2 h1, ?_⟩
  rcases h2 with ⟨b, h, d⟩ | h
  · exact .inl ⟨b, s.st _ _ (fun z => by rw [z, hx] at h; exact n2 _ _ (Option.some.inj h)) (nt_frz _ _) h, d⟩
  · exact .inr h
mutual
/-- data stay, whatever becomes of an instance -/
theorem dp_simX {K : PySem.W.Frag} {x C dx : Addr} {fs : List (Str × V)} {H H' : Hp} (s : SimX x H H') (hx : H x = some (.ins C dx fs)) : ∀ (d : PyData) (v : V), Dp K H v d → Dp K H' v d
  | .none, _, h => by cases h; exact .non
  | .bool b, _, h => by cases h; exact .bl b
  | .int i, _, h => by cases h; exact .int i
  | .str x, _, h => by cases h; exact .str x
  | .list ds, _, h => by
    cases h with
    | lst a b => exact .lst (sqL_simX s hx (fun _ e => by cases e) (fun _ _ e => by cases e) a) (dpAll_simX s hx ds _ b)
  | .tuple ds, _, h => by
    cases h with
    | tup a b => exact .tup (sqT_simX s hx (fun _ e => by cases e) (fun _ _ e => by cases e) a) (dpAll_simX s hx ds _ b)
  | .dict _, _, h => by cases h
theorem dpAll_simX {K : PySem.W.Frag} {x C dx : Addr} {fs : List (Str × V)} {H H' : Hp} (s : SimX x H H') (hx : H x = some (.ins C dx fs)) : ∀ (ds : List PyData) (vs : List V), DpAll K H vs ds → DpAll K H' vs ds
  | [], _, h => by cases h; exact .nil
  | d :: ds, _, h => by
    cases h with
    | cons a b => exact .cons (dp_simX s hx d _ a) (dpAll_simX s hx ds _ b)
end
theorem plRow_sim {K : PySem.W.Frag} {H H' : Hp} (s : Sim H H') {u : V} {r : Row} (h : PlRow K H u r) : PlRow K H' u r := by
  obtain ⟨a, c, xs, rfl, h1, h2, h3⟩ := h
  exact ⟨a, c, xs, rfl, sqT_sim s h1, plT_sim s h2, dpAll_sim s _ _ h3⟩
theorem plRow_simX {K : PySem.W.Frag} {x C dx : Addr} {fs : List (Str × V)} {H H' : Hp} (s : SimX x H H') (hx : H x = some (.ins C dx fs)) {u : V} {r : Row} (h : PlRow K H u r) : PlRow K H' u r := by
  obtain ⟨a, c, xs, rfl, h1, h2, h3⟩ := h
  exact ⟨a, c, xs, rfl, sqT_simX s hx (fun _ e => by cases e) (fun _ _ e => by cases e) h1, plT_simX s hx (fun _ e => by cases e) (fun _ _ e => by cases e) h2, dpAll_simX s hx _ _ h3⟩
theorem plAll_sim {K : PySem.W.Frag} {H H' : Hp} (s : Sim H H') {us : List V} {rs : List Row} (h : Paired (PlRow K H) us rs) : Paired (PlRow K H') us rs := Paired.mapP h fun _ _ p => plRow_sim s p
theorem plAll_simX {K : PySem.W.Frag} {x C dx : Addr} {fs : List (Str × V)} {H H' : Hp} (s : SimX x H H') (hx : H x = some (.ins C dx fs)) {us : List V} {rs : List Row} (h : Paired (PlRow K H) us rs) : Paired (PlRow K H') us rs := Paired.mapP h fun _ _ p => plRow_simX s hx p
end Qp

/-! the class Graph: a graph is made -/
namespace Qp
open PySem PySem.Spec PyProof.Rows L2 QN
open PySem.W PySem.SeqAt
abbrev cGraph : Stmt := top 25 -- Graph
abbrev sGInit : Stmt := inClass cGraph 0 -- Graph.__init__
abbrev gInames : List Str := ["self", "counters", "states", "transitions", "row"]
theorem scGI : FnScope gInames ["self", "counters", "states", "transitions"] (defScope sGInit) := ⟨rfl, rfl, rfl, by decide +kernel, rfl, by decide +kernel, by decide +kernel⟩
/-- what the class has -/
structure GraphC (K : PySem.W.Frag) (mg : Str → Option Value) (C : Addr) : Prop where
  gC : mg "Graph" = some (.ref C)
  cls : Cls K C
  n1 : NoAttr K C "_counters"
  n2 : NoAttr K C "_states"
  n3 : NoAttr K C "_rows"
  n4 : NoAttr K C "_names"
  n5 : NoAttr K C "_by_name"
  n6 : NoAttr K C "_kept"
/-- a graph: its counters, its states, its rows by their names -/
structure Gr where
  cs : List Str
  ns : List Str
  rs : List Row
structure Gr.Ok (G : Gr) : Prop where
  ca : G.cs.Pairwise lts
  na : G.ns.Pairwise lts
  ra : (G.rs.map (·.n)).Pairwise lts
  cl : G.cs.length ≤ 5
  nl : G.ns.length ≤ 8
  rl : G.rs.length ≤ 16
  ro : ∀ r ∈ G.rs, RowOk r
  cn : ∀ c ∈ G.cs, NameOk c
  nn : ∀ c ∈ G.ns, NameOk c
def gFields (c t r n b k : Addr) : List (Str × V) := [("_counters", .ref c), ("_states", .ref t), ("_rows", .ref r), ("_names", .ref n), ("_by_name", .ref b), ("_kept", .ref k)]
def byName (rs : List Row) (us : List V) : List (Key × V) := (rs.zip us).map fun p => (Sum.inr p.1.n, p.2)
theorem byName_len (rs : List Row) (us : List V) : (byName rs us).length ≤ rs.length := by
  unfold byName
  rw [List.length_map, List.length_zip]
  exact Nat.min_le_left _ _
theorem byName_put {rs : List Row} {us : List V} {i : Nat} {r : Row} {u : V} (nd : (rs.map (·.n)).Nodup) (hr : rs[i]? = some r) (hu : us[i]? = some u) :
    putK (byName (rs.take i) (us.take i)) (Sum.inr r.n) u = byName (rs.take (i + 1)) (us.take (i + 1)) := by
  have hi := (List.getElem?_eq_some_iff.mp hr).1
  have hj := (List.getElem?_eq_some_iff.mp hu).1
  have e : byName (rs.take (i + 1)) (us.take (i + 1)) = byName (rs.take i) (us.take i) ++ [(Sum.inr r.n, u)] := by
    unfold byName
    rw [List.take_add_one, List.take_add_one, hr, hu, List.zip_append (by rw [List.length_take, List.length_take]; omega), List.map_append]
    rfl
  rw [e]
  unfold putK
  rw [if_neg]
  unfold byName
  rw [List.any_map]
  simp only [List.any_eq_true, Function.comp_apply, decide_eq_true_eq, not_exists, not_and]
  rintro ⟨q, w⟩ hq c
  have c2 : q.n = r.n := Sum.inr.inj c
  have m := (List.of_mem_zip hq).1
  have s : rs = rs.take i ++ rs.drop i := (List.take_append_drop i rs).symm
  rw [s, List.map_append] at nd
  have d := (List.nodup_append.mp nd).2.2
  refine d q.n (List.mem_map.mpr ⟨q, m, rfl⟩) r.n (List.mem_map.mpr ⟨r, ?_, rfl⟩) c2
  refine List.mem_of_getElem? (i := 0) ?_
  rw [List.getElem?_drop, Nat.add_zero]
  exact hr
/-- what the fields of a graph hold -/
structure GHas (K : PySem.W.Frag) (H : Hp) (G : Gr) (c t r n b k : Addr) (us : List V) : Prop where
  hc : SqT K H c (G.cs.map V.str)
  ht : SqT K H t (G.ns.map V.str)
  hr : SqT K H r us
  hp : Paired (PlRow K H) us G.rs
  hn : SqT K H n ((G.rs.map (·.n)).map V.str)
  hb : H b = some (.dK (byName G.rs us))
  hk : H k = some (.dK [])
def GraphAt (K : PySem.W.Frag) (C : Addr) (H : Hp) (g : Addr) (G : Gr) : Prop := ∃ dx c t r n b k us, H g = some (.ins C dx (gFields c t r n b k)) ∧ GHas K H G c t r n b k us
theorem GHas.hu {K : PySem.W.Frag} {H : Hp} {G : Gr} {c t r n b k : Addr} {us : List V} (h : GHas K H G c t r n b k us) : DpAll K H us (G.rs.map rowD) := plAll_dp h.hp
theorem gHas_sim {K : PySem.W.Frag} {H H' : Hp} {G : Gr} {c t r n b k : Addr} {us : List V} (s : Sim H H') (h : GHas K H G c t r n b k us) : GHas K H' G c t r n b k us :=
  ⟨sqT_sim s h.hc, sqT_sim s h.ht, sqT_sim s h.hr, plAll_sim s h.hp, sqT_sim s h.hn, s.st _ _ (nt_dK _) h.hb, s.st _ _ (nt_dK _) h.hk⟩
theorem graphAt_sim {K : PySem.W.Frag} {C : Addr} {H H' : Hp} {g : Addr} {G : Gr} (s : Sim H H') (h : GraphAt K C H g G) : GraphAt K C H' g G := by
  obtain ⟨dx, c, t, r, n, b, k, us, h1, h2⟩ := h
  exact ⟨dx, c, t, r, n, b, k, us, s.st _ _ (nt_ins _ _ _) h1, gHas_sim s h2⟩
/-- the parts that __init__ is given, and the graph that they make -/
structure Makes (cs ns : List Str) (rs : List Row) (G : Gr) : Prop where
  ok : ∃ x st, G.ns = x :: st ∧ GOk cs ns rs G.cs x st
  pm : G.rs.Perm rs
  as : (G.rs.map (·.n)).Pairwise lts
/-- __init__'s body: the object at x, still without fields; PI the def's table -/
def spGInit (K : PySem.W.Frag) (C PI : Addr) : Sp := fun vs H Q _ => ∃ (x dx a b v : Addr) (ps : List V) (cs ns : List Str) (rs : List Row) (G : Gr), vs = [.ref x, .ref a, .ref b, .ref v] ∧ H x = some (.ins C dx []) ∧ SqT K H a (cs.map V.str) ∧ SqT K H b (ns.map V.str) ∧ SqT K H v ps ∧ Paired (PlRow K H) ps rs ∧ GxR.TabG H PI ∧ Makes cs ns rs G ∧
  ∀ (c t r n d k : Addr) (us : List V) (H' : Hp), H' x = some (.ins C dx (gFields c t r n d k)) → GHas K H' G c t r n d k us → SimX x H H' → Q .non H'
section
variable {P : Program} {w : World} {K : PySem.W.Frag} {mg : Str → Option Value} {base : Heap}
theorem body_init {fA fI f cI PI C : Addr} {fdA fdI : FuncData} (GA : FnOk P w K mg base CX0 1 fA fdA ["transitions", "states"] (spAll K)) (kA : PySem.W.keepIn K (.ref fA) = true) (bA : L2.Binds K fdA ["transitions", "states"] []) (gA : mg "_all_states" = some (.ref fA))
    (GI : FnOk P w K mg base CX0 6 fI fdI ["counters", "transitions", "states"] (spIsG K)) (kI : PySem.W.keepIn K (.ref fI) = true) (bI : L2.Binds K fdI ["counters", "transitions", "states"] []) (gI : mg "_is_graph" = some (.ref fI)) (B : BltP mg) (L : Lim3 mg) (T : GraphC K mg C) (TB : GxR.TabB base mg cI PI)
    (A : Around) (outer : List Env) (s : Shared) (H : Hp) (vs : List V) (Q : VK) (E : XK) (hr : Room 6 (A.deeper (envOfC "Graph.__init__" (defScope sGInit) s.heap.objs.size f (.ref cI)))) (h : spGInit K C PI vs H Q E) :
    ∃ t, PSs (cxOf CX0 P w K mg base gInames "Graph.__init__" (defScope sGInit) f (.ref cI) A outer s H E) (defBody sGInit) t ∧ t { nx := fun _ H' => Q .non H', rt := Q } (start gInames vs) H := by
  obtain ⟨x, dx, a, b, v, us, cs, ns, rs, G, rfl, hx, ha, hb, hv, hpl, tab, M, k⟩ := h
  have hu := plAll_dp hpl
  have hd : Dp K H (.ref v) (.tuple (rs.map rowD)) := .tup hv hu
  have hu1 : (A.deeper (envOfC "Graph.__init__" (defScope sGInit) s.heap.objs.size f (.ref cI))).units + 64 < cLine := by
    have := hr.un
    omega
  have r1 := hr.mono (by decide : 1 ≤ 6)
  refine ⟨_, pss_cons (ps_if (pt_not (pt_val (pe_call GI hr (by rfl) gI kI bI .nil pass0 (pa_cons (pv 1) (pa_cons (pv 3) (pa_cons (pv 2) pa_nil)))))) (pss_one ps_never) pss_nil)
    (pss_cons (ps_fld (pv 0) (pe_callTy call_tuple_of (by rfl) B.tuple (by decide +kernel) (pa_cons (pe_callB (r := rSortedTx P w) (cr_sortedTx rfl hu1) (by rfl) L.so (by decide +kernel) (pa_cons (pe_callTy (r := rSetTx K P w) (cr_setTx rfl) (by rfl) L.se (by decide +kernel) (pa_cons (pv 1) pa_nil)) pa_nil)) pa_nil)) rfl)
    (pss_cons (ps_fld (pv 0) (pe_callTy call_tuple_of (by rfl) B.tuple (by decide +kernel) (pa_cons (pe_call GA r1 (by rfl) gA kA bA .nil pass0 (pa_cons (pv 3) (pa_cons (pv 2) pa_nil))) pa_nil)) rfl)
    (pss_cons (ps_fld (pv 0) (pe_callTy call_tuple_of (by rfl) B.tuple (by decide +kernel) (pa_cons (pe_callB (r := rSortedDt K) (cr_sortedDt hu1) (by rfl) L.so (by decide +kernel) (pa_cons (pv 3) pa_nil)) pa_nil)) rfl)
    (pss_cons (ps_fld (pv 0) (pe_tupG hr (by rfl) B.tuple TB rfl (sc := defScope sGInit) rfl ⟨rfl, rfl, by decide +kernel, by rfl, by decide +kernel⟩ (pe_fld (pv 0) rfl) (fun _ => rfl) (by decide +kernel)) rfl)
    (pss_cons (ps_fld (pv 0) (pe_dc (own := [("row", 4)]) (g := gName 4) (tt := tYes) (tk := tOp (rIxT K) (tVar 4) (tC (.int 0))) (tv := tVar 4) rfl scGI.nd (pi_tup (pe_fld (pv 0) rfl)) (blkOk_by (N := gInames) (sc := defScope sGInit) (by decide +kernel))
      (fun _ _ _ _ _ => pg_name (i := 4) scGI.nd rfl (.inl rfl)) (fun _ _ _ _ _ => pts_nil) (fun _ _ _ _ _ => pe_ix ix_tup (pv 4) pe_int (fun _ _ => rfl)) (fun _ _ _ _ _ => pv 4)) rfl)
    (pss_one (ps_fld (pv 0) pe_dnewK rfl))))))), ?_⟩
  obtain ⟨⟨x0, st0, eN, GO⟩, pm, as⟩ := M
  have ul : us.length = rs.length := by rw [dpAll_len hu, List.length_map]
  have c16 := GO.cl
  have n16 := GO.nl
  have r16 := GO.rl
  have NT : NoTb (.ins C dx []) := nt_ins _ _ _
  refine ⟨_, rfl, _, rfl, _, rfl, a, b, .ref v, cs, ns, rs, G.cs, x0, st0, rfl, ha, hd, hb, GO, fun H1 s1 => ⟨_, rfl, if_no (by decide) ?_⟩⟩
  -- the counters
  refine ⟨_, rfl, a, cs, rfl, .inr (sqT_same s1 ha), (by show cs.length + 1 < 4096; omega), fun p l hp nd ll me => ⟨p, l, rfl, upd_same, (by omega), fun ce m hce pm2 => ?_⟩⟩
  rw [ec_of nd GO.ea GO.em pm2 me]
  refine ⟨ce, _, rfl, .inl ⟨.inl (.inl upd_same), fun c hc => ⟨_, rfl, x, C, dx, [], rfl, ?_, T.cls, T.n1, by decide, ?_⟩⟩⟩
  · exact (s1.trans ((same_new hp).trans ((same_new hce).trans (same_new hc)))) _ _ hx
  have sA := s1.trans ((same_new (o := TxSetO P w p l) hp).trans ((same_new (o := .lst (G.cs.map V.str)) hce).trans (same_new (o := .tup (G.cs.map V.str)) hc)))
  have fc : SqT K (upd (upd (upd H1 p (TxSetO P w p l)) ce (.lst (G.cs.map V.str))) c (.tup (G.cs.map V.str))) c (G.cs.map V.str) := .inl (.inl upd_same)
  generalize upd (upd (upd H1 p (TxSetO P w p l)) ce (.lst (G.cs.map V.str))) c (.tup (G.cs.map V.str)) = HA at sA fc
  clear hp hce hc me nd ll pm2 s1
  have xA := sA _ _ hx
  have sB : SimX x HA (upd HA x (.ins C dx (putF "_counters" (.ref c) []))) := simX_upd
  have xB : (upd HA x (.ins C dx (putF "_counters" (.ref c) []))) x = some (.ins C dx [("_counters", .ref c)]) := upd_same
  generalize upd HA x (.ins C dx (putF "_counters" (.ref c) [])) = HB at sB xB
  have fcB := sqT_simX sB xA (fun _ e => by cases e) (fun _ _ e => by cases e) fc
  have SB : SimX x H HB := (SimX.of (Sim.of sA)).trans sB
  have nxt : ∀ {xs : List V} {q : Addr}, SqT K H q xs → SqT K HB q xs := fun h => sqT_simX SB hx (fun _ e => by cases e) (fun _ _ e => by cases e) h
  have nxd : ∀ {d : PyData} {v : V}, Dp K H v d → Dp K HB v d := fun h => dp_simX SB hx _ _ h
  -- the states
  refine ⟨_, rfl, _, rfl, .ref v, b, rs, ns, x0 :: st0, rfl, nxd hd, nxt hb, GO.sa, GO.sm, by omega, by omega, fun es H5 s5 hes => ⟨es, _, rfl, .inl ⟨.inl (.inl hes), fun t ht => ⟨_, rfl, x, C, dx, [("_counters", .ref c)], rfl, ?_, T.cls, T.n2, (by show (1 : Nat) < 1000; decide), ?_⟩⟩⟩⟩
  · exact (s5.trans (same_new ht)) _ _ xB
  have sC := s5.trans (same_new (o := .tup ((x0 :: st0).map V.str)) ht)
  have ft : SqT K (upd H5 t (.tup ((x0 :: st0).map V.str))) t (G.ns.map V.str) := by
    rw [eN]
    exact .inl (.inl upd_same)
  generalize upd H5 t (.tup ((x0 :: st0).map V.str)) = HC at sC ft
  clear ht hes s5
  have xC := sC _ _ xB
  have fcC := sqT_same sC fcB
  have sD : SimX x HC (upd HC x (.ins C dx (putF "_states" (.ref t) [("_counters", .ref c)]))) := simX_upd
  have xD : (upd HC x (.ins C dx (putF "_states" (.ref t) [("_counters", .ref c)]))) x = some (.ins C dx [("_counters", .ref c), ("_states", .ref t)]) := upd_same
  generalize upd HC x (.ins C dx (putF "_states" (.ref t) [("_counters", .ref c)])) = HD at sD xD
  have fcD := sqT_simX sD xC (fun _ e => by cases e) (fun _ _ e => by cases e) fcC
  have ftD := sqT_simX sD xC (fun _ e => by cases e) (fun _ _ e => by cases e) ft
  have SD := SB.trans ((SimX.of (Sim.of sC)).trans sD)
  clear nxt nxd
  have nxt : ∀ {xs : List V} {q : Addr}, SqT K H q xs → SqT K HD q xs := fun h => sqT_simX SD hx (fun _ e => by cases e) (fun _ _ e => by cases e) h
  have nxa : ∀ {ds : List PyData} {vs : List V}, DpAll K H vs ds → DpAll K HD vs ds := fun h => dpAll_simX SD hx _ _ h
  -- the rows
  have nd : (rs.map (·.n)).Nodup := (List.nodup_append.mp GO.nd).2.1
  have bz1 : (us.zip (rs.map rowD)).map (·.1) = us := fst_zip (by rw [List.length_map]; exact ul)
  have bz2 : (us.zip (rs.map rowD)).map (·.2) = rs.map rowD := snd_zip (by rw [List.length_map]; exact ul)
  refine ⟨_, rfl, v, us.zip (rs.map rowD), rfl, .inr (by rw [bz1]; exact nxt hv), zip_dpAll (nxa hu), (by rw [bz2]; exact AllAlike.of alike_row), (by rw [bz2]; exact Sortable.tuples fun r => ⟨_, _, rfl⟩), fun p hp => ?_, fun rl hrl => ⟨rl, _, rfl, .inl ⟨.inl (.inl upd_same), fun r hr2 => ⟨_, rfl, x, C, dx, [("_counters", .ref c), ("_states", .ref t)], rfl, ?_, T.cls, T.n3, (by show (2 : Nat) < 1000; decide), ?_⟩⟩⟩⟩
  · have m : p.2 ∈ rs.map rowD := by
      rw [← bz2]
      exact List.mem_map.mpr ⟨p, hp, rfl⟩
    obtain ⟨q, _, e⟩ := List.mem_map.mp m
    rw [← e]
    have := depth_row q
    omega
  · exact ((same_new hrl).trans (same_new hr2)) _ _ xD
  have hu2 : DpAll K HD (((us.zip (rs.map rowD)).mergeSort (dataLe false (·.2))).map (·.1)) (G.rs.map rowD) := by
    have z := dpAll_zip (bs := (us.zip (rs.map rowD)).mergeSort (dataLe false (·.2))) fun q hq => zip_dpAll (nxa hu) q ((List.mergeSort_perm _ _).mem_iff.mp hq)
    rw [sort_rows ul nd pm as] at z
    exact z
  have hws : Paired (PlRow K HD) (((us.zip (rs.map rowD)).mergeSort (dataLe false (·.2))).map (·.1)) G.rs := zip_plAll (sort_rows ul nd pm as) fun q hq => by
    obtain ⟨r, e, p⟩ := plAll_zip hpl q ((List.mergeSort_perm _ _).mem_iff.mp hq)
    exact ⟨r, e, plRow_simX SD hx p⟩
  generalize ((us.zip (rs.map rowD)).mergeSort (dataLe false (·.2))).map (·.1) = ws at hu2 hr2 hws
  have wl : ws.length = G.rs.length := by rw [dpAll_len hu2, List.length_map]
  have sE := (same_new (o := .lst ws) hrl).trans (same_new (o := .tup ws) hr2)
  have fr : SqT K (upd (upd HD rl (.lst ws)) r (.tup ws)) r ws := .inl (.inl upd_same)
  generalize upd (upd HD rl (.lst ws)) r (.tup ws) = HE at sE fr
  clear hrl hr2 bz1 bz2
  have xE := sE _ _ xD
  have fcE := sqT_same sE fcD
  have ftE := sqT_same sE ftD
  have huE := dpAll_same sE _ _ hu2
  have hwE := plAll_sim (Sim.of sE) hws
  have sF : SimX x HE (upd HE x (.ins C dx (putF "_rows" (.ref r) [("_counters", .ref c), ("_states", .ref t)]))) := simX_upd
  have xF : (upd HE x (.ins C dx (putF "_rows" (.ref r) [("_counters", .ref c), ("_states", .ref t)]))) x = some (.ins C dx [("_counters", .ref c), ("_states", .ref t), ("_rows", .ref r)]) := upd_same
  generalize upd HE x (.ins C dx (putF "_rows" (.ref r) [("_counters", .ref c), ("_states", .ref t)])) = HF at sF xF
  have fcF := sqT_simX sF xE (fun _ e => by cases e) (fun _ _ e => by cases e) fcE
  have ftF := sqT_simX sF xE (fun _ e => by cases e) (fun _ _ e => by cases e) ftE
  have frF := sqT_simX sF xE (fun _ e => by cases e) (fun _ _ e => by cases e) fr
  have huF := dpAll_simX sF xE _ _ huE
  have hwF := plAll_simX sF xE hwE
  have SF := SD.trans ((SimX.of (Sim.of sE)).trans sF)
  clear nxt nxa
  have nxP : PI ≠ x := fun z => by
    obtain ⟨ps, e, _⟩ := tab
    rw [z, hx] at e
    cases e
  have tabF := SF.tb _ nxP tab
  -- the names
  have rows : ∀ j z, ws[j]? = some z → ∃ (q : Addr) (zs : List V), z = .ref q ∧ SqT K HF q zs ∧ atI zs 0 = some (.str ((G.rs.map (fun r : Row => r.n)).getD j "")) := fun j z hz => by
    obtain ⟨d, hd', dz⟩ := dpAll_at huF hz
    rw [List.getElem?_map] at hd'
    cases hc : G.rs[j]? with
    | none => rw [hc] at hd'; cases hd'
    | some row =>
      rw [hc] at hd'
      cases (Option.some.inj hd' : rowD row = d)
      obtain ⟨q, cv, rfl, hq, _⟩ := dp_row dz
      refine ⟨q, _, rfl, hq, ?_⟩
      rw [List.getD_eq_getElem?_getD, List.getElem?_map, hc]
      rfl
  refine ⟨_, rfl, x, C, dx, _, _, rfl, xF, T.cls, T.n3, rfl, r, ws, fun _ => true, fun j => .str ((G.rs.map (fun r : Row => r.n)).getD j ""), rfl, frF, tabF, body_ix tabF rfl rfl rfl rows, fun H2 n TT hn2 => ⟨_, rfl, x, C, dx, [("_counters", .ref c), ("_states", .ref t), ("_rows", .ref r)], rfl, ?_, T.cls, T.n4, (by show (3 : Nat) < 1000; decide), ?_⟩⟩
  · exact same_new hn2 _ _ ((Sim.tabbed tabF TT).st _ _ (nt_ins _ _ _) xF)
  have kept : keptG ws.length (fun _ => true) (fun j => V.str ((G.rs.map (fun r : Row => r.n)).getD j "")) = (G.rs.map (·.n)).map V.str := by
    unfold keptG
    rw [List.filter_eq_self.mpr (fun _ _ => rfl), wl]
    refine List.ext_getElem? fun i => ?_
    rw [List.getElem?_map, List.getElem?_map]
    rcases Nat.lt_or_ge i G.rs.length with lt | ge
    · rw [List.getElem?_range lt, Option.map_some, List.getD_eq_getElem?_getD, List.getElem?_map, List.getElem?_eq_getElem lt]
      rfl
    · rw [List.getElem?_eq_none (by rw [List.length_range]; exact ge), List.getElem?_eq_none (by rw [List.length_map]; exact ge)]
      rfl
  rw [kept]
  have sG := (Sim.tabbed tabF TT).trans (Sim.of (same_new (o := .tup ((G.rs.map (·.n)).map V.str)) hn2))
  have fn : SqT K (upd H2 n (.tup ((G.rs.map (·.n)).map V.str))) n ((G.rs.map (·.n)).map V.str) := .inl (.inl upd_same)
  generalize upd H2 n (.tup ((G.rs.map (·.n)).map V.str)) = HG at sG fn
  clear hn2 TT
  have xG := sG.st _ _ (nt_ins _ _ _) xF
  have sH : SimX x HG (upd HG x (.ins C dx (putF "_names" (.ref n) [("_counters", .ref c), ("_states", .ref t), ("_rows", .ref r)]))) := simX_upd
  have xH : (upd HG x (.ins C dx (putF "_names" (.ref n) [("_counters", .ref c), ("_states", .ref t), ("_rows", .ref r)]))) x = some (.ins C dx [("_counters", .ref c), ("_states", .ref t), ("_rows", .ref r), ("_names", .ref n)]) := upd_same
  generalize upd HG x (.ins C dx (putF "_names" (.ref n) [("_counters", .ref c), ("_states", .ref t), ("_rows", .ref r)])) = HH at sH xH
  have fcH := sqT_simX sH xG (fun _ e => by cases e) (fun _ _ e => by cases e) (sqT_sim sG fcF)
  have ftH := sqT_simX sH xG (fun _ e => by cases e) (fun _ _ e => by cases e) (sqT_sim sG ftF)
  have frH := sqT_simX sH xG (fun _ e => by cases e) (fun _ _ e => by cases e) (sqT_sim sG frF)
  have huH := dpAll_simX sH xG _ _ (dpAll_sim sG _ _ huF)
  have hwH := plAll_simX sH xG (plAll_sim sG hwF)
  have fnH := sqT_simX sH xG (fun _ e => by cases e) (fun _ _ e => by cases e) fn
  have SH := SF.trans ((SimX.of sG).trans sH)
  -- the rows by their names
  have nd2 : (G.rs.map (·.n)).Nodup := (pm.map _).nodup_iff.mpr nd
  refine ⟨_, rfl, x, C, dx, _, _, rfl, xH, T.cls, T.n3, rfl, r, rfl, ⟨_, frH⟩, fun D hD => ?_⟩
  refine dc_tup (xs := ws) (fun i H' => Same HH H' ∧ H' D = some (.dK (byName (G.rs.take i) (ws.take i)))) ⟨same_new hD, upd_same⟩ (fun i H' _ p => sqT_same p.1 frH) (fun i z H' hz p => ?_) fun H' p => ?_
  · obtain ⟨p1, p2⟩ := p
    obtain ⟨d, hd', dz⟩ := dpAll_at (dpAll_same p1 _ _ huH) hz
    rw [List.getElem?_map] at hd'
    cases hc : G.rs[i]? with
    | none => rw [hc] at hd'; cases hd'
    | some row =>
      rw [hc] at hd'
      cases (Option.some.inj hd' : rowD row = d)
      obtain ⟨q, cv, rfl, hq, _⟩ := dp_row dz
      refine ⟨rfl, yes_if ⟨_, rfl, q, _, 0, .str row.n, rfl, rfl, hq, rfl, _, rfl, byName (G.rs.take i) (ws.take i), Sum.inr row.n, rfl, p2, ?_, same_upd' p1 hD, ?_⟩⟩
      · refine Nat.lt_of_le_of_lt (byName_len _ _) ?_
        rw [List.length_take, sizeLine_eq, pm.length_eq]
        omega
      · rw [upd_same, byName_put nd2 hc hz]
  obtain ⟨sm, hb2⟩ := p
  rw [List.take_of_length_le (by rw [wl]; exact Nat.le_refl _), List.take_of_length_le (Nat.le_refl _)] at hb2
  refine ⟨_, rfl, x, C, dx, [("_counters", .ref c), ("_states", .ref t), ("_rows", .ref r), ("_names", .ref n)], rfl, sm _ _ xH, T.cls, T.n5, (by show (4 : Nat) < 1000; decide), ?_⟩
  have xI := sm _ _ xH
  have sJ : SimX x H' (upd H' x (.ins C dx (putF "_by_name" (.ref D) [("_counters", .ref c), ("_states", .ref t), ("_rows", .ref r), ("_names", .ref n)]))) := simX_upd
  have xJ : (upd H' x (.ins C dx (putF "_by_name" (.ref D) [("_counters", .ref c), ("_states", .ref t), ("_rows", .ref r), ("_names", .ref n)]))) x = some (.ins C dx [("_counters", .ref c), ("_states", .ref t), ("_rows", .ref r), ("_names", .ref n), ("_by_name", .ref D)]) := upd_same
  generalize upd H' x (.ins C dx (putF "_by_name" (.ref D) [("_counters", .ref c), ("_states", .ref t), ("_rows", .ref r), ("_names", .ref n)])) = HJ at sJ xJ
  -- what is kept
  refine fun kp hkp => ⟨_, rfl, x, C, dx, [("_counters", .ref c), ("_states", .ref t), ("_rows", .ref r), ("_names", .ref n), ("_by_name", .ref D)], rfl, same_new hkp _ _ xJ, T.cls, T.n6, (by show (5 : Nat) < 1000; decide), ?_⟩
  have nx : kp ≠ x := fun z => by rw [z, xJ] at hkp; cases hkp
  have sK : SimX x HJ (upd (upd HJ kp (.dK [])) x (.ins C dx (gFields c t r n D kp))) := (SimX.of (Sim.of (same_new hkp))).trans simX_upd
  have sZ := (SimX.of (Sim.of sm)).trans (sJ.trans sK)
  have nD : D ≠ x := fun z => by
    rw [z, xH] at hD
    cases hD
  refine k c t r n D kp ws (upd (upd HJ kp (.dK [])) x (.ins C dx (gFields c t r n D kp))) upd_same ⟨?_, ?_, ?_, ?_, ?_, ?_, ?_⟩ (SH.trans sZ)
  · exact sqT_simX sZ xH (fun _ e => by cases e) (fun _ _ e => by cases e) fcH
  · exact sqT_simX sZ xH (fun _ e => by cases e) (fun _ _ e => by cases e) ftH
  · exact sqT_simX sZ xH (fun _ e => by cases e) (fun _ _ e => by cases e) frH
  · exact plAll_simX sZ xH hwH
  · exact sqT_simX sZ xH (fun _ e => by cases e) (fun _ _ e => by cases e) fnH
  · exact (sJ.trans sK).st _ _ nD (nt_dK _) hb2
  · rw [upd_ne nx, upd_same]
end
end Qp

/-! a def (a, .., *b, k=..) called without some of its keywords: the defaults stand in the def's dict -/
namespace QN
open PySem PySem.Spec PyProof.Rows L2 PySem.W
/-- t leads to t' where all of h stands -/
def Leads {α : Type} (M : Model) (h : Heap) (t t' : Sem α) : Prop := ∀ (A : Around) (Q : α → Shared → Prop) (E : Value → Shared → Prop) (s : Shared), (∀ b o, h.get? b = some o → s.heap.get? b = some o) → wpAny M A t' Q E s → wpAny M A t Q E s
theorem Leads.of {α : Type} {M : Model} {h : Heap} {t t' : Sem α} (e : t = t') : Leads M h t t' := fun _ _ _ _ _ q => by
  rw [e]
  exact q
theorem Leads.kw {α β γ : Type} {K : Frag} {M : Model} {h : Heap} {D : Addr} {x : Str} {v : Value} {t t' : Sem α} {k1 : Option Value → Sem β} {k2 : β → Sem γ} {k3 : γ → Sem α} {a : β} (X : K.In h) (hv : nsIn K D x = some (some v)) (e1 : t = ((nsGet D x >>= k1) >>= k2) >>= k3)
    (e2 : k1 (some v) = pure a) (e3 : (k2 a >>= k3) = t') : Leads M h t t' := fun A Q E s k q => by
  rw [e1, bind_assoc]
  have l1 : Looks M h (nsGet D x >>= k1) a := (looks_nsIn X hv).andThen (Looks.of_pure e2)
  exact wpAny_bind (l1 A _ E s k (by rw [e3]; exact q))
section
variable {CX : CXT} {P : Program} {w : World} {K : Frag} {mg : Str → Option Value} {base : Heap} {k n : Nat} {f : Addr} {name qual : Str} {params : Arguments} {body : List Stmt} {scope : Scope} {dV kV doc pm cdv ct oc : Value} {an od : Option Addr}
  {osl : Array (Option Value)} {N qs ks : List Str} {sp : Sp}
theorem fn_starL {pv : Str} {dvs : List V} {dv : List Value} (lk : K.lookup f = some ⟨oc, od, .func (fnOf name qual params body scope dV kV doc pm an cdv ct), osl⟩) (hcd : codeIn K cdv qual = true) (S : FnScope N (qs ++ [pv]) scope) (hCX : StX.CXUp CX)
    (hq : qs.length = n + ks.length + dvs.length) (rd : Vals dvs dv)
    (hb : ∀ us rest ws : List Value, us.length = n → ws.length = ks.length → ∀ (M : Model) (h : Heap), K.In h → Leads M h (bindArgs (fnOf name qual params body scope dV kV doc pm an cdv ct) ⟨us ++ rest, ks.zip ws⟩) (newTuple rest >>= fun t => pure (qs.zip (us ++ ws ++ dv) ++ [(pv, t)])))
    (hbody : ∀ (A : Around) (outer : List Env) (s : Shared) (H : Hp) (vs : List V) (Q : VK) (E : XK), Room k (A.deeper (envOfC qual scope s.heap.objs.size f cdv)) → sp vs H Q E →
      ∃ t, PSs (cxOf CX P w K mg base N qual scope f cdv A outer s H E) body t ∧ t { nx := fun _ H' => Q .non H', rt := Q } (start N vs) H) :
    FnRK P w K mg base CX (k + 1) f ks (fun vs zs H Q E => ∃ wa rest, vs = wa ++ rest ∧ wa.length = n ∧ rest.length ≤ sizeLine ∧ ∀ p, H p = Option.none → sp (wa ++ zs ++ dvs ++ [V.ref p]) (upd H p (.tup rest)) Q E) := by
  intro A outer s H us ws vs zs Q E hr e0 r rz lz ⟨wa, rest, ev, la, lr, go⟩
  subst ev
  obtain ⟨u1, u2, eu, r1, r2⟩ := StX.vals_split r
  subst eu
  have hn : H s.heap.objs.size = Option.none := e0.hok.fresh (Nat.le_refl _)
  have n1 : u1.length = n := r1.length.symm.trans la
  have n2 : u2.length ≤ sizeLine := by rw [← r2.length]; exact lr
  have n3 : ws.length = ks.length := rz.length.symm.trans lz
  have nd := rd.length
  have all := (r1.append rz).append rd
  refine StX.run_bnd lk hcd S hr e0 (G := fun xs H2 => ∃ p, H p = Option.none ∧ xs = wa ++ zs ++ dvs ++ [V.ref p] ∧ H2 = upd H p (.tup rest)) (fun A' Ex Q' h => ?_) fun s2 H2 xs ⟨p, hp, ex, eH⟩ hr' => ?_
  · have inK : K.In s.heap := e0.mod.kin.keeps fun b o e => (e0.bs b o e).1
    refine hb u1 u2 ws n1 n3 _ _ inK _ _ _ _ (fun _ _ z => z) (wpAny_bind (wpAny_newTuple (wpAny_pure ?_) n2))
    have laid : ObjOk P w (upd H s.heap.objs.size (.tup rest)) (s.heap.push ({ cls := .type "tuple", data := .seq u2.toArray } : Obj)) s.heap.objs.size (.tup rest) := ⟨lr, u2, r2, ⟨_, Heap.get?_push_size _ rfl, rfl, _, rfl⟩⟩
    have un := StX.un_laid (fs := frs outer) (s := s) (o := ({ cls := .type "tuple", data := .seq u2.toArray } : Obj)) (u := .tup rest) hn
    have ql : qs.length = (u1 ++ ws ++ dv).length := by
      rw [List.length_append, List.length_append, hq, n1, n3, nd]
    have done := h _ _ (wa ++ zs ++ dvs ++ [V.ref s.heap.objs.size]) (u1 ++ ws ++ dv ++ [Value.ref s.heap.objs.size]) (StX.env0_laid e0 laid) un rfl (fun e s' => hCX outer s H _ _ E e s' un (fun b o q => Heap.get?_push_of_some _ q) rfl) (all.append (.cons rfl .nil))
      (by have z := all.length; simp only [List.length_append, List.length_singleton] at z ql ⊢; omega) ⟨_, hn, rfl, rfl⟩
    rw [List.zip_append ql] at done
    exact done
  · subst ex eH
    exact hbody A outer s2 _ _ Q E hr' (go p hp)
end
end QN

/-! Graph(..) and Graph.of(..) -/
namespace Qp
open PySem PySem.Spec PyProof.Rows L2 QN
abbrev sGOf : Stmt := inClass cGraph 1 -- Graph.of
abbrev gOnames : List Str := ["cls", "counters", "transitions", "states"]
theorem scGOf : FnScope gOnames gOnames (defScope sGOf) := ⟨rfl, rfl, rfl, by decide +kernel, rfl, by decide +kernel, by decide +kernel⟩
/-- the new object at x: what is made of the parts -/
def spMk (K : PySem.W.Frag) (C PI : Addr) : List V → List V → Hp → VK → XK → Prop := fun vs zs H Q _ => ∃ (x dx a b : Addr) (us : List V) (cs ns : List Str) (rs : List Row) (G : Gr), vs = .ref x :: .ref a :: us ∧ zs = [.ref b] ∧ H x = some (.ins C dx []) ∧ SqT K H a (cs.map V.str) ∧ SqT K H b (ns.map V.str) ∧
  Paired (PlRow K H) us rs ∧ GxR.TabG H PI ∧ Makes cs ns rs G ∧ ∀ (H' : Hp), GraphAt K C H' x G → SimX x H H' → Q .non H'
def spGOf (K : PySem.W.Frag) (C PI : Addr) : Sp := fun vs H Q _ => ∃ (a b v : Addr) (us : List V) (cs ns : List Str) (rs : List Row) (G : Gr), vs = [.ref C, .ref a, .ref v, .ref b] ∧ SqT K H a (cs.map V.str) ∧ SqT K H b (ns.map V.str) ∧ SqT K H v us ∧ Paired (PlRow K H) us rs ∧ GxR.TabG H PI ∧ Makes cs ns rs G ∧
  ∀ (g : Addr) (H' : Hp), Sim H H' → GraphAt K C H' g G → Q (.ref g) H'
section
variable {P : Program} {w : World} {K : PySem.W.Frag} {mg : Str → Option Value} {base : Heap}
/-- __init__ of a, *us with states = b -/
theorem init_kw {oc : Value} {od : Option Addr} {doc pm ct : Value} {an : Option Addr} {osl : Array (Option Value)} {f fA fI cI PI C D : Addr} {fdA fdI : FuncData}
    (lk : K.lookup f = some ⟨oc, od, .func (PySem.W.fnOf "__init__" "Graph.__init__" (defArgs sGInit) (defBody sGInit) (defScope sGInit) .none (.ref D) doc pm an (.ref cI) ct), osl⟩) (hcd : PySem.W.codeIn K (.ref cI) "Graph.__init__" = true)
    (GA : FnOk P w K mg base CX0 1 fA fdA ["transitions", "states"] (spAll K)) (kA : PySem.W.keepIn K (.ref fA) = true) (bA : L2.Binds K fdA ["transitions", "states"] []) (gA : mg "_all_states" = some (.ref fA))
    (GI : FnOk P w K mg base CX0 6 fI fdI ["counters", "transitions", "states"] (spIsG K)) (kI : PySem.W.keepIn K (.ref fI) = true) (bI : L2.Binds K fdI ["counters", "transitions", "states"] []) (gI : mg "_is_graph" = some (.ref fI)) (B : BltP mg) (L : Lim3 mg) (T : GraphC K mg C) (TB : GxR.TabB base mg cI PI) :
    FnRK P w K mg base CX0 7 f ["states"] (spMk K C PI) := by
  refine FnRK.imp (fn_starK (n := 2) (qs := ["self", "counters", "states"]) (pv := "transitions") (dvs := []) (dv := []) (sp := spGInit K C PI) lk hcd scGI StX.cxUp_none rfl .nil (fun us rest ws hl hw => ?bind) fun A outer s H vs Q E hr h => body_init GA kA bA gA GI kI bI gI B L T TB A outer s H vs Q E hr h) ?imp
  case bind =>
    match us, ws, hl, hw with
    | [u1, u2], [u3], _, _ =>
      refine ⟨pure [("self", u1), ("counters", u2), ("states", u3)], ?_, fun M h _ => ?_⟩
      · cases rest with
        | nil => with_unfolding_all rfl
        | cons r rs => with_unfolding_all rfl
      · exact PySem.W.Looks.now
  case imp =>
    intro vs zs H Q E h
    obtain ⟨x, dx, a, b, us, cs, ns, rs, G, rfl, rfl, hx, ha, hb, hpl, tab, M, k⟩ := h
    have hu := plAll_dp hpl
    have hl : us.length ≤ sizeLine := by
      rw [dpAll_len hu, List.length_map, ← M.pm.length_eq, sizeLine_eq]
      obtain ⟨x0, st, _, GO⟩ := M.ok
      have := GO.rl
      rw [M.pm.length_eq]
      omega
    refine ⟨[.ref x, .ref a], us, rfl, rfl, hl, fun p hp => ?_⟩
    have sm := same_new (o := .tup us) hp
    exact ⟨x, dx, a, b, p, us, cs, ns, rs, G, rfl, sm _ _ hx, sqT_same sm ha, sqT_same sm hb, .inl (.inl upd_same), plAll_sim (Sim.of sm) hpl, tabG_same sm tab, M, fun c t r n d k2 us' H' h1 h2 s2 => k H' ⟨dx, c, t, r, n, d, k2, us', h1, h2⟩ ((SimX.of (Sim.of sm)).trans s2)⟩
/-- without states -/
def spMk0 (K : PySem.W.Frag) (C PI : Addr) : Sp := fun vs H Q _ => ∃ (x dx a : Addr) (us : List V) (cs : List Str) (rs : List Row) (G : Gr), vs = .ref x :: .ref a :: us ∧ H x = some (.ins C dx []) ∧ SqT K H a (cs.map V.str) ∧
  Paired (PlRow K H) us rs ∧ GxR.TabG H PI ∧ Makes cs [] rs G ∧ ∀ (H' : Hp), GraphAt K C H' x G → SimX x H H' → Q .non H'
theorem init_kw0 {oc : Value} {od : Option Addr} {doc pm ct : Value} {an : Option Addr} {osl : Array (Option Value)} {f fA fI cI PI C D e : Addr} {fdA fdI : FuncData}
    (lk : K.lookup f = some ⟨oc, od, .func (PySem.W.fnOf "__init__" "Graph.__init__" (defArgs sGInit) (defBody sGInit) (defScope sGInit) .none (.ref D) doc pm an (.ref cI) ct), osl⟩) (hcd : PySem.W.codeIn K (.ref cI) "Graph.__init__" = true)
    (hD : PySem.W.nsIn K D "states" = some (some (.ref e))) (he : ∀ H, SqT K H e [])
    (GA : FnOk P w K mg base CX0 1 fA fdA ["transitions", "states"] (spAll K)) (kA : PySem.W.keepIn K (.ref fA) = true) (bA : L2.Binds K fdA ["transitions", "states"] []) (gA : mg "_all_states" = some (.ref fA))
    (GI : FnOk P w K mg base CX0 6 fI fdI ["counters", "transitions", "states"] (spIsG K)) (kI : PySem.W.keepIn K (.ref fI) = true) (bI : L2.Binds K fdI ["counters", "transitions", "states"] []) (gI : mg "_is_graph" = some (.ref fI)) (B : BltP mg) (L : Lim3 mg) (T : GraphC K mg C) (TB : GxR.TabB base mg cI PI) :
    FnR P w K mg base CX0 7 f (spMk0 K C PI) := by
  refine FnR.imp (FnRK.toR (fn_starL (n := 2) (ks := []) (qs := ["self", "counters", "states"]) (pv := "transitions") (dvs := [.ref e]) (dv := [.ref e]) (sp := spGInit K C PI) lk hcd scGI StX.cxUp_none rfl (.cons rfl .nil) (fun us rest ws hl hw M h X => ?bind) fun A outer s H vs Q E hr h => body_init GA kA bA gA GI kI bI gI B L T TB A outer s H vs Q E hr h)) ?imp
  case bind =>
    match us, ws, hl, hw with
    | [u1, u2], [], _, _ =>
      cases rest with
      | nil => exact Leads.kw (D := D) (x := "states") X hD (by with_unfolding_all rfl) (by with_unfolding_all rfl) (by with_unfolding_all rfl)
      | cons r rs => exact Leads.kw (D := D) (x := "states") X hD (by with_unfolding_all rfl) (by with_unfolding_all rfl) (by with_unfolding_all rfl)
  case imp =>
    intro vs H Q E h
    obtain ⟨x, dx, a, us, cs, rs, G, rfl, hx, ha, hpl, tab, M, k⟩ := h
    have hu := plAll_dp hpl
    have hl : us.length ≤ sizeLine := by
      rw [dpAll_len hu, List.length_map, sizeLine_eq]
      obtain ⟨x0, st, _, GO⟩ := M.ok
      have := GO.rl
      omega
    refine ⟨[.ref x, .ref a], us, rfl, rfl, hl, fun p hp => ?_⟩
    have sm := same_new (o := .tup us) hp
    exact ⟨x, dx, a, e, p, us, cs, [], rs, G, rfl, sm _ _ hx, sqT_same sm ha, he _, .inl (.inl upd_same), plAll_sim (Sim.of sm) hpl, tabG_same sm tab, M, fun c t r n d k2 us' H' h1 h2 s2 => k H' ⟨dx, c, t, r, n, d, k2, us', h1, h2⟩ ((SimX.of (Sim.of sm)).trans s2)⟩
/-- of -/
theorem ok_gof {f fI PI C : Addr} {fd : FuncData} {dvs : List V} (F : FunD K "of" "Graph.of" (defArgs sGOf) (defBody sGOf) (defScope sGOf) dvs [] f fd) (M : Mk K C fI) (GI : FnRK P w K mg base CX0 7 fI ["states"] (spMk K C PI)) (B : BltP mg) : FnOk P w K mg base CX0 9 f fd gOnames (spGOf K C PI) := by
  refine FunD.ok F scGOf (fun vs H Q E h => ?_) (fun cdv A outer s H vs Q E hr h => ?_)
  · obtain ⟨a, b, v, us, cs, ns, rs, G, rfl, _⟩ := h
    rfl
  · obtain ⟨a, b, v, us, cs, ns, rs, G, rfl, ha, hb, hv, hpl, tab, Mk, k⟩ := h
    refine ⟨_, pss_cons (ps_if (pt_not (pt_val (pe_callB call_isi (by rfl) B.isi (by decide +kernel) (pa_cons (pv 2) (pa_cons (pe_bltn (v := .ty "tuple") (by rfl) B.tuple (by decide +kernel) rfl) pa_nil))))) (pss_one ps_never) pss_nil)
      (pss_one (ps_ret (pe_makeVK (i := 0) M GI hr rfl (.inl rfl) pass0 (pa_cons (pv 1) (StX.pa_star (pv 2) pa_nil)) (pk_cons (pv 3) pk_nil)))), ?_⟩
    refine ⟨_, rfl, _, _, _, _, true, rfl, .ty _, tyx_tup hv, kit_ty (by decide +kernel), _, rfl, if_no (by decide) ?_⟩
    refine ⟨rfl, _, rfl, _, rfl, v, us, rfl, .inl hv, _, rfl, rfl, fun x dx hx hdx ne => ?_⟩
    have sm : Same H (upd (upd H dx (.own x)) x (.ins C dx [])) := fun c o e => by
      have n1 : c ≠ x := fun z => by rw [z, hx] at e; cases e
      have n2 : c ≠ dx := fun z => by rw [z, hdx] at e; cases e
      rw [upd_ne n1, upd_ne n2]
      exact e
    refine ⟨x, dx, a, b, us, cs, ns, rs, G, by rw [List.append_nil], rfl, upd_same, sqT_same sm ha, sqT_same sm hb, plAll_sim (Sim.of sm) hpl, tabG_same sm tab, Mk, fun H' h1 h2 => ⟨rfl, k x H' (sim_made hx hdx h2) h1⟩⟩
end
end Qp

/-! own classes by Python's signs: x in o, o[i], len(o), truth, ==, +, * -/
namespace QN
open PySem PySem.Spec PyProof.Rows L2
section
variable {X : Cx} {pins : List (Addr × Obj)} {σ : L2.St} {H : Hp} {s : Shared} {CX : CXT} {k : Nat} {C g : Addr} {sp : Sp} {E : XK} {Q : VK} {us : List Value} {vs : List V}
theorem rv_ref (a : Addr) : L2.RelV (V.ref a) (Value.ref a) := rfl
/-- a def with its promise, called in a deeper place -/
theorem run_deep {A' : Around} (F : FnR X.prog X.w X.K X.mg X.base CX k g sp) (hr : Room k A') (e0 : Env0 X.prog X.w X.K X.mg X.base A' X.stack s H) (hx : Passes CX X E) (I : Inv X pins σ H s) (r : Vals vs us) (h : sp vs H Q E) :
    wpAny (model X.prog X.w) A' (call (.ref g) us) (EP X pins σ Q) X.xe s := by
  refine wpAny_call (codeAny_mono (F A' X.stack s H us vs Q E hr e0 r h) fun out s' got => ?_)
  match out, got with
  | .error e, got => exact hx pins σ H s e s' I got
  | .ok (.ret u), got => exact I.after got
  | .ok .next, got => exact got.elim
  | .ok .brk, got => exact got.elim
  | .ok .cont, got => exact got.elim
/-- an own method that a sign calls -/
structure OMeth (K : PySem.W.Frag) (C : Addr) (m : Str) (g : Addr) : Prop where
  at_ : PySem.W.findIn K (.ref C) m = some (some (.ref g))
  fn : PySem.W.isFn K (.ref g) = true
/-- an instance of C stands at a -/
def OAt (C : Addr) (H : Hp) (a : Addr) : Prop := ∃ dx fs, H a = some (.ins C dx fs)
theorem OAt.inst {a : Addr} (I : Inv X pins σ H s) (h : OAt C H a) : ∃ ox od, PySem.W.InstAt s.heap a ox C od := by
  obtain ⟨ox, od, J, _⟩ := StX.insC_at I (.inr h)
  exact ⟨ox, od, J⟩
end
section
variable {X : Cx} {CX : CXT} {k : Nat} {C g : Addr} {sp : Sp} {E : XK}
/-- v in o -/
def rInO (C : Addr) (sp : Sp) (E : XK) (yes : Bool) : R2 := fun v o H Q => ∃ a, o = .ref a ∧ OAt C H a ∧ sp [.ref a, v] H (fun u H' => ∃ b, u = .bl b ∧ Q (.bl (if yes then b else !b)) H') E
theorem op_inO (M : OMeth X.K C "__contains__" g) (F : FnR X.prog X.w X.K X.mg X.base CX k g sp) (hr : Room k X.A) (hx : Passes CX X E) : OpR X (compareOp .In) (rInO C sp E true) := by
  intro pins s σ H x y v u Q I rx ry h
  obtain ⟨a, rfl, ha, q⟩ := h
  obtain rfl : u = Value.ref a := ry
  obtain ⟨ox, od, J⟩ := OAt.inst I ha
  obtain ⟨m, fr⟩ := I.fr
  refine PySem.W.in_K fr I.ok.mod.kin J M.at_ M.fn (wpAny_mono (run_deep F hr I.env0 hx I (.cons (rv_ref _) (.cons rx .nil)) q) (fun w1 s1 got => ?_) fun _ _ z => z)
  obtain ⟨v1, H1, I1, r1, b, rfl, q1⟩ := got
  obtain rfl : w1 = Value.bool b := r1
  exact wpAny_truthy_bool ⟨.bl b, H1, I1, rfl, q1⟩
theorem op_notInO (M : OMeth X.K C "__contains__" g) (F : FnR X.prog X.w X.K X.mg X.base CX k g sp) (hr : Room k X.A) (hx : Passes CX X E) : OpR X (compareOp .NotIn) (rInO C sp E false) := by
  intro pins s σ H x y v u Q I rx ry h
  obtain ⟨a, rfl, ha, q⟩ := h
  obtain rfl : u = Value.ref a := ry
  obtain ⟨ox, od, J⟩ := OAt.inst I ha
  obtain ⟨m, fr⟩ := I.fr
  refine PySem.W.notIn_K fr I.ok.mod.kin J M.at_ M.fn (wpAny_mono (run_deep F hr I.env0 hx I (.cons (rv_ref _) (.cons rx .nil)) q) (fun w1 s1 got => ?_) fun _ _ z => z)
  obtain ⟨v1, H1, I1, r1, b, rfl, q1⟩ := got
  obtain rfl : w1 = Value.bool b := r1
  exact wpAny_truthy_bool ⟨.bl !b, H1, I1, rfl, q1⟩
/-- o[e] -/
def tItemO (C : Addr) (sp : Sp) (E : XK) (ta tb : TE) : TE := fun σ H Q => ta σ H fun x H1 => tb σ H1 fun y H2 => ∃ a, x = .ref a ∧ OAt C H2 a ∧ sp [.ref a, y] H2 Q E
theorem pe_itemO {a b : Expr} {ta tb : TE} {pos : Pos} (M : OMeth X.K C "__getitem__" g) (fi : PySem.W.fnIn X.K g = true) (F : FnR X.prog X.w X.K X.mg X.base CX k g sp) (hr : Room (k + 1) X.A) (hx : Passes CX X E) (ha : PE X a ta) (hb : PE X b tb)
    (hsl : ∀ o i, subscripted b true o i = runValue (.builtin "lifetime.subscript" ⟨[o, i], []⟩)) : PE X (.Subscript a b pos) (tItemO C sp E ta tb) := by
  refine ⟨fun pins s σ H Q I h => ?_⟩
  refine Subscript_ (binT ha hb I h fun v u s2 x y H2 I2 rx ry q => ?_)
  obtain ⟨p, rfl, hp, q⟩ := q
  obtain rfl : v = Value.ref p := rx
  obtain ⟨ox, od, J⟩ := OAt.inst I2 hp
  obtain ⟨m, fr⟩ := I2.fr
  exact PySem.W.sub_K fr I2.ok.mod.kin J M.at_ fi M.fn (run_deep F hr.in1 I2.env0.in1 hx I2 (.cons (rv_ref _) (.cons ry .nil)) q) (hsl _ _)
/-- len(o) -/
theorem call_lenO (M : OMeth X.K C "__len__" g) (F : FnR X.prog X.w X.K X.mg X.base CX k g sp) (hr : Room (k + 1) X.A) (hx : Passes CX X E) :
    CallR X (.builtin "len") (fun xs H Q => ∃ a, xs = [.ref a] ∧ OAt C H a ∧ sp [.ref a] H (fun u H' => ∃ n : Nat, u = .int n ∧ n ≤ sizeLine ∧ Q (.int n) H') E) := by
  intro pins s σ H xs us Q I r h
  obtain ⟨a, rfl, ha, q⟩ := h
  obtain ⟨u, rfl, ru⟩ := vals1 r
  obtain rfl : u = Value.ref a := ru
  obtain ⟨ox, od, J⟩ := OAt.inst I ha
  obtain ⟨m, fr⟩ := I.fr
  refine PySem.W.len_K fr I.ok.mod.kin J M.at_ M.fn (wpAny_mono (run_deep F hr.in1 I.env0.in1 hx I (.cons (rv_ref _) .nil) q) (fun w1 s1 got => ?_) fun _ _ z => z)
  obtain ⟨v1, H1, I1, r1, n, rfl, hn, q1⟩ := got
  obtain ⟨t, rfl⟩ := (show ∃ t, w1 = Value.int n t from r1)
  rw [sizeLine_eq] at hn
  exact ⟨⟨by omega, by omega⟩, .int n, H1, I1.tok _, ⟨_, rfl⟩, q1⟩
/-- o's truth -/
theorem tru_O (M : OMeth X.K C "__bool__" g) (F : FnR X.prog X.w X.K X.mg X.base CX k g sp) (hr : Room k X.A) (hx : Passes CX X E) :
    TruR X (fun x H Q => ∃ a, x = .ref a ∧ OAt C H a ∧ sp [.ref a] H (fun u H' => ∃ b, u = .bl b ∧ Q b H') E) := by
  intro pins s σ H x v Q I rx h
  obtain ⟨a, rfl, ha, q⟩ := h
  obtain rfl : v = Value.ref a := rx
  obtain ⟨ox, od, J⟩ := OAt.inst I ha
  obtain ⟨m, fr⟩ := I.fr
  refine PySem.W.truthy_K fr I.ok.mod.kin J M.at_ M.fn (wpAny_mono (run_deep F hr I.env0 hx I (.cons (rv_ref _) .nil) q) (fun w1 s1 got => ?_) fun _ _ z => z)
  obtain ⟨v1, H1, I1, r1, b, rfl, q1⟩ := got
  obtain rfl : w1 = Value.bool b := r1
  exact ⟨H1, I1, q1⟩
end
end QN

/-! own classes by Python's signs: ==, != -/
namespace QN
open PySem PySem.Spec PyProof.Rows L2
section
variable {prog : Program} {w : World} {A : Around} {E : Value → Shared → Prop} {s : Shared} {K : PySem.W.Frag} {x C f : Addr} {b tb : Value} {ox : Obj} {od : Option Obj}
/-- o != b by the class's own ==: what object's != makes of it -/
theorem ne_road (hu : A.units + 1 < cLine) (KX : K.In s.heap) (I : PySem.W.InstAt s.heap x ox C od) (hb : PySem.W.Looks (model prog w) s.heap (typeOf b) tb) (hn : PySem.W.notFirst K C tb = true) (hm : PySem.W.mroIn K C (.type "object") = some true)
    (hne : PySem.W.findIn K (.ref C) "__ne__" = some (some (.builtin "object.__ne__"))) (heq : PySem.W.findIn K (.ref C) "__eq__" = some (some (.ref f))) (hf : PySem.W.isFn K (.ref f) = true) {Q : Value → Shared → Prop}
    (h : wpAny (model prog w) A.in1 (call (.ref f) [.ref x, b]) (fun v s' => ∃ c, v = .bool c ∧ Q (.bool (!c)) s') E s) : wpAny (model prog w) A (richCompare .NotEq (.ref x) b) Q E s := by
  have inner : wpAny (model prog w) A (call (.builtin "object.__ne__") [.ref x, b]) (fun v s' => ∃ c, v = .bool (!c) ∧ Q (.bool (!c)) s') E s := by
    refine wpAny_call (codeAny_call_builtin PySem.F.cmp_object.ne.plain PySem.F.cmpEntry_ne (PySem.W.check_slot PySem.F.cmpKind_ne PySem.F.cmpSplit_ne (I.type.andThen (PySem.W.looks_mroIn KX hm)) (PySem.F.cmpArgs_ne _ _) ?_))
    unfold Builtin.«object.__ne__»
    repeat (first
      | with_reducible refine wpAny_cRoomFor hu ?_
      | (refine wpAny_bind (m := callSpecialIfBound? (.ref x) (Str.ofString "__eq__") [b]) (PySem.W.ifBound_K KX I heq hf (wpAny_mono h (fun r s' got => ?_) fun _ _ z => z))
         obtain ⟨c, rfl, q⟩ := got)
      | (refine wpAny_bind (m := truthy (.bool _)) (wpAny_truthy_bool ?_))
      | wp_step)
    exact ⟨_, rfl, q⟩
  have bound : wpAny (model prog w) A (callSpecialIfBound? (.ref x) "__ne__" [b]) (fun r s' => ∃ c, r = some (.bool (!c)) ∧ Q (.bool (!c)) s') E s := by
    simp only [callSpecialIfBound?, bindSpecialIfBound?]
    have last : wpAny (model prog w) A (call (.builtin "object.__ne__") ([.ref x] ++ [b]) >>= fun v => pure (some v)) (fun r s' => ∃ c, r = some (.bool (!c)) ∧ Q (.bool (!c)) s') E s :=
      wpAny_bind (wpAny_mono inner (fun v s' ⟨c, e, q⟩ => wpAny_pure ⟨c, by rw [e], q⟩) fun _ _ z => z)
    refine wpAny_holding (wpAny_bind (wpAny_bind (wpAny_bind (I.type.here ((PySem.W.looks_findIn KX hne).here (wpAny_bind (wpAny_askSetting (wpAny_ite ?_))))))))
    split
    · exact wpAny_bind (wpAny_of_eq (PySem.F.cmp_object.ne.bind _) (wpAny_pure (by exact last)))
    · exact wpAny_tryCatch (wpAny_bind (wpAny_of_eq (PySem.F.cmp_object.ne.bind _) (wpAny_pure (by exact last))))
  have tried : wpAny (model prog w) A (tryCompare (.ref x) "__ne__" b) (fun r s' => ∃ v, r = some v ∧ Q v s') E s := by
    unfold tryCompare
    exact wpAny_bind (wpAny_mono bound (fun r s' ⟨c, e, q⟩ => by subst e; exact wpAny_pure ⟨_, rfl, q⟩) fun _ _ z => z)
  unfold richCompare
  simp only [oneThing_ref, cmpInfo_NotEq]
  refine wpAny_holding (wpAny_bind (wpAny_cRoomFor (Nat.lt_of_succ_lt hu) (wpAny_bind (I.type.here (wpAny_bind (hb.here ?_))))))
  split
  · rename_i differ
    have below : PySem.W.subIn K tb (.ref C) = some false := by
      rcases Bool.or_eq_true_iff.mp hn with e | e
      · rw [beq_iff_eq.mp e] at differ
        simp at differ
      · exact beq_iff_eq.mp e
    refine wpAny_bind ((PySem.W.looks_subIn KX below).here ?_)
    simp only [Bool.false_eq_true, if_false]
    exact wpAny_bind (wpAny_mono tried (fun r s' ⟨v, e, q⟩ => by subst e; exact wpAny_pure q) fun _ _ z => z)
  · refine wpAny_bind (wpAny_pure ?_)
    simp only [Bool.false_eq_true, if_false]
    exact wpAny_bind (wpAny_mono tried (fun r s' ⟨v, e, q⟩ => by subst e; exact wpAny_pure q) fun _ _ z => z)
end
section
variable {X : Cx} {CX : CXT} {k : Nat} {C g : Addr} {sp : Sp} {E : XK}
/-- the other side of a sign: a value of another kind, or an instance of C itself -/
def Side (K : PySem.W.Frag) (C : Addr) (H : Hp) (y : V) : Prop := (∃ t, TyX K H y t ∧ PySem.W.subIn K t (.ref C) = some false) ∨ ∃ b, y = .ref b ∧ OAt C H b
theorem Side.looks {pins : List (Addr × Obj)} {σ : L2.St} {H : Hp} {s : Shared} {y : V} {u : Value} (I : Inv X pins σ H s) (ry : L2.RelV y u) (h : Side X.K C H y) :
    ∃ t, PySem.W.Looks (model X.prog X.w) s.heap (typeOf u) t ∧ PySem.W.notFirst X.K C t = true := by
  rcases h with ⟨t, ty, hs⟩ | ⟨b, rfl, hb⟩
  · obtain ⟨P, Z, hP, _⟩ := kit_of I ry ty
    refine ⟨t, Z.ty _ _ I.kIn hP, ?_⟩
    unfold PySem.W.notFirst
    rw [hs]
    simp
  · obtain ⟨ox, od, J⟩ := OAt.inst I hb
    obtain rfl : u = Value.ref b := ry
    exact ⟨.ref C, J.type, by simp [PySem.W.notFirst]⟩
def rEqO (K : PySem.W.Frag) (C : Addr) (sp : Sp) (E : XK) (yes : Bool) : R2 := fun x y H Q => ∃ a, x = .ref a ∧ OAt C H a ∧ Side K C H y ∧ sp [.ref a, y] H (fun u H' => ∃ b, u = .bl b ∧ Q (.bl (if yes then b else !b)) H') E
/-- o == y -/
theorem op_eqO (M : OMeth X.K C "__eq__" g) (F : FnR X.prog X.w X.K X.mg X.base CX k g sp) (hr : Room k X.A) (hx : Passes CX X E) : OpR X (compareOp .Eq) (rEqO X.K C sp E true) := by
  intro pins s σ H x y v u Q I rx ry h
  obtain ⟨a, rfl, ha, hy, q⟩ := h
  obtain rfl : v = Value.ref a := rx
  obtain ⟨ox, od, J⟩ := OAt.inst I ha
  obtain ⟨m, fr⟩ := I.fr
  obtain ⟨t, ht, hn⟩ := Side.looks I ry hy
  refine PySem.W.cmp_K (op := .Eq) hr.units0 fr I.ok.mod.kin J ht hn M.at_ M.fn (wpAny_mono (run_deep F hr I.env0 hx I (.cons (rv_ref _) (.cons ry .nil)) q) (fun w1 s1 got => ?_) fun _ _ z => z)
  obtain ⟨v1, H1, I1, r1, b, rfl, q1⟩ := got
  obtain rfl : w1 = Value.bool b := r1
  exact ⟨.bl b, H1, I1, rfl, q1⟩
/-- o != y -/
theorem op_neO (M : OMeth X.K C "__eq__" g) (hm : PySem.W.mroIn X.K C (.type "object") = some true) (hne : PySem.W.findIn X.K (.ref C) "__ne__" = some (some (.builtin "object.__ne__"))) (F : FnR X.prog X.w X.K X.mg X.base CX k g sp) (hr : Room (k + 1) X.A)
    (hx : Passes CX X E) : OpR X (compareOp .NotEq) (rEqO X.K C sp E false) := by
  intro pins s σ H x y v u Q I rx ry h
  obtain ⟨a, rfl, ha, hy, q⟩ := h
  obtain rfl : v = Value.ref a := rx
  obtain ⟨ox, od, J⟩ := OAt.inst I ha
  obtain ⟨t, ht, hn⟩ := Side.looks I ry hy
  have hu : X.A.units + 1 < cLine := hu_of hr
  refine ne_road hu I.kIn J ht hn hm hne M.at_ M.fn (wpAny_mono (run_deep F hr.in1 I.env0.in1 hx I (.cons (rv_ref _) (.cons ry .nil)) q) (fun w1 s1 got => ?_) fun _ _ z => z)
  obtain ⟨v1, H1, I1, r1, b, rfl, q1⟩ := got
  obtain rfl : w1 = Value.bool b := r1
  exact ⟨b, rfl, .bl !b, H1, I1, rfl, q1⟩
end
end QN

/-! what a graph answers -/
namespace Qp
open PySem PySem.Spec PyProof.Rows L2 QN
abbrev sGNames : Stmt := inClass cGraph 4 -- Graph.names
abbrev sGTrans : Stmt := inClass cGraph 5 -- Graph.transitions
abbrev sGGet : Stmt := inClass cGraph 6 -- Graph.__getitem__
abbrev sGCon : Stmt := inClass cGraph 7 -- Graph.__contains__
abbrev sGEq : Stmt := inClass cGraph 11 -- Graph.__eq__
theorem scGNames : FnScope ["self"] ["self"] (defScope sGNames) := ⟨rfl, rfl, rfl, by decide +kernel, rfl, by decide +kernel, by decide +kernel⟩
theorem scGTrans : FnScope ["self"] ["self"] (defScope sGTrans) := ⟨rfl, rfl, rfl, by decide +kernel, rfl, by decide +kernel, by decide +kernel⟩
theorem scGGet : FnScope ["self", "at"] ["self", "at"] (defScope sGGet) := ⟨rfl, rfl, rfl, by decide +kernel, rfl, by decide +kernel, by decide +kernel⟩
theorem scGCon : FnScope ["self", "x"] ["self", "x"] (defScope sGCon) := ⟨rfl, rfl, rfl, by decide +kernel, rfl, by decide +kernel, by decide +kernel⟩
theorem scGEq : FnScope ["self", "other"] ["self", "other"] (defScope sGEq) := ⟨rfl, rfl, rfl, by decide +kernel, rfl, by decide +kernel, by decide +kernel⟩
theorem FnOk.toR0 {P : Program} {w : World} {K : PySem.W.Frag} {mg : Str → Option Value} {base : Heap} {CX : CXT} {k : Nat} {f : Addr} {fd : FuncData} {ps : List Str} {sp : Sp} (F : FnOk P w K mg base CX k f fd ps sp) (hb : L2.Binds K fd ps []) : FnR P w K mg base CX k f sp :=
  FnR.imp (FnOk.raw F hb .nil) fun vs H Q E h => by rw [List.append_nil]; exact h
/-- of the class as such -/
structure GraphO (K : PySem.W.Frag) (C : Addr) : Prop where
  isC : PySem.W.kitOne K (.ref C) (.ref C) = some true
  c1 : PySem.W.findIn K (.ref C) "__class__" = some (some (.builtin "object.__class__"))
  c2 : PySem.W.specialIn K (.builtin "object.__class__") "__get__" = some (some (.builtin "getset_descriptor.__get__"))
  c3 : PySem.W.takesIn K (.builtin "object.__class__") = some true
  c4 : PySem.W.mroIn K C (.type "object") = some true
theorem tyx_graph {K : PySem.W.Frag} {mg : Str → Option Value} {C g : Addr} {H : Hp} {G : Gr} (T : GraphC K mg C) (O : GraphO K C) (h : GraphAt K C H g G) : TyX K H (.ref g) (.ref C) := by
  obtain ⟨dx, c, t, r, n, b, k, us, h1, _⟩ := h
  exact .base (.ins h1 T.cls O.c1 O.c2 O.c3 O.c4)
theorem oat_graph {K : PySem.W.Frag} {C g : Addr} {H : Hp} {G : Gr} (h : GraphAt K C H g G) : OAt C H g := by
  obtain ⟨dx, c, t, r, n, b, k, us, h1, _⟩ := h
  exact ⟨dx, _, h1⟩
def spGNames (K : PySem.W.Frag) (C : Addr) : Sp := fun vs H Q _ => ∃ (g : Addr) (G : Gr), vs = [.ref g] ∧ GraphAt K C H g G ∧ ∀ n, SqT K H n ((G.rs.map (·.n)).map V.str) → Q (.ref n) H
def spGTrans (K : PySem.W.Frag) (C : Addr) : Sp := fun vs H Q _ => ∃ (g : Addr) (G : Gr), vs = [.ref g] ∧ GraphAt K C H g G ∧ ∀ r, Dp K H (.ref r) (.tuple (G.rs.map rowD)) → Q (.ref r) H
def spGCon (K : PySem.W.Frag) (C : Addr) : Sp := fun vs H Q _ => ∃ (g : Addr) (G : Gr) (x : Str), vs = [.ref g, .str x] ∧ GraphAt K C H g G ∧ x ∈ G.rs.map (·.n) ∧ Q (.bl true) H
def spGGet (K : PySem.W.Frag) (C : Addr) : Sp := fun vs H Q _ => ∃ (g : Addr) (G : Gr) (r : Row), vs = [.ref g, .str r.n] ∧ GraphAt K C H g G ∧ (G.rs.map (·.n)).Pairwise lts ∧ r ∈ G.rs ∧ ∀ u, PlRow K H u r → Q u H
def spGEq (K : PySem.W.Frag) (C : Addr) : Sp := fun vs H Q _ => ∃ (g o : Addr) (G : Gr), vs = [.ref g, .ref o] ∧ GraphAt K C H g G ∧ GraphAt K C H o G ∧ G.Ok ∧ Q (.bl true) H
theorem byName_at : ∀ {rs : List Row} {us : List V} {r : Row} {i : Nat}, (rs.map (·.n)).Nodup → us.length = rs.length → rs[i]? = some r → ∃ u, us[i]? = some u ∧ valV (byName rs us) (Sum.inr r.n : Key) = some u
  | [], _, r, i, _, _, h => by simp at h
  | q :: rs, [], r, i, _, hl, h => by cases hl
  | q :: rs, u :: us, r, 0, nd, hl, h => by
    cases h
    exact ⟨u, rfl, valV_pos rfl⟩
  | q :: rs, u :: us, r, i + 1, nd, hl, h => by
    have nd2 := List.nodup_cons.mp nd
    obtain ⟨w, h1, h2⟩ := byName_at (i := i) nd2.2 (by simpa using hl) (by simpa using h)
    refine ⟨w, h1, ?_⟩
    have ne : q.n ≠ r.n := fun e => nd2.1 (List.mem_map.mpr ⟨r, List.mem_of_getElem? (by simpa using h), e.symm⟩)
    have e2 : valV ((Sum.inr q.n, u) :: byName rs us) (Sum.inr r.n : Key) = valV (byName rs us) (Sum.inr r.n) := by
      unfold valV
      rw [List.find?_cons_of_neg (by simpa using ne)]
    show valV ((Sum.inr q.n, u) :: byName rs us) (Sum.inr r.n : Key) = some w
    rw [e2, h2]
theorem paired_at {α β : Type} {F : α → β → Prop} : ∀ {xs : List α} {ys : List β} {i : Nat} {x : α} {y : β}, Paired F xs ys → xs[i]? = some x → ys[i]? = some y → F x y
  | _, _, _, _, _, .nil, h, _ => by simp at h
  | _, _, 0, _, _, .cons r _, h1, h2 => by
    cases h1
    cases h2
    exact r
  | _, _, i + 1, _, _, .cons _ t, h1, h2 => paired_at (i := i) t (by simpa using h1) (by simpa using h2)
theorem nodup_lts {xs : List Str} (h : xs.Pairwise lts) : xs.Nodup := List.Pairwise.imp (R := lts) (S := fun a b => a ≠ b) (fun h e => by subst e; exact lts_irrefl _ h) h
theorem mem_at {α : Type} {xs : List α} {x : α} (h : x ∈ xs) : ∃ i : Nat, xs[i]? = some x := by
  obtain ⟨i, hi, e⟩ := List.getElem_of_mem h
  exact ⟨i, by rw [List.getElem?_eq_getElem hi, e]⟩
section
variable {P : Program} {w : World} {K : PySem.W.Frag} {mg : Str → Option Value} {base : Heap}
theorem ok_gnames {f C : Addr} {fd : FuncData} (F : Fun K "names" "Graph.names" sGNames f fd) (T : GraphC K mg C) : FnOk P w K mg base CX0 1 f fd ["self"] (spGNames K C) := by
  refine F.ok scGNames (fun vs H Q E h => ?_) (fun cdv A outer s H vs Q E hr h => ?_)
  · obtain ⟨g, G, rfl, _⟩ := h
    rfl
  · obtain ⟨g, G, rfl, ⟨dx, c, t, r, n, b, kp, us, h1, h2⟩, k⟩ := h
    refine ⟨_, pss_one (ps_ret (pe_fld (pv 0) rfl)), ?_⟩
    exact ⟨_, rfl, g, C, dx, _, _, rfl, h1, T.cls, T.n4, rfl, k n h2.hn⟩
theorem ok_gtrans {f C : Addr} {fd : FuncData} (F : Fun K "transitions" "Graph.transitions" sGTrans f fd) (T : GraphC K mg C) : FnOk P w K mg base CX0 1 f fd ["self"] (spGTrans K C) := by
  refine F.ok scGTrans (fun vs H Q E h => ?_) (fun cdv A outer s H vs Q E hr h => ?_)
  · obtain ⟨g, G, rfl, _⟩ := h
    rfl
  · obtain ⟨g, G, rfl, ⟨dx, c, t, r, n, b, kp, us, h1, h2⟩, k⟩ := h
    refine ⟨_, pss_one (ps_ret (pe_fld (pv 0) rfl)), ?_⟩
    exact ⟨_, rfl, g, C, dx, _, _, rfl, h1, T.cls, T.n3, rfl, k r (.tup h2.hr h2.hu)⟩
theorem ok_gcon {f C : Addr} {fd : FuncData} (F : Fun K "__contains__" "Graph.__contains__" sGCon f fd) (T : GraphC K mg C) (B : BltP mg) (st : mg "str" = none) : FnOk P w K mg base CX0 1 f fd ["self", "x"] (spGCon K C) := by
  refine F.ok scGCon (fun vs H Q E h => ?_) (fun cdv A outer s H vs Q E hr h => ?_)
  · obtain ⟨g, G, x, rfl, _⟩ := h
    rfl
  · obtain ⟨g, G, x, rfl, ⟨dx, c, t, r, n, b, kp, us, h1, h2⟩, hx, k⟩ := h
    have hu1 : (A.deeper (envOfC "Graph.__contains__" (defScope sGCon) s.heap.objs.size f cdv)).units + 1 < cLine := by
      have := hr.un
      omega
    refine ⟨_, pss_one (ps_ret (pe_and (pe_callB call_isi (by rfl) B.isi (by decide +kernel) (pa_cons (pv 1) (pa_cons (pe_bltn (v := .ty "str") (by rfl) st (by decide +kernel) rfl) pa_nil))) (pe_one (pe_cmp (pc_din hu1 (pv 1) (pe_fld (pv 0) rfl)))))), ?_⟩
    refine ⟨_, rfl, _, _, _, _, true, rfl, .ty _, .base (.str x), kit_ty (by decide +kernel), _, rfl, if_yes rfl ?_⟩
    have ul : us.length = G.rs.length := by rw [dpAll_len h2.hu, List.length_map]
    have has : (valV (byName G.rs us) (Sum.inr x : Key)).isSome = true := by
      obtain ⟨row, hrow, e⟩ := List.mem_map.mp hx
      unfold valV
      rw [Option.isSome_map, List.find?_isSome]
      obtain ⟨i, hi⟩ := mem_at hrow
      have lt := (List.getElem?_eq_some_iff.mp hi).1
      obtain ⟨u, hu⟩ : ∃ u, us[i]? = some u := ⟨us[i]'(by omega), List.getElem?_eq_getElem _⟩
      refine ⟨(Sum.inr row.n, u), ?_, by rw [e]; exact decide_eq_true rfl⟩
      unfold byName
      exact List.mem_map.mpr ⟨(row, u), List.mem_of_getElem? (i := i) (by rw [List.getElem?_zip_eq_some]; exact ⟨hi, hu⟩), rfl⟩
    refine ⟨_, rfl, _, rfl, g, C, dx, _, _, rfl, h1, T.cls, T.n5, rfl, b, _, rfl, DGet.k (k := Sum.inr x) h2.hb, ?_⟩
    rw [has]
    exact k
theorem ok_gget {f fC C : Addr} {fd : FuncData} (F : Fun K "__getitem__" "Graph.__getitem__" sGGet f fd) (T : GraphC K mg C) (MC : OMeth K C "__contains__" fC) (GC : FnR P w K mg base CX0 1 fC (spGCon K C)) : FnOk P w K mg base CX0 2 f fd ["self", "at"] (spGGet K C) := by
  refine F.ok scGGet (fun vs H Q E h => ?_) (fun cdv A outer s H vs Q E hr h => ?_)
  · obtain ⟨g, G, r, rfl, _⟩ := h
    rfl
  · obtain ⟨g, G, row, rfl, hg, asc, hrow, k⟩ := h
    have hu1 : (A.deeper (envOfC "Graph.__getitem__" (defScope sGGet) s.heap.objs.size f cdv)).units + 1 < cLine := by
      have := hr.un
      omega
    refine ⟨_, pss_cons (ps_if (pt_cmpR (op_notInO MC GC hr pass0) (pv 1) (pv 0) rfl) (pss_one ps_never) pss_nil)
      (pss_one (ps_ret (pe_dget hu1 (pe_fld (pv 0) rfl) (pv 1) (fun _ _ => rfl)))), ?_⟩
    refine ⟨_, rfl, _, rfl, g, rfl, oat_graph hg, g, G, row.n, rfl, hg, List.mem_map.mpr ⟨row, hrow, rfl⟩, true, rfl, _, rfl, if_no (by decide) ?_⟩
    obtain ⟨dx, c, t, r, n, b, kp, us, h1, h2⟩ := hg
    obtain ⟨i, hi⟩ := mem_at hrow
    have ul : us.length = G.rs.length := by rw [dpAll_len h2.hu, List.length_map]
    obtain ⟨u, hu, hv⟩ := byName_at (nodup_lts asc) ul hi
    have pu : PlRow K H u row := paired_at h2.hp hu hi
    refine ⟨_, rfl, g, C, dx, _, _, rfl, h1, T.cls, T.n5, rfl, _, rfl, b, u, rfl, ?_, k u pu⟩
    rw [← hv]
    exact DGet.k (k := Sum.inr row.n) h2.hb
theorem strs_dp {K : PySem.W.Frag} {H : Hp} : ∀ xs : List Str, DpAll K H (xs.map V.str) (xs.map PyData.str)
  | [] => .nil
  | x :: xs => .cons (.str x) (strs_dp xs)
theorem name_strOk {x : Str} (h : NameOk x) : PyData.strOk x = true := by
  unfold PyData.strOk
  rw [← Array.all_toList]
  refine List.all_eq_true.mpr fun c hc => decide_eq_true ?_
  have all : ∀ c ∈ letters.cps.toList, c < 0x110000 := by decide +kernel
  exact all c (h.2.2 c hc)
theorem lay_strs : ∀ xs : List Str, (∀ x ∈ xs, NameOk x) → PyData.canLayAll0 (xs.map PyData.str) = true
  | [], _ => rfl
  | x :: xs, h => by
    show (PyData.strOk x && PyData.canLayAll0 (xs.map PyData.str)) = true
    rw [lay_strs xs fun y hy => h y (List.mem_cons_of_mem _ hy), name_strOk (h x List.mem_cons_self)]
    rfl
theorem depth_strs : ∀ xs : List Str, PyData.depthAll (xs.map PyData.str) = 0
  | [] => by simp [PyData.depthAll]
  | x :: xs => by
    show PyData.depthAll (.str x :: xs.map PyData.str) = 0
    simp [PyData.depthAll, PyData.depth, depth_strs xs]
theorem shaped_strs {xs : List Str} (h : ∀ x ∈ xs, NameOk x) : SeqAt.shaped (.tuple (xs.map PyData.str)) = true := by
  show (PyData.canLayAll0 (xs.map PyData.str) && decide (PyData.depthAll (xs.map PyData.str) + 1 ≤ 64)) = true
  rw [lay_strs xs h, depth_strs]
  rfl
theorem lay_ch : ∀ c : List (Str × Int), (∀ p ∈ c, NameOk p.1) → PyData.canLayAll0 (c.map pairD) = true
  | [], _ => rfl
  | p :: c, h => by
    show ((PyData.strOk p.1 && (true && true)) && PyData.canLayAll0 (c.map pairD)) = true
    rw [lay_ch c fun y hy => h y (List.mem_cons_of_mem _ hy), name_strOk (h p List.mem_cons_self)]
    rfl
theorem lay_row {r : Row} (h : RowOk r) : PyData.canLay0 (rowD r) = true := by
  show (PyData.strOk r.n && (PyData.strOk r.s && (PyData.strOk r.t && (PyData.canLayAll0 (r.c.map pairD) && true)))) = true
  rw [name_strOk h.n, name_strOk h.s, name_strOk h.t, lay_ch r.c fun p hp => (h.c.1 p hp).1]
  rfl
theorem lay_rows : ∀ rs : List Row, (∀ r ∈ rs, RowOk r) → PyData.canLayAll0 (rs.map rowD) = true
  | [], _ => rfl
  | r :: rs, h => by
    show (PyData.canLay0 (rowD r) && PyData.canLayAll0 (rs.map rowD)) = true
    rw [lay_rows rs fun y hy => h y (List.mem_cons_of_mem _ hy), lay_row (h r List.mem_cons_self)]
    rfl
theorem depth_rows : ∀ rs : List Row, PyData.depthAll (rs.map rowD) ≤ 10
  | [] => by simp [PyData.depthAll]
  | r :: rs => by
    have h := depth_rows rs
    have h2 := depth_row r
    show PyData.depthAll (rowD r :: rs.map rowD) ≤ 10
    simp only [PyData.depthAll]
    omega
theorem shaped_rows {rs : List Row} (ok : ∀ r ∈ rs, RowOk r) : SeqAt.shaped (.tuple (rs.map rowD)) = true := by
  show (PyData.canLayAll0 (rs.map rowD) && decide (PyData.depthAll (rs.map rowD) + 1 ≤ 64)) = true
  have h := depth_rows rs
  rw [lay_rows rs ok, decide_eq_true (by omega)]
  rfl
theorem ok_geq {f C : Addr} {fd : FuncData} (F : Fun K "__eq__" "Graph.__eq__" sGEq f fd) (T : GraphC K mg C) (O : GraphO K C) (B : BltP mg) : FnOk P w K mg base CX0 1 f fd ["self", "other"] (spGEq K C) := by
  refine F.ok scGEq (fun vs H Q E h => ?_) (fun cdv A outer s H vs Q E hr h => ?_)
  · obtain ⟨g, o, G, rfl, _⟩ := h
    rfl
  · obtain ⟨g, o, G, rfl, hg, ho, ok, k⟩ := h
    have hu : (A.deeper (envOfC "Graph.__eq__" (defScope sGEq) s.heap.objs.size f cdv)).units + 64 < cLine := by
      have := hr.un
      omega
    have ty := tyx_graph T O ho
    obtain ⟨dx, c, t, r, n, b, kp, us, h1, h2⟩ := hg
    obtain ⟨dx', c', t', r', n', b', kp', us', j1, j2⟩ := ho
    refine ⟨_, pss_one (ps_ret (pe_and (pe_callB call_isi (by rfl) B.isi (by decide +kernel) (pa_cons (pv 1) (pa_cons (pe_glob (v := .ref C) (by rfl) T.gC rfl) pa_nil)))
      (pe_and (pe_cmpR (op_eqD hu) (pe_fld (pv 0) rfl) (pe_fld (pv 1) rfl) (nomark _)) (pe_and (pe_cmpR (op_eqD hu) (pe_fld (pv 0) rfl) (pe_fld (pv 1) rfl) (nomark _)) (pe_one (pe_cmpR (op_eqD hu) (pe_fld (pv 0) rfl) (pe_fld (pv 1) rfl) (nomark _))))))), ?_⟩
    refine ⟨_, rfl, _, _, _, _, true, rfl, .own C, ty, O.isC, _, rfl, if_yes rfl ?_⟩
    refine ⟨_, rfl, g, C, dx, _, _, rfl, h1, T.cls, T.n1, rfl, _, rfl, o, C, dx', _, _, rfl, j1, T.cls, T.n1, rfl, _, _, .tup h2.hc (strs_dp _), .tup j2.hc (strs_dp _), shaped_strs ok.cn, shaped_strs ok.cn, ?_⟩
    have e1 : PyData.eqv (.tuple (G.cs.map PyData.str)) (.tuple (G.cs.map PyData.str)) = true := PySem.SeqAt.eqv_refl _ (lay_strs _ ok.cn)
    have e2 : PyData.eqv (.tuple (G.ns.map PyData.str)) (.tuple (G.ns.map PyData.str)) = true := PySem.SeqAt.eqv_refl _ (lay_strs _ ok.nn)
    have e3 : PyData.eqv (.tuple (G.rs.map rowD)) (.tuple (G.rs.map rowD)) = true := PySem.SeqAt.eqv_refl _ (lay_rows _ ok.ro)
    rw [e1]
    refine ⟨_, rfl, if_yes rfl ?_⟩
    refine ⟨_, rfl, g, C, dx, _, _, rfl, h1, T.cls, T.n2, rfl, _, rfl, o, C, dx', _, _, rfl, j1, T.cls, T.n2, rfl, _, _, .tup h2.ht (strs_dp _), .tup j2.ht (strs_dp _), shaped_strs ok.nn, shaped_strs ok.nn, ?_⟩
    rw [e2]
    refine ⟨_, rfl, if_yes rfl ?_⟩
    refine ⟨_, rfl, g, C, dx, _, _, rfl, h1, T.cls, T.n3, rfl, _, rfl, o, C, dx', _, _, rfl, j1, T.cls, T.n3, rfl, _, _, .tup h2.hr h2.hu, .tup j2.hr j2.hu, shaped_rows ok.ro, shaped_rows ok.ro, ?_⟩
    rw [e3]
    exact k
end
end Qp

/-! bool(x) of what is no number -/
namespace QN
open PySem PySem.Spec PyProof.Rows L2
section
variable {prog : Program} {w : World} {A : Around} {E : Value → Shared → Prop} {s : Shared}
theorem call_bool_at {x : Value} {Q : Value → Shared → Prop} (h : wpAny (model prog w) A.in1.in1 (truthy x) (fun b s' => Q (.bool b) s') E s) : wpAny (model prog w) A (call (.type "bool") [x]) Q E s := by
  refine callType_codes (T := "bool") (Bi := Builtin.«object.__init__») (Q₁ := fun r s₁ => ∃ b, r = .bool b ∧ Q r s₁) PySem.F.called_bool (PySem.F.typeCall_bool_1 _) PySem.F.entry_object_init ?_ ?_
  · refine codeAny_of_tree ?_
    show wpAny _ A.in1.in1 (do checkBuiltinCall "bool.__new__" ⟨[.type "bool", x], []⟩; again (.builtin "bool.__new__" ⟨[.type "bool", x], []⟩)) _ _ s
    refine wpAny_bind (wpAny_of_eq (PySem.F.newCall_bool_1 _) (wpAny_pure ⟨plainId_quiet (by decide +kernel) _, codeAny_builtin PySem.F.entry_bool_new ?_⟩))
    rw [Around.under_plainId (by decide +kernel) _]
    have f1 := PySem.F.conv_sub_bool
    have h' : wpAny (model prog w) A.in1.in1 (truthy x) (fun b s' => ∃ c, Value.bool b = .bool c ∧ Q (.bool b) s') E s := wpAny_mono h (fun b s' q => ⟨b, rfl, q⟩) fun _ _ y => y
    repeat (any_goals (first | assumption | (with_reducible refine wpAny_mono h' ?_ fun _ _ y => y) | wp_step))
    exact fun a s1 hs => wpAny_pure hs
  · rintro obj s₁ ⟨y, rfl, hq⟩
    exact ⟨rfl, PySem.F.args_object_init_2 _ _, object_init_meets PySem.F.called_bool.init.lookup PySem.F.called_bool.made (by decide) prog w A.in1 _ s₁ ⟨rfl, rfl, hq⟩⟩
end
section
variable {X : Cx} {CX : CXT} {k : Nat} {g C : Addr} {sp : Sp} {E : XK}
/-- bool(a tuple) -/
theorem call_boolT : CallR X (.type "bool") (fun xs H Q => ∃ (a : Addr) (zs : List V), xs = [.ref a] ∧ SqT X.K H a zs ∧ Q (.bl (!zs.isEmpty)) H) := by
  intro pins s σ H xs us Q I r h
  obtain ⟨a, zs, rfl, hq, q⟩ := h
  obtain rfl := Vals.ref1 r
  obtain ⟨its, rv, pl, hz⟩ := I.tuple hq
  have hlen := rv.length
  rw [sizeLine_eq] at hz
  refine call_bool_at (truthy_tuple pl (by simp only [List.size_toArray]; omega) ?_)
  exact ⟨.bl (!zs.isEmpty), H, I.tok _, by rw [isEmpty_of rv]; rfl, q⟩
/-- bool(o) -/
theorem call_boolO (M : OMeth X.K C "__bool__" g) (F : FnR X.prog X.w X.K X.mg X.base CX k g sp) (hr : Room (k + 2) X.A) (hx : Passes CX X E) :
    CallR X (.type "bool") (fun xs H Q => ∃ a, xs = [.ref a] ∧ OAt C H a ∧ sp [.ref a] H (fun u H' => ∃ b, u = .bl b ∧ Q (.bl b) H') E) := by
  intro pins s σ H xs us Q I r h
  obtain ⟨a, rfl, ha, q⟩ := h
  obtain rfl := Vals.ref1 r
  obtain ⟨ox, od, J⟩ := OAt.inst I ha
  obtain ⟨m, fr⟩ := I.fr
  refine call_bool_at (PySem.W.truthy_K fr I.ok.mod.kin J M.at_ M.fn (wpAny_mono (run_deep F (hr.in1.in1) I.env0.in1.in1 hx I (.cons (rv_ref _) .nil) q) (fun w1 s1 got => ?_) fun _ _ z => z))
  obtain ⟨v1, H1, I1, r1, b, rfl, q1⟩ := got
  obtain rfl : w1 = Value.bool b := r1
  exact ⟨.bl b, H1, I1, rfl, q1⟩
end
end QN

/-! str(o) of an own class with __str__ -/
namespace QN
open PySem PySem.Spec PyProof.Rows L2
section
variable {X : Cx} {CX : CXT} {k : Nat} {g C : Addr} {sp : Sp} {E : XK}
theorem call_strO (M : OMeth X.K C "__str__" g) (F : FnR X.prog X.w X.K X.mg X.base CX k g sp) (hr : Room (k + 2) X.A) (hx : Passes CX X E) :
    CallR X (.type "str") (fun xs H Q => ∃ a, xs = [.ref a] ∧ OAt C H a ∧ sp [.ref a] H (fun u H' => ∃ z, u = .str z ∧ Q (.str z) H') E) := by
  intro pins s σ H xs us Q I r h
  obtain ⟨a, rfl, ha, q⟩ := h
  obtain rfl := Vals.ref1 r
  obtain ⟨ox, od, J⟩ := OAt.inst I ha
  obtain ⟨m, fr⟩ := I.fr
  refine PySem.W.kso_call (by have := hr.in1.in1.un; omega) I.kIn J M.at_ M.fn (wpAny_mono (run_deep F (hr.in1.in1) I.env0.in1.in1 hx I (.cons (rv_ref _) .nil) q) (fun w1 s1 got => ?_) fun _ _ z => z)
  obtain ⟨v1, H1, I1, r1, z, rfl, q1⟩ := got
  obtain ⟨t, rfl⟩ := (show ∃ t, w1 = Value.str z t from r1)
  exact ⟨.str z, H1, I1, ⟨_, rfl⟩, q1⟩
end
end QN

/-! iter(a tuple) as a value; walks over an own class whose __iter__ returns such a one -/
namespace QN
open PySem PySem.Spec PyProof.Rows L2
def ttObj (t : Addr) : Obj := { cls := .type "tuple_iterator", data := .fields #[.ref t, .int 0 0] }
/-- the iterator at it, at the beginning of the tuple at t -/
def TtO (t it : Addr) : HO := .ext fun h => h.get? it = some (ttObj t)
theorem ttO_ok {P : Program} {w : World} {H : Hp} {h : Heap} {t it : Addr} (e : h.get? it = some (ttObj t)) : ObjOk P w H h it (TtO t it) := ⟨e, ⟨_, e⟩, fun h1 h2 q k => k _ q⟩
section
variable {prog : Program} {w : World} {A : Around} {E : Value → Shared → Prop} {s : Shared} {t : Addr} {items : Array Value}
theorem call_iter_tup {Q : Value → Shared → Prop} (hl : s.heap.IsTuple t items) (h : Q (.ref s.heap.objs.size) { s with heap := s.heap.push (ttObj t) }) : wpAny (model prog w) A (call (.builtin "iter") [.ref t]) Q E s := by
  refine Calls.call_function_entry (by decide +kernel) (by decide +kernel) PySem.W.kdk_entry_iter (PySem.W.kdk_args_iter _) ?_
  unfold Builtin.«iter»
  refine wpAny_bind (m := someArgs "iter" 1 2 _) (wpAny_of_eq (a := [Value.ref t]) (by first | rfl | kernel_rfl!) ?_)
  show wpAny _ _ (pyIter (.ref t) >>= _) _ _ _
  refine wpAny_bind (wpAny_pyIter_tuple hl ?_)
  exact wpAny_pure ⟨_, rfl, h⟩
end
section
variable {X : Cx}
theorem call_iterT : CallR X (.builtin "iter") (fun xs H Q => ∃ (t : Addr) (zs : List V), xs = [.ref t] ∧ SqT X.K H t zs ∧ ∀ it, H it = none → X.s_0.heap.objs.size ≤ it → Q (.ref it) (upd H it (TtO t it))) := by
  intro pins s σ H xs us Q I r h
  obtain ⟨l, zs, rfl, hq, q⟩ := h
  obtain rfl := Vals.ref1 r
  obtain ⟨its, rv, pl, hz⟩ := I.tuple hq
  refine call_iter_tup pl ?_
  exact ⟨.ref s.heap.objs.size, _, I.laid (t' := s.toks) (fun b u e => Heap.get?_push_of_some _ e) (Nat.le_refl _) (ttO_ok (Heap.get?_push_size _ rfl)), rfl, q _ (I.hok.fresh (Nat.le_refl _)) I.sz⟩
end
/-- the promise of a def at f, that knows how many objects there were when it was called -/
structure FnN (P : Program) (w : World) (K : PySem.W.Frag) (mg : Str → Option Value) (base : Heap) (k : Nat) (f : Addr) (fd : FuncData) (ps : List Str) (sp : Nat → Sp) : Prop where
  len : ∀ n vs H Q E, sp n vs H Q E → vs.length = ps.length
  go : ∀ (A : Around) (outer : List Env) (s : Shared) (H : Hp) (args : Args) (us : List Value) (vs : List V) (Q : VK) (E : XK), Room k A → Env0 P w K mg base A outer s H → BindsTo s fd args (ps.zip us) → Vals vs us → sp s.heap.objs.size vs H Q E →
    codeAny (model P w) A (.call (.ref f) args) (CR L2.CX0 outer P w H s Q E) s
theorem Fun_okN {P : Program} {w : World} {K : PySem.W.Frag} {mg : Str → Option Value} {base : Heap} {x qual : Str} {st : Stmt} {f : Addr} {fd : FuncData} {N ps : List Str} {k : Nat} {sp : Nat → Sp}
    (F : Fun K x qual st f fd) (S : FnScope N ps (defScope st)) (len : ∀ n vs H Q E, sp n vs H Q E → vs.length = ps.length)
    (body : ∀ (cdv : Value) (A : Around) (outer : List Env) (s : Shared) (H : Hp) (vs : List V) (Q : VK) (E : XK), Room k (A.deeper (envOfC qual (defScope st) s.heap.objs.size f cdv)) → sp s.heap.objs.size vs H Q E →
      ∃ t, PSs (cxOf L2.CX0 P w K mg base N qual (defScope st) f cdv A outer s H E).nox (defBody st) t ∧ t { nx := fun _ H' => Q .non H', rt := Q } (start N vs) H) :
    FnN P w K mg base (k + 1) f fd ps sp := by
  obtain ⟨oc, od, kV, doc, pm, an, cdv, ct, osl, rfl, lk, hcd⟩ := F.ex
  refine ⟨len, fun A outer s H args us vs Q E room env0 hbind rv hsp => ?_⟩
  have nvs := len _ _ _ _ _ hsp
  have inK : K.In s.heap := env0.mod.kin.keeps fun b o e => (env0.bs b o e).1
  have nolim : s.heap.NoLimit := env0.mod.nolimit.keeps fun b o e => (env0.bs b o e).1
  have kinds : ∀ y ∈ ps.zip us, (defScope st).names.lookup y.1 = some .local ∨ ((defScope st).names.lookup y.1 = some .cell ∧ ((cellsFrom (s.heap.objs.size + 1) (defScope st).names []).lookup y.1).isSome = true) := fun ⟨n, v⟩ hy => by
    rcases S.par n (List.of_mem_zip hy).1 with c | c
    · exact Or.inl c
    · exact Or.inr ⟨c, PySem.W.cellsFrom_some _ _ _ (Or.inl c)⟩
  refine codeAny_call_function room.depth (inK _ _ lk) rfl S.co S.gen rfl (PySem.W.codeRec_of inK hcd) (hbind _ _ _ _ ?_)
  refine wpAny_newFunctionEnv_cells S.kind kinds fun env he s1 entered => ?_
  subst he
  refine ⟨nolim.keeps entered.toInCall.keep, codeAny_func ?_⟩
  obtain ⟨t, ht, hq⟩ := body cdv A outer s H vs Q E (room.deeper _) hsp
  have I0 := inv_start (CX := L2.CX0) (E := E) S room.hd env0 nvs rv entered
  refine wpAny_mono (ht.nox.run [] s1 (start N vs) H _ I0 hq) (fun fl s' hs => ?_) fun e s' hs => hs
  have close : ∀ {σ' : L2.St} {H' : Hp} {v : V} {u : Value}, Inv (cxOf L2.CX0 P w K mg base N qual (defScope st) f cdv A outer s H E) [] σ' H' s' → RelV v u → Q v H' → CE outer P w H s Q u s' :=
    fun {σ' H' v u} J r q => ⟨v, H', J.os, J.bare, J.base, J.hok, r, q⟩
  cases fl with
  | ret u =>
    obtain ⟨v, σ', H', J, r, q⟩ := hs
    exact close J r q
  | next =>
    obtain ⟨σ', H', J, q⟩ := hs
    exact close (v := V.non) (u := Value.none) J rfl q
  | brk => exact False.elim hs.choose_spec.choose_spec.2
  | cont => exact False.elim hs.choose_spec.choose_spec.2
def iOwnT (K : PySem.W.Frag) (C : Addr) (te : TE) (its : Hp → Addr → Addr → Prop) : TI := fun σ H R => te σ H fun x H1 => ∃ a, x = .ref a ∧ OAt C H1 a ∧ ∃ t, its H1 a t ∧ ∀ H2, (∀ b o, H1 b = some o → H2 b = some o) → R (Itt K t) H2
section
variable {X : Cx} {k : Nat} {C g : Addr} {fd : FuncData} {ps : List Str} {tg e : Expr} {te : TE} {its : Hp → Addr → Addr → Prop}
/-- what __iter__ of an own class promises that returns iter(a tuple) -/
def spIterT (its : Hp → Addr → Addr → Prop) : Nat → Sp := fun n vs H Q _ => ∃ a t, vs = [.ref a] ∧ its H a t ∧ ∀ it, H it = none → n ≤ it → Q (.ref it) (upd H it (TtO t it))
theorem pi_ownT (M : OMeth X.K C "__iter__" g) (F : FnN X.prog X.w X.K X.mg X.base k g fd ps (spIterT its)) (hb : L2.Binds X.K fd ps []) (hr : Room k X.A) (he : PE X e te) : PI X tg e (iOwnT X.K C te its) := by
  refine ⟨fun pins s σ H R I h => ?_⟩
  refine thn (he.run pins s σ H _ I h) fun v s1 ⟨x, H1, I1, r1, a, ex, ha, t, hi, q⟩ => ?_
  subst ex
  obtain rfl : v = Value.ref a := r1
  obtain ⟨ox, od, J⟩ := OAt.inst I1 ha
  obtain ⟨m, fr⟩ := I1.fr
  refine PySem.W.owit_iter fr I1.ok.mod.kin J M.at_ M.fn ?_
  have hsp : spIterT its s1.heap.objs.size [.ref a] H1 (fun u H2 => ∃ it, u = .ref it ∧ H1 it = none ∧ s1.heap.objs.size ≤ it ∧ H2 = upd H1 it (TtO t it)) L2.E0 := ⟨a, t, rfl, hi, fun it h1 h2 => ⟨it, rfl, h1, h2, rfl⟩⟩
  have n1 : [Value.ref a].length = ps.length := F.len _ _ _ _ _ hsp
  have bind := hb s1 [.ref a] I1.kIn (by rw [List.append_nil]; exact n1)
  rw [List.append_nil] at bind
  refine wpAny_call (codeAny_mono (F.go X.A X.stack s1 H1 ⟨[.ref a], []⟩ [.ref a] [.ref a] _ L2.E0 hr I1.env0 bind (.cons (rv_ref _) .nil) hsp) fun out s' got => ?_)
  match out, got with
  | .error e, got => exact got.elim
  | .ok .next, got => exact got.elim
  | .ok .brk, got => exact got.elim
  | .ok .cont, got => exact got.elim
  | .ok (.ret u), got =>
    obtain ⟨v, H2, I2, r, it, ev, hn, young, eH⟩ := I1.after got
    subst ev
    subst eH
    obtain rfl : u = Value.ref it := r
    have hit : (upd H1 it (TtO t it)) it = some (TtO t it) := upd_same
    have eo : s'.heap.get? it = some (ttObj t) := (I2.hok it _ hit).1
    have st : s'.heap.IsTupleIter it t 0 := ⟨_, eo, rfl, rfl⟩
    refine wpAny_specialOf (name := Str.ofString "__next__") (show Shared.TypeIs s' (.ref it) "tuple_iterator" from ⟨_, eo, rfl⟩) PySem.F.slot_tuple_iterator_next.lookup ?_
    have hit' := hit
    unfold TtO at hit'
    have eq : ItX.dropH (upd H1 it (TtO t it)) it = H1 := ItX.dropH_upd hn
    refine ⟨it, [it], _, _, ItX.dropH (upd H1 it (TtO t it)) it, rfl, ItX.inv_drop I2 hit', turn_tuple t it, st, fun b hb => ?_, q _ (by rw [eq]; exact fun _ _ e => e)⟩
    have e : b = it := by simpa using hb
    rw [e]
    exact ItX.inv_fp I2 hit (Nat.le_trans I1.sz young)
end
end QN

/-! what else a graph answers: counters, states, len, truth, iteration, its text, == with anything -/
namespace Qp
open PySem PySem.Spec PyProof.Rows L2 QN
abbrev sGCtrs : Stmt := inClass cGraph 2 -- Graph.counters
abbrev sGSts : Stmt := inClass cGraph 3 -- Graph.states
abbrev sGLen : Stmt := inClass cGraph 8 -- Graph.__len__
abbrev sGBool : Stmt := inClass cGraph 9 -- Graph.__bool__
abbrev sGIter : Stmt := inClass cGraph 10 -- Graph.__iter__
abbrev sGStr : Stmt := inClass cGraph 12 -- Graph.__str__
theorem scGCtrs : FnScope ["self"] ["self"] (defScope sGCtrs) := ⟨rfl, rfl, rfl, by decide +kernel, rfl, by decide +kernel, by decide +kernel⟩
theorem scGSts : FnScope ["self"] ["self"] (defScope sGSts) := ⟨rfl, rfl, rfl, by decide +kernel, rfl, by decide +kernel, by decide +kernel⟩
theorem scGLen : FnScope ["self"] ["self"] (defScope sGLen) := ⟨rfl, rfl, rfl, by decide +kernel, rfl, by decide +kernel, by decide +kernel⟩
theorem scGBool : FnScope ["self"] ["self"] (defScope sGBool) := ⟨rfl, rfl, rfl, by decide +kernel, rfl, by decide +kernel, by decide +kernel⟩
theorem scGIter : FnScope ["self"] ["self"] (defScope sGIter) := ⟨rfl, rfl, rfl, by decide +kernel, rfl, by decide +kernel, by decide +kernel⟩
theorem scGStr : FnScope ["self"] ["self"] (defScope sGStr) := ⟨rfl, rfl, rfl, by decide +kernel, rfl, by decide +kernel, by decide +kernel⟩
def spGCtrs (K : PySem.W.Frag) (C : Addr) : Sp := fun vs H Q _ => ∃ (g : Addr) (G : Gr), vs = [.ref g] ∧ GraphAt K C H g G ∧ ∀ n, SqT K H n (G.cs.map V.str) → Q (.ref n) H
def spGSts (K : PySem.W.Frag) (C : Addr) : Sp := fun vs H Q _ => ∃ (g : Addr) (G : Gr), vs = [.ref g] ∧ GraphAt K C H g G ∧ ∀ n, SqT K H n (G.ns.map V.str) → Q (.ref n) H
def spGLen (K : PySem.W.Frag) (C : Addr) : Sp := fun vs H Q _ => ∃ (g : Addr) (G : Gr), vs = [.ref g] ∧ GraphAt K C H g G ∧ Q (.int (G.rs.length : Nat)) H
def spGBool (K : PySem.W.Frag) (C : Addr) : Sp := fun vs H Q _ => ∃ (g : Addr) (G : Gr), vs = [.ref g] ∧ GraphAt K C H g G ∧ Q (.bl (!G.rs.isEmpty)) H
/-- its rows stand at t -/
def itsGraph (K : PySem.W.Frag) (C : Addr) (H : Hp) (g t : Addr) : Prop := ∃ (G : Gr) (dx c st n b k : Addr) (us : List V), H g = some (.ins C dx (gFields c st t n b k)) ∧ SqT K H t us ∧ Paired (PlRow K H) us G.rs ∧ GraphAt K C H g G
/-- the text of a graph -/
def gText (G : Gr) : Str := ("" : Str) ++ ("graph of " : Str) ++ Str.ofString (toString ((G.ns.length : Nat) : Int)) ++ (" states, " : Str) ++ Str.ofString (toString ((G.cs.length : Nat) : Int)) ++ (" counters, " : Str) ++ Str.ofString (toString ((G.rs.length : Nat) : Int)) ++ (" transitions" : Str)
def spGStr (K : PySem.W.Frag) (C : Addr) : Sp := fun vs H Q _ => ∃ (g : Addr) (G : Gr), vs = [.ref g] ∧ GraphAt K C H g G ∧ G.Ok ∧ Q (.str (gText G)) H
section
variable {P : Program} {w : World} {K : PySem.W.Frag} {mg : Str → Option Value} {base : Heap}
theorem ok_gctrs {f C : Addr} {fd : FuncData} (F : Fun K "counters" "Graph.counters" sGCtrs f fd) (T : GraphC K mg C) : FnOk P w K mg base CX0 1 f fd ["self"] (spGCtrs K C) := by
  refine F.ok scGCtrs (fun vs H Q E h => ?_) (fun cdv A outer s H vs Q E hr h => ?_)
  · obtain ⟨g, G, rfl, _⟩ := h
    rfl
  · obtain ⟨g, G, rfl, ⟨dx, c, t, r, n, b, kp, us, h1, h2⟩, k⟩ := h
    refine ⟨_, pss_one (ps_ret (pe_fld (pv 0) rfl)), ?_⟩
    exact ⟨_, rfl, g, C, dx, _, _, rfl, h1, T.cls, T.n1, rfl, k c h2.hc⟩
theorem ok_gsts {f C : Addr} {fd : FuncData} (F : Fun K "states" "Graph.states" sGSts f fd) (T : GraphC K mg C) : FnOk P w K mg base CX0 1 f fd ["self"] (spGSts K C) := by
  refine F.ok scGSts (fun vs H Q E h => ?_) (fun cdv A outer s H vs Q E hr h => ?_)
  · obtain ⟨g, G, rfl, _⟩ := h
    rfl
  · obtain ⟨g, G, rfl, ⟨dx, c, t, r, n, b, kp, us, h1, h2⟩, k⟩ := h
    refine ⟨_, pss_one (ps_ret (pe_fld (pv 0) rfl)), ?_⟩
    exact ⟨_, rfl, g, C, dx, _, _, rfl, h1, T.cls, T.n2, rfl, k t h2.ht⟩
theorem ok_glen {f C : Addr} {fd : FuncData} (F : Fun K "__len__" "Graph.__len__" sGLen f fd) (T : GraphC K mg C) (B : BltP mg) : FnOk P w K mg base CX0 1 f fd ["self"] (spGLen K C) := by
  refine F.ok scGLen (fun vs H Q E h => ?_) (fun cdv A outer s H vs Q E hr h => ?_)
  · obtain ⟨g, G, rfl, _⟩ := h
    rfl
  · obtain ⟨g, G, rfl, ⟨dx, c, t, r, n, b, kp, us, h1, h2⟩, k⟩ := h
    refine ⟨_, pss_one (ps_ret (pe_callB call_len_seq (by rfl) B.len PySem.boot_len (pa_cons (pe_fld (pv 0) rfl) pa_nil))), ?_⟩
    refine ⟨_, rfl, g, C, dx, _, _, rfl, h1, T.cls, T.n3, rfl, r, _, rfl, .inr h2.hr, ?_⟩
    rw [h2.hp.length]
    exact k
theorem ok_gbool {f C : Addr} {fd : FuncData} (F : Fun K "__bool__" "Graph.__bool__" sGBool f fd) (T : GraphC K mg C) (B : BltP mg) : FnOk P w K mg base CX0 1 f fd ["self"] (spGBool K C) := by
  refine F.ok scGBool (fun vs H Q E h => ?_) (fun cdv A outer s H vs Q E hr h => ?_)
  · obtain ⟨g, G, rfl, _⟩ := h
    rfl
  · obtain ⟨g, G, rfl, ⟨dx, c, t, r, n, b, kp, us, h1, h2⟩, k⟩ := h
    refine ⟨_, pss_one (ps_ret (pe_callTy call_boolT (by rfl) B.bool (by decide +kernel) (pa_cons (pe_fld (pv 0) rfl) pa_nil))), ?_⟩
    refine ⟨_, rfl, g, C, dx, _, _, rfl, h1, T.cls, T.n3, rfl, r, _, rfl, h2.hr, ?_⟩
    have l := h2.hp.length
    have e : us.isEmpty = G.rs.isEmpty := by
      cases us with
      | nil => cases e : G.rs with
        | nil => rfl
        | cons x y => rw [e] at l; cases l
      | cons u v => cases e : G.rs with
        | nil => rw [e] at l; cases l
        | cons x y => rfl
    rw [e]
    exact k
theorem ok_giter {f C : Addr} {fd : FuncData} (F : Fun K "__iter__" "Graph.__iter__" sGIter f fd) (T : GraphC K mg C) (it : mg "iter" = none) : FnN P w K mg base 1 f fd ["self"] (spIterT (itsGraph K C)) := by
  refine Fun_okN F scGIter (fun n vs H Q E h => ?_) (fun cdv A outer s H vs Q E hr h => ?_)
  · obtain ⟨a, t, rfl, _⟩ := h
    rfl
  · obtain ⟨a, t, rfl, ⟨G, dx, c, st, n, b, k2, us, h1, h2, _, _⟩, k⟩ := h
    refine ⟨_, pss_one (ps_ret (pe_callB call_iterT (by rfl) it (by decide +kernel) (pa_cons (pe_fld (pv 0) rfl) pa_nil))), ?_⟩
    exact ⟨_, rfl, a, C, dx, _, _, rfl, h1, T.cls, T.n3, rfl, t, _, rfl, h2, fun it h1 h2 => k it h1 h2⟩
theorem short_len {n : Nat} (h : n ≤ 100) : (Str.ofString (toString ((n : Nat) : Int))).length ≤ 4 ∧ (((n : Nat) : Int)).natAbs.log2 < 1920 := by
  refine ⟨?_, ?_⟩
  · have e := int_text_length_le10 (a := ((n : Nat) : Int)) (k := 3) (by decide) (by omega)
    rw [PySem.ofString_length]
    exact e
  · by_cases z : ((n : Nat) : Int).natAbs = 0
    · rw [z]
      decide
    · exact (Nat.log2_lt z).mpr (Nat.lt_of_le_of_lt (show ((n : Nat) : Int).natAbs ≤ 100 by omega) (by decide +kernel))
theorem ok_gstr {f C : Addr} {fd : FuncData} (F : Fun K "__str__" "Graph.__str__" sGStr f fd) (T : GraphC K mg C) (B : BltP mg) : FnOk P w K mg base CX0 1 f fd ["self"] (spGStr K C) := by
  refine F.ok scGStr (fun vs H Q E h => ?_) (fun cdv A outer s H vs Q E hr h => ?_)
  · obtain ⟨g, G, rfl, _⟩ := h
    rfl
  · obtain ⟨g, G, rfl, ⟨dx, c, t, r, n, b, kp, us, h1, h2⟩, ok, k⟩ := h
    refine ⟨_, pss_one (ps_ret (pe_joined (.cons pe_str (.cons (pe_fmt (pe_callB call_len_seq (by rfl) B.len PySem.boot_len (pa_cons (pe_fld (pv 0) rfl) pa_nil))) (.cons pe_str (.cons (pe_fmt (pe_callB call_len_seq (by rfl) B.len PySem.boot_len (pa_cons (pe_fld (pv 0) rfl) pa_nil))) (.cons pe_str (.cons (pe_fmt (pe_callB call_len_seq (by rfl) B.len PySem.boot_len (pa_cons (pe_fld (pv 0) rfl) pa_nil))) (.cons pe_str .nil))))))))), ?_⟩
    obtain ⟨l1, g1⟩ := short_len (n := G.ns.length) (by have := ok.nl; omega)
    obtain ⟨l2, g2⟩ := short_len (n := G.cs.length) (by have := ok.cl; omega)
    obtain ⟨l3, g3⟩ := short_len (n := G.rs.length) (by have := ok.rl; omega)
    have e1 : (Str.empty).length = 0 := rfl
    have e2 : (("graph of " : Str)).length = 9 := rfl
    have e3 : ((" states, " : Str)).length = 9 := rfl
    have e4 : ((" counters, " : Str)).length = 11 := rfl
    have e5 : ((" transitions" : Str)).length = 12 := rfl
    have sz := sizeLine_eq
    refine ⟨_, rfl, ?_, _, rfl, g, C, dx, _, _, rfl, h1, T.cls, T.n2, rfl, t, _, rfl, .inr h2.ht, .inr ⟨_, rfl, by rw [List.length_map]; exact g1, ?_⟩⟩
    · simp only [strLen_append, e1, e2]
      omega
    rw [List.length_map]
    refine ⟨_, rfl, ?_, _, rfl, ?_, _, rfl, g, C, dx, _, _, rfl, h1, T.cls, T.n1, rfl, c, _, rfl, .inr h2.hc, .inr ⟨_, rfl, by rw [List.length_map]; exact g2, ?_⟩⟩
    · simp only [strLen_append, e1, e2, e3, e4, e5]
      omega
    · simp only [strLen_append, e1, e2, e3, e4, e5]
      omega
    rw [List.length_map]
    refine ⟨_, rfl, ?_, _, rfl, ?_, _, rfl, g, C, dx, _, _, rfl, h1, T.cls, T.n3, rfl, r, _, rfl, .inr h2.hr, .inr ⟨_, rfl, by rw [h2.hp.length]; exact g3, ?_⟩⟩
    · simp only [strLen_append, e1, e2, e3, e4, e5]
      omega
    · simp only [strLen_append, e1, e2, e3, e4, e5]
      omega
    rw [h2.hp.length]
    refine ⟨_, rfl, ?_, _, rfl, ?_, ?_⟩
    · simp only [strLen_append, e1, e2, e3, e4, e5]
      omega
    · simp only [strLen_append, e1, e2, e3, e4, e5]
      omega
    exact k
end
end Qp

/-! == of a graph with anything, x in a graph -/
namespace Qp
open PySem PySem.Spec PyProof.Rows L2 QN
theorem eqv_str (x y : Str) : PyData.eqv (.str x) (.str y) = decide (x = y) := by
  simp only [PyData.eqv]
  by_cases e : x = y
  · rw [decide_eq_true e]
    exact beq_iff_eq.mpr e
  · rw [decide_eq_false e]
    exact beq_eq_false_iff_ne.mpr e
theorem eqv_int (x y : Int) : PyData.eqv (.int x) (.int y) = decide (x = y) := by
  simp only [PyData.eqv]
  by_cases e : x = y
  · subst e
    simp
  · simp [e]
/-- == is sameness, piece by piece -/
theorem eqvAll_map {α : Type} [DecidableEq α] {f : α → PyData} (h : ∀ a b, PyData.eqv (f a) (f b) = decide (a = b)) : ∀ xs ys : List α, PyData.eqvAll (xs.map f) (ys.map f) = decide (xs = ys)
  | [], [] => by simp [PyData.eqvAll]
  | [], y :: ys => by simp [PyData.eqvAll]
  | x :: xs, [] => by simp [PyData.eqvAll]
  | x :: xs, y :: ys => by
    rw [List.map_cons, List.map_cons]
    simp only [PyData.eqvAll, h, eqvAll_map h xs ys]
    by_cases a : x = y
    · subst a
      simp
    · simp [a]
theorem eqv_pairD (p q : Str × Int) : PyData.eqv (pairD p) (pairD q) = decide (p = q) := by
  unfold pairD
  simp only [PyData.eqv, PyData.eqvAll]
  have h1 := eqv_str p.1 q.1
  have h2 := eqv_int p.2 q.2
  simp only [PyData.eqv] at h1 h2
  obtain ⟨a, b⟩ := p
  obtain ⟨c, d⟩ := q
  simp only at h1 h2 ⊢
  by_cases e1 : a = c
  · by_cases e2 : b = d
    · subst e1 e2
      simp
    · subst e1
      simp [e2]
  · simp [e1]
instance : DecidableEq Row := fun p q =>
  if h : p.n = q.n ∧ p.s = q.s ∧ p.t = q.t ∧ p.c = q.c then isTrue (by
    obtain ⟨a, b, c, d⟩ := p
    obtain ⟨a', b', c', d'⟩ := q
    obtain ⟨rfl, rfl, rfl, rfl⟩ := h
    rfl) else isFalse fun e => h (by rw [e]; exact ⟨rfl, rfl, rfl, rfl⟩)
instance : DecidableEq Gr := fun p q =>
  if h : p.cs = q.cs ∧ p.ns = q.ns ∧ p.rs = q.rs then isTrue (by
    obtain ⟨a, b, c⟩ := p
    obtain ⟨a', b', c'⟩ := q
    obtain ⟨rfl, rfl, rfl⟩ := h
    rfl) else isFalse fun e => h (by rw [e]; exact ⟨rfl, rfl, rfl⟩)
theorem eqv_rowD (p q : Row) : PyData.eqv (rowD p) (rowD q) = decide (p = q) := by
  have h4 : PyData.eqv (chD p.c) (chD q.c) = decide (p.c = q.c) := by
    unfold chD
    simp only [PyData.eqv]
    exact eqvAll_map eqv_pairD _ _
  have e : PyData.eqv (rowD p) (rowD q) = (PyData.eqv (.str p.n) (.str q.n) && (PyData.eqv (.str p.s) (.str q.s) && (PyData.eqv (.str p.t) (.str q.t) && (PyData.eqv (chD p.c) (chD q.c) && true)))) := by
    unfold rowD
    simp only [PyData.eqv, PyData.eqvAll]
  rw [e, eqv_str, eqv_str, eqv_str, h4]
  obtain ⟨a, b, c, d⟩ := p
  obtain ⟨a', b', c', d'⟩ := q
  by_cases e1 : a = a'
  · by_cases e2 : b = b'
    · by_cases e3 : c = c'
      · by_cases e4 : d = d'
        · subst e1 e2 e3 e4
          simp
        · simp [e4]
      · simp [e3]
    · simp [e2]
  · simp [e1]
theorem eqv_strs (xs ys : List Str) : PyData.eqv (.tuple (xs.map PyData.str)) (.tuple (ys.map PyData.str)) = decide (xs = ys) := by
  simp only [PyData.eqv]
  exact eqvAll_map eqv_str xs ys
theorem eqv_rows (xs ys : List Row) : PyData.eqv (.tuple (xs.map rowD)) (.tuple (ys.map rowD)) = decide (xs = ys) := by
  simp only [PyData.eqv]
  exact eqvAll_map eqv_rowD xs ys
/-- what == says of a graph and anything -/
def EqG (K : PySem.W.Frag) (C : Addr) (H : Hp) (G : Gr) (o : V) (b : Bool) : Prop := (∃ (q : Addr) (G' : Gr), o = .ref q ∧ GraphAt K C H q G' ∧ G'.Ok ∧ b = decide (G = G')) ∨ (b = false ∧ ∃ t, TyX K H o t ∧ PySem.W.kitOne K t (.ref C) = some false)
def spGEqV (K : PySem.W.Frag) (C : Addr) : Sp := fun vs H Q _ => ∃ (g : Addr) (o : V) (G : Gr) (b : Bool), vs = [.ref g, o] ∧ GraphAt K C H g G ∧ G.Ok ∧ EqG K C H G o b ∧ Q (.bl b) H
/-- what `in` says -/
def InG (K : PySem.W.Frag) (H : Hp) (G : Gr) (o : V) (b : Bool) : Prop := (∃ x : Str, o = .str x ∧ b = decide (x ∈ G.rs.map (·.n))) ∨ (b = false ∧ ∃ t, TyX K H o t ∧ PySem.W.kitOne K t (.type "str") = some false)
def spGConV (K : PySem.W.Frag) (C : Addr) : Sp := fun vs H Q _ => ∃ (g : Addr) (o : V) (G : Gr) (b : Bool), vs = [.ref g, o] ∧ GraphAt K C H g G ∧ InG K H G o b ∧ Q (.bl b) H
section
variable {P : Program} {w : World} {K : PySem.W.Frag} {mg : Str → Option Value} {base : Heap}
theorem ok_geqV {f C : Addr} {fd : FuncData} (F : Fun K "__eq__" "Graph.__eq__" sGEq f fd) (T : GraphC K mg C) (O : GraphO K C) (B : BltP mg) : FnOk P w K mg base CX0 1 f fd ["self", "other"] (spGEqV K C) := by
  refine F.ok scGEq (fun vs H Q E h => ?_) (fun cdv A outer s H vs Q E hr h => ?_)
  · obtain ⟨g, o, G, b, rfl, _⟩ := h
    rfl
  · obtain ⟨g, o, G, b0, rfl, hg, ok, he, k⟩ := h
    have hu : (A.deeper (envOfC "Graph.__eq__" (defScope sGEq) s.heap.objs.size f cdv)).units + 64 < cLine := by
      have := hr.un
      omega
    refine ⟨_, pss_one (ps_ret (pe_and (pe_callB call_isi (by rfl) B.isi (by decide +kernel) (pa_cons (pv 1) (pa_cons (pe_glob (v := .ref C) (by rfl) T.gC rfl) pa_nil)))
      (pe_and (pe_cmpR (op_eqD hu) (pe_fld (pv 0) rfl) (pe_fld (pv 1) rfl) (nomark _)) (pe_and (pe_cmpR (op_eqD hu) (pe_fld (pv 0) rfl) (pe_fld (pv 1) rfl) (nomark _)) (pe_one (pe_cmpR (op_eqD hu) (pe_fld (pv 0) rfl) (pe_fld (pv 1) rfl) (nomark _))))))), ?_⟩
    rcases he with ⟨q, G', rfl, hq, ok', rfl⟩ | ⟨rfl, t, ty, nk⟩
    · have ty := tyx_graph T O hq
      obtain ⟨dx, c, t, r, n, b, kp, us, h1, h2⟩ := hg
      obtain ⟨dx', c', t', r', n', b', kp', us', j1, j2⟩ := hq
      refine ⟨_, rfl, _, _, _, _, true, rfl, .own C, ty, O.isC, _, rfl, if_yes rfl ?_⟩
      refine ⟨_, rfl, g, C, dx, _, _, rfl, h1, T.cls, T.n1, rfl, _, rfl, q, C, dx', _, _, rfl, j1, T.cls, T.n1, rfl, _, _, .tup h2.hc (strs_dp _), .tup j2.hc (strs_dp _), shaped_strs ok.cn, shaped_strs ok'.cn, ?_⟩
      rw [eqv_strs]
      refine ⟨_, rfl, ?_⟩
      by_cases e1 : G.cs = G'.cs
      · refine if_yes (decide_eq_true e1) ?_
        refine ⟨_, rfl, g, C, dx, _, _, rfl, h1, T.cls, T.n2, rfl, _, rfl, q, C, dx', _, _, rfl, j1, T.cls, T.n2, rfl, _, _, .tup h2.ht (strs_dp _), .tup j2.ht (strs_dp _), shaped_strs ok.nn, shaped_strs ok'.nn, ?_⟩
        rw [eqv_strs]
        refine ⟨_, rfl, ?_⟩
        by_cases e2 : G.ns = G'.ns
        · refine if_yes (decide_eq_true e2) ?_
          refine ⟨_, rfl, g, C, dx, _, _, rfl, h1, T.cls, T.n3, rfl, _, rfl, q, C, dx', _, _, rfl, j1, T.cls, T.n3, rfl, _, _, .tup h2.hr h2.hu, .tup j2.hr j2.hu, shaped_rows ok.ro, shaped_rows ok'.ro, ?_⟩
          rw [eqv_rows]
          have e : decide (G = G') = decide (G.rs = G'.rs) := by
            by_cases e3 : G.rs = G'.rs
            · have : G = G' := by
                obtain ⟨a, b, c⟩ := G
                obtain ⟨a', b', c'⟩ := G'
                cases e1
                cases e2
                cases e3
                rfl
              rw [decide_eq_true this, decide_eq_true e3]
            · rw [decide_eq_false e3, decide_eq_false fun z => e3 (by rw [z])]
          rw [← e]
          exact k
        · have z : decide (G = G') = false := decide_eq_false fun z => e2 (by rw [z])
          rw [z] at k
          exact if_no (by simpa using e2) k
      · have z : decide (G = G') = false := decide_eq_false fun z => e1 (by rw [z])
        rw [z] at k
        exact if_no (by simpa using e1) k
    · exact ⟨_, rfl, _, _, _, _, false, rfl, .own C, ty, nk, _, rfl, if_no (by decide) k⟩
theorem ok_gconV {f C : Addr} {fd : FuncData} (F : Fun K "__contains__" "Graph.__contains__" sGCon f fd) (T : GraphC K mg C) (B : BltP mg) (st : mg "str" = none) : FnOk P w K mg base CX0 1 f fd ["self", "x"] (spGConV K C) := by
  refine F.ok scGCon (fun vs H Q E h => ?_) (fun cdv A outer s H vs Q E hr h => ?_)
  · obtain ⟨g, o, G, b, rfl, _⟩ := h
    rfl
  · obtain ⟨g, o, G, b0, rfl, ⟨dx, c, t, r, n, b, kp, us, h1, h2⟩, hx, k⟩ := h
    have hu1 : (A.deeper (envOfC "Graph.__contains__" (defScope sGCon) s.heap.objs.size f cdv)).units + 1 < cLine := by
      have := hr.un
      omega
    refine ⟨_, pss_one (ps_ret (pe_and (pe_callB call_isi (by rfl) B.isi (by decide +kernel) (pa_cons (pv 1) (pa_cons (pe_bltn (v := .ty "str") (by rfl) st (by decide +kernel) rfl) pa_nil))) (pe_one (pe_cmp (pc_din hu1 (pv 1) (pe_fld (pv 0) rfl)))))), ?_⟩
    rcases hx with ⟨x, rfl, rfl⟩ | ⟨rfl, ty, hty, nk⟩
    · refine ⟨_, rfl, _, _, _, _, true, rfl, .ty _, .base (.str x), kit_ty (by decide +kernel), _, rfl, if_yes rfl ?_⟩
      have ul : us.length = G.rs.length := by rw [dpAll_len h2.hu, List.length_map]
      have has : (valV (byName G.rs us) (Sum.inr x : Key)).isSome = decide (x ∈ G.rs.map (·.n)) := by
        unfold valV
        rw [Option.isSome_map]
        by_cases m : x ∈ G.rs.map (·.n)
        · rw [decide_eq_true m, List.find?_isSome]
          obtain ⟨row, hrow, e⟩ := List.mem_map.mp m
          obtain ⟨i, hi⟩ := mem_at hrow
          have lt := (List.getElem?_eq_some_iff.mp hi).1
          obtain ⟨u, hu⟩ : ∃ u, us[i]? = some u := ⟨us[i]'(by omega), List.getElem?_eq_getElem _⟩
          refine ⟨(Sum.inr row.n, u), ?_, by rw [e]; exact decide_eq_true rfl⟩
          unfold byName
          exact List.mem_map.mpr ⟨(row, u), List.mem_of_getElem? (i := i) (by rw [List.getElem?_zip_eq_some]; exact ⟨hi, hu⟩), rfl⟩
        · rw [decide_eq_false m, Option.isSome_eq_false_iff, Option.isNone_iff_eq_none, List.find?_eq_none]
          intro q hq
          unfold byName at hq
          obtain ⟨z, hz, rfl⟩ := List.mem_map.mp hq
          simp only [decide_eq_true_eq]
          intro e
          exact m (List.mem_map.mpr ⟨z.1, (List.of_mem_zip hz).1, Sum.inr.inj e⟩)
      refine ⟨_, rfl, _, rfl, g, C, dx, _, _, rfl, h1, T.cls, T.n5, rfl, b, _, rfl, DGet.k (k := Sum.inr x) h2.hb, ?_⟩
      rw [has]
      exact k
    · exact ⟨_, rfl, _, _, _, _, false, rfl, .ty _, hty, nk, _, rfl, if_no (by decide) k⟩
end
end Qp

/-! change, leaving, entering -/
namespace Qp
open PySem PySem.Spec PyProof.Rows L2 QN
abbrev gChgN : List Str := ["self", "name", "told", "counter"]
/-- a change as a dict's pairs -/
def chK (c : List (Str × Int)) : List (Key × V) := c.map fun p => (Sum.inr p.1, V.int p.2)
def amountOf (c : List (Str × Int)) (x : Str) : Int := ((c.find? fun p => decide (p.1 = x)).map (·.2)).getD 0
def toldK (cs : List Str) (c : List (Str × Int)) : List (Key × V) := cs.map fun x => (Sum.inr x, V.int (amountOf c x))
theorem putK_new {kvs : List (Key × V)} {k : Key} {v : V} (h : k ∉ kvs.map (·.1)) : putK kvs k v = kvs ++ [(k, v)] := by
  unfold putK
  rw [if_neg]
  simp only [List.any_eq_true, decide_eq_true_eq, not_exists, not_and]
  exact fun p hp e => h (List.mem_map.mpr ⟨p, hp, e⟩)
theorem merge_new : ∀ {more acc : List (Key × V)}, ((acc ++ more).map (·.1)).Nodup → mergeK acc more = acc ++ more
  | [], acc, _ => by
    rw [List.append_nil]
    rfl
  | q :: more, acc, nd => by
    have e : acc ++ q :: more = (acc ++ [q]) ++ more := by simp
    show mergeK (putK acc q.1 q.2) more = _
    rw [putK_new, merge_new (by rw [← e]; exact nd), ← e]
    intro m
    rw [List.map_append, List.map_cons] at nd
    exact (List.nodup_append.mp nd).2.2 _ m _ List.mem_cons_self rfl
theorem chK_val (c : List (Str × Int)) (x : Str) : (valV (chK c) (Sum.inr x : Key)).getD (V.int 0) = V.int (amountOf c x) := by
  unfold amountOf
  induction c with
  | nil => rfl
  | cons p c ih =>
    by_cases e : p.1 = x
    · rw [List.find?_cons_of_pos (by simpa using e), show chK (p :: c) = (Sum.inr p.1, V.int p.2) :: chK c from rfl, e, valV_pos rfl]
      rfl
    · rw [List.find?_cons_of_neg (by simpa using e), ← ih]
      unfold valV
      rw [show chK (p :: c) = (Sum.inr p.1, V.int p.2) :: chK c from rfl, List.find?_cons_of_neg (by simpa using e)]
theorem asc_step {xs : List Str} (h : Asc xs) : xs.Pairwise lts := by
  induction xs with
  | nil => exact .nil
  | cons x xs ih =>
    have t := ih fun i y z h1 h2 => h (i + 1) y z (by simpa using h1) (by simpa using h2)
    refine List.pairwise_cons.mpr ⟨fun y hy => ?_, t⟩
    cases xs with
    | nil => cases hy
    | cons z zs =>
      have hz : lts x z := h 0 x z rfl rfl
      rcases List.mem_cons.mp hy with rfl | m
      · exact hz
      · exact lts_trans hz ((List.pairwise_cons.mp t).1 y m)
theorem chK_nodup {c : List (Str × Int)} (h : ChOk c) : ((chK c).map (·.1)).Nodup := by
  have e : (chK c).map (·.1) = (c.map (·.1)).map (Sum.inr : Str → Key) := by
    unfold chK
    rw [List.map_map, List.map_map]
    rfl
  rw [e]
  have nd := nodup_lts (asc_step h.2.1)
  exact List.Pairwise.map _ (fun a b ne z => ne (Sum.inr.inj z)) nd
/-- the pairs of a change that stands in the heap -/
theorem pairs_at {K : PySem.W.Frag} {H : Hp} : ∀ {us : List V} {c : List (Str × Int)}, DpAll K H us (c.map pairD) → ∃ ps : List Addr, us = ps.map V.ref ∧ Paired (fun p kv => SqT K H p [kV kv.1, kv.2]) ps (chK c)
  | [], [], _ => ⟨[], rfl, .nil⟩
  | [], _ :: _, h => by cases h
  | _ :: _, [], h => by cases h
  | u :: us, p :: c, h => by
    cases h with
    | cons a b =>
      obtain ⟨t, rfl, ht⟩ := dp_pair a
      obtain ⟨ps, rfl, hp⟩ := pairs_at b
      exact ⟨t :: ps, rfl, .cons ht hp⟩
theorem keptG_cons (n : Nat) (pz : Nat → Bool) (fv : Nat → V) : keptG (n + 1) pz fv = (if pz 0 = true then [fv 0] else []) ++ keptG n (fun j => pz (j + 1)) (fun j => fv (j + 1)) := by
  unfold keptG
  rw [List.range_succ_eq_map, List.filter_cons, List.filter_map]
  split
  · rw [List.map_cons, List.map_map]
    rfl
  · rw [List.map_map]
    rfl
theorem keptG_rows (f : Row → Str) (x : Str) : ∀ rs : List Row, keptG rs.length (fun j => (rs.map f).getD j "" == x) (fun j => V.str ((rs.map (·.n)).getD j "")) = ((rs.filter fun r => f r == x).map (·.n)).map V.str
  | [] => rfl
  | r :: rs => by
    have ih := keptG_rows f x rs
    rw [List.length_cons, keptG_cons]
    have e : keptG rs.length (fun j => ((r :: rs).map f).getD (j + 1) "" == x) (fun j => V.str (((r :: rs).map (·.n)).getD (j + 1) "")) = keptG rs.length (fun j => (rs.map f).getD j "" == x) (fun j => V.str ((rs.map (·.n)).getD j "")) := rfl
    rw [e, ih, List.filter_cons]
    show (if (f r == x) = true then [V.str r.n] else []) ++ _ = _
    split
    · rfl
    · rfl
def spGChg (K : PySem.W.Frag) (C : Addr) : Sp := fun vs H Q _ => ∃ (g : Addr) (G : Gr) (r : Row), vs = [.ref g, .str r.n] ∧ GraphAt K C H g G ∧ G.Ok ∧ r ∈ G.rs ∧ ∀ d H', Same H H' → H d = none → H' d = some (.dK (toldK G.cs r.c)) → Q (.ref d) H'
/-- leaving, entering: f a row's end -/
def spGEnd (K : PySem.W.Frag) (C PL : Addr) (f : Row → Str) : Sp := fun vs H Q _ => ∃ (g : Addr) (G : Gr) (x : Str), vs = [.ref g, .str x] ∧ GraphAt K C H g G ∧ G.Ok ∧ x ∈ G.ns ∧ GxR.TabG H PL ∧
  ∀ t H', Sim H H' → SqT K H' t (((G.rs.filter fun r => f r == x).map (·.n)).map V.str) → Q (.ref t) H'
section
variable {P : Program} {w : World} {K : PySem.W.Frag} {mg : Str → Option Value} {base : Heap}
/-- leaving, entering: i the place of the row's end -/
theorem end_body (fe : Row → Str) {ws : List V} {H : Hp} {G : Gr} (hu : Paired (PlRow K H) ws G.rs) {ns : List (Str × Pos)} {a c x : Str} (len : ns.length = 4)
    (la : ∀ r : Row, ∀ y, lastV ns [.str r.n, .str r.s, .str r.t, y] a = some (.str (fe r))) (lc : ∀ r : Row, ∀ y, lastV ns [.str r.n, .str r.s, .str r.t, y] c = some (.str r.n)) :
    ∀ j z, ws[j]? = some z → ∃ (p : Addr) (zs : List V) (src : Str), z = .ref p ∧ SqT K H p zs ∧ zs.length = ns.length ∧ lastV ns zs a = some (.str src) ∧ lastV ns zs c = some (V.str ((G.rs.map (·.n)).getD j "")) ∧ ((G.rs.map fe).getD j "" == x) = (src == x) := by
  intro j z hz
  have hl := hu.length
  have hj := (List.getElem?_eq_some_iff.mp hz).1
  have hr : G.rs[j]? = some (G.rs[j]'(by omega)) := List.getElem?_eq_getElem _
  generalize G.rs[j]'(by omega) = row at hr
  obtain ⟨p, c2, xs, rfl, h1, _, _⟩ := paired_at hu hz hr
  refine ⟨p, _, fe row, rfl, h1, len.symm, la _ _, ?_, ?_⟩
  · rw [lc, List.getD_eq_getElem?_getD, List.getElem?_map, hr]
    rfl
  · rw [List.getD_eq_getElem?_getD, List.getElem?_map, hr]
    rfl
end
end Qp

/-! things sorted by the text that stands first in them -/
namespace Qp
open PySem PySem.Spec PyProof.Rows L2 QN
open PySem.W PySem.SeqAt
section
variable {β : Type} {enc : β → PyData} {nm : β → Str}
/-- the text nm stands first -/
def Named (enc : β → PyData) (nm : β → Str) : Prop := ∀ b, ∃ r, enc b = .tuple (.str (nm b) :: r)
theorem nm_inj : ∀ {rs : List β}, (rs.map nm).Nodup → ∀ a ∈ rs, ∀ b ∈ rs, nm a = nm b → a = b
  | [], _, a, ha, _, _, _ => by cases ha
  | r :: rs, nd, a, ha, b, hb, e => by
    have nd2 := List.nodup_cons.mp nd
    rcases List.mem_cons.mp ha with ea | ha2
    · rcases List.mem_cons.mp hb with eb | hb2
      · rw [ea, eb]
      · refine absurd (List.mem_map.mpr ⟨b, hb2, ?_⟩) nd2.1
        rw [← e, ea]
    · rcases List.mem_cons.mp hb with eb | hb2
      · refine absurd (List.mem_map.mpr ⟨a, ha2, ?_⟩) nd2.1
        rw [e, eb]
      · exact nm_inj nd2.2 a ha2 b hb2 e
theorem le_named (he : Named enc nm) {rs : List β} (nd : (rs.map nm).Nodup) (a : β) (ha : a ∈ rs) (b : β) (hb : b ∈ rs) : dataLe false enc a b = dataLe false (fun x : Str => PyData.str x) (nm a) (nm b) := by
  show (!dataLt (enc b) (enc a)) = !dataLt (.str (nm b)) (.str (nm a))
  by_cases e : nm a = nm b
  · rw [nm_inj nd a ha b hb e, data_irrefl, data_irrefl]
  · congr 1
    obtain ⟨r, er⟩ := he a
    obtain ⟨q, eq⟩ := he b
    have ne : PyData.eqv (.str (nm b)) (.str (nm a)) = false := by
      simp only [PyData.eqv]
      exact beq_eq_false_iff_ne.mpr fun z => e z.symm
    rw [er, eq, dataLt_tuple, dataLt_cons (by simp [alike]), ne, if_neg Bool.false_ne_true]
/-- sorted: there is one order -/
theorem named_sorted (he : Named enc nm) {rs : List β} (nd : (rs.map nm).Nodup) : ((rs.mergeSort (dataLe false enc)).map nm).Pairwise lts := by
  rw [List.map_mergeSort (s := dataLe false fun x : Str => PyData.str x) (le_named he nd)]
  exact sortTx_asc nd
theorem sort_named0 (he : Named enc nm) {rs srt : List β} (nd : (rs.map nm).Nodup) (pm : srt.Perm rs) (asc : (srt.map nm).Pairwise lts) : rs.mergeSort (dataLe false enc) = srt :=
  List.Perm.eq_of_pairwise (le := fun a b => lts (nm a) (nm b)) (fun a b _ _ h1 h2 => absurd h2 (lts_asymm h1)) (List.pairwise_map.mp (named_sorted he nd)) (List.pairwise_map.mp asc) ((List.mergeSort_perm _ _).trans pm.symm)
theorem sort_named (he : Named enc nm) {us : List V} {rs : List β} (hl : us.length = rs.length) : ((us.zip (rs.map enc)).mergeSort (dataLe false (·.2))).map (·.2) = (rs.mergeSort (dataLe false enc)).map enc := by
  rw [List.map_mergeSort (r := dataLe false fun b : V × PyData => b.2) (s := dataLe false id) (fun _ _ _ _ => rfl), snd_zip (by rw [List.length_map]; exact hl)]
  exact (List.map_mergeSort (f := enc) (r := dataLe false enc) (s := dataLe false id) (fun _ _ _ _ => rfl)).symm
/-- the values behind a sort -/
theorem sorted_dp {K : PySem.W.Frag} {H : Hp} (he : Named enc nm) {us : List V} {rs : List β} (h : DpAll K H us (rs.map enc)) :
    DpAll K H (((us.zip (rs.map enc)).mergeSort (dataLe false (·.2))).map (·.1)) ((rs.mergeSort (dataLe false enc)).map enc) := by
  have z := dpAll_zip (bs := (us.zip (rs.map enc)).mergeSort (dataLe false (·.2))) fun q hq => zip_dpAll h q ((List.mergeSort_perm _ _).mem_iff.mp hq)
  rw [sort_named he (by rw [dpAll_len h, List.length_map])] at z
  exact z
end
theorem named_pair : Named pairD (·.1) := fun p => ⟨_, rfl⟩
theorem named_row : Named rowD (·.n) := fun r => ⟨_, rfl⟩
theorem asc_of {xs : List Str} (h : xs.Pairwise lts) : Asc xs := by
  induction xs with
  | nil => exact fun i x y h1 _ => by simp at h1
  | cons x xs ih =>
    have hp := List.pairwise_cons.mp h
    intro i y z h1 h2
    cases i with
    | zero =>
      cases h1
      exact hp.1 z (List.mem_of_getElem? (by simpa using h2))
    | succ i => exact ih hp.2 i y z (by simpa using h1) (by simpa using h2)
theorem alike_pair (p q : Str × Int) : alike (pairD p) (pairD q) = true := by simp [alike, alikeAll, pairD]
theorem depth_pair (p : Str × Int) : (pairD p).depth ≤ 10 := by simp [PyData.depth, PyData.depthAll, pairD]
/-- sorted(l) of pairs whose texts differ -/
theorem sorted_pairs {K : PySem.W.Frag} {H : Hp} {a : Addr} {us : List V} {c : List (Str × Int)} {Q : VK} (ha : SqL K H a us ∨ SqT K H a us) (hu : DpAll K H us (c.map pairD)) (nd : (c.map (·.1)).Nodup)
    (k : ∀ (p : Addr) (ws : List V) (c' : List (Str × Int)), H p = none → c'.Perm c → (c'.map (·.1)).Pairwise lts → DpAll K H ws (c'.map pairD) → Q (.ref p) (upd H p (.lst ws))) : rSortedDt K [.ref a] H Q := by
  have ul : us.length = c.length := by rw [dpAll_len hu, List.length_map]
  have bz1 : (us.zip (c.map pairD)).map (·.1) = us := fst_zip (by rw [List.length_map]; exact ul)
  have bz2 : (us.zip (c.map pairD)).map (·.2) = c.map pairD := snd_zip (by rw [List.length_map]; exact ul)
  refine ⟨a, us.zip (c.map pairD), rfl, by rw [bz1]; exact ha, zip_dpAll hu, by rw [bz2]; exact AllAlike.of alike_pair, by rw [bz2]; exact Sortable.tuples fun r => ⟨_, _, rfl⟩, fun p hp => ?_, fun p hp => k p _ _ hp (List.mergeSort_perm _ _) (named_sorted named_pair nd) (sorted_dp named_pair hu)⟩
  have m : p.2 ∈ c.map pairD := by
    rw [← bz2]
    exact List.mem_map.mpr ⟨p, hp, rfl⟩
  obtain ⟨q, _, e⟩ := List.mem_map.mp m
  rw [← e]
  have := depth_pair q
  omega
end Qp

/-! the law's changes -/
namespace Qp
open PySem PySem.Spec PyProof.Rows L2 QN
abbrev sLChg : Stmt := top 32 -- _law_change
abbrev lcNames : List Str := ["_law_dice_here", "_law_counters", "_law_found", "_law_turn", "_law_counter"]
theorem scLChg : FnScope lcNames ["_law_dice_here", "_law_counters"] (defScope sLChg) := ⟨rfl, rfl, rfl, by decide +kernel, rfl, by decide +kernel, by decide +kernel⟩
def AmOk (n : Int) : Prop := n ≠ 0 ∧ -9 ≤ n ∧ n ≤ 9
/-- a change of some of these counters -/
def ChIn (cs : List Str) (c : List (Str × Int)) : Prop := ∀ p ∈ c, p.1 ∈ cs ∧ AmOk p.2
def PlCh (K : PySem.W.Frag) (H : Hp) (v : V) (c : List (Str × Int)) : Prop := ∃ r xs, v = .ref r ∧ PlT K H r xs ∧ DpAll K H xs (c.map pairD)
theorem plT_same {K : PySem.W.Frag} {H H' : Hp} (s : Same H H') {a : Addr} {xs : List V} (h : PlT K H a xs) : PlT K H' a xs := plT_sim (Sim.of s) h
theorem chOk_of {cs : List Str} {c : List (Str × Int)} (hn : ∀ x ∈ cs, NameOk x) (h : ChIn cs c) (asc : (c.map (·.1)).Pairwise lts) (few : c.length ≤ 100) : ChOk c := ⟨fun p hp => ⟨hn _ (h p hp).1, (h p hp).2⟩, asc_of asc, few⟩
def chPut (c : List (Str × Int)) (x : Str) (v : Int) : List (Str × Int) := if (c.any fun p => decide (p.1 = x)) = true then c.map (fun p => if p.1 = x then (p.1, v) else p) else c ++ [(x, v)]
theorem chK_put (c : List (Str × Int)) (x : Str) (v : Int) : putK (chK c) (Sum.inr x) (.int v) = chK (chPut c x v) := by
  have e : ((chK c).any fun kv => decide (kv.1 = (Sum.inr x : Key))) = c.any fun p => decide (p.1 = x) := by
    unfold chK
    rw [List.any_map]
    congr 1
    funext p
    simp
  unfold putK chPut
  rw [e]
  split
  · unfold chK
    rw [List.map_map, List.map_map]
    refine List.map_congr_left fun p _ => ?_
    simp only [Function.comp_apply]
    by_cases h : p.1 = x
    · rw [if_pos h, if_pos (by rw [h])]
    · rw [if_neg h, if_neg (fun z => h (Sum.inr.inj z))]
  · unfold chK
    rw [List.map_append]
    rfl
theorem chPut_keys {c : List (Str × Int)} {x : Str} {v : Int} (nd : (c.map (·.1)).Nodup) : ((chPut c x v).map (·.1)).Nodup := by
  unfold chPut
  split
  · have e : (c.map fun p => if p.1 = x then (p.1, v) else p).map (·.1) = c.map (·.1) := by
      rw [List.map_map]
      refine List.map_congr_left fun p _ => ?_
      simp only [Function.comp_apply]
      split <;> rfl
    rw [e]
    exact nd
  · rename_i h
    rw [List.map_append]
    refine List.nodup_append.mpr ⟨nd, by simp, fun a ha b hb e => ?_⟩
    obtain ⟨p, hp, e2⟩ := List.mem_map.mp ha
    have e3 : b = x := by simpa using hb
    refine h (List.any_eq_true.mpr ⟨p, hp, decide_eq_true ?_⟩)
    rw [e2, e, e3]
theorem chPut_in {cs : List Str} {c : List (Str × Int)} {x : Str} {v : Int} (h : ChIn cs c) (hx : x ∈ cs) (hv : AmOk v) : ChIn cs (chPut c x v) := by
  intro p hp
  unfold chPut at hp
  split at hp
  · obtain ⟨q, hq, e⟩ := List.mem_map.mp hp
    by_cases z : q.1 = x
    · rw [if_pos z] at e
      subst e
      exact ⟨(h q hq).1, hv⟩
    · rw [if_neg z] at e
      subst e
      exact h q hq
  · rcases List.mem_append.mp hp with m | m
    · exact h p m
    · have e : p = (x, v) := by simpa using m
      subst e
      exact ⟨hx, hv⟩
theorem chPut_len (c : List (Str × Int)) (x : Str) (v : Int) : (chPut c x v).length ≤ c.length + 1 := by
  unfold chPut
  split
  · rw [List.length_map]
    omega
  · rw [List.length_append]
    exact Nat.le_refl _
theorem paired_append {α β : Type} {F : α → β → Prop} : ∀ {xs : List α} {ys : List β} {x : α} {y : β}, Paired F xs ys → F x y → Paired F (xs ++ [x]) (ys ++ [y])
  | _, _, _, _, .nil, h => .cons h .nil
  | _, _, _, _, .cons r t, h => .cons r (paired_append t h)
theorem sqT_upd {K : PySem.W.Frag} {H : Hp} {x : Addr} {o o' : HO} (h0 : H x = some o) (n1 : ∀ xs, o ≠ .tup xs) (n2 : ∀ b xs, o ≠ .frz b (.tup xs)) {q : Addr} {xs : List V} (h : SqT K H q xs) : SqT K (upd H x o') q xs := by
  rcases h with (h | ⟨b, h⟩) | h
  · exact .inl (.inl (by rw [upd_ne fun z => by rw [z, h0] at h; exact n1 _ (Option.some.inj h)]; exact h))
  · exact .inl (.inr ⟨b, by rw [upd_ne fun z => by rw [z, h0] at h; exact n2 _ _ (Option.some.inj h)]; exact h⟩)
  · exact .inr h
/-- pairs of a text and a number, as tuples -/
def PairsAt (K : PySem.W.Frag) (H : Hp) (us : List V) (c : List (Str × Int)) : Prop := Paired (fun u p => ∃ t, u = V.ref t ∧ SqT K H t [.str p.1, .int p.2]) us c
theorem pairsAt_dp {K : PySem.W.Frag} {H : Hp} : ∀ {us : List V} {c : List (Str × Int)}, PairsAt K H us c → DpAll K H us (c.map pairD)
  | _, _, .nil => .nil
  | _, _, .cons ⟨t, e, h⟩ r => by
    subst e
    exact .cons (.tup h (.cons (.str _) (.cons (.int _) .nil))) (pairsAt_dp r)
theorem chK_get {c : List (Str × Int)} (nd : (c.map (·.1)).Nodup) {p : Str × Int} (h : p ∈ c) : valV (chK c) (Sum.inr p.1 : Key) = some (V.int p.2) := by
  induction c with
  | nil => cases h
  | cons q c ih =>
    have nd2 := List.nodup_cons.mp nd
    rcases List.mem_cons.mp h with rfl | m
    · exact valV_pos rfl
    · have ne : q.1 ≠ p.1 := fun e => nd2.1 (List.mem_map.mpr ⟨p, m, e.symm⟩)
      rw [← ih nd2.2 m]
      unfold valV
      rw [show chK (q :: c) = (Sum.inr q.1, V.int q.2) :: chK c from rfl, List.find?_cons_of_neg (by simpa using ne)]
/-- one of a list that is written there -/
theorem one_lst {σ : L2.St} {H : Hp} {Q : VK} {p : Addr} {x y z : Int} {its : List V} {T : TA} (h0 : σ[0]? = some (some (.ref p))) (hp : H p = some (.lst (hand x y z))) (hT : ∀ Q' : List V → Hp → Prop, Q' its H → T σ H Q') (l1 : 0 < its.length) (l2 : its.length < 1000)
    (k : ∀ (v : V) (x' y' z' : Int) (H' : Hp), v ∈ its → H' p = some (.lst (hand x' y' z')) → But p H H' → Q v H') : tCall spOne [] L2.E0 (tCons (tVar 0) (tCons (tLst T) tNil)) σ H Q := by
  refine ⟨_, h0, hT _ ⟨by rw [sizeLine_eq]; omega, fun q hq => ?_⟩⟩
  have ne : q ≠ p := fun c => by rw [c, hp] at hq; cases hq
  exact ⟨p, q, x, y, z, its, rfl, same_new hq _ _ hp, upd_same, ne, l1, by omega, fun v x' y' z' H' m h1 h2 => k v x' y' z' H' m h1 (but_same (same_new hq) h2)⟩
/-- one of a list in the slot j -/
theorem one_var {σ : L2.St} {H : Hp} {Q : VK} {p q : Addr} {x y z : Int} {its : List V} {j : Nat} (h0 : σ[0]? = some (some (.ref p))) (hj : σ[j]? = some (some (.ref q))) (hp : H p = some (.lst (hand x y z))) (hq : H q = some (.lst its)) (ne : q ≠ p) (l1 : 0 < its.length) (l2 : its.length < 1000000)
    (k : ∀ (v : V) (x' y' z' : Int) (H' : Hp), v ∈ its → H' p = some (.lst (hand x' y' z')) → But p H H' → Q v H') : tCall spOne [] L2.E0 (tCons (tVar 0) (tCons (tVar j) tNil)) σ H Q :=
  ⟨_, h0, _, hj, p, q, x, y, z, its, rfl, hp, hq, ne, l1, by omega, k⟩
def spLChg (K : PySem.W.Frag) : Sp := fun vs H Q _ => ∃ (p q : Addr) (x y z : Int) (cs : List Str), vs = [.ref p, .ref q] ∧ H p = some (.lst (hand x y z)) ∧ H q = some (.lst (cs.map V.str)) ∧ q ≠ p ∧ 1 ≤ cs.length ∧ cs.length ≤ 1000 ∧ (∀ x ∈ cs, NameOk x) ∧
  ∀ (v : V) (c : List (Str × Int)) (x' y' z' : Int) (H' : Hp), ChOk c → ChIn cs c → PlCh K H' v c → H' p = some (.lst (hand x' y' z')) → But p H H' → Q v H'
section
variable {P : Program} {w : World} {K : PySem.W.Frag} {mg : Str → Option Value} {base : Heap}
theorem ok_lchg {f fO : Addr} {fd fdO : FuncData} (F : Fun K "_law_change" "_law_change" sLChg f fd) (GO : FnOk P w K mg base CX0 2 fO fdO ["_law_dice_here", "_law_items"] spOne) (kO : PySem.W.keepIn K (.ref fO) = true) (bO : L2.Binds K fdO ["_law_dice_here", "_law_items"] []) (gO : mg "_law_one_of" = some (.ref fO))
    (B : BltP mg) (B2 : Blt2 mg) (so : mg "sorted" = none) : FnOk P w K mg base CX0 3 f fd ["_law_dice_here", "_law_counters"] (spLChg K) := by
  refine F.ok scLChg (fun vs H Q E h => ?_) (fun cdv A outer s H vs Q E hr h => ?_)
  · obtain ⟨p, q, x, y, z, cs, rfl, _⟩ := h
    rfl
  · obtain ⟨p, q, x, y, z, cs, rfl, hp, hq, nqp, c1, c2, cn, k⟩ := h
    have hu1 : (A.deeper (envOfC "_law_change" (defScope sLChg) s.heap.objs.size f cdv)).units + 64 < cLine := by
      have := hr.un
      omega
    have hu2 : (A.deeper (envOfC "_law_change" (defScope sLChg) s.heap.objs.size f cdv)).units + 1 < cLine := by omega
    refine ⟨_, pss_cons (ps_set (i := 2) scLChg.nd rfl (.inr rfl) pe_dnewK)
      (pss_cons (ps_for PassesOwn.never rfl (pi_range1 (by rfl) B2.rg (pa_cons (pe_call GO hr (by rfl) gO kO bO .nil pass0 (pa_cons (pv 0) (pa_cons (pe_lst (pa_cons pe_int (pa_cons pe_int (pa_cons pe_int (pa_cons pe_int (pa_cons pe_int (pa_cons pe_int pa_nil))))))) pa_nil))) pa_nil)) (pg_name (i := 3) scLChg.nd rfl (.inl rfl))
        (pss_one (ps_dput hu2 (pv 2) (pe_call GO hr (by rfl) gO kO bO .nil pass0 (pa_cons (pv 0) (pa_cons (pv 1) pa_nil)))
          (pe_call GO hr (by rfl) gO kO bO .nil pass0 (pa_cons (pv 0) (pa_cons (pe_lst (pa_cons (pe_un un_neg pe_int) (pa_cons (pe_un un_neg pe_int) (pa_cons pe_int (pa_cons pe_int (pa_cons (pe_un un_neg pe_int) (pa_cons pe_int (pa_cons (pe_un un_neg pe_int) (pa_cons pe_int (pa_cons (pe_un un_neg pe_int) pa_nil)))))))))) pa_nil))) rfl)))
      (pss_one (ps_ret (pe_callTy call_tuple_ofZ (by rfl) B.tuple (by decide +kernel) (pa_cons (pe_callB (r := rSortedDt K) (cr_sortedDt hu1) (by rfl) so (by decide +kernel) (pa_cons (pe_lock (pe_lc (own := [("_law_counter", 4)]) (g := gName 4) (tt := tYes)
        (te := tTup (tCons (tVar 4) (tCons (tDGet (tVar 2) (tVar 4)) tNil))) rfl scLChg.nd (pi_keys (pv 2)) (blkOk_by (N := lcNames) (sc := defScope sLChg) (by decide +kernel))
          (fun _ _ _ _ _ => pg_name (i := 4) scLChg.nd rfl (.inl rfl)) (fun _ _ _ _ _ => pts_nil) (fun _ _ _ _ _ => pe_tup (pa_cons (pv 4) (pa_cons (pe_dget hu2 (pv 2) (pv 4) (fun _ _ => rfl)) pa_nil))))) pa_nil)) pa_nil))))), ?_⟩
    intro d hd
    have ndp : d ≠ p := fun c => by rw [c, hp] at hd; cases hd
    have s0 := same_new (o := .dK []) hd
    have hd1 : (upd H d (.dK [])) d = some (.dK (chK [])) := upd_same
    have hp1 := s0 _ _ hp
    have b1 := same_but (p := p) s0
    generalize upd H d (.dK []) = H1 at hd1 hp1 b1
    refine one_lst rfl hp1 (fun _ q => q) (by decide) (by decide) fun v x1 y1 z1 H2 mv hp2 b2 => ?_
    obtain ⟨n, rfl, n3⟩ : ∃ n : Nat, v = .int (n : Int) ∧ n ≤ 3 := by
      simp only [List.mem_cons, List.not_mem_nil, or_false] at mv
      rcases mv with rfl | rfl | rfl | rfl | rfl | rfl
      · exact ⟨0, rfl, by decide⟩
      · exact ⟨1, rfl, by decide⟩
      · exact ⟨1, rfl, by decide⟩
      · exact ⟨2, rfl, by decide⟩
      · exact ⟨2, rfl, by decide⟩
      · exact ⟨3, rfl, by decide⟩
    have hd2 := b2 _ _ ndp hd1
    have b12 := but_trans b1 b2
    refine ⟨(n : Int), rfl, by omega, by omega, ?_⟩
    have nn : ((n : Int)).toNat = n := Int.toNat_natCast n
    rw [nn]
    refine for_range (fun i σ H' => ∃ y3 y4, σ = [some (.ref p), some (.ref q), some (.ref d), y3, y4] ∧ But p H H' ∧ (∃ x y z : Int, H' p = some (.lst (hand x y z))) ∧ ∃ c, H' d = some (.dK (chK c)) ∧ (c.map (·.1)).Nodup ∧ ChIn cs c ∧ c.length ≤ i) ⟨none, none, rfl, b12, ⟨_, _, _, hp2⟩, [], hd2, .nil, fun _ h => (by cases h), Nat.le_refl _⟩ ?_ ?_
    · rintro i σ H' hi ⟨y3, y4, rfl, b3, ⟨x3, y5, z3, hp3⟩, c, hd3, nd, ci, cl⟩
      refine one_lst (x := x3) (y := y5) (z := z3) rfl hp3 (fun _ q => ⟨1, rfl, 1, rfl, 2, rfl, 3, rfl, 9, rfl, q⟩) (by decide) (by decide) fun v x6 y6 z6 H6 mv hp6 b6 => ?_
      obtain ⟨m, rfl, mo⟩ : ∃ m : Int, v = .int m ∧ AmOk m := by
        simp only [List.mem_cons, List.not_mem_nil, or_false] at mv
        rcases mv with rfl | rfl | rfl | rfl | rfl | rfl | rfl | rfl | rfl
        all_goals exact ⟨_, rfl, by decide, by decide, by decide⟩
      refine ⟨_, rfl, ?_⟩
      have hq6 : H6 q = some (.lst (cs.map V.str)) := b6 _ _ nqp (b3 _ _ nqp hq)
      refine one_var rfl rfl hp6 hq6 nqp (by rw [List.length_map]; omega) (by rw [List.length_map]; omega) fun v x7 y7 z7 H7 mv hp7 b7 => ?_
      obtain ⟨xn, hxn, rfl⟩ := List.mem_map.mp mv
      have hd7 : H7 d = some (.dK (chK c)) := b7 _ _ ndp (b6 _ _ ndp hd3)
      have lt : (chK c).length < sizeLine := by
        unfold chK
        rw [List.length_map, sizeLine_eq]
        omega
      refine ⟨d, _, rfl, DPut.k (k := Sum.inr xn) hd7 lt, ?_⟩
      rw [chK_put]
      refine ⟨_, _, rfl, ?_, ⟨x7, y7, z7, by rw [upd_ne ndp.symm]; exact hp7⟩, chPut c xn m, upd_same, chPut_keys nd, chPut_in ci hxn mo, by have := chPut_len c xn m; omega⟩
      intro b o nb e
      have nbd : b ≠ d := fun c => by rw [c, hd] at e; cases e
      rw [upd_ne nbd]
      exact b7 _ _ nb (b6 _ _ nb (b3 _ _ nb e))
    · rintro σ H' ⟨y3, y4, rfl, b3, ⟨x3, y5, z3, hp3⟩, c, hd3, nd, ci, cl⟩
      refine ⟨d, .dK (chK c), hd3, trivial, fun od => ?_⟩
      have hL : (upd H' d (.frz od (.dK (chK c)))) d = some (.frz od (.dK (chK c))) := upd_same
      have bL : But p H (upd H' d (.frz od (.dK (chK c)))) := fun b o nb e => by
        have nbd : b ≠ d := fun c => by rw [c, hd] at e; cases e
        rw [upd_ne nbd]
        exact b3 b o nb e
      have pL : (upd H' d (.frz od (.dK (chK c)))) p = some (.lst (hand x3 y5 z3)) := by
        rw [upd_ne ndp.symm]
        exact hp3
      generalize upd H' d (.frz od (.dK (chK c))) = HL at hL bL pL
      refine ⟨_, rfl, d, od, rfl, .inl ⟨chK c, hL, fun D hD => ?_⟩⟩
      have ckl : (chK c).length = c.length := by unfold chK; rw [List.length_map]
      have c100 : c.length ≤ 3 := by omega
      refine lc_inner (walk_keys (d := d) (o := od) (kvs := chK c)) (fun i H2 => Same HL H2 ∧ ∃ us, H2 D = some (.lst us) ∧ PairsAt K H2 us (c.take i)) ⟨same_new hD, [], upd_same, .nil⟩ (fun i H2 _ p => p.1 _ _ hL) (fun i kx H2 H3 hi pp yy => ?_) fun H2 pp => ?_
      · obtain ⟨rfl, kk, vv, hkv, rfl⟩ := yy
        obtain ⟨s2, us, hD2, hu⟩ := pp
        unfold chK at hkv
        rw [List.getElem?_map] at hkv
        cases hc : c[i]? with
        | none => rw [hc] at hkv; cases hkv
        | some pr =>
          rw [hc] at hkv
          cases hkv
          refine ⟨rfl, yes_if ⟨_, rfl, _, rfl, _, rfl, d, .int pr.2, rfl, .inl ⟨chK c, Sum.inr pr.1, .inr ⟨od, s2 _ _ hL⟩, rfl, (chK_get nd (List.mem_of_getElem? hc)).symm⟩, (by show 2 ≤ sizeLine; decide), fun t ht => ?_⟩⟩
          have nDt : D ≠ t := fun z => by rw [← z, hD2] at ht; cases ht
          have ul : us.length ≤ 3 := by
            rw [hu.length, List.length_take]
            omega
          refine ⟨us, same_new ht _ _ hD2, by rw [sizeLine_eq]; omega, same_upd' (s2.trans (same_new ht)) hD, us ++ [.ref t], upd_same, ?_⟩
          have hDt : (upd H3 t (.tup [kV (Sum.inr pr.1), .int pr.2])) D = some (.lst us) := same_new ht _ _ hD2
          have e : c.take (i + 1) = c.take i ++ [pr] := by
            rw [List.take_add_one, hc]
            rfl
          rw [e]
          refine paired_append (Paired.mapP hu fun u p ⟨t', e, h⟩ => ⟨t', e, sqT_upd hDt (fun _ z => by cases z) (fun _ _ z => by cases z) (sqT_same (same_new ht) h)⟩) ⟨t, rfl, sqT_upd hDt (fun _ z => by cases z) (fun _ _ z => by cases z) (.inl (.inl upd_same))⟩
      · obtain ⟨s2, us, hD2, hu⟩ := pp
        rw [ckl, List.take_of_length_le (Nat.le_refl _)] at hu
        have hd2 := s2 _ _ hL
        refine ⟨hd2, ?_⟩
        have nDd : D ≠ d := fun z => by rw [z, hL] at hD; cases hD
        have hDu : (upd H2 d (.dK (chK c))) D = some (.lst us) := by
          rw [upd_ne nDd]
          exact hD2
        have huu : PairsAt K (upd H2 d (.dK (chK c))) us c := Paired.mapP hu fun u p ⟨t', e, h⟩ => ⟨t', e, sqT_upd hd2 (fun _ z => by cases z) (fun _ _ z => by cases z) h⟩
        have bU : But p H (upd H2 d (.dK (chK c))) := fun b o nb e => by
          have nbd : b ≠ d := fun c => by rw [c, hd] at e; cases e
          rw [upd_ne nbd]
          exact s2 _ _ (bL b o nb e)
        have pU : (upd H2 d (.dK (chK c))) p = some (.lst (hand x3 y5 z3)) := by
          rw [upd_ne ndp.symm]
          exact s2 _ _ pL
        generalize upd H2 d (.dK (chK c)) = HU at hDu huu bU pU
        dsimp only [tNil]
        refine sorted_pairs (.inl (.inl (.inl hDu))) (pairsAt_dp huu) nd fun r ws c' hr2 pm asc hw => ?_
        refine ⟨r, ws, rfl, .inl (.inl upd_same), fun l ol hl odn => ?_⟩
        have sr := same_new (o := .lst ws) hr2
        have sl := same_new (o := .frz ol (.tup ws)) hl
        have ci' : ChIn cs c' := fun p hp => ci p (pm.mem_iff.mp hp)
        refine k (.ref l) c' x3 y5 z3 _ (chOk_of cn ci' asc (by rw [pm.length_eq]; omega)) ci' ⟨l, ws, rfl, ⟨.inl (.inr ⟨ol, upd_same⟩), .inl ⟨ol, upd_same, odn⟩⟩, dpAll_same (sr.trans sl) _ _ hw⟩ (sl _ _ (sr _ _ pU)) (but_trans bU (same_but (sr.trans sl)))
end
end Qp

/-! the law's kinds of changes -/
namespace Qp
open PySem PySem.Spec PyProof.Rows L2 QN
abbrev sLKind : Stmt := top 33 -- _law_kind
abbrev lkNames : List Str := ["_law_dice_here", "_law_counters", "_law_one", "_law_other", "_law_choice"]
theorem scLKind : FnScope lkNames ["_law_dice_here", "_law_counters"] (defScope sLKind) := ⟨rfl, rfl, rfl, by decide +kernel, rfl, by decide +kernel, by decide +kernel⟩
/-- a list of such pairs -/
def LstP (K : PySem.W.Frag) (H : Hp) (v : V) (c : List (Str × Int)) : Prop := ∃ l us, v = .ref l ∧ H l = some (.lst us) ∧ PairsAt K H us c
theorem lstP_same {K : PySem.W.Frag} {H H' : Hp} {v : V} {c : List (Str × Int)} (s : Same H H') (h : LstP K H v c) : LstP K H' v c := by
  obtain ⟨l, us, rfl, h1, h2⟩ := h
  exact ⟨l, us, rfl, s _ _ h1, Paired.mapP h2 fun u p ⟨t, e, q⟩ => ⟨t, e, sqT_same s q⟩⟩
abbrev tPr (i : Nat) (tn : TE) : TE := tTup (tCons (tVar i) (tCons tn tNil))
theorem lit1 {K : PySem.W.Frag} {σ : L2.St} {H : Hp} {Q : VK} {i : Nat} {ta : TE} {x : Str} {n : Int} (hi : σ[i]? = some (some (.str x))) (hn : ∀ (H : Hp) (Q : VK), Q (.int n) H → ta σ H Q)
    (k : ∀ v H', Same H H' → LstP K H' v [(x, n)] → Q v H') : tLst (tCons (tPr i ta) tNil) σ H Q := by
  refine ⟨_, hi, hn _ _ ⟨(by show 2 ≤ sizeLine; decide), fun t ht => ⟨(by show 1 ≤ sizeLine; decide), fun l hl => ?_⟩⟩⟩
  have s := (same_new (o := .tup [.str x, .int n]) ht).trans (same_new (o := .lst [.ref t]) hl)
  exact k _ _ s ⟨l, _, rfl, upd_same, .cons ⟨t, rfl, .inl (.inl (same_new hl _ _ upd_same))⟩ .nil⟩
theorem lit2 {K : PySem.W.Frag} {σ : L2.St} {H : Hp} {Q : VK} {i j : Nat} {ta tb : TE} {x y : Str} {n m : Int} (hi : σ[i]? = some (some (.str x))) (hn : ∀ (H : Hp) (Q : VK), Q (.int n) H → ta σ H Q) (hj : σ[j]? = some (some (.str y))) (hm : ∀ (H : Hp) (Q : VK), Q (.int m) H → tb σ H Q)
    (k : ∀ v H', Same H H' → LstP K H' v [(x, n), (y, m)] → Q v H') : tLst (tCons (tPr i ta) (tCons (tPr j tb) tNil)) σ H Q := by
  refine ⟨_, hi, hn _ _ ⟨(by show 2 ≤ sizeLine; decide), fun t ht => ⟨_, hj, hm _ _ ⟨(by show 2 ≤ sizeLine; decide), fun t2 ht2 => ⟨(by show 2 ≤ sizeLine; decide), fun l hl => ?_⟩⟩⟩⟩⟩
  have s1 := same_new (o := .tup [.str x, .int n]) ht
  have s2 := same_new (o := .tup [.str y, .int m]) ht2
  have s3 := same_new (o := .lst [.ref t, .ref t2]) hl
  exact k _ _ (s1.trans (s2.trans s3)) ⟨l, _, rfl, upd_same, .cons ⟨t, rfl, .inl (.inl (s3 _ _ (s2 _ _ upd_same)))⟩ (.cons ⟨t2, rfl, .inl (.inl (s3 _ _ upd_same))⟩ .nil)⟩
theorem cons_step {ta : TE} {tr : TA} {σ : L2.St} {H : Hp} {Q : List V → Hp → Prop} (h : ta σ H fun x H1 => tr σ H1 fun xs H2 => Q (x :: xs) H2) : tCons ta tr σ H Q := h
def spLKind (K : PySem.W.Frag) : Sp := spLChg K
section
variable {P : Program} {w : World} {K : PySem.W.Frag} {mg : Str → Option Value} {base : Heap}
theorem ok_lkind {f fO fR fC : Addr} {fd fdO fdR fdC : FuncData} (F : Fun K "_law_kind" "_law_kind" sLKind f fd) (GO : FnOk P w K mg base CX0 2 fO fdO ["_law_dice_here", "_law_items"] spOne) (kO : PySem.W.keepIn K (.ref fO) = true) (bO : L2.Binds K fdO ["_law_dice_here", "_law_items"] []) (gO : mg "_law_one_of" = some (.ref fO))
    (GR : FnOk P w K mg base CX0 1 fR fdR ["_law_dice_here", "_law_total"] spRoll) (kR : PySem.W.keepIn K (.ref fR) = true) (bR : L2.Binds K fdR ["_law_dice_here", "_law_total"] []) (gR : mg "_law_roll" = some (.ref fR))
    (GC : FnOk P w K mg base CX0 3 fC fdC ["_law_dice_here", "_law_counters"] (spLChg K)) (kC : PySem.W.keepIn K (.ref fC) = true) (bC : L2.Binds K fdC ["_law_dice_here", "_law_counters"] []) (gC : mg "_law_change" = some (.ref fC))
    (B : BltP mg) (so : mg "sorted" = none) : FnOk P w K mg base CX0 4 f fd ["_law_dice_here", "_law_counters"] (spLKind K) := by
  refine F.ok scLKind (fun vs H Q E h => ?_) (fun cdv A outer s H vs Q E hr h => ?_)
  · obtain ⟨p, q, x, y, z, cs, rfl, _⟩ := h
    rfl
  · obtain ⟨p, q, x, y, z, cs, rfl, hp, hq, nqp, c1, c2, cn, k⟩ := h
    have hu1 : (A.deeper (envOfC "_law_kind" (defScope sLKind) s.heap.objs.size f cdv)).units + 64 < cLine := by
      have := hr.un
      omega
    have r2 := hr.mono (by decide : 2 ≤ 3)
    have r1 := hr.mono (by decide : 1 ≤ 3)
    refine ⟨_, pss_cons (ps_par (i := 2) (j := 3) (by rfl) scLKind.nd rfl rfl (by decide) rfl rfl (pa_cons (pe_call GO r2 (by rfl) gO kO bO .nil pass0 (pa_cons (pv 0) (pa_cons (pv 1) pa_nil))) (pa_cons (pe_call GO r2 (by rfl) gO kO bO .nil pass0 (pa_cons (pv 0) (pa_cons (pv 1) pa_nil))) pa_nil)) (by rfl))
      (pss_cons (ps_set (i := 4) scLKind.nd rfl (.inl rfl) (pe_call GR r1 (by rfl) gR kR bR .nil pass0 (pa_cons (pv 0) (pa_cons pe_int pa_nil))))
      (pss_cons (ps_if (PW.pt (pw_or (pt_cmpR op_eq (pv 2) (pv 3) (nomark _)) (pw_or1 (pt_cmpR op_gt (pv 4) pe_int (nomark _)))))
        (pss_one (ps_ret (pe_ifExp (pt_cmpR op_lt (pv 4) pe_int (nomark _)) (pe_tupZ (pa_cons (pe_tup (pa_cons (pv 2) (pa_cons (pe_un un_neg pe_int) pa_nil))) pa_nil)) (pe_call GC hr (by rfl) gC kC bC .nil pass0 (pa_cons (pv 0) (pa_cons (pv 1) pa_nil)))))) pss_nil)
      (pss_one (ps_ret (pe_callTy call_tuple_ofZ (by rfl) B.tuple (by decide +kernel) (pa_cons (pe_callB (r := rSortedDt K) (cr_sortedDt hu1) (by rfl) so (by decide +kernel) (pa_cons (pe_ix ix_list (pe_lst
        (pa_cons (pe_lst (pa_cons (pe_tup (pa_cons (pv 2) (pa_cons (pe_un un_neg pe_int) pa_nil))) (pa_cons (pe_tup (pa_cons (pv 3) (pa_cons pe_int pa_nil))) pa_nil)))
        (pa_cons (pe_lst (pa_cons (pe_tup (pa_cons (pv 2) (pa_cons (pe_un un_neg pe_int) pa_nil))) (pa_cons (pe_tup (pa_cons (pv 3) (pa_cons pe_int pa_nil))) pa_nil)))
        (pa_cons (pe_lst (pa_cons (pe_tup (pa_cons (pv 2) (pa_cons (pe_un un_neg pe_int) pa_nil))) (pa_cons (pe_tup (pa_cons (pv 3) (pa_cons pe_int pa_nil))) pa_nil)))
        (pa_cons (pe_lst (pa_cons (pe_tup (pa_cons (pv 2) (pa_cons pe_int pa_nil))) pa_nil))
        (pa_cons (pe_lst (pa_cons (pe_tup (pa_cons (pv 2) (pa_cons (pe_un un_neg pe_int) pa_nil))) pa_nil))
        (pa_cons (pe_lst (pa_cons (pe_tup (pa_cons (pv 2) (pa_cons (pe_un un_neg pe_int) pa_nil))) (pa_cons (pe_tup (pa_cons (pv 3) (pa_cons (pe_un un_neg pe_int) pa_nil))) pa_nil))) pa_nil))))))) (pv 4) (fun _ _ => rfl)) pa_nil)) pa_nil)))))), ?_⟩
    refine one_var rfl rfl hp hq nqp (by rw [List.length_map]; omega) (by rw [List.length_map]; omega) fun v x1 y1 z1 H1 mv hp1 b1 => ?_
    obtain ⟨xa, hxa, rfl⟩ := List.mem_map.mp mv
    have hq1 := b1 _ _ nqp hq
    refine one_var rfl rfl hp1 hq1 nqp (by rw [List.length_map]; omega) (by rw [List.length_map]; omega) fun v x2 y2 z2 H2 mv hp2 b2 => ?_
    obtain ⟨xb, hxb, rfl⟩ := List.mem_map.mp mv
    have b12 := but_trans b1 b2
    refine ⟨_, _, rfl, ?_⟩
    refine ⟨_, rfl, p, x2, y2, z2, 9, rfl, hp2, by decide, by decide, fun r x4 y4 z4 H4 r0 r9 hp4 b4 => ?_⟩
    have b34 := but_trans b12 b4
    have hq4 := b34 _ _ nqp hq
    have am1 : AmOk (-1) := ⟨by decide, by decide, by decide⟩
    have ap1 : AmOk 1 := ⟨by decide, by decide, by decide⟩
    have ap2 : AmOk 2 := ⟨by decide, by decide, by decide⟩
    have sorted : (xa = xb ∨ 5 < r) → (r < 4 → ∀ (t : Addr) (o : Obj) (H5 : Hp), Same H4 H5 → o.dict = none → (∃ u, H5 t = some (.frz o (.tup [.ref u])) ∧ SqT K H5 u [.str xa, .int (-1)]) → Q (.ref t) H5) := fun _ _ t o H5 s5 od ⟨u, ht, hu⟩ => by
      refine k (.ref t) [(xa, -1)] x4 y4 z4 H5 (chOk_of cn (fun p hp => ?_) (List.pairwise_singleton _ _) (by show 1 ≤ 100; decide)) (fun p hp => ?_) ⟨t, _, rfl, ⟨.inl (.inr ⟨o, ht⟩), .inl ⟨o, ht, od⟩⟩, .cons (.tup hu (.cons (.str _) (.cons (.int _) .nil))) .nil⟩ (s5 _ _ hp4) (but_trans b34 (same_but s5))
      all_goals
        cases List.mem_singleton.mp hp
        exact ⟨hxa, am1⟩
    have last : ¬ (xa = xb ∨ 5 < r) → ∀ (c : List (Str × Int)) (v : V) (H5 : Hp), Same H4 H5 → LstP K H5 v c → (c.map (·.1)).Nodup → ChIn cs c → c.length ≤ 2 → ∃ a, v = .ref a ∧ rSortedDt K [.ref a] H5 fun v H6 => ∃ p ys, [v] = [V.ref p] ∧ SqL K H6 p ys ∧ ∀ (l : Addr) (o : Obj), H6 l = none → o.dict = none → Q (.ref l) (upd H6 l (.frz o (.tup ys))) := fun _ c v H5 s5 ⟨a, us, ev, ha, hu⟩ nd ci c2' => by
      refine ⟨a, ev, sorted_pairs (.inl (.inl (.inl ha))) (pairsAt_dp hu) nd fun r ws c' hr2 pm asc hw => ⟨r, ws, rfl, .inl (.inl upd_same), fun l ol hl odn => ?_⟩⟩
      have sr := same_new (o := .lst ws) hr2
      have sl := same_new (o := .frz ol (.tup ws)) hl
      have ci' : ChIn cs c' := fun p hp => ci p (pm.mem_iff.mp hp)
      exact k (.ref l) c' x4 y4 z4 _ (chOk_of cn ci' asc (by rw [pm.length_eq]; omega)) ci' ⟨l, ws, rfl, ⟨.inl (.inr ⟨ol, upd_same⟩), .inl ⟨ol, upd_same, odn⟩⟩, dpAll_same (sr.trans sl) _ _ hw⟩ (sl _ _ (sr _ _ (s5 _ _ hp4))) (but_trans b34 (same_but (s5.trans (sr.trans sl))))
    -- the two ways on
    have first : xa = xb ∨ 5 < r → (tRet (tIf (tTest (tOp (rI0 fun i j => V.bl (decide (i < j))) (tVar 4) (tC (.int 4)))) (tTupZ (tCons (tTup (tCons (tVar 2) (tCons (tUn (rU fun i => .int (-i)) (tC (.int 1))) tNil))) tNil)) (tCall (spLChg K) [] L2.E0 (tCons (tVar 0) (tCons (tVar 1) tNil)))))
        { nx := fun _ H' => Q .non H', rt := Q } [some (.ref p), some (.ref q), some (.str xa), some (.str xb), some (.int r)] H4 := fun yes => by
      by_cases r4 : r < 4
      · refine ⟨_, rfl, _, _, rfl, rfl, _, rfl, if_yes (decide_eq_true r4) ?_⟩
        refine ⟨_, rfl, 1, rfl, (by show 2 ≤ sizeLine; decide), fun u hu => ⟨(by show 1 ≤ sizeLine; decide), fun t o ht od => ?_⟩⟩
        have su := same_new (o := .tup [.str xa, .int (-1)]) hu
        have st := same_new (o := .frz o (.tup [.ref u])) ht
        exact sorted yes r4 t o _ (su.trans st) od ⟨u, upd_same, .inl (.inl (st _ _ upd_same))⟩
      · refine ⟨_, rfl, _, _, rfl, rfl, _, rfl, if_no (by simpa using r4) ?_⟩
        refine ⟨_, rfl, _, rfl, p, q, x4, y4, z4, cs, rfl, hp4, hq4, nqp, c1, c2, cn, fun v c x5 y5 z5 H5 h1 h2 h3 h4 h5 => k v c x5 y5 z5 H5 h1 h2 h3 h4 (but_trans b34 h5)⟩
    refine ⟨_, rfl, _, rfl, rfl, ?_⟩
    by_cases e : xa = xb
    · exact ⟨_, rfl, if_yes (by rw [e]; exact decide_eq_true rfl) (if_yes rfl (first (.inl e)))⟩
    · refine ⟨_, rfl, if_no (by simpa using e) ⟨_, rfl, _, _, rfl, rfl, ?_⟩⟩
      by_cases r5 : 5 < r
      · exact ⟨_, rfl, if_yes (decide_eq_true r5) (first (.inr r5))⟩
      · refine ⟨_, rfl, if_no (by simpa using r5) ?_⟩
        have no : ¬ (xa = xb ∨ 5 < r) := fun z => z.elim e r5
        have two : ∀ {n m : Int}, AmOk n → AmOk m → ∀ {v : V} {H5 : Hp}, Same H4 H5 → LstP K H5 v [(xa, n), (xb, m)] → ∃ a, v = .ref a ∧ rSortedDt K [.ref a] H5 fun v H6 => ∃ p ys, [v] = [V.ref p] ∧ SqL K H6 p ys ∧ ∀ (l : Addr) (o : Obj), H6 l = none → o.dict = none → Q (.ref l) (upd H6 l (.frz o (.tup ys))) := fun {n m} a b {v H5} s5 hl =>
          last no _ v H5 s5 hl (List.nodup_cons.mpr ⟨by simpa using e, by simp⟩) (fun p hp => by
            rcases List.mem_cons.mp hp with rfl | hp
            · exact ⟨hxa, a⟩
            · cases List.mem_singleton.mp hp
              exact ⟨hxb, b⟩) (Nat.le_refl _)
        have one : ∀ {n : Int}, AmOk n → ∀ {v : V} {H5 : Hp}, Same H4 H5 → LstP K H5 v [(xa, n)] → ∃ a, v = .ref a ∧ rSortedDt K [.ref a] H5 fun v H6 => ∃ p ys, [v] = [V.ref p] ∧ SqL K H6 p ys ∧ ∀ (l : Addr) (o : Obj), H6 l = none → o.dict = none → Q (.ref l) (upd H6 l (.frz o (.tup ys))) := fun {n} a {v H5} s5 hl =>
          last no _ v H5 s5 hl (List.nodup_cons.mpr ⟨by simp, by simp⟩) (fun p hp => by
            cases List.mem_singleton.mp hp
            exact ⟨hxa, a⟩) (by show 1 ≤ 2; decide)
        have mn : ∀ (σ : L2.St) (n : Int) (H : Hp) (Q : VK), Q (.int (-n)) H → tUn (rU fun i => V.int (-i)) (tC (.int n)) σ H Q := fun σ n H Q q => ⟨n, rfl, q⟩
        have pn : ∀ (σ : L2.St) (n : Int) (H : Hp) (Q : VK), Q (.int n) H → tC (.int n) σ H Q := fun σ n H Q q => q
        let σ5 : L2.St := [some (.ref p), some (.ref q), some (.str xa), some (.str xb), some (.int r)]
        have main : (tCons (tLst (tCons (tPr 2 (tUn (rU fun i => V.int (-i)) (tC (.int 1)))) (tCons (tPr 3 (tC (.int 1))) tNil))) (tCons (tLst (tCons (tPr 2 (tUn (rU fun i => V.int (-i)) (tC (.int 1)))) (tCons (tPr 3 (tC (.int 1))) tNil))) (tCons (tLst (tCons (tPr 2 (tUn (rU fun i => V.int (-i)) (tC (.int 1)))) (tCons (tPr 3 (tC (.int 2))) tNil))) (tCons (tLst (tCons (tPr 2 (tC (.int 1))) tNil)) (tCons (tLst (tCons (tPr 2 (tUn (rU fun i => V.int (-i)) (tC (.int 1)))) tNil)) (tCons (tLst (tCons (tPr 2 (tUn (rU fun i => V.int (-i)) (tC (.int 1)))) (tCons (tPr 3 (tUn (rU fun i => V.int (-i)) (tC (.int 1)))) tNil))) tNil)))))) σ5 H4 fun xs H5 => xs.length ≤ sizeLine ∧ ∀ l, H5 l = none → ∃ v, σ5[4]? = some (some v) ∧ rIxL K (.ref l) v (upd H5 l (.lst xs)) fun v H6 => rSortedDt K [v] H6 fun v H7 => ∃ p ys, [v] = [V.ref p] ∧ SqL K H7 p ys ∧ ∀ (l : Addr) (o : Obj), H7 l = none → o.dict = none → Q (.ref l) (upd H7 l (.frz o (.tup ys))) := by
          refine cons_step (lit2 (K := K) (x := xa) (y := xb) rfl (mn _ 1) rfl (pn _ 1) fun v1 H5 s5 p1 => ?_)
          refine cons_step (lit2 (K := K) (x := xa) (y := xb) rfl (mn _ 1) rfl (pn _ 1) fun v2 H6 s6 p2 => ?_)
          refine cons_step (lit2 (K := K) (x := xa) (y := xb) rfl (mn _ 1) rfl (pn _ 2) fun v3 H7 s7 p3 => ?_)
          refine cons_step (lit1 (K := K) (x := xa) rfl (pn _ 1) fun v4 H8 s8 p4 => ?_)
          refine cons_step (lit1 (K := K) (x := xa) rfl (mn _ 1) fun v5 H9 s9 p5 => ?_)
          refine cons_step (lit2 (K := K) (x := xa) (y := xb) rfl (mn _ 1) rfl (mn _ 1) fun v6 H10 s10 p6 => ?_)
          refine ⟨(by show 6 ≤ sizeLine; decide), fun l hl => ⟨_, rfl, ?_⟩⟩
          have sl := same_new (o := .lst [v1, v2, v3, v4, v5, v6]) hl
          have t10 := s10.trans sl
          have t9 := s9.trans t10
          have t8 := s8.trans t9
          have t7 := s7.trans t8
          have t6 := s6.trans t7
          have t5 := s5.trans t6
          have hL : SqL K (upd H10 l (.lst [v1, v2, v3, v4, v5, v6])) l [v1, v2, v3, v4, v5, v6] := .inl (.inl upd_same)
          have w1 := two am1 ap1 t5 (lstP_same t6 p1)
          have w2 := two am1 ap1 t5 (lstP_same t7 p2)
          have w3 := two am1 ap2 t5 (lstP_same t8 p3)
          have w4 := one ap1 t5 (lstP_same t9 p4)
          have w5 := one am1 t5 (lstP_same t10 p5)
          have w6 := two am1 am1 t5 (lstP_same sl p6)
          have rs : r = 0 ∨ r = 1 ∨ r = 2 ∨ r = 3 ∨ r = 4 ∨ r = 5 := by omega
          rcases rs with rfl | rfl | rfl | rfl | rfl | rfl
          · obtain ⟨a, rfl, z⟩ := w1
            exact ⟨l, _, 0, _, rfl, rfl, hL, rfl, z⟩
          · obtain ⟨a, rfl, z⟩ := w2
            exact ⟨l, _, 1, _, rfl, rfl, hL, rfl, z⟩
          · obtain ⟨a, rfl, z⟩ := w3
            exact ⟨l, _, 2, _, rfl, rfl, hL, rfl, z⟩
          · obtain ⟨a, rfl, z⟩ := w4
            exact ⟨l, _, 3, _, rfl, rfl, hL, rfl, z⟩
          · obtain ⟨a, rfl, z⟩ := w5
            exact ⟨l, _, 4, _, rfl, rfl, hL, rfl, z⟩
          · obtain ⟨a, rfl, z⟩ := w6
            exact ⟨l, _, 5, _, rfl, rfl, hL, rfl, z⟩
        exact main
end
end Qp

/-! the law's words; sorted texts -/
namespace Qp
open PySem PySem.Spec PyProof.Rows L2 QN
open PySem.W PySem.SeqAt
abbrev sLWords : Stmt := top 34 -- _law_words
abbrev lwNames : List Str := ["_law_dice_here", "_law_much", "_law_found"]
theorem scLWords : FnScope lwNames ["_law_dice_here", "_law_much"] (defScope sLWords) := ⟨rfl, rfl, rfl, by decide +kernel, rfl, by decide +kernel, by decide +kernel⟩
def words15 : List Str := ["a", "aa", "ab", "b", "back", "ba", "c", "d", "go", "k", "on", "step", "to", "w", "m"]
def words16 : List Str := words15 ++ [("zzzzzzzz" : Str)]
theorem words_nodup : words16.Nodup := by decide +kernel
theorem words_ok : ∀ w ∈ words16, NameOk w := by
  have h : ∀ w ∈ words16, (decide (1 ≤ w.length) && decide (w.length ≤ 8) && w.cps.toList.all fun c => decide (c ∈ letters.cps.toList)) = true := by decide +kernel
  intro w hw
  have z := h w hw
  simp only [Bool.and_eq_true, decide_eq_true_eq, List.all_eq_true] at z
  exact ⟨z.1.1, z.1.2, z.2⟩
/-- a drawn order of texts is one of texts -/
theorem perm_strs {ys : List V} {xs : List Str} (h : ys.Perm (xs.map V.str)) : ∃ zs : List Str, ys = zs.map V.str ∧ zs.Perm xs := by
  have all : ∀ y ∈ ys, ∃ s, y = V.str s := fun y hy => by
    obtain ⟨s, _, e⟩ := List.mem_map.mp (h.mem_iff.mp hy)
    exact ⟨s, e.symm⟩
  have ex : ∀ ys : List V, (∀ y ∈ ys, ∃ s, y = V.str s) → ∃ zs : List Str, ys = zs.map V.str := fun ys => by
    induction ys with
    | nil => exact fun _ => ⟨[], rfl⟩
    | cons y ys ih =>
      intro hy
      obtain ⟨s, rfl⟩ := hy y List.mem_cons_self
      obtain ⟨zs, rfl⟩ := ih fun z hz => hy z (List.mem_cons_of_mem _ hz)
      exact ⟨s :: zs, rfl⟩
  obtain ⟨zs, rfl⟩ := ex ys all
  refine ⟨zs, rfl, ?_⟩
  have unS : ∀ l : List Str, (l.map V.str).map (fun v => match v with | .str s => s | _ => "") = l := fun l => by
    rw [List.map_map]
    exact List.map_id _
  have z := h.map (fun v => match v with | .str s => s | _ => "")
  rw [unS, unS] at z
  exact z
theorem cut_to {α : Type} (xs : List α) (m : Nat) (f : α → V) : cutV (xs.map f) none (some (m : Int)) = (xs.take m).map f := by
  unfold cutV
  rw [HT.sIx_none, HT.sIx_nat, List.drop_zero, Nat.sub_zero, List.map_take, List.length_map, ← List.length_map (f := f), ← List.take_eq_take_min]
/-- sorted(l) of texts that differ -/
theorem sorted_strs {K : PySem.W.Frag} {H : Hp} {a : Addr} {xs : List Str} {Q : VK} (ha : SqL K H a (xs.map V.str) ∨ SqT K H a (xs.map V.str)) (nd : xs.Nodup)
    (k : ∀ (p : Addr) (ys : List Str), H p = none → ys.Perm xs → ys.Pairwise lts → Q (.ref p) (upd H p (.lst (ys.map V.str)))) : rSortedDt K [.ref a] H Q := by
  have e1 : (xs.map fun x => (V.str x, PyData.str x)).map (·.1) = xs.map V.str := by
    rw [List.map_map]
    rfl
  have e2 : (xs.map fun x => (V.str x, PyData.str x)).map (·.2) = xs.map PyData.str := by
    rw [List.map_map]
    rfl
  refine ⟨a, xs.map fun x => (V.str x, PyData.str x), rfl, by rw [e1]; exact ha, fun b hb => ?_, by rw [e2]; exact AllAlike.of fun _ _ => by simp [alike], by rw [e2]; exact Sortable.others fun _ => ⟨by simp, by simp⟩, fun b hb => ?_, fun p hp => ?_⟩
  · obtain ⟨x, _, rfl⟩ := List.mem_map.mp hb
    exact .str x
  · obtain ⟨x, _, rfl⟩ := List.mem_map.mp hb
    show (PyData.str x).depth ≤ 60
    simp [PyData.depth]
  · rw [← List.map_mergeSort (r := dataLe false fun x : Str => PyData.str x) (s := dataLe false fun b : V × PyData => b.2) (f := fun x => (V.str x, PyData.str x)) (fun _ _ _ _ => rfl), List.map_map]
    exact k p (sortTx xs) hp (sortTx_perm xs) (sortTx_asc nd)
def spLWords : Sp := fun vs H Q _ => ∃ (p : Addr) (x y z : Int) (m : Nat), vs = [.ref p, .int (m : Int)] ∧ H p = some (.lst (hand x y z)) ∧ m ≤ 16 ∧
  ∀ (q : Addr) (ws : List Str) (x' y' z' : Int) (H' : Hp), ws.length = m → ws.Nodup → (∀ w ∈ ws, w ∈ words16) → H' q = some (.lst (ws.map V.str)) → H' p = some (.lst (hand x' y' z')) → But p H H' → Q (.ref q) H'
section
variable {P : Program} {w : World} {K : PySem.W.Frag} {mg : Str → Option Value} {base : Heap}
theorem ok_lwords {f fM : Addr} {fd fdM : FuncData} (F : Fun K "_law_words" "_law_words" sLWords f fd) (GM : FnOk P w K mg base CX0 2 fM fdM ["_law_dice_here", "_law_items"] (spMixed K)) (kM : PySem.W.keepIn K (.ref fM) = true) (bM : L2.Binds K fdM ["_law_dice_here", "_law_items"] []) (gM : mg "_law_mixed" = some (.ref fM)) :
    FnOk P w K mg base CX0 3 f fd ["_law_dice_here", "_law_much"] spLWords := by
  refine F.ok scLWords (fun vs H Q E h => ?_) (fun cdv A outer s H vs Q E hr h => ?_)
  · obtain ⟨p, x, y, z, m, rfl, _⟩ := h
    rfl
  · obtain ⟨p, x, y, z, m, rfl, hp, m16, k⟩ := h
    refine ⟨_, pss_cons (ps_set (i := 2) scLWords.nd rfl (.inl rfl) (pe_lst (pa_cons pe_str (pa_cons pe_str (pa_cons pe_str (pa_cons pe_str (pa_cons pe_str (pa_cons pe_str (pa_cons pe_str (pa_cons pe_str (pa_cons pe_str (pa_cons pe_str (pa_cons pe_str (pa_cons pe_str (pa_cons pe_str (pa_cons pe_str (pa_cons pe_str pa_nil)))))))))))))))))
      (pss_one (ps_ret (pe_slice sl_list (pe_call GM hr (by rfl) gM kM bM .nil pass0 (pa_cons (pv 0) (pa_cons (pe_op op_cat (pv 2) (pe_lst (pa_cons pe_str pa_nil))) pa_nil))) po_none (po_some (pv 1))))), ?_⟩
    refine ⟨(by show 15 ≤ sizeLine; decide), fun a ha => ?_⟩
    have s1 := same_new (o := .lst (words15.map V.str)) ha
    refine ⟨_, rfl, _, rfl, (by show 1 ≤ sizeLine; decide), fun b hb => ⟨a, b, words15.map V.str, [.str "zzzzzzzz"], rfl, rfl, same_new hb _ _ upd_same, upd_same, (by show 16 ≤ sizeLine; decide), fun c hc => ?_⟩⟩
    have s2 := same_new (o := .lst [.str "zzzzzzzz"]) hb
    have s3 := same_new (o := .lst (words15.map V.str ++ [.str "zzzzzzzz"])) hc
    have hp3 := s3 _ _ (s2 _ _ (s1 _ _ hp))
    refine ⟨p, c, x, y, z, words16.map V.str, rfl, hp3, .inl (.inl (.inl upd_same)), (by show 16 < 1000000; decide), fun r ys x' y' z' H' pm hr2 hp' b' => ?_⟩
    obtain ⟨zs, rfl, pz⟩ := perm_strs pm
    refine ⟨_, rfl, _, rfl, r, _, rfl, .inl (.inl hr2), fun q hq => ?_⟩
    have sq := same_new (o := .lst (cutV (zs.map V.str) none (some (m : Int)))) hq
    refine k q (zs.take m) x' y' z' _ ?_ ((pz.nodup_iff.mpr words_nodup).sublist (List.take_sublist _ _)) (fun w hw => pz.mem_iff.mp (List.mem_of_mem_take hw)) ?_ (sq _ _ hp') (but_same (s1.trans (s2.trans s3)) (but_trans b' (same_but sq)))
    · rw [List.length_take, pz.length_eq]
      show min m 16 = m
      omega
    · rw [upd_same, cut_to]
end
end Qp

/-! rings of states; a drawn graph is one -/
namespace Qp
open PySem PySem.Spec PyProof.Rows L2 QN
/-- the link that ends at place i -/
def ringAt (ns : List Str) (i : Nat) : Str × Str := (ns.getD (if i = 0 then ns.length - 1 else i - 1) "", ns.getD i "")
def ringL (ns : List Str) : List (Str × Str) := (List.range ns.length).map (ringAt ns)
def ring (ns : List Str) : List (Str × Str) := if 1 < ns.length then ringL ns else []
theorem ring_len (ns : List Str) : (ring ns).length ≤ ns.length := by
  unfold ring
  split
  · unfold ringL
    rw [List.length_map, List.length_range]
    exact Nat.le_refl _
  · exact Nat.zero_le _
theorem getD_mem {ns : List Str} {i : Nat} (h : i < ns.length) : ns.getD i "" ∈ ns := by
  rw [List.getD_eq_getElem?_getD, List.getElem?_eq_getElem h]
  exact List.getElem_mem h
theorem ring_mem {ns : List Str} {l : Str × Str} (h : l ∈ ring ns) : l.1 ∈ ns ∧ l.2 ∈ ns := by
  unfold ring at h
  split at h
  · obtain ⟨i, hi, rfl⟩ := List.mem_map.mp h
    have lt := List.mem_range.mp hi
    refine ⟨getD_mem ?_, getD_mem lt⟩
    split <;> omega
  · cases h
theorem reach_mono {x : Str} {ls ms : List (Str × Str)} {st : List Str} (h : Reach x ls st) (s : ∀ l ∈ ls, l ∈ ms) : Reach x ms st := fun ks hx c => h ks hx fun l hl => c l (s l hl)
theorem at_mem {ks : List Str} {x : Str} {st : List Str} (h : ∀ i, i < (x :: st).length → (x :: st).getD i "" ∈ ks) : ∀ y ∈ x :: st, y ∈ ks := fun y hy => by
  obtain ⟨i, hi, e⟩ := List.getElem_of_mem hy
  have z := h i hi
  rw [List.getD_eq_getElem?_getD, List.getElem?_eq_getElem hi] at z
  rw [← e]
  exact z
theorem reach_fwd (x : Str) (st : List Str) : Reach x (ring (x :: st)) (x :: st) := by
  intro ks hx c
  refine at_mem fun i => ?_
  induction i with
  | zero => exact fun _ => hx
  | succ i ih =>
    intro hi
    have m : ringAt (x :: st) (i + 1) ∈ ring (x :: st) := by
      unfold ring
      rw [if_pos (by omega)]
      exact List.mem_map.mpr ⟨i + 1, List.mem_range.mpr hi, rfl⟩
    exact c _ m (by
      show (x :: st).getD (if i + 1 = 0 then _ else i + 1 - 1) "" ∈ ks
      rw [if_neg (by omega)]
      exact ih (by omega))
theorem reach_bwd (x : Str) (st : List Str) : Reach x ((ring (x :: st)).map fun l => (l.2, l.1)) (x :: st) := by
  intro ks hx c
  have key : ∀ j, j < (x :: st).length → (x :: st).getD ((x :: st).length - 1 - j) "" ∈ ks := fun j => by
    induction j with
    | zero =>
      intro hj
      by_cases one : 1 < (x :: st).length
      · have m : ((ringAt (x :: st) 0).2, (ringAt (x :: st) 0).1) ∈ (ring (x :: st)).map fun l => (l.2, l.1) := by
          unfold ring
          rw [if_pos one]
          exact List.mem_map.mpr ⟨ringAt (x :: st) 0, List.mem_map.mpr ⟨0, List.mem_range.mpr (by omega), rfl⟩, rfl⟩
        exact c _ m hx
      · have e : (x :: st).length - 1 - 0 = 0 := by omega
        rw [e]
        exact hx
    | succ j ih =>
      intro hj
      have p : (x :: st).length - 1 - j = ((x :: st).length - 1 - (j + 1)) + 1 := by omega
      generalize (x :: st).length - 1 - (j + 1) = i at p
      have m : ((ringAt (x :: st) (i + 1)).2, (ringAt (x :: st) (i + 1)).1) ∈ (ring (x :: st)).map fun l => (l.2, l.1) := by
        unfold ring
        rw [if_pos (by omega)]
        exact List.mem_map.mpr ⟨ringAt (x :: st) (i + 1), List.mem_map.mpr ⟨i + 1, List.mem_range.mpr (by omega), rfl⟩, rfl⟩
      have z := c _ m (by
        show (x :: st).getD (i + 1) "" ∈ ks
        rw [← p]
        exact ih (by omega))
      have e : (ringAt (x :: st) (i + 1)).1 = (x :: st).getD i "" := by
        show (x :: st).getD (if i + 1 = 0 then _ else i + 1 - 1) "" = _
        rw [if_neg (by omega)]
        rfl
      rw [← e]
      exact z
  refine at_mem fun i hi => ?_
  have z := key ((x :: st).length - 1 - i) (by omega)
  have e : (x :: st).length - 1 - ((x :: st).length - 1 - i) = i := by omega
  rw [e] at z
  exact z
def counters5 : List Str := ["x", "y", "z", "u", "v"]
def nodes4 : List Str := ["p", "q", "r", "a"]
/-- a graph as the law draws one -/
structure LawG (G : Gr) : Prop where
  made : Makes G.cs G.ns G.rs G
  ok : G.Ok
  c1 : 1 ≤ G.cs.length
  r1 : 1 ≤ G.rs.length
  cm : ∀ c ∈ G.cs, c ∈ counters5
  nm : ∀ c ∈ G.ns, c ∈ nodes4
  wm : ∀ r ∈ G.rs, r.n ∈ words16
theorem counters_ok : ∀ w ∈ counters5, NameOk w := by
  have h : ∀ w ∈ counters5, (decide (1 ≤ w.length) && decide (w.length ≤ 8) && w.cps.toList.all fun c => decide (c ∈ letters.cps.toList)) = true := by decide +kernel
  intro w hw
  have z := h w hw
  simp only [Bool.and_eq_true, decide_eq_true_eq, List.all_eq_true] at z
  exact ⟨z.1.1, z.1.2, z.2⟩
theorem nodes_ok : ∀ w ∈ nodes4, NameOk w := by
  have h : ∀ w ∈ nodes4, (decide (1 ≤ w.length) && decide (w.length ≤ 8) && w.cps.toList.all fun c => decide (c ∈ letters.cps.toList)) = true := by decide +kernel
  intro w hw
  have z := h w hw
  simp only [Bool.and_eq_true, decide_eq_true_eq, List.all_eq_true] at z
  exact ⟨z.1.1, z.1.2, z.2⟩
theorem apart : ∀ c ∈ counters5, ∀ w ∈ words16, c ≠ w := by decide +kernel
/-- what is drawn makes a graph -/
theorem lawG_of {cs ns : List Str} {rs fr : List Row} (ca : cs.Pairwise lts) (cm : ∀ c ∈ cs, c ∈ counters5) (c1 : 1 ≤ cs.length) (c5 : cs.length ≤ 5) (na : ns.Pairwise lts) (nm : ∀ c ∈ ns, c ∈ nodes4) (n1 : 1 ≤ ns.length) (n4 : ns.length ≤ 4)
    (pm : rs.Perm fr) (asc : (rs.map (·.n)).Pairwise lts) (few : fr.length ≤ 16) (r1 : 1 ≤ fr.length) (names : ∀ r ∈ fr, r.n ∈ words16) (ends : ∀ r ∈ fr, r.s ∈ ns ∧ r.t ∈ ns) (chs : ∀ r ∈ fr, ChOk r.c ∧ ChIn cs r.c) (rg : ∀ l ∈ ring ns, l ∈ fwd fr) : LawG ⟨cs, ns, rs⟩ := by
  obtain ⟨x, st, rfl⟩ : ∃ x st, ns = x :: st := by
    cases ns with
    | nil => exact absurd n1 (by decide)
    | cons x st => exact ⟨x, st, rfl⟩
  have m : ∀ {r}, r ∈ rs → r ∈ fr := fun h => pm.mem_iff.mp h
  have ro : ∀ r ∈ rs, RowOk r := fun r hr => ⟨words_ok _ (names r (m hr)), nodes_ok _ (nm _ (ends r (m hr)).1), nodes_ok _ (nm _ (ends r (m hr)).2), (chs r (m hr)).1⟩
  have rg2 : ∀ l ∈ ring (x :: st), l ∈ fwd rs := fun l hl => by
    obtain ⟨r, hr, e⟩ := List.mem_map.mp (rg l hl)
    exact List.mem_map.mpr ⟨r, pm.mem_iff.mpr hr, e⟩
  have len : rs.length ≤ 16 := by rw [pm.length_eq]; exact few
  refine ⟨⟨⟨x, st, rfl, ?_⟩, List.Perm.refl _, asc⟩, ⟨ca, na, asc, c5, by show (x :: st).length ≤ 8; omega, len, ro, fun c hc => counters_ok _ (cm c hc), fun c hc => nodes_ok _ (nm c hc)⟩, c1, by show 1 ≤ rs.length; rw [pm.length_eq]; exact r1, cm, nm, fun r hr => names r (pm.mem_iff.mp hr)⟩
  refine ⟨fun c hc => counters_ok _ (cm c hc), fun c hc => nodes_ok _ (nm c hc), ro, ca, fun z => Iff.rfl, ⟨c1, c5⟩, na, fun z => ⟨fun h => .inl h, fun h => ?_⟩, by omega, len, by show cs.length ≤ 16; omega, by show (x :: st).length ≤ 16; omega, ?_, fun r hr p hp => ((chs r (m hr)).2 p hp).1, reach_mono (reach_fwd x st) rg2, reach_mono (reach_bwd x st) fun l hl => ?_⟩
  · rcases h with h | h
    · exact h
    · obtain ⟨r, hr, hz⟩ := List.mem_flatMap.mp h
      rcases List.mem_cons.mp hz with rfl | hz
      · exact (ends r (m hr)).1
      · cases List.mem_singleton.mp hz
        exact (ends r (m hr)).2
  · refine List.nodup_append.mpr ⟨nodup_lts ca, nodup_lts asc, fun a ha b hb => ?_⟩
    obtain ⟨r, hr, rfl⟩ := List.mem_map.mp hb
    exact apart a (cm a ha) _ (names r (m hr))
  · obtain ⟨q, hq, rfl⟩ := List.mem_map.mp hl
    obtain ⟨r, hr, e⟩ := List.mem_map.mp (rg2 q hq)
    refine List.mem_map.mpr ⟨r, hr, ?_⟩
    rw [← e]
end Qp

/-! a drawn graph -/
namespace Qp
open PySem PySem.Spec PyProof.Rows L2 QN
abbrev sLGraph : Stmt := top 35 -- _law_graph
abbrev lgNames : List Str := ["_law_dice_here", "_law_most_states", "_law_most_counters", "_law_more", "_law_nodes", "_law_counters", "_law_at", "_law_pairs", "_law_spots", "_law_turn", "_law_source", "_law_names", "_law_found", "_law_pair", "_law_change_here"]
theorem scLGraph : FnScope lgNames ["_law_dice_here", "_law_most_states", "_law_most_counters", "_law_more"] (defScope sLGraph) := ⟨rfl, rfl, rfl, by decide +kernel, rfl, by decide +kernel, by decide +kernel⟩
theorem SimX.but {p : Addr} {H H' : Hp} (b : But p H H') : SimX p H H' := ⟨fun c o n _ e => b c o n e, fun c n ⟨ps, e, t⟩ => ⟨ps, b c _ n e, t⟩⟩
theorem dpPairs_simX {K : PySem.W.Frag} {x : Addr} {H H' : Hp} {l : List V} (s : SimX x H H') (hx : H x = some (.lst l)) : ∀ {us : List V} {c : List (Str × Int)}, DpAll K H us (c.map pairD) → DpAll K H' us (c.map pairD)
  | [], [], _ => .nil
  | [], _ :: _, h => by cases h
  | _ :: _, [], h => by cases h
  | u :: us, p :: c, h => by
    cases h with
    | cons a b =>
      obtain ⟨t, rfl, ht⟩ := dp_pair a
      exact .cons (.tup (sqT_simX s hx (fun _ e => by cases e) (fun _ _ e => by cases e) ht) (.cons (.str _) (.cons (.int _) .nil))) (dpPairs_simX s hx b)
theorem plRow_simL {K : PySem.W.Frag} {x : Addr} {H H' : Hp} {l : List V} (s : SimX x H H') (hx : H x = some (.lst l)) {u : V} {r : Row} (h : PlRow K H u r) : PlRow K H' u r := by
  obtain ⟨a, c, xs, rfl, h1, h2, h3⟩ := h
  exact ⟨a, c, xs, rfl, sqT_simX s hx (fun _ e => by cases e) (fun _ _ e => by cases e) h1, plT_simX s hx (fun _ e => by cases e) (fun _ _ e => by cases e) h2, dpPairs_simX s hx h3⟩
theorem plAll_simL {K : PySem.W.Frag} {x : Addr} {H H' : Hp} {l : List V} (s : SimX x H H') (hx : H x = some (.lst l)) {us : List V} {rs : List Row} (h : Paired (PlRow K H) us rs) : Paired (PlRow K H') us rs := Paired.mapP h fun _ _ p => plRow_simL s hx p
/-- pairs of texts, as tuples -/
def LinksAt (K : PySem.W.Frag) (H : Hp) (us : List V) (ls : List (Str × Str)) : Prop := Paired (fun u l => ∃ t, u = V.ref t ∧ SqT K H t [.str l.1, .str l.2]) us ls
theorem links_simL {K : PySem.W.Frag} {x : Addr} {H H' : Hp} {l : List V} (s : SimX x H H') (hx : H x = some (.lst l)) {us : List V} {ls : List (Str × Str)} (h : LinksAt K H us ls) : LinksAt K H' us ls :=
  Paired.mapP h fun _ _ ⟨t, e, q⟩ => ⟨t, e, sqT_simX s hx (fun _ e => by cases e) (fun _ _ e => by cases e) q⟩
theorem links_same {K : PySem.W.Frag} {H H' : Hp} (s : Same H H') {us : List V} {ls : List (Str × Str)} (h : LinksAt K H us ls) : LinksAt K H' us ls := Paired.mapP h fun _ _ ⟨t, e, q⟩ => ⟨t, e, sqT_same s q⟩
theorem strs_ne_hand {xs : List Str} {x y z : Int} : xs.map V.str ≠ hand x y z := fun e => by
  cases xs with
  | nil => cases e
  | cons a xs =>
    rw [List.map_cons] at e
    unfold hand at e
    injection e with e _
    cases e
theorem lst_ne {H : Hp} {p q : Addr} {xs : List Str} {x y z : Int} (h1 : H q = some (.lst (xs.map V.str))) (h2 : H p = some (.lst (hand x y z))) : q ≠ p := fun c => by
  rw [c, h2] at h1
  injection h1 with h1
  injection h1 with h1
  exact strs_ne_hand h1.symm
/-- the ring's pairs, as the law makes them; the states' list in the slot 4 -/
theorem ring_te {K : PySem.W.Frag} {H : Hp} {Q : VK} {v0 v1 v2 v3 v5 v6 v7 v8 v9 v10 v11 v12 v13 v14 : Option V} {pn : Addr} {ns : List Str} (hn : H pn = some (.lst (ns.map V.str))) (n4 : ns.length ≤ 4)
    (k : ∀ (PP : Addr) (us : List V) (HC : Hp), Same H HC → HC PP = some (.lst us) → H PP = none → LinksAt K HC us (ring ns) → Q (.ref PP) HC) :
    tIf (tTest (tOp (rI0 fun i j => V.bl (decide (j < i))) (tCB (rLenM K) (tCons (tVar 4) tNil)) (tC (.int 1))))
      (tLc (iRng1 (tCons (tCB (rLenM K) (tCons (tVar 4) tNil)) tNil)) (gName 6) tYes (tTup (tCons (tOp (rIxL K) (tVar 4) (tOp (rI0 fun i j => V.int (i - j)) (tVar 6) (tC (.int 1)))) (tCons (tOp (rIxL K) (tVar 4) (tVar 6)) tNil))) [6])
      (tLst tNil) [v0, v1, v2, v3, some (.ref pn), v5, v6, v7, v8, v9, v10, v11, v12, v13, v14] H Q := by
  have ml : (ns.map V.str).length = ns.length := List.length_map ..
  refine ⟨_, rfl, pn, _, rfl, .inl (.inl (.inl hn)), _, _, rfl, rfl, _, rfl, ?_⟩
  rw [ml]
  by_cases one : 1 < ns.length
  · refine if_yes (decide_eq_true (by omega)) ⟨_, rfl, pn, _, rfl, .inl (.inl (.inl hn)), _, rfl, by omega, by omega, fun D hD => ?_⟩
    rw [ml, Int.toNat_natCast]
    refine lc_range (fun i H' => Same H H' ∧ ∃ us, H' D = some (.lst us) ∧ LinksAt K H' us ((ringL ns).take i)) ⟨same_new hD, [], upd_same, .nil⟩ (fun i H' hi pp => ?_) fun H' pp => ?_
    · obtain ⟨sm, us, hD2, hu⟩ := pp
      have hn2 := sm _ _ hn
      have x2 : (ns.map V.str)[i]? = some (.str (ns.getD i "")) := by
        rw [List.getElem?_map, List.getD_eq_getElem?_getD, List.getElem?_eq_getElem hi]
        rfl
      have e1 : (0 : Int) + ((i : Nat) : Int) = (i : Int) := Int.zero_add _
      have x1 : atI (ns.map V.str) ((0 : Int) + (i : Int) - 1) = some (.str (ringAt ns i).1) := by
        rw [e1]
        cases i with
        | zero =>
          obtain ⟨r, c, e⟩ : ∃ r c, ns = r ++ [c] := by
            rcases List.eq_nil_or_concat ns with z | ⟨r, c, z⟩
            · rw [z] at one
              exact absurd one (by decide)
            · exact ⟨r, c, by rw [z, List.concat_eq_append]⟩
          subst e
          rw [List.map_append]
          show atI (r.map V.str ++ [V.str c]) (((0 : Nat) : Int) - 1) = _
          rw [show (((0 : Nat) : Int) - 1) = -1 from rfl, atI_last]
          show some (V.str c) = some (V.str ((r ++ [c]).getD (if 0 = 0 then (r ++ [c]).length - 1 else 0 - 1) ""))
          rw [if_pos rfl, List.length_append, List.getD_eq_getElem?_getD, List.length_singleton, Nat.add_sub_cancel, List.getElem?_append_right (Nat.le_refl _), Nat.sub_self]
          rfl
        | succ i =>
          rw [show (((i + 1 : Nat) : Int) - 1) = (i : Int) by omega]
          refine atI_nat ?_
          show _ = some (V.str (ns.getD (if i + 1 = 0 then ns.length - 1 else i + 1 - 1) ""))
          rw [if_neg (by omega), List.getElem?_map, List.getD_eq_getElem?_getD]
          show (ns[i]?).map V.str = some (V.str ((ns[i]?).getD ""))
          rw [List.getElem?_eq_getElem (by omega)]
          rfl
      refine ⟨rfl, yes_if ⟨_, rfl, _, rfl, _, _, rfl, rfl, pn, _, _, _, rfl, rfl, .inl (.inl hn2), x1, _, rfl, _, rfl, pn, _, _, _, rfl, rfl, .inl (.inl hn2), (by rw [e1]; exact atI_nat x2), (by show 2 ≤ sizeLine; decide), fun t ht => ?_⟩⟩
      have ul : us.length ≤ 4 := by
        rw [hu.length, List.length_take]
        omega
      have hDt := same_new (o := .tup [.str (ringAt ns i).1, .str (ns.getD i "")]) ht _ _ hD2
      refine ⟨us, hDt, by rw [sizeLine_eq]; omega, same_upd' (sm.trans (same_new ht)) hD, us ++ [.ref t], upd_same, ?_⟩
      have e : (ringL ns).take (i + 1) = (ringL ns).take i ++ [ringAt ns i] := by
        rw [List.take_add_one]
        unfold ringL
        rw [List.getElem?_map, List.getElem?_range hi]
        rfl
      rw [e]
      exact paired_append (links_simL simX_upd hDt (links_same (same_new ht) hu)) ⟨t, rfl, sqT_upd hDt (fun _ z => by cases z) (fun _ _ z => by cases z) (.inl (.inl upd_same))⟩
    · obtain ⟨sm, us, hD2, hu⟩ := pp
      refine k D us H' sm hD2 hD ?_
      unfold ring
      rw [if_pos one]
      rw [List.take_of_length_le (by unfold ringL; rw [List.length_map, List.length_range]; exact Nat.le_refl _)] at hu
      exact hu
  · refine if_no (by simp only [decide_eq_true_eq]; omega) ⟨(by show 0 ≤ sizeLine; decide), fun D hD => k D [] _ (same_new hD) upd_same hD ?_⟩
    unfold ring
    rw [if_neg one]
    exact .nil
/-- a drawn row, put into the rows' list -/
theorem row_te {K : PySem.W.Frag} {H : Hp} {Q : VK} {v0 v1 v2 v3 v4 v5 v7 v8 v9 v10 : Option V} {v : V} {wq FF tp : Addr} {i : Nat} {ws : List Str} {n s t : Str} {rus : List V} (hw : H wq = some (.lst (ws.map V.str))) (hn : ws[i]? = some n) (ht : SqT K H tp [.str s, .str t]) (hF : H FF = some (.lst rus)) (few : rus.length < 1000)
    (k : ∀ (r : Addr) (H' : Hp), Same H H' → H r = none → SqT K H' r [.str n, .str s, .str t, v] → Q .non (upd H' FF (.lst (rus ++ [.ref r])))) :
    tBM K "list" rAppend (tVar 12) (tCons (tTup (tCons (tOp (rIxL K) (tVar 11) (tVar 6)) (tCons (tOp (rIxT K) (tVar 13) (tC (.int 0))) (tCons (tOp (rIxT K) (tVar 13) (tC (.int 1))) (tCons (tVar 14) tNil))))) tNil)
      [v0, v1, v2, v3, v4, v5, some (.int (i : Nat)), v7, v8, v9, v10, some (.ref wq), some (.ref FF), some (.ref tp), some v] H Q := by
  have x : atI (ws.map V.str) ((i : Nat) : Int) = some (.str n) := atI_nat (by rw [List.getElem?_map, hn]; rfl)
  refine ⟨_, rfl, .inl ⟨rfl, _, .inl (.inl hF)⟩, _, rfl, _, rfl, wq, _, _, _, rfl, rfl, .inl (.inl hw), x, _, rfl, tp, _, _, _, rfl, rfl, ht, rfl, _, rfl, tp, _, _, _, rfl, rfl, ht, rfl, _, rfl, (by show 4 ≤ sizeLine; decide), fun r hr => ?_⟩
  have sr := same_new (o := .tup [.str n, .str s, .str t, v]) hr
  exact ⟨FF, rus, .ref r, rfl, rfl, sr _ _ hF, by rw [sizeLine_eq]; omega, k r _ sr hr (.inl (.inl upd_same))⟩
section
open PySem.W PySem.SeqAt
/-- sorted(l) of rows whose names differ -/
theorem sorted_rows {K : PySem.W.Frag} {H : Hp} {a : Addr} {us : List V} {fr : List Row} {Q : VK} (ha : SqL K H a us ∨ SqT K H a us) (hu : Paired (PlRow K H) us fr) (nd : (fr.map (·.n)).Nodup)
    (k : ∀ (p : Addr) (ws : List V) (rs : List Row), H p = none → rs.Perm fr → (rs.map (·.n)).Pairwise lts → Paired (PlRow K H) ws rs → Q (.ref p) (upd H p (.lst ws))) : rSortedDt K [.ref a] H Q := by
  have ul : us.length = fr.length := hu.length
  have bz1 : (us.zip (fr.map rowD)).map (·.1) = us := fst_zip (by rw [List.length_map]; exact ul)
  have bz2 : (us.zip (fr.map rowD)).map (·.2) = fr.map rowD := snd_zip (by rw [List.length_map]; exact ul)
  refine ⟨a, us.zip (fr.map rowD), rfl, by rw [bz1]; exact ha, zip_dpAll (plAll_dp hu), by rw [bz2]; exact AllAlike.of alike_row, by rw [bz2]; exact Sortable.tuples fun r => ⟨_, _, rfl⟩, fun p hp => ?_, fun p hp => k p _ (fr.mergeSort (dataLe false rowD)) hp (List.mergeSort_perm _ _) (named_sorted named_row nd) (zip_plAll (sort_named named_row ul) fun b hb => plAll_zip hu b ((List.mergeSort_perm _ _).mem_iff.mp hb))⟩
  have m : p.2 ∈ fr.map rowD := by
    rw [← bz2]
    exact List.mem_map.mpr ⟨p, hp, rfl⟩
  obtain ⟨q, _, e⟩ := List.mem_map.mp m
  rw [← e]
  have := depth_row q
  omega
end
def spLGraph (K : PySem.W.Frag) (mc mo : Int) : Sp := fun vs H Q _ => ∃ (p : Addr) (x y z : Int), vs = [.ref p, .int 4, .int mc, .int mo] ∧ H p = some (.lst (hand x y z)) ∧
  ∀ (pl a b v : Addr) (us : List V) (G : Gr) (x' y' z' : Int) (H' : Hp), LawG G → SqT K H' pl [.ref a, .ref b, .ref v] → SqT K H' a (G.cs.map V.str) → SqT K H' b (G.ns.map V.str) → SqT K H' v us → Paired (PlRow K H') us G.rs → H' p = some (.lst (hand x' y' z')) → But p H H' → Q (.ref pl) H'
section
variable {P : Program} {w : World} {K : PySem.W.Frag} {mg : Str → Option Value} {base : Heap}
theorem ok_lgraph {mc mo : Int} (m1 : 1 ≤ mc) (m5 : mc ≤ 5) (o1 : 1 ≤ mo) (o6 : mo ≤ 6) {f fO fR fM fK fW : Addr} {fd fdO fdR fdM fdK fdW : FuncData} (F : Fun K "_law_graph" "_law_graph" sLGraph f fd) (GO : FnOk P w K mg base CX0 2 fO fdO ["_law_dice_here", "_law_items"] spOne) (kO : PySem.W.keepIn K (.ref fO) = true) (bO : L2.Binds K fdO ["_law_dice_here", "_law_items"] []) (gO : mg "_law_one_of" = some (.ref fO))
    (GR : FnOk P w K mg base CX0 1 fR fdR ["_law_dice_here", "_law_total"] spRoll) (kR : PySem.W.keepIn K (.ref fR) = true) (bR : L2.Binds K fdR ["_law_dice_here", "_law_total"] []) (gR : mg "_law_roll" = some (.ref fR))
    (GM : FnOk P w K mg base CX0 2 fM fdM ["_law_dice_here", "_law_items"] (spMixed K)) (kM : PySem.W.keepIn K (.ref fM) = true) (bM : L2.Binds K fdM ["_law_dice_here", "_law_items"] []) (gM : mg "_law_mixed" = some (.ref fM))
    (GK : FnOk P w K mg base CX0 4 fK fdK ["_law_dice_here", "_law_counters"] (spLKind K)) (kK : PySem.W.keepIn K (.ref fK) = true) (bK : L2.Binds K fdK ["_law_dice_here", "_law_counters"] []) (gK : mg "_law_kind" = some (.ref fK))
    (GW : FnOk P w K mg base CX0 3 fW fdW ["_law_dice_here", "_law_much"] spLWords) (kW : PySem.W.keepIn K (.ref fW) = true) (bW : L2.Binds K fdW ["_law_dice_here", "_law_much"] []) (gW : mg "_law_words" = some (.ref fW))
    (B : BltP mg) (B2 : Blt2 mg) (so : mg "sorted" = none) (en : mg "enumerate" = none) : FnOk P w K mg base CX0 5 f fd ["_law_dice_here", "_law_most_states", "_law_most_counters", "_law_more"] (spLGraph K mc mo) := by
  refine F.ok scLGraph (fun vs H Q E h => ?_) (fun cdv A outer s H vs Q E hr h => ?_)
  · obtain ⟨p, x, y, z, rfl, _⟩ := h
    rfl
  · obtain ⟨p, x, y, z, rfl, hp, k⟩ := h
    have hu1 : (A.deeper (envOfC "_law_graph" (defScope sLGraph) s.heap.objs.size f cdv)).units + 64 < cLine := by
      have := hr.un
      omega
    have r3 := hr.mono (by decide : 3 ≤ 4)
    have r2 := hr.mono (by decide : 2 ≤ 4)
    have r1 := hr.mono (by decide : 1 ≤ 4)
    refine ⟨_, pss_cons (ps_set (i := 4) scLGraph.nd rfl (.inr rfl) (pe_callB (r := rSortedDt K) (cr_sortedDt hu1) (by rfl) so (by decide +kernel) (pa_cons (pe_slice sl_list (pe_call GM r2 (by rfl) gM kM bM .nil pass0 (pa_cons (pv 0) (pa_cons (pe_lst (pa_cons pe_str (pa_cons pe_str (pa_cons pe_str (pa_cons pe_str pa_nil))))) pa_nil))) po_none (po_some (pe_op op_add pe_int (pe_call GR r1 (by rfl) gR kR bR .nil pass0 (pa_cons (pv 0) (pa_cons (pv 1) pa_nil)))))) pa_nil)))
      (pss_cons (ps_set (i := 5) scLGraph.nd rfl (.inl rfl) (pe_callB (r := rSortedDt K) (cr_sortedDt hu1) (by rfl) so (by decide +kernel) (pa_cons (pe_slice sl_list (pe_call GM r2 (by rfl) gM kM bM .nil pass0 (pa_cons (pv 0) (pa_cons (pe_lst (pa_cons pe_str (pa_cons pe_str (pa_cons pe_str (pa_cons pe_str (pa_cons pe_str pa_nil)))))) pa_nil))) po_none (po_some (pe_op op_add pe_int (pe_call GR r1 (by rfl) gR kR bR .nil pass0 (pa_cons (pv 0) (pa_cons (pv 2) pa_nil)))))) pa_nil)))
      (pss_cons (ps_set (i := 7) scLGraph.nd rfl (.inl rfl) (pe_ifExp (pt_cmpR op_gt (pe_callB (r := rLenM K) call_len_seq (by rfl) B.len PySem.boot_len (pa_cons (pv 4) pa_nil)) pe_int (nomark _))
        (pe_lc (own := [("_law_at", 6)]) (g := gName 6) (tt := tYes) (te := tTup (tCons (tOp (rIxL K) (tVar 4) (tOp (rI0 fun i j => .int (i - j)) (tVar 6) (tC (.int 1)))) (tCons (tOp (rIxL K) (tVar 4) (tVar 6)) tNil))) rfl scLGraph.nd (pi_range1 (by rfl) B2.rg (pa_cons (pe_callB (r := rLenM K) call_len_seq (by rfl) B.len PySem.boot_len (pa_cons (pv 4) pa_nil)) pa_nil)) (blkOk_by (N := lgNames) (sc := defScope sLGraph) (by decide +kernel))
          (fun _ _ _ _ _ => pg_name (i := 6) scLGraph.nd rfl (.inl rfl) (hf := .inr rfl)) (fun _ _ _ _ _ => pts_nil) (fun _ _ _ _ _ => pe_tup (pa_cons (pe_ix ix_list (pv 4) (pe_op op_sub (pv 6) pe_int) (fun _ _ => rfl)) (pa_cons (pe_ix ix_list (pv 4) (pv 6) (fun _ _ => rfl)) pa_nil)))) (pe_lst pa_nil)))
      (pss_cons (ps_set (i := 8) scLGraph.nd rfl (.inl rfl) (pe_callB (r := rLenM K) call_len_seq (by rfl) B.len PySem.boot_len (pa_cons (pv 7) pa_nil)))
      (pss_cons (ps_for PassesOwn.never rfl (pi_range1 (by rfl) B2.rg (pa_cons (pe_op op_add pe_int (pe_call GR r1 (by rfl) gR kR bR .nil pass0 (pa_cons (pv 0) (pa_cons (pv 3) pa_nil)))) pa_nil)) (pg_name (i := 9) scLGraph.nd rfl (.inl rfl))
        (pss_cons (ps_set (i := 10) scLGraph.nd rfl (.inl rfl) (pe_call GO r2 (by rfl) gO kO bO .nil pass0 (pa_cons (pv 0) (pa_cons (pv 4) pa_nil))))
        (pss_one (ps_expr (pe_bm PySem.F.plainAttrs_list PySem.F.slot_list_append PySem.F.type_list_append mt_append (pv 7) (pa_cons (pe_tup (pa_cons (pv 10) (pa_cons (pe_call GO r2 (by rfl) gO kO bO .nil pass0 (pa_cons (pv 0) (pa_cons (pe_lst (pa_cons (pv 10) (pa_cons (pv 10) (pa_cons (pe_call GO r2 (by rfl) gO kO bO .nil pass0 (pa_cons (pv 0) (pa_cons (pv 4) pa_nil))) pa_nil)))) pa_nil))) pa_nil))) pa_nil))))))
      (pss_cons (ps_par (i := 11) (j := 12) (by rfl) scLGraph.nd rfl rfl (by decide) rfl rfl (pa_cons (pe_call GW r3 (by rfl) gW kW bW .nil pass0 (pa_cons (pv 0) (pa_cons (pe_callB (r := rLenM K) call_len_seq (by rfl) B.len PySem.boot_len (pa_cons (pv 7) pa_nil)) pa_nil))) (pa_cons (pe_lst pa_nil) pa_nil)) (by rfl))
      (pss_cons (ps_for PassesOwn.never rfl (pi_enum (by rfl) en (pa_cons (pv 7) pa_nil)) (pg_tup rfl (pgs_cons (pg_name (i := 6) scLGraph.nd rfl (.inl rfl)) (pgs_cons (pg_name (i := 13) scLGraph.nd rfl (.inl rfl)) pgs_nil)))
        (pss_cons (ps_set (i := 14) scLGraph.nd rfl (.inl rfl) (pe_call GK hr (by rfl) gK kK bK .nil pass0 (pa_cons (pv 0) (pa_cons (pv 5) pa_nil))))
        (pss_cons (ps_if (PW.pt (pw_and (pt_cmpR op_lt (pv 6) (pv 8) (nomark _)) (pw_and1 (pt_cmpR op_eq (pe_call GR r1 (by rfl) gR kR bR .nil pass0 (pa_cons (pv 0) (pa_cons pe_int pa_nil))) pe_int (nomark _))))) (pss_one (ps_set (i := 14) scLGraph.nd rfl (.inl rfl) (pe_tupZ pa_nil))) pss_nil)
        (pss_one (ps_expr (pe_bm PySem.F.plainAttrs_list PySem.F.slot_list_append PySem.F.type_list_append mt_append (pv 12) (pa_cons (pe_tup (pa_cons (pe_ix ix_list (pv 11) (pv 6) (fun _ _ => rfl)) (pa_cons (pe_ix ix_tup (pv 13) pe_int (fun _ _ => rfl)) (pa_cons (pe_ix ix_tup (pv 13) pe_int (fun _ _ => rfl)) (pa_cons (pv 14) pa_nil))))) pa_nil)))))))
      (pss_one (ps_ret (pe_tup (pa_cons (pe_callTy call_tuple_of (by rfl) B.tuple (by decide +kernel) (pa_cons (pv 5) pa_nil)) (pa_cons (pe_callTy call_tuple_of (by rfl) B.tuple (by decide +kernel) (pa_cons (pv 4) pa_nil)) (pa_cons (pe_callTy call_tuple_of (by rfl) B.tuple (by decide +kernel) (pa_cons (pe_callB (r := rSortedDt K) (cr_sortedDt hu1) (by rfl) so (by decide +kernel) (pa_cons (pv 12) pa_nil)) pa_nil)) pa_nil)))))))))))), ?_⟩
    -- the states
    refine ⟨_, rfl, (by show 4 ≤ sizeLine; decide), fun a ha => ?_⟩
    have sa := same_new (o := .lst (nodes4.map V.str)) ha
    refine ⟨p, a, x, y, z, nodes4.map V.str, rfl, sa _ _ hp, .inl (.inl (.inl upd_same)), (by show 4 < 1000000; decide), fun r ys x1 y1 z1 H1 pm hr1 hp1 b1 => ?_⟩
    obtain ⟨zs, rfl, pz⟩ := perm_strs pm
    refine ⟨_, rfl, _, rfl, p, x1, y1, z1, 4, rfl, hp1, by decide, by decide, fun n1 x2 y2 z2 H2 n0 n4 hp2 b2 => ⟨_, _, rfl, rfl, _, rfl, r, _, rfl, .inl (.inl (b2 _ _ (fun c => ?_) hr1)), fun q hq => ?_⟩⟩
    · exact lst_ne hr1 hp1 c
    obtain ⟨m, rfl⟩ := Int.eq_ofNat_of_zero_le n0
    rw [show (1 : Int) + ((m : Nat) : Int) = ((m + 1 : Nat) : Int) by omega, cut_to] at *
    have m4 : m + 1 ≤ 4 := by omega
    have sq := same_new (o := .lst ((zs.take (m + 1)).map V.str)) hq
    have nn : (zs.take (m + 1)).Nodup := (pz.nodup_iff.mpr (by decide +kernel)).sublist (List.take_sublist _ _)
    dsimp only [tNil]
    refine sorted_strs (.inl (.inl (.inl upd_same))) nn fun pn ns hpn pmn na => ?_
    have spn := same_new (o := .lst (ns.map V.str)) hpn
    have nl : ns.length = m + 1 := by
      rw [pmn.length_eq, List.length_take, pz.length_eq]
      show min (m + 1) 4 = m + 1
      omega
    have nm : ∀ w ∈ ns, w ∈ nodes4 := fun w hw => pz.mem_iff.mp (List.mem_of_mem_take (pmn.mem_iff.mp hw))
    have pA := spn _ _ (sq _ _ hp2)
    have hA : (upd (upd H2 q (.lst ((zs.take (m + 1)).map V.str))) pn (.lst (ns.map V.str))) pn = some (.lst (ns.map V.str)) := upd_same
    have bA : But p H (upd (upd H2 q (.lst ((zs.take (m + 1)).map V.str))) pn (.lst (ns.map V.str))) := but_same sa (but_trans b1 (but_trans b2 (same_but (sq.trans spn))))
    generalize upd (upd H2 q (.lst ((zs.take (m + 1)).map V.str))) pn (.lst (ns.map V.str)) = HA at pA hA bA
    clear hpn hq hr1 spn sq b1 b2 sa
    have nep := lst_ne hA pA
    -- the counters
    refine ⟨_, rfl, (by show 5 ≤ sizeLine; decide), fun a ha => ?_⟩
    have sa := same_new (o := .lst (counters5.map V.str)) ha
    refine ⟨p, a, x2, y2, z2, counters5.map V.str, rfl, sa _ _ pA, .inl (.inl (.inl upd_same)), (by show 5 < 1000000; decide), fun r ys x1 y1 z1 H1 pm hr1 hp1 b1 => ?_⟩
    obtain ⟨ws, rfl, pw⟩ := perm_strs pm
    refine ⟨_, rfl, _, rfl, p, x1, y1, z1, mc, rfl, hp1, by omega, by omega, fun n1 x3 y3 z3 H3 n0 n5 hp3 b3 => ⟨_, _, rfl, rfl, _, rfl, r, _, rfl, .inl (.inl (b3 _ _ (fun c => ?_) hr1)), fun q hq => ?_⟩⟩
    · exact lst_ne hr1 hp1 c
    obtain ⟨l, rfl⟩ := Int.eq_ofNat_of_zero_le n0
    rw [show (1 : Int) + ((l : Nat) : Int) = ((l + 1 : Nat) : Int) by omega, cut_to] at *
    have l5 : l + 1 ≤ 5 := by omega
    have sq := same_new (o := .lst ((ws.take (l + 1)).map V.str)) hq
    have nw : (ws.take (l + 1)).Nodup := (pw.nodup_iff.mpr (by decide +kernel)).sublist (List.take_sublist _ _)
    dsimp only [tNil]
    refine sorted_strs (.inl (.inl (.inl upd_same))) nw fun pc cs hpc pmc ca => ?_
    have spc := same_new (o := .lst (cs.map V.str)) hpc
    have cl : cs.length = l + 1 := by
      rw [pmc.length_eq, List.length_take, pw.length_eq]
      show min (l + 1) 5 = l + 1
      omega
    have cm : ∀ w ∈ cs, w ∈ counters5 := fun w hw => pw.mem_iff.mp (List.mem_of_mem_take (pmc.mem_iff.mp hw))
    have pB := spc _ _ (sq _ _ hp3)
    have cB : (upd (upd H3 q (.lst ((ws.take (l + 1)).map V.str))) pc (.lst (cs.map V.str))) pc = some (.lst (cs.map V.str)) := upd_same
    have bAB : But p HA (upd (upd H3 q (.lst ((ws.take (l + 1)).map V.str))) pc (.lst (cs.map V.str))) := but_same sa (but_trans b1 (but_trans b3 (same_but (sq.trans spc))))
    have hB := bAB _ _ nep hA
    have bB := but_trans bA bAB
    generalize upd (upd H3 q (.lst ((ws.take (l + 1)).map V.str))) pc (.lst (cs.map V.str)) = HB at pB cB bB bAB hB
    clear hpc hq hr1 spc sq b1 b3 sa bAB
    have cep := lst_ne cB pB
    -- the pairs of the ring
    refine ring_te hB (by omega) fun PP us HC sC hPP hPn hl => ?_
    have PPp : PP ≠ p := fun c => by rw [c, pB] at hPn; cases hPn
    have pnP : pn ≠ PP := fun c => by rw [c, hPn] at hB; cases hB
    have pcP : pc ≠ PP := fun c => by rw [c, hPn] at cB; cases cB
    have H0P : H PP = none := by
      cases e : H PP with
      | none => rfl
      | some o =>
        have e2 := bB PP o PPp e
        rw [hPn] at e2
        cases e2
    have ulen : us.length = (ring ns).length := hl.length
    have rl := ring_len ns
    -- how many
    refine ⟨_, rfl, PP, _, rfl, .inl (.inl (.inl hPP)), ?_⟩
    have pC := sC _ _ pB
    have nC := sC _ _ hB
    have cC := sC _ _ cB
    have bC := but_trans bB (same_but (p := p) sC)
    refine ⟨_, rfl, _, rfl, p, x3, y3, z3, mo, rfl, pC, by omega, by omega, fun n1 x4 y4 z4 HD n0 n6 pD bD => ⟨_, _, rfl, rfl, _, rfl, by omega, by omega, ?_⟩⟩
    obtain ⟨e, rfl⟩ := Int.eq_ofNat_of_zero_le n0
    rw [show ((1 : Int) + ((e : Nat) : Int)).toNat = e + 1 by omega]
    refine for_range (fun i σ H' => ∃ y9 y10, σ = [some (.ref p), some (.int 4), some (.int mc), some (.int mo), some (.ref pn), some (.ref pc), none, some (.ref PP), some (.int (us.length : Nat)), y9, y10, none, none, none, none] ∧ But p H H' ∧ (∃ x y z : Int, H' p = some (.lst (hand x y z))) ∧ H' pn = some (.lst (ns.map V.str)) ∧ H' pc = some (.lst (cs.map V.str)) ∧
      ∃ (vs : List V) (ls : List (Str × Str)), H' PP = some (.lst vs) ∧ LinksAt K H' vs (ring ns ++ ls) ∧ (∀ l ∈ ls, l.1 ∈ ns ∧ l.2 ∈ ns) ∧ ls.length = i) ?h0 ?hs ?hd
    case h0 =>
      refine ⟨none, none, rfl, but_trans bC bD, ⟨_, _, _, pD⟩, bD _ _ nep nC, bD _ _ cep cC, us, [], bD _ _ PPp hPP, ?_, fun _ h => (by cases h), rfl⟩
      rw [List.append_nil]
      exact links_simL (SimX.but bD) pC hl
    case hs =>
      rintro i σ H' hi ⟨y9, y10, rfl, b5, ⟨x5, y5, z5, p5⟩, n5, c5, vs, ls, hP5, hl5, ends5, len5⟩
      refine one_var rfl rfl p5 n5 nep (by rw [List.length_map]; omega) (by rw [List.length_map]; omega) fun v x6 y6 z6 H6 mv p6 b6 => ?_
      obtain ⟨s1, hs1, rfl⟩ := List.mem_map.mp mv
      have nep5 := nep
      have n6' := b6 _ _ nep n5
      have P6 := b6 _ _ PPp hP5
      refine ⟨_, rfl, .inl ⟨rfl, _, .inl (.inl P6)⟩, _, rfl, _, rfl, _, rfl, _, rfl, one_var rfl rfl p6 n6' nep (by rw [List.length_map]; omega) (by rw [List.length_map]; omega) fun v x7 y7 z7 H7 mv p7 b7 => ?_⟩
      obtain ⟨s2, hs2, rfl⟩ := List.mem_map.mp mv
      refine ⟨(by show 3 ≤ sizeLine; decide), fun q hq => ?_⟩
      have sq := same_new (o := .lst [.str s1, .str s1, .str s2]) hq
      have nqp : q ≠ p := fun c => by rw [c, p7] at hq; cases hq
      refine ⟨p, q, x7, y7, z7, _, rfl, sq _ _ p7, upd_same, nqp, (by show 0 < 3; decide), (by show 3 < 1073741824; decide), fun v x8 y8 z8 H8 mv p8 b8 => ?_⟩
      obtain ⟨s3, rfl, hs3⟩ : ∃ s3, v = V.str s3 ∧ s3 ∈ ns := by
        simp only [List.mem_cons, List.not_mem_nil, or_false] at mv
        rcases mv with rfl | rfl | rfl
        · exact ⟨s1, rfl, hs1⟩
        · exact ⟨s1, rfl, hs1⟩
        · exact ⟨s2, rfl, hs2⟩
      refine ⟨(by show 2 ≤ sizeLine; decide), fun t ht => ?_⟩
      have st := same_new (o := .tup [.str s1, .str s3]) ht
      have bq : But p H' (upd H8 t (.tup [.str s1, .str s3])) := but_trans b6 (but_trans b7 (but_trans (same_but sq) (but_trans b8 (same_but st))))
      have Pt := bq _ _ PPp hP5
      have hl9 := links_simL (SimX.but bq) p5 hl5
      have lvs : vs.length ≤ 10 := by
        rw [hl5.length, List.length_append, len5]
        omega
      refine ⟨PP, vs, .ref t, rfl, rfl, Pt, by rw [sizeLine_eq]; omega, ?_⟩
      have bP : But p H (upd (upd H8 t (.tup [.str s1, .str s3])) PP (.lst (vs ++ [.ref t]))) := fun b o nb e => by
        have nbP : b ≠ PP := fun c => by rw [c, H0P] at e; cases e
        rw [upd_ne nbP]
        exact bq _ _ nb (b5 _ _ nb e)
      refine ⟨_, _, rfl, bP, ⟨x8, y8, z8, by rw [upd_ne PPp.symm]; exact st _ _ p8⟩, ?_, ?_, vs ++ [.ref t], ls ++ [(s1, s3)], upd_same, ?_, ?_, ?_⟩
      · rw [upd_ne pnP]
        exact bq _ _ nep n5
      · rw [upd_ne pcP]
        exact bq _ _ cep c5
      · rw [← List.append_assoc]
        exact paired_append (links_simL simX_upd Pt hl9) ⟨t, rfl, sqT_upd Pt (fun _ z => by cases z) (fun _ _ z => by cases z) (.inl (.inl upd_same))⟩
      · intro l hl
        rcases List.mem_append.mp hl with hl | hl
        · exact ends5 l hl
        · cases List.mem_singleton.mp hl
          exact ⟨hs1, hs3⟩
      · rw [List.length_append, len5]
        rfl
    case hd =>
      rintro σ H5 ⟨y9, y10, rfl, b5, ⟨x5, y5, z5, p5⟩, n5, c5, vs, ls, hP5, hl5, ends5, len5⟩
      have vl : vs.length = (ring ns).length + ls.length := by rw [hl5.length, List.length_append]
      have v10 : vs.length ≤ 10 := by omega
      -- the names, the rows' list
      refine ⟨_, rfl, _, rfl, PP, _, rfl, .inl (.inl (.inl hP5)), p, x5, y5, z5, vs.length, rfl, p5, by omega, fun wq ws x6 y6 z6 H6 wl wn wm hw6 p6 b6 => ⟨(by show 0 ≤ sizeLine; decide), fun FF hF => ⟨_, _, rfl, ?_⟩⟩⟩
      have sF := same_new (o := .lst []) hF
      have pE := sF _ _ p6
      have PE' := sF _ _ (b6 _ _ PPp hP5)
      have nE := sF _ _ (b6 _ _ nep n5)
      have cE := sF _ _ (b6 _ _ cep c5)
      have wE := sF _ _ hw6
      have FE : (upd H6 FF (.lst [])) FF = some (.lst []) := upd_same
      have lE := links_same sF (links_simL (SimX.but b6) p5 hl5)
      have bE : But p H (upd H6 FF (.lst [])) := but_trans b5 (but_trans b6 (same_but sF))
      have fp : FF ≠ p := fun c => by rw [c, p6] at hF; cases hF
      have fP : FF ≠ PP := fun c => by rw [c, b6 _ _ PPp hP5] at hF; cases hF
      have fc : FF ≠ pc := fun c => by rw [c, b6 _ _ cep c5] at hF; cases hF
      have fn : FF ≠ pn := fun c => by rw [c, b6 _ _ nep n5] at hF; cases hF
      have fw : FF ≠ wq := fun c => by rw [c, hw6] at hF; cases hF
      have H0F : H FF = none := by
        cases e : H FF with
        | none => rfl
        | some o =>
          have e2 := b6 FF o fp (b5 FF o fp e)
          rw [hF] at e2
          cases e2
      have wep := lst_ne wE pE
      generalize upd H6 FF (.lst []) = HE at pE PE' nE cE wE FE lE bE
      clear hF sF
      refine ⟨_, rfl, PP, vs, rfl, .inl (.inl PE'), for_it (walk_enum (K := K) (a := PP) (xs := vs)) (fun i σ H' => ∃ y6 y9 y10 y13 y14, σ = [some (.ref p), some (.int 4), some (.int mc), some (.int mo), some (.ref pn), some (.ref pc), y6, some (.ref PP), some (.int (us.length : Nat)), y9, y10, some (.ref wq), some (.ref FF), y13, y14] ∧ But p H H' ∧ (∃ x y z : Int, H' p = some (.lst (hand x y z))) ∧ H' pn = some (.lst (ns.map V.str)) ∧ H' pc = some (.lst (cs.map V.str)) ∧ H' PP = some (.lst vs) ∧ LinksAt K H' vs (ring ns ++ ls) ∧ H' wq = some (.lst (ws.map V.str)) ∧
        ∃ (rus : List V) (fr : List Row), H' FF = some (.lst rus) ∧ Paired (PlRow K H') rus fr ∧ fr.map (·.n) = ws.take i ∧ fwd fr = (ring ns ++ ls).take i ∧ ∀ r ∈ fr, ChOk r.c ∧ ChIn cs r.c) ?h1 (fun i σ H' _ pp => .inl (.inl pp.choose_spec.choose_spec.choose_spec.choose_spec.choose_spec.2.2.2.2.2.1)) ?h2 ?h3⟩
      case h1 => exact ⟨_, _, _, _, _, rfl, bE, ⟨_, _, _, pE⟩, nE, cE, PE', lE, wE, [], [], FE, .nil, rfl, rfl, fun _ h => by cases h⟩
      case h2 =>
        rintro i xv σ H7 H8 hi ⟨y6, y9, y10, y13, y14, rfl, b7, ⟨x7, y7, z7, p7⟩, n7, c7, P7, l7, w7, rus, fr, F7, hr7, names7, fwd7, ch7⟩ ⟨T, e1, xp, rfl, hT, rfl, he1, hxp⟩
        cases he1
        have sT := same_new (o := .tup [.int (i : Nat), xp]) hT
        have hi2 : i < (ring ns ++ ls).length := by rw [← l7.length]; exact hi
        obtain ⟨tp, rfl, htp⟩ : ∃ t, xp = V.ref t ∧ SqT K H7 t [.str ((ring ns ++ ls)[i]'hi2).1, .str ((ring ns ++ ls)[i]'hi2).2] := paired_at l7 hxp (List.getElem?_eq_getElem hi2)
        have hlk : (ring ns ++ ls)[i]? = some ((ring ns ++ ls)[i]'hi2) := List.getElem?_eq_getElem hi2
        generalize (ring ns ++ ls)[i]'hi2 = lk at htp hlk
        refine ⟨T, _, rfl, .inl (.inl upd_same), rfl, _, _, rfl, _, _, rfl, rfl, ?_⟩
        dsimp only [gName]
        refine ⟨_, rfl, _, rfl, p, pc, x7, y7, z7, cs, rfl, sT _ _ p7, sT _ _ c7, cep, by omega, by omega, fun c hc => counters_ok _ (cm c hc), fun v c x8 y8 z8 H9 okc inc plc p9 b9 => ?_⟩
        have b79 : But p H7 H9 := but_same sT b9
        have rl2 : rus.length ≤ 100 := by
          have e1 := hr7.length
          have e2 : fr.length = (ws.take i).length := by rw [← names7, List.length_map]
          rw [List.length_take] at e2
          omega
        have wi : ∃ n, ws[i]? = some n := ⟨ws[i]'(by omega), List.getElem?_eq_getElem _⟩
        obtain ⟨n, hni⟩ := wi
        -- a row more
        have done : ∀ (v : V) (c : List (Str × Int)) (x y z : Int) (H10 : Hp), ChOk c → ChIn cs c → PlCh K H10 v c → H10 p = some (.lst (hand x y z)) → But p H7 H10 → ∀ (r : Addr) (H' : Hp), Same H10 H' → H10 r = none → SqT K H' r [.str n, .str lk.1, .str lk.2, v] →
            (But p H (upd H' FF (.lst (rus ++ [.ref r]))) ∧ (∃ x y z : Int, (upd H' FF (.lst (rus ++ [.ref r]))) p = some (.lst (hand x y z))) ∧ (upd H' FF (.lst (rus ++ [.ref r]))) pn = some (.lst (ns.map V.str)) ∧ (upd H' FF (.lst (rus ++ [.ref r]))) pc = some (.lst (cs.map V.str)) ∧ (upd H' FF (.lst (rus ++ [.ref r]))) PP = some (.lst vs) ∧ LinksAt K (upd H' FF (.lst (rus ++ [.ref r]))) vs (ring ns ++ ls) ∧ (upd H' FF (.lst (rus ++ [.ref r]))) wq = some (.lst (ws.map V.str)) ∧
              ∃ (rus' : List V) (fr' : List Row), (upd H' FF (.lst (rus ++ [.ref r]))) FF = some (.lst rus') ∧ Paired (PlRow K (upd H' FF (.lst (rus ++ [.ref r])))) rus' fr' ∧ fr'.map (·.n) = ws.take (i + 1) ∧ fwd fr' = (ring ns ++ ls).take (i + 1) ∧ ∀ r ∈ fr', ChOk r.c ∧ ChIn cs r.c) := by
          intro v c x y z H10 okc inc ⟨cr, xs, ev, hpl, hdp⟩ p10 b10 r H' sr hr hrow
          subst ev
          have F10 := sr _ _ (b10 _ _ fp F7)
          have bq : But p H7 H' := but_trans b10 (same_but sr)
          refine ⟨fun b o nb e => ?_, ⟨x, y, z, by rw [upd_ne fp.symm]; exact sr _ _ p10⟩, ?_, ?_, ?_, ?_, ?_, rus ++ [.ref r], fr ++ [⟨n, lk.1, lk.2, c⟩], upd_same, ?_, ?_, ?_, ?_⟩
          · have nbF : b ≠ FF := fun c => by rw [c, H0F] at e; cases e
            rw [upd_ne nbF]
            exact bq b o nb (b7 b o nb e)
          · rw [upd_ne fn.symm]
            exact bq _ _ nep n7
          · rw [upd_ne fc.symm]
            exact bq _ _ cep c7
          · rw [upd_ne fP.symm]
            exact bq _ _ PPp P7
          · exact links_simL simX_upd F10 (links_simL (SimX.but bq) p7 l7)
          · rw [upd_ne fw.symm]
            exact bq _ _ wep w7
          · refine paired_append (plAll_simL simX_upd F10 (plAll_simL (SimX.but bq) p7 hr7)) ⟨r, cr, xs, rfl, ?_, ?_, ?_⟩
            · exact sqT_upd F10 (fun _ z => by cases z) (fun _ _ z => by cases z) hrow
            · exact plT_simX simX_upd F10 (fun _ z => by cases z) (fun _ _ z => by cases z) (plT_same sr hpl)
            · exact dpPairs_simX simX_upd F10 (dpAll_same sr _ _ hdp)
          · rw [List.map_append, names7, List.take_add_one, hni]
            rfl
          · have e : fwd (fr ++ [⟨n, lk.1, lk.2, c⟩]) = fwd fr ++ [lk] := by
              unfold fwd
              rw [List.map_append]
              rfl
            rw [e, fwd7, List.take_add_one, hlk]
            rfl
          · intro q hq
            rcases List.mem_append.mp hq with hq | hq
            · exact ch7 q hq
            · cases List.mem_singleton.mp hq
              exact ⟨okc, inc⟩
        have w9 := b79 _ _ wep w7
        have F9 := b79 _ _ fp F7
        have t9 := sqT_simX (SimX.but b79) p7 (fun _ z => by cases z) (fun _ _ z => by cases z) htp
        have keepit : PlCh K H9 v c := plc
        refine ⟨_, rfl, _, rfl, _, _, rfl, rfl, _, rfl, ?_⟩
        by_cases q : ((i : Nat) : Int) < ((us.length : Nat) : Int)
        · refine if_yes (decide_eq_true q) ⟨_, rfl, p, x8, y8, z8, 2, rfl, p9, by decide, by decide, fun n2 x11 y11 z11 H11 m0 m2 p11 b11 => ⟨rfl, _, rfl, ?_⟩⟩
          have b711 := but_trans b79 b11
          have w11 := b711 _ _ wep w7
          have F11 := b711 _ _ fp F7
          have t11 := sqT_simX (SimX.but b711) p7 (fun _ z => by cases z) (fun _ _ z => by cases z) htp
          by_cases z2 : n2 = 0
          · subst z2
            refine if_yes rfl ⟨(by show 0 ≤ sizeLine; decide), fun u o hu od => ?_⟩
            have su := same_new (o := .frz o (.tup [])) hu
            refine row_te (su _ _ w11) hni (sqT_same su t11) (su _ _ F11) (by omega) fun r H' sr hr hrow => ⟨_, _, _, _, _, rfl, done (.ref u) [] x11 y11 z11 _ ⟨fun _ h => (by cases h), fun _ _ _ h => (by simp at h), by decide⟩ (fun _ h => by cases h) ⟨u, [], rfl, ⟨.inl (.inr ⟨o, upd_same⟩), .inl ⟨o, upd_same, od⟩⟩, .nil⟩ (su _ _ p11) (but_trans b711 (same_but su)) r H' sr hr hrow⟩
          · refine if_no (by simpa using z2) ?_
            obtain ⟨cr, xs, ev, hpl, hdp⟩ := plc
            have plc2 : PlCh K H11 v c := ⟨cr, xs, ev, plT_simX (SimX.but b11) p9 (fun _ z => by cases z) (fun _ _ z => by cases z) hpl, dpPairs_simX (SimX.but b11) p9 hdp⟩
            exact row_te w11 hni t11 F11 (by omega) fun r H' sr hr hrow => ⟨_, _, _, _, _, rfl, done v c x11 y11 z11 H11 okc inc plc2 p11 b711 r H' sr hr hrow⟩
        · refine if_no (by simpa using q) (if_no Bool.false_ne_true ?_)
          exact row_te w9 hni t9 F9 (by omega) fun r H' sr hr hrow => ⟨_, _, _, _, _, rfl, done v c x8 y8 z8 H9 okc inc plc p9 b79 r H' sr hr hrow⟩
      case h3 =>
        rintro σ H7 ⟨y6, y9, y10, y13, y14, rfl, b7, ⟨x7, y7, z7, p7⟩, n7, c7, P7, l7, w7, rus, fr, F7, hr7, names7, fwd7, ch7⟩
        have vlen : vs.length = (ring ns ++ ls).length := l7.length
        rw [List.take_of_length_le (Nat.le_of_eq wl)] at names7
        rw [List.take_of_length_le (Nat.le_of_eq vlen.symm)] at fwd7
        have few : fr.length ≤ 16 ∧ 1 ≤ fr.length := by
          have e : fr.length = ws.length := by rw [← names7, List.length_map]
          omega
        refine ⟨_, rfl, pc, _, rfl, .inl ⟨.inl (.inl c7), fun t1 ht1 => ?_⟩⟩
        have s1 := same_new (o := .tup (cs.map V.str)) ht1
        refine ⟨_, rfl, pn, _, rfl, .inl ⟨.inl (.inl (s1 _ _ n7)), fun t2 ht2 => ?_⟩⟩
        have s2 := same_new (o := .tup (ns.map V.str)) ht2
        have s12 := s1.trans s2
        have T1 := s2 _ _ (upd_same (H := H7) (a := t1) (o := .tup (cs.map V.str)))
        have T2 : (upd (upd H7 t1 (.tup (cs.map V.str))) t2 (.tup (ns.map V.str))) t2 = some (.tup (ns.map V.str)) := upd_same
        have F8 := s12 _ _ F7
        have p8 := s12 _ _ p7
        have hr8 := Paired.mapP hr7 fun _ _ q => plRow_sim (Sim.of s12) q
        generalize upd (upd H7 t1 (.tup (cs.map V.str))) t2 (.tup (ns.map V.str)) = H8 at T1 T2 F8 p8 hr8 s12
        clear ht1 ht2 s1 s2
        refine ⟨_, rfl, ?_⟩
        dsimp only [tNil]
        refine sorted_rows (.inl (.inl (.inl F8))) hr8 (by rw [names7]; exact wn) fun q us2 rs hq pm asc hr9 => ?_
        have s3 := same_new (o := .lst us2) hq
        refine ⟨q, us2, rfl, .inl ⟨.inl (.inl upd_same), fun t3 ht3 => ⟨(by show 3 ≤ sizeLine; decide), fun pl hpl => ?_⟩⟩⟩
        have s4 := same_new (o := .tup us2) ht3
        have s5 := same_new (o := .tup [.ref t1, .ref t2, .ref t3]) hpl
        have s345 := s3.trans (s4.trans s5)
        refine k pl t1 t2 t3 us2 ⟨cs, ns, rs⟩ x7 y7 z7 _ (lawG_of ca cm (by omega) (by omega) na nm (by omega) (by omega) pm asc few.1 few.2 (fun r hr => wm _ (by rw [← names7]; exact List.mem_map.mpr ⟨r, hr, rfl⟩)) (fun r hr => ?_) ch7 fun l hl => by rw [fwd7]; exact List.mem_append_left _ hl)
          (.inl (.inl upd_same)) (.inl (.inl (s345 _ _ T1))) (.inl (.inl (s345 _ _ T2))) (.inl (.inl (s5 _ _ upd_same))) (Paired.mapP hr9 fun _ _ q => plRow_sim (Sim.of s345) q) (s345 _ _ p8) (but_trans b7 (same_but (s12.trans s345)))
        have m : (r.s, r.t) ∈ ring ns ++ ls := by
          rw [← fwd7]
          exact List.mem_map.mpr ⟨r, hr, rfl⟩
        rcases List.mem_append.mp m with m | m
        · exact ring_mem m
        · exact ends5 _ m
end
end Qp

/-! the graph of a drawn one -/
namespace Qp
open PySem PySem.Spec PyProof.Rows L2 QN
abbrev sLBuilt : Stmt := top 36 -- _law_built
theorem scLBuilt : FnScope ["_law_plain"] ["_law_plain"] (defScope sLBuilt) := ⟨rfl, rfl, rfl, by decide +kernel, rfl, by decide +kernel, by decide +kernel⟩
/-- a plain graph: counters, states, rows -/
structure PlainG (K : PySem.W.Frag) (H : Hp) (pl a b v : Addr) (us : List V) (G : Gr) : Prop where
  hp : SqT K H pl [.ref a, .ref b, .ref v]
  ha : SqT K H a (G.cs.map V.str)
  hb : SqT K H b (G.ns.map V.str)
  hv : SqT K H v us
  hu : Paired (PlRow K H) us G.rs
theorem PlainG.sim {K : PySem.W.Frag} {H H' : Hp} {pl a b v : Addr} {us : List V} {G : Gr} (s : Sim H H') (h : PlainG K H pl a b v us G) : PlainG K H' pl a b v us G :=
  ⟨sqT_sim s h.hp, sqT_sim s h.ha, sqT_sim s h.hb, sqT_sim s h.hv, plAll_sim s h.hu⟩
def spLBuilt (K : PySem.W.Frag) (C PI : Addr) : Sp := fun vs H Q _ => ∃ (pl a b v : Addr) (us : List V) (G : Gr), vs = [.ref pl] ∧ PlainG K H pl a b v us G ∧ LawG G ∧ GxR.TabG H PI ∧ ∀ (g : Addr) (H' : Hp), Sim H H' → GraphAt K C H' g G → Q (.ref g) H'
section
variable {P : Program} {w : World} {K : PySem.W.Frag} {mg : Str → Option Value} {base : Heap}
theorem ok_lbuilt {f C fP fO PI : Addr} {fd : FuncData} (F : Fun K "_law_built" "_law_built" sLBuilt f fd) (T : GraphC K mg C) (CR : ClX.CRead K C (.type "type")) (CM : ClX.CMet K C (.type "type") "of" fP fO) (GO : FnR P w K mg base CX0 9 fO (spGOf K C PI)) :
    FnOk P w K mg base CX0 10 f fd ["_law_plain"] (spLBuilt K C PI) := by
  refine F.ok scLBuilt (fun vs H Q E h => ?_) (fun cdv A outer s H vs Q E hr h => ?_)
  · obtain ⟨pl, a, b, v, us, G, rfl, _⟩ := h
    rfl
  · obtain ⟨pl, a, b, v, us, G, rfl, h, L, tab, k⟩ := h
    refine ⟨_, pss_one (ps_ret (ClX.pe_cmeth (pe_glob (v := .ref C) (by rfl) T.gC rfl) CR CM GO hr pass0 (pa_cons (pe_ix ix_tup (pv 0) pe_int (fun _ _ => rfl)) (pa_cons (pe_ix ix_tup (pv 0) pe_int (fun _ _ => rfl)) (pa_cons (pe_ix ix_tup (pv 0) pe_int (fun _ _ => rfl)) pa_nil))))), ?_⟩
    refine ⟨rfl, _, rfl, pl, _, _, _, rfl, rfl, h.hp, rfl, _, rfl, pl, _, _, _, rfl, rfl, h.hp, rfl, _, rfl, pl, _, _, _, rfl, rfl, h.hp, rfl, ?_⟩
    exact ⟨a, b, v, us, G.cs, G.ns, G.rs, G, rfl, h.ha, h.hb, h.hv, h.hu, tab, L.made, k⟩
end
end Qp

/-! the texts of names and rows are short enough -/
namespace Qp
open PySem PySem.Spec PyProof.Rows L2 QN
/-- a dict's pairs that are short -/
def Small (p : Str × Int) : Prop := NameOk p.1 ∧ p.2.natAbs ≤ 9
theorem small_leaf {p : Str × Int} (h : Small p) : PyData.leavesShort 13 (.str p.1) = true ∧ PyData.leavesShort 13 (.int p.2) = true ∧ PyData.weight (.str p.1) ≤ 8 ∧ PyData.weight (.int p.2) ≤ 4 ∧ PyData.showable (.int p.2) = true := by
  obtain ⟨h1, h2⟩ := h
  refine ⟨?_, ?_, h1.2.1, ?_, ?_⟩
  · show (p.1.cps.toList.all fun c => decide (c < 16 ^ 8)) = true
    refine List.all_eq_true.mpr fun c hc => decide_eq_true ?_
    have all : ∀ c ∈ letters.cps.toList, c < 16 ^ 8 := by decide +kernel
    exact all c (h1.2.2 c hc)
  · show decide ((Str.ofString (toString p.2)).length ≤ 13) = true
    refine decide_eq_true ?_
    have e := int_text_length_le10 (a := p.2) (k := 1) (by decide) (by omega)
    rw [PySem.ofString_length]
    omega
  · show (if p.2 == 0 then 0 else p.2.natAbs.log2 + 1) ≤ 4
    split
    · decide
    · rename_i z
      have nz : p.2.natAbs ≠ 0 := fun e => z (by rw [Int.natAbs_eq_zero.mp e]; rfl)
      have : p.2.natAbs.log2 < 4 := (Nat.log2_lt nz).mpr (by omega)
      omega
  · show decide (p.2.natAbs.log2 < 1920) = true
    refine decide_eq_true ?_
    by_cases z : p.2.natAbs = 0
    · rw [z]
      decide
    · exact (Nat.log2_lt z).mpr (Nat.lt_of_le_of_lt h2 (by decide +kernel))
theorem nice_names : ∀ {xs : List Str}, (∀ x ∈ xs, NameOk x) → PyData.leavesShortAll 13 (xs.map PyData.str) = true ∧ PyData.showableAll (xs.map PyData.str) = true ∧ PyData.hasDictAll (xs.map PyData.str) = false ∧ PyData.weightAll (xs.map PyData.str) ≤ 9 * xs.length
  | [], _ => ⟨rfl, rfl, rfl, Nat.le_refl _⟩
  | x :: xs, h => by
    obtain ⟨a, b, c, d⟩ := nice_names fun q hq => h q (List.mem_cons_of_mem _ hq)
    obtain ⟨d1, _, d3, _, _⟩ := small_leaf (p := (x, 0)) ⟨h x List.mem_cons_self, by show (0 : Int).natAbs ≤ 9; decide⟩
    replace d3 : PyData.weight (.str x) ≤ 8 := d3
    refine ⟨?_, ?_, ?_, ?_⟩
    · show (PyData.leavesShort 13 (.str x) && PyData.leavesShortAll 13 (xs.map PyData.str)) = true
      rw [d1, a]
      rfl
    · show (true && PyData.showableAll (xs.map PyData.str)) = true
      rw [b]
      rfl
    · show (false || PyData.hasDictAll (xs.map PyData.str)) = false
      rw [c]
      rfl
    · show PyData.weight (.str x) + 1 + PyData.weightAll (xs.map PyData.str) ≤ 9 * (xs.length + 1)
      omega
theorem nice_ch : ∀ {c : List (Str × Int)}, (∀ p ∈ c, Small p) → PyData.leavesShortAll 13 (c.map pairD) = true ∧ PyData.showableAll (c.map pairD) = true ∧ PyData.hasDictAll (c.map pairD) = false ∧ PyData.weightAll (c.map pairD) ≤ 20 * c.length
  | [], _ => ⟨rfl, rfl, rfl, Nat.le_refl _⟩
  | p :: c, h => by
    obtain ⟨a, b, e, d⟩ := nice_ch fun q hq => h q (List.mem_cons_of_mem _ hq)
    obtain ⟨d1, d2, d3, d4, d5⟩ := small_leaf (h p List.mem_cons_self)
    refine ⟨?_, ?_, ?_, ?_⟩
    · show ((PyData.leavesShort 13 (.str p.1) && (PyData.leavesShort 13 (.int p.2) && true)) && PyData.leavesShortAll 13 (c.map pairD)) = true
      rw [d1, d2, a]
      rfl
    · show ((true && (PyData.showable (.int p.2) && true)) && PyData.showableAll (c.map pairD)) = true
      rw [b, d5]
      rfl
    · show ((false || (false || false)) || PyData.hasDictAll (c.map pairD)) = false
      rw [e]
      rfl
    · show (PyData.weight (.str p.1) + 1 + (PyData.weight (.int p.2) + 1 + 0)) + 1 + PyData.weightAll (c.map pairD) ≤ 20 * (c.length + 1)
      omega
theorem small_cc {p : Str × Int} (h : CcOk p) : Small p := ⟨h.1, by obtain ⟨_, _, h1, h2⟩ := h; omega⟩
theorem nice_rows : ∀ {rs : List Row}, (∀ r ∈ rs, RowOk r) → PyData.leavesShortAll 13 (rs.map rowD) = true ∧ PyData.showableAll (rs.map rowD) = true ∧ PyData.hasDictAll (rs.map rowD) = false ∧ PyData.weightAll (rs.map rowD) ≤ 2100 * rs.length
  | [], _ => ⟨rfl, rfl, rfl, Nat.le_refl _⟩
  | r :: rs, h => by
    obtain ⟨a, b, e, d⟩ := nice_rows fun q hq => h q (List.mem_cons_of_mem _ hq)
    have ok := h r List.mem_cons_self
    obtain ⟨c1, c2, c3, c4⟩ := nice_ch fun p hp => small_cc (ok.c.1 p hp)
    obtain ⟨n1, _, n3, _, _⟩ := small_leaf (p := (r.n, 0)) ⟨ok.n, by show (0 : Int).natAbs ≤ 9; decide⟩
    obtain ⟨s1, _, s3, _, _⟩ := small_leaf (p := (r.s, 0)) ⟨ok.s, by show (0 : Int).natAbs ≤ 9; decide⟩
    obtain ⟨t1, _, t3, _, _⟩ := small_leaf (p := (r.t, 0)) ⟨ok.t, by show (0 : Int).natAbs ≤ 9; decide⟩
    replace n3 : PyData.weight (.str r.n) ≤ 8 := n3
    replace s3 : PyData.weight (.str r.s) ≤ 8 := s3
    replace t3 : PyData.weight (.str r.t) ≤ 8 := t3
    replace n1 : PyData.leavesShort 13 (.str r.n) = true := n1
    replace s1 : PyData.leavesShort 13 (.str r.s) = true := s1
    replace t1 : PyData.leavesShort 13 (.str r.t) = true := t1
    have cl := ok.c.2.2
    refine ⟨?_, ?_, ?_, ?_⟩
    · show ((PyData.leavesShort 13 (.str r.n) && (PyData.leavesShort 13 (.str r.s) && (PyData.leavesShort 13 (.str r.t) && (PyData.leavesShortAll 13 (r.c.map pairD) && true)))) && PyData.leavesShortAll 13 (rs.map rowD)) = true
      rw [n1, s1, t1, c1, a]
      rfl
    · show ((true && (true && (true && (PyData.showableAll (r.c.map pairD) && true)))) && PyData.showableAll (rs.map rowD)) = true
      rw [b, c2]
      rfl
    · show ((false || (false || (false || (PyData.hasDictAll (r.c.map pairD) || false)))) || PyData.hasDictAll (rs.map rowD)) = false
      rw [e, c3]
      rfl
    · show (PyData.weight (.str r.n) + 1 + (PyData.weight (.str r.s) + 1 + (PyData.weight (.str r.t) + 1 + (PyData.weightAll (r.c.map pairD) + 1 + 0)))) + 1 + PyData.weightAll (rs.map rowD) ≤ 2100 * (rs.length + 1)
      omega
theorem shows_rows {rs : List Row} (h : ∀ r ∈ rs, RowOk r) (few : rs.length ≤ 16) : (PyData.tuple (rs.map rowD)).showable = true ∧ (PyData.tuple (rs.map rowD)).hasDict = false ∧ (PyData.tuple (rs.map rowD)).depth + 1 ≤ 64 ∧ (PyData.tuple (rs.map rowD)).shown.length ≤ sizeLine := by
  obtain ⟨a, b, c, d⟩ := nice_rows h
  have dp := depth_rows rs
  refine ⟨b, c, by show PyData.depthAll (rs.map rowD) + 1 + 1 ≤ 64; omega, PyData.shown_fits (B := 13) (by decide) (by decide) a ?_⟩
  show PyData.weightAll (rs.map rowD) ≤ 2 ^ 20
  have e : (2 : Nat) ^ 20 = 1048576 := by decide
  omega
/-- counters, states, rows as one list -/
def partsD (G : Gr) : PyData := .list [.tuple (G.cs.map PyData.str), .tuple (G.ns.map PyData.str), .tuple (G.rs.map rowD)]
theorem shows_parts {G : Gr} (ok : G.Ok) : (partsD G).showable = true ∧ (partsD G).hasDict = false ∧ (partsD G).depth + 1 ≤ 64 ∧ (partsD G).shown.length ≤ sizeLine := by
  obtain ⟨c1, c2, c3, c4⟩ := nice_names ok.cn
  obtain ⟨n1, n2, n3, n4⟩ := nice_names ok.nn
  obtain ⟨r1, r2, r3, r4⟩ := nice_rows ok.ro
  have h1 := ok.cl
  have h2 := ok.nl
  have h3 := ok.rl
  have d1 := depth_strs G.cs
  have d2 := depth_strs G.ns
  have d3 := depth_rows G.rs
  refine ⟨?_, ?_, ?_, PyData.shown_fits (B := 13) (by decide) (by decide) ?_ ?_⟩
  · show (PyData.showableAll (G.cs.map PyData.str) && (PyData.showableAll (G.ns.map PyData.str) && (PyData.showableAll (G.rs.map rowD) && true))) = true
    rw [c2, n2, r2]
    rfl
  · show (PyData.hasDictAll (G.cs.map PyData.str) || (PyData.hasDictAll (G.ns.map PyData.str) || (PyData.hasDictAll (G.rs.map rowD) || false))) = false
    rw [c3, n3, r3]
    rfl
  · simp only [partsD, PyData.depth, PyData.depthAll]
    omega
  · show (PyData.leavesShortAll 13 (G.cs.map PyData.str) && (PyData.leavesShortAll 13 (G.ns.map PyData.str) && (PyData.leavesShortAll 13 (G.rs.map rowD) && true))) = true
    rw [c1, n1, r1]
    rfl
  · have e : (2 : Nat) ^ 20 = 1048576 := by decide
    show PyData.weightAll (G.cs.map PyData.str) + 1 + (PyData.weightAll (G.ns.map PyData.str) + 1 + (PyData.weightAll (G.rs.map rowD) + 1 + 0)) ≤ 2 ^ 20
    omega
end Qp

/-! some of the things -/
namespace Qp
open PySem PySem.Spec PyProof.Rows L2 QN
abbrev sLSome : Stmt := top 31 -- _law_some
theorem scLSome : FnScope ["_law_dice_here", "_law_items"] ["_law_dice_here", "_law_items"] (defScope sLSome) := ⟨rfl, rfl, rfl, by decide +kernel, rfl, by decide +kernel, by decide +kernel⟩
def spSome (K : PySem.W.Frag) : Sp := fun vs H Q _ => ∃ (p q : Addr) (x y z : Int) (its : List V), vs = [.ref p, .ref q] ∧ H p = some (.lst (hand x y z)) ∧ (SqL K H q its ∨ SqT K H q its) ∧ its.length < 100000 ∧ (∀ i : Int, V.int i ∉ its) ∧
  ∀ (r : Addr) (ys : List V) (m : Nat) (x' y' z' : Int) (H' : Hp), ys.Perm its → H' r = some (.lst (ys.take m)) → H' p = some (.lst (hand x' y' z')) → r ≠ p → But p H H' → Q (.ref r) H'
section
variable {P : Program} {w : World} {K : PySem.W.Frag} {mg : Str → Option Value} {base : Heap}
theorem ok_lsome {f fR fM : Addr} {fd fdR fdM : FuncData} (F : Fun K "_law_some" "_law_some" sLSome f fd)
    (GR : FnOk P w K mg base CX0 1 fR fdR ["_law_dice_here", "_law_total"] spRoll) (kR : PySem.W.keepIn K (.ref fR) = true) (bR : L2.Binds K fdR ["_law_dice_here", "_law_total"] []) (gR : mg "_law_roll" = some (.ref fR))
    (GM : FnOk P w K mg base CX0 2 fM fdM ["_law_dice_here", "_law_items"] (spMixed K)) (kM : PySem.W.keepIn K (.ref fM) = true) (bM : L2.Binds K fdM ["_law_dice_here", "_law_items"] []) (gM : mg "_law_mixed" = some (.ref fM)) (B : BltP mg) :
    FnOk P w K mg base CX0 3 f fd ["_law_dice_here", "_law_items"] (spSome K) := by
  refine F.ok scLSome (fun vs H Q E h => ?_) (fun cdv A outer s H vs Q E hr h => ?_)
  · obtain ⟨p, q, x, y, z, its, rfl, _⟩ := h
    rfl
  · obtain ⟨p, q, x, y, z, its, rfl, hp, hq, few, ni, k⟩ := h
    have r1 := hr.mono (by decide : 1 ≤ 2)
    refine ⟨_, pss_one (ps_ret (pe_slice sl_list (pe_call GM hr (by rfl) gM kM bM .nil pass0 (pa_cons (pv 0) (pa_cons (pv 1) pa_nil))) po_none (po_some (pe_call GR r1 (by rfl) gR kR bR .nil pass0 (pa_cons (pv 0) (pa_cons (pe_op op_add (pe_callB (r := rLenM K) call_len_seq (by rfl) B.len PySem.boot_len (pa_cons (pv 1) pa_nil)) pe_int) pa_nil)))))), ?_⟩
    refine ⟨_, rfl, _, rfl, p, q, x, y, z, its, rfl, hp, hq, by omega, fun r ys x1 y1 z1 H1 pm hr1 hp1 b1 => ?_⟩
    have bq : SqL K H1 q its ∨ SqT K H1 q its := by
      rcases hq with ((h | ⟨o, h⟩) | h) | ((h | ⟨o, h⟩) | h)
      · refine .inl (.inl (.inl (b1 _ _ (fun c => ?_) h)))
        rw [c, hp] at h
        have e : hand x y z = its := HO.lst.inj (Option.some.inj h)
        exact ni x (by rw [← e]; exact List.mem_cons_self)
      · exact .inl (.inl (.inr ⟨o, b1 _ _ (fun c => by rw [c, hp] at h; cases h) h⟩))
      · exact .inl (.inr h)
      · exact .inr (.inl (.inl (b1 _ _ (fun c => by rw [c, hp] at h; cases h) h)))
      · exact .inr (.inl (.inr ⟨o, b1 _ _ (fun c => by rw [c, hp] at h; cases h) h⟩))
      · exact .inr (.inr h)
    refine ⟨_, rfl, _, rfl, q, its, rfl, bq, _, _, rfl, rfl, ?_⟩
    refine ⟨p, x1, y1, z1, _, rfl, hp1, by omega, by omega, fun n x2 y2 z2 H2 n0 n6 hp2 b2 => ?_⟩
    obtain ⟨m, rfl⟩ := Int.eq_ofNat_of_zero_le n0
    have rp : r ≠ p := fun c => by
      rw [c, hp1] at hr1
      have e : hand x1 y1 z1 = ys := by
        injection hr1 with h1
        injection h1
      have m1 : V.int x1 ∈ ys := by
        rw [← e]
        exact List.mem_cons_self
      exact ni _ (pm.mem_iff.mp m1)
    have hr2 := b2 _ _ rp hr1
    refine ⟨_, rfl, r, ys, rfl, .inl (.inl hr2), fun c hc => ?_⟩
    have sc := same_new (o := .lst (cutV ys none (some (m : Int)))) hc
    refine k c ys m x2 y2 z2 _ pm ?_ (sc _ _ hp2) (fun z => by rw [z, hp2] at hc; cases hc) (but_trans b1 (but_trans b2 (same_but sc)))
    rw [upd_same]
    have e := cut_to ys m (fun v => v)
    rw [List.map_id', List.map_id'] at e
    rw [e]
end
end Qp

/-! a drawn graph, perhaps without rows -/
namespace Qp
open PySem PySem.Spec PyProof.Rows L2 QN
abbrev sLDrawn : Stmt := top 37 -- _law_drawn
theorem scLDrawn : FnScope ["_law_dice_here", "_law_plain"] ["_law_dice_here"] (defScope sLDrawn) := ⟨rfl, rfl, rfl, by decide +kernel, rfl, by decide +kernel, by decide +kernel⟩
/-- a plain graph that can be made -/
structure LawD (G : Gr) : Prop where
  made : Makes G.cs G.ns G.rs G
  ok : G.Ok
  c1 : 1 ≤ G.cs.length
  cm : ∀ c ∈ G.cs, c ∈ counters5
  nm : ∀ c ∈ G.ns, c ∈ nodes4
  wm : ∀ r ∈ G.rs, r.n ∈ words16
theorem LawG.d {G : Gr} (L : LawG G) : LawD G := ⟨L.made, L.ok, L.c1, L.cm, L.nm, L.wm⟩
/-- its first state alone -/
theorem LawD.cut {G : Gr} (L : LawD G) {n : Str} (hn : n ∈ G.ns) : LawD ⟨G.cs, [n], []⟩ := by
  obtain ⟨x, st, e, GO⟩ := L.made.ok
  have nn := L.ok.nn n hn
  refine ⟨⟨⟨n, [], rfl, ⟨GO.cn, fun c hc => by cases List.mem_singleton.mp hc; exact nn, fun _ h => (by cases h), GO.ea, GO.em, GO.el, .cons (fun _ h => (by cases h)) .nil, fun z => ⟨.inl, fun h => h.elim id fun h => (by cases h)⟩, by show 1 ≤ 8; decide, by show 0 ≤ 16; decide, GO.cl, by show 1 ≤ 16; decide, ?_, fun _ h => (by cases h), fun ks h _ y hy => ?_, fun ks h _ y hy => ?_⟩⟩, .nil, .nil⟩, ⟨L.ok.ca, .cons (fun _ h => (by cases h)) .nil, .nil, L.ok.cl, by show 1 ≤ 8; decide, by show 0 ≤ 16; decide, fun _ h => (by cases h), L.ok.cn, fun c hc => by cases List.mem_singleton.mp hc; exact nn⟩, L.c1, L.cm, fun c hc => by cases List.mem_singleton.mp hc; exact L.nm n hn, fun _ h => (by cases h)⟩
  · rw [List.map_nil, List.append_nil]
    exact nodup_lts L.ok.ca
  · cases List.mem_singleton.mp hy
    exact h
  · cases List.mem_singleton.mp hy
    exact h
def spLDrawn (K : PySem.W.Frag) : Sp := fun vs H Q _ => ∃ (p : Addr) (x y z : Int), vs = [.ref p] ∧ H p = some (.lst (hand x y z)) ∧
  ∀ (pl a b v : Addr) (us : List V) (G : Gr) (x' y' z' : Int) (H' : Hp), LawD G → PlainG K H' pl a b v us G → H' p = some (.lst (hand x' y' z')) → But p H H' → Q (.ref pl) H'
section
variable {P : Program} {w : World} {K : PySem.W.Frag} {mg : Str → Option Value} {base : Heap}
theorem ok_ldrawn {f fR fG : Addr} {fd fdR fdG : FuncData} (F : Fun K "_law_drawn" "_law_drawn" sLDrawn f fd)
    (GR : FnOk P w K mg base CX0 1 fR fdR ["_law_dice_here", "_law_total"] spRoll) (kR : PySem.W.keepIn K (.ref fR) = true) (bR : L2.Binds K fdR ["_law_dice_here", "_law_total"] []) (gR : mg "_law_roll" = some (.ref fR))
    (GG : FnOk P w K mg base CX0 5 fG fdG ["_law_dice_here", "_law_most_states", "_law_most_counters", "_law_more"] (spLGraph K 5 5)) (kG : PySem.W.keepIn K (.ref fG) = true) (bG : L2.Binds K fdG ["_law_dice_here", "_law_most_states", "_law_most_counters", "_law_more"] []) (gG : mg "_law_graph" = some (.ref fG)) :
    FnOk P w K mg base CX0 6 f fd ["_law_dice_here"] (spLDrawn K) := by
  refine F.ok scLDrawn (fun vs H Q E h => ?_) (fun cdv A outer s H vs Q E hr h => ?_)
  · obtain ⟨p, x, y, z, rfl, _⟩ := h
    rfl
  · obtain ⟨p, x, y, z, rfl, hp, k⟩ := h
    have r1 := hr.mono (by decide : 1 ≤ 5)
    refine ⟨_, pss_cons (ps_set (i := 1) scLDrawn.nd rfl (.inl rfl) (pe_call GG hr (by rfl) gG kG bG .nil pass0 (pa_cons (pv 0) (pa_cons pe_int (pa_cons pe_int (pa_cons pe_int pa_nil))))))
      (pss_one (ps_ret (pe_ifExp (pt_cmpR op_eq (pe_call GR r1 (by rfl) gR kR bR .nil pass0 (pa_cons (pv 0) (pa_cons pe_int pa_nil))) pe_int (nomark _)) (pe_tup (pa_cons (pe_ix ix_tup (pv 1) pe_int (fun _ _ => rfl)) (pa_cons (pe_slice sl_tupA (pe_ix ix_tup (pv 1) pe_int (fun _ _ => rfl)) po_none (po_some pe_int)) (pa_cons (pe_tup pa_nil) pa_nil)))) (pv 1)))), ?_⟩
    refine ⟨_, rfl, p, x, y, z, rfl, hp, fun pl a b v us G x1 y1 z1 H1 L h1 h2 h3 h4 h5 hp1 b1 => ?_⟩
    refine ⟨_, rfl, p, x1, y1, z1, 7, rfl, hp1, by decide, by decide, fun n x2 y2 z2 H2 n0 n7 hp2 b2 => ⟨rfl, _, rfl, ?_⟩⟩
    have b12 := SimX.but b2
    have bT : ∀ {q : Addr} {xs : List V}, SqT K H1 q xs → SqT K H2 q xs := fun h => sqT_simX b12 hp1 (fun _ e => by cases e) (fun _ _ e => by cases e) h
    have pg : PlainG K H2 pl a b v us G := ⟨bT h1, bT h2, bT h3, bT h4, plAll_simL b12 hp1 h5⟩
    by_cases z0 : n = 0
    · subst z0
      refine if_yes rfl ?_
      obtain ⟨n0, st, e0, GO⟩ := L.made.ok
      have m0 : n0 ∈ G.ns := by
        rw [e0]
        exact List.mem_cons_self
      have LD := (LawG.d L).cut m0
      refine ⟨_, rfl, pl, _, _, _, rfl, rfl, pg.hp, rfl, _, rfl, pl, _, _, _, rfl, rfl, pg.hp, rfl, _, rfl, b, _, rfl, pg.hb, fun whole => ?_, fun part c hc => ?_⟩
      · have e1 : G.ns = [n0] := by
          have w := whole.2
          rw [show (some (1 : Int)) = some (((1 : Nat) : Int)) from rfl, HT.sIx_nat, List.length_map] at w
          rw [e0] at w ⊢
          cases st with
          | nil => rfl
          | cons a b =>
            rw [List.length_cons, List.length_cons] at w
            omega
        have hb : SqT K H2 b [V.str n0] := by
          have := pg.hb
          rw [e1] at this
          exact this
        refine ⟨(by show 0 ≤ sizeLine; decide), fun e he => ⟨(by show 3 ≤ sizeLine; decide), fun t ht => ?_⟩⟩
        have s1 := same_new (o := .tup []) he
        have s2 := same_new (o := .tup [.ref a, .ref b, .ref e]) ht
        have sm := s1.trans s2
        exact k t a b e [] ⟨G.cs, [n0], []⟩ x2 y2 z2 _ LD ⟨.inl (.inl upd_same), sqT_same sm pg.ha, sqT_same sm hb, .inl (.inl (s2 _ _ upd_same)), .nil⟩ (sm _ _ hp2) (but_trans b1 (but_trans b2 (same_but sm)))
      · have e1 : cutV (G.ns.map V.str) none (some 1) = [V.str n0] := by
          rw [e0]
          exact cut_to (n0 :: st) 1 V.str
        rw [e1]
        have s0 := same_new (o := .tup [V.str n0]) hc
        refine ⟨(by show 0 ≤ sizeLine; decide), fun e he => ⟨(by show 3 ≤ sizeLine; decide), fun t ht => ?_⟩⟩
        have s1 := same_new (o := .tup []) he
        have s2 := same_new (o := .tup [.ref a, .ref c, .ref e]) ht
        have sm := s0.trans (s1.trans s2)
        exact k t a c e [] ⟨G.cs, [n0], []⟩ x2 y2 z2 _ LD ⟨.inl (.inl upd_same), sqT_same sm pg.ha, .inl (.inl (s2 _ _ (s1 _ _ upd_same))), .inl (.inl (s2 _ _ upd_same)), .nil⟩ (sm _ _ hp2) (but_trans b1 (but_trans b2 (same_but sm)))
    · refine if_no (by simpa using z0) ?_
      exact ⟨_, rfl, k pl a b v us G x2 y2 z2 H2 (LawG.d L) pg hp2 (but_trans b1 b2)⟩
end
end Qp

/-! C(a, .., k=v), C an own class by its global name whose __init__ takes (self, a, *b, k=..) -/
namespace QN
open PySem PySem.Spec PyProof.Rows L2 PySem.W
def tMakeKG (C : Addr) (m : Nat) (sp : List V → List V → Hp → VK → XK → Prop) (E : XK) (t tk : TA) : TE := fun σ H Q => t σ H fun vs H1 => tk σ H1 fun zs H2 => zs.length = m ∧
  ∀ x dx, H2 x = none → H2 dx = none → dx ≠ x → sp (.ref x :: vs) zs (upd (upd H2 dx (.own x)) x (.ins C dx [])) (fun v H3 => v = .non ∧ Q (.ref x) H3) E
section
variable {X : Cx} {CX : CXT} {k : Nat} {f C : Addr} {ks : List Str} {sp : List V → List V → Hp → VK → XK → Prop} {E : XK} {x : Str} {p pos : Pos} {e : Expr} {es : List Expr} {kws : List Keyword} {t tk : TA}
theorem pe_makeKG (M : Mk X.K C f) (F : FnRK X.prog X.w X.K X.mg X.base CX k f ks sp) (hr : Room (k + 1) X.A) (hg : Gl X x) (hm : X.mg x = some (.ref C)) (hx : Passes CX X E) (ha : PA X (e :: es) t) (hkw : PK X kws tk)
    (all : (backToKw pos (keywordEach kws X.env)).all (·.1.isSome) = true := by rfl) (names : (backToKw pos (keywordEach kws X.env)).filterMap (·.1) = ks := by rfl) (hdb : (x == ("__debug__" : Str)) = false := by decide)
    (one : starEach (e :: es) X.env = (false, eval e X.env) :: starEach es X.env := by rfl) (plain : ((backTo pos (starEach (e :: es) X.env)).any (·.1) || (backToKw pos (keywordEach kws X.env)).any (·.1.isNone)) = false := by rfl) :
    PE X (.Call (.Name x p) (e :: es) kws pos) (tMakeKG C ks.length sp E t tk) := by
  refine ⟨fun pins s σ H Q I h => wpAny_Call_Name_kw (ld_glob I hg hm ?_ hdb)⟩
  refine callWith_KW (h₀ := X.base) I.ok.mod.kin M.kp all (thn (ha.run pos pins s σ H _ I h) fun us s2 ⟨vs, H2, I2, r, q⟩ => ?_) plain one
  refine thn (hkw.run pos pins s2 σ H2 _ I2 q) fun ws s3 ⟨zs, H3, I3, rz, l, q2⟩ => ⟨I3.kIn, ?_⟩
  rw [names]
  exact run_makeVK M F hr hx I3 r rz l q2
end
end QN

/-! a graph whose rows are passed one by one -/
namespace Qp
open PySem PySem.Spec PyProof.Rows L2 QN
abbrev sLHand : Stmt := top 38 -- _law_by_hand
theorem scLHand : FnScope ["_law_counters", "_law_rows", "_law_nodes"] ["_law_counters", "_law_rows", "_law_nodes"] (defScope sLHand) := ⟨rfl, rfl, rfl, by decide +kernel, rfl, by decide +kernel, by decide +kernel⟩
def spLHand (K : PySem.W.Frag) (C PI : Addr) : Sp := fun vs H Q _ => ∃ (a b v : Addr) (us : List V) (cs ns : List Str) (rs : List Row) (G : Gr), vs = [.ref a, .ref v, .ref b] ∧ SqT K H a (cs.map V.str) ∧ SqT K H b (ns.map V.str) ∧ SqT K H v us ∧ Paired (PlRow K H) us rs ∧ GxR.TabG H PI ∧ Makes cs ns rs G ∧
  ∀ (g : Addr) (H' : Hp), Sim H H' → GraphAt K C H' g G → Q (.ref g) H'
section
variable {P : Program} {w : World} {K : PySem.W.Frag} {mg : Str → Option Value} {base : Heap}
theorem ok_lhand {f fI C fP fO PI : Addr} {fd : FuncData} (F : Fun K "_law_by_hand" "_law_by_hand" sLHand f fd) (T : GraphC K mg C) (M : Mk K C fI) (GI : FnRK P w K mg base CX0 7 fI ["states"] (spMk K C PI))
    (CR : ClX.CRead K C (.type "type")) (CM : ClX.CMet K C (.type "type") "of" fP fO) (GO : FnR P w K mg base CX0 9 fO (spGOf K C PI)) (B : BltP mg) : FnOk P w K mg base CX0 10 f fd ["_law_counters", "_law_rows", "_law_nodes"] (spLHand K C PI) := by
  refine F.ok scLHand (fun vs H Q E h => ?_) (fun cdv A outer s H vs Q E hr h => ?_)
  · obtain ⟨a, b, v, us, cs, ns, rs, G, rfl, _⟩ := h
    rfl
  · obtain ⟨a, b, v, us, cs, ns, rs, G, rfl, ha, hb, hv, hu, tab, mk, k⟩ := h
    have hu64 : (A.deeper (envOfC "_law_by_hand" (defScope sLHand) s.heap.objs.size f cdv)).units + 64 < cLine := by
      have := hr.un
      omega
    have r8 := hr.mono (by decide : 7 + 1 ≤ 9)
    refine ⟨_, pss_cons (ps_if (pt_cmpR (op_eqD hu64) (pv 1) (pe_tup pa_nil) (nomark _)) (pss_one (ps_ret (pe_makeKG M GI r8 (by rfl) T.gC pass0 (pa_cons (pv 0) pa_nil) (pk_cons (pv 2) pk_nil)))) pss_nil)
      (pss_cons (ps_if (pt_cmpR op_eq (pe_callB call_len_seq (by rfl) B.len PySem.boot_len (pa_cons (pv 1) pa_nil)) pe_int (nomark _)) (pss_one (ps_ret (pe_makeKG M GI r8 (by rfl) T.gC pass0 (pa_cons (pv 0) (pa_cons (pe_ix ix_tup (pv 1) pe_int (fun _ _ => rfl)) pa_nil)) (pk_cons (pv 2) pk_nil)))) pss_nil)
      (pss_cons (ps_if (pt_cmpR op_eq (pe_callB call_len_seq (by rfl) B.len PySem.boot_len (pa_cons (pv 1) pa_nil)) pe_int (nomark _)) (pss_one (ps_ret (pe_makeKG M GI r8 (by rfl) T.gC pass0 (pa_cons (pv 0) (pa_cons (pe_ix ix_tup (pv 1) pe_int (fun _ _ => rfl)) (pa_cons (pe_ix ix_tup (pv 1) pe_int (fun _ _ => rfl)) pa_nil))) (pk_cons (pv 2) pk_nil)))) pss_nil)
      (pss_cons (ps_if (pt_cmpR op_eq (pe_callB call_len_seq (by rfl) B.len PySem.boot_len (pa_cons (pv 1) pa_nil)) pe_int (nomark _)) (pss_one (ps_ret (pe_makeKG M GI r8 (by rfl) T.gC pass0 (pa_cons (pv 0) (pa_cons (pe_ix ix_tup (pv 1) pe_int (fun _ _ => rfl)) (pa_cons (pe_ix ix_tup (pv 1) pe_int (fun _ _ => rfl)) (pa_cons (pe_ix ix_tup (pv 1) pe_int (fun _ _ => rfl)) pa_nil)))) (pk_cons (pv 2) pk_nil)))) pss_nil)
      (pss_one (ps_ret (ClX.pe_cmeth (pe_glob (v := .ref C) (by rfl) T.gC rfl) CR CM GO hr pass0 (pa_cons (pv 0) (pa_cons (pv 1) (pa_cons (pv 2) pa_nil))))))))), ?_⟩
    have rl := hu.length
    obtain ⟨x0, st0, e0, GO⟩ := mk.ok
    have made : ∀ (H2 : Hp), Same H H2 → ∀ (x dx : Addr), H2 x = none → H2 dx = none → dx ≠ x → spMk K C PI (.ref x :: .ref a :: us) [.ref b] (upd (upd H2 dx (.own x)) x (.ins C dx [])) (fun v H3 => v = .non ∧ Q (.ref x) H3) L2.E0 := by
      intro H2 sm x dx hx hdx ne
      have sx : Same H2 (upd (upd H2 dx (.own x)) x (.ins C dx [])) := fun c o e => by
        have n1 : c ≠ x := fun z => by rw [z, hx] at e; cases e
        have n2 : c ≠ dx := fun z => by rw [z, hdx] at e; cases e
        rw [upd_ne n1, upd_ne n2]
        exact e
      have s2 := sm.trans sx
      exact ⟨x, dx, a, b, us, cs, ns, rs, G, rfl, rfl, upd_same, sqT_same s2 ha, sqT_same s2 hb, plAll_sim (Sim.of s2) hu, tabG_same s2 tab, mk, fun H' h1 h2 => ⟨rfl, k x H' ((Sim.of sm).trans (sim_made hx hdx h2)) h1⟩⟩
    refine ⟨_, rfl, (by show 0 ≤ sizeLine; decide), fun e he => ?_⟩
    have se := same_new (o := .tup []) he
    have em : SqT K (upd H e (.tup [])) e [] := .inl (.inl upd_same)
    have hv2 := sqT_same se hv
    have hu2 := plAll_sim (Sim.of se) hu
    generalize upd H e (.tup []) = H2 at se em hv2 hu2
    refine ⟨.tuple (rs.map rowD), .tuple [], .tup hv2 (plAll_dp hu2), .tup em .nil, shaped_rows GO.ro, by decide, ?_⟩
    have e1 : PyData.eqv (.tuple (rs.map rowD)) (.tuple []) = decide (rs = []) := eqv_rows rs []
    rw [e1]
    have md := made H2 se
    cases us with
    | nil =>
      have r0 : rs = [] := List.eq_nil_of_length_eq_zero rl.symm
      refine ⟨_, rfl, if_yes (decide_eq_true r0) ?_⟩
      exact ⟨_, rfl, _, rfl, rfl, md⟩
    | cons u0 us =>
      have r0 : rs ≠ [] := fun z => by rw [z] at rl; cases rl
      refine ⟨_, rfl, if_no (by simpa using r0) ?_⟩
      refine ⟨_, rfl, v, _, rfl, .inr hv2, rfl, _, rfl, ?_⟩
      cases us with
      | nil => exact if_yes (by simp) ⟨_, rfl, _, rfl, v, _, _, _, rfl, rfl, hv2, rfl, _, rfl, rfl, md⟩
      | cons u1 us =>
        refine if_no (by simp; try omega) ⟨_, rfl, v, _, rfl, .inr hv2, rfl, _, rfl, ?_⟩
        cases us with
        | nil => exact if_yes (by simp) ⟨_, rfl, _, rfl, v, _, _, _, rfl, rfl, hv2, rfl, _, rfl, v, _, _, _, rfl, rfl, hv2, rfl, _, rfl, rfl, md⟩
        | cons u2 us =>
          refine if_no (by simp; try omega) ⟨_, rfl, v, _, rfl, .inr hv2, rfl, _, rfl, ?_⟩
          cases us with
          | nil => exact if_yes (by simp) ⟨_, rfl, _, rfl, v, _, _, _, rfl, rfl, hv2, rfl, _, rfl, v, _, _, _, rfl, rfl, hv2, rfl, _, rfl, v, _, _, _, rfl, rfl, hv2, rfl, _, rfl, rfl, md⟩
          | cons u3 us =>
            refine if_no (by simp; try omega) ⟨rfl, _, rfl, _, rfl, _, rfl, ?_⟩
            exact ⟨a, b, v, _, cs, ns, rs, G, rfl, sqT_same se ha, sqT_same se hb, hv2, hu2, tabG_same se tab, mk, fun g H' s2 hg => k g H' ((Sim.of se).trans s2) hg⟩
end
end Qp

/-! graphs with one part otherwise can be made too -/
namespace Qp
open PySem PySem.Spec PyProof.Rows L2 QN
abbrev zzL : List Str := ["zz"]
instance (a b : Str) : Decidable (lts a b) := inferInstanceAs (Decidable (a.cps.toList < b.cps.toList))
instance (x : Str) : Decidable (NameOk x) := inferInstanceAs (Decidable (1 ≤ x.length ∧ x.length ≤ 8 ∧ ∀ c ∈ x.cps.toList, c ∈ letters.cps.toList))
theorem touched_fwd (rs : List Row) : touched rs = (fwd rs).flatMap fun l => [l.1, l.2] := by
  unfold touched fwd
  rw [List.flatMap_map]
theorem bwd_fwd (rs : List Row) : bwd rs = (fwd rs).map fun l => (l.2, l.1) := by
  unfold bwd fwd
  rw [List.map_map]
  rfl
/-- other changes -/
theorem LawD.like {G : Gr} (L : LawD G) {rs : List Row} (hn : rs.map (·.n) = G.rs.map (·.n)) (hf : fwd rs = fwd G.rs) (ro : ∀ r ∈ rs, RowOk r) (cc : ∀ r ∈ rs, ∀ p ∈ r.c, p.1 ∈ G.cs) : LawD ⟨G.cs, G.ns, rs⟩ := by
  obtain ⟨x, st, e, GO⟩ := L.made.ok
  have len : rs.length = G.rs.length := by
    have := congrArg List.length hn
    rw [List.length_map, List.length_map] at this
    exact this
  have ht : touched rs = touched G.rs := by rw [touched_fwd, touched_fwd, hf]
  have hb : bwd rs = bwd G.rs := by rw [bwd_fwd, bwd_fwd, hf]
  refine ⟨⟨⟨x, st, e, ⟨GO.cn, GO.nn, ro, GO.ea, GO.em, GO.el, GO.sa, fun z => by rw [ht]; exact GO.sm z, GO.sl, by rw [len]; exact GO.rl, GO.cl, GO.nl, by rw [hn]; exact GO.nd, cc, by rw [hf]; exact GO.rf, by rw [hb]; exact GO.rb⟩⟩, .refl _, by show (rs.map (·.n)).Pairwise lts; rw [hn]; exact L.ok.ra⟩,
    ⟨L.ok.ca, L.ok.na, by show (rs.map (·.n)).Pairwise lts; rw [hn]; exact L.ok.ra, L.ok.cl, L.ok.nl, by show rs.length ≤ 16; rw [len]; exact L.ok.rl, ro, L.ok.cn, L.ok.nn⟩, L.c1, L.cm, L.nm, fun r hr => ?_⟩
  have m : r.n ∈ G.rs.map (·.n) := by
    rw [← hn]
    exact List.mem_map.mpr ⟨r, hr, rfl⟩
  obtain ⟨q, hq, e⟩ := List.mem_map.mp m
  rw [← e]
  exact L.wm q hq
/-- the change of one row otherwise -/
theorem LawD.setCh {G : Gr} (L : LawD G) {i : Nat} {r : Row} (hr : G.rs[i]? = some r) {c : List (Str × Int)} (ok : ChOk c) (cc : ∀ p ∈ c, p.1 ∈ G.cs) : LawD ⟨G.cs, G.ns, G.rs.set i { r with c := c }⟩ := by
  have hi := (List.getElem?_eq_some_iff.mp hr).1
  have he := (List.getElem?_eq_some_iff.mp hr).2
  have mr : r ∈ G.rs := List.mem_of_getElem? hr
  obtain ⟨x, st, e, GO⟩ := L.made.ok
  refine L.like ?_ ?_ (fun q hq => ?_) fun q hq => ?_
  · rw [List.map_set]
    show (G.rs.map (·.n)).set i r.n = G.rs.map (·.n)
    refine List.ext_getElem? fun j => ?_
    rw [List.getElem?_set]
    split
    · rename_i q
      subst q
      rw [List.length_map, if_pos hi, List.getElem?_map, hr]
      rfl
    · rfl
  · unfold fwd
    rw [List.map_set]
    refine List.ext_getElem? fun j => ?_
    rw [List.getElem?_set]
    split
    · rename_i q
      subst q
      rw [List.length_map, if_pos hi, List.getElem?_map, hr]
      rfl
    · rfl
  · rcases List.mem_or_eq_of_mem_set hq with h | h
    · exact L.ok.ro q h
    · have o := L.ok.ro r mr
      rw [h]
      exact ⟨o.n, o.s, o.t, ok⟩
  · rcases List.mem_or_eq_of_mem_set hq with h | h
    · exact GO.cc q h
    · rw [h]
      exact cc
/-- one more counter -/
theorem LawD.counter {G : Gr} (L : LawD G) (few : G.cs.length < 5) : Makes (G.cs ++ zzL) G.ns G.rs ⟨G.cs ++ zzL, G.ns, G.rs⟩ ∧ Gr.Ok ⟨G.cs ++ zzL, G.ns, G.rs⟩ := by
  obtain ⟨x, st, e, GO⟩ := L.made.ok
  have zz : NameOk "zz" := by decide +kernel
  have cn : ∀ c ∈ G.cs ++ zzL, NameOk c := fun c hc => by
    rcases List.mem_append.mp hc with h | h
    · exact L.ok.cn c h
    · cases List.mem_singleton.mp h
      exact zz
  have lt : ∀ c ∈ counters5, lts c "zz" := by decide +kernel
  have nw : ∀ w ∈ words16, w ≠ "zz" := by decide +kernel
  have ca : (G.cs ++ zzL).Pairwise lts := List.pairwise_append.mpr ⟨L.ok.ca, .cons (fun _ h => (by cases h)) .nil, fun a ha b hb => by cases List.mem_singleton.mp hb; exact lt a (L.cm a ha)⟩
  have cl : (G.cs ++ zzL).length ≤ 5 := by
    rw [List.length_append, List.length_singleton]
    omega
  refine ⟨⟨⟨x, st, e, ⟨cn, GO.nn, GO.ro, ca, fun z => Iff.rfl, ⟨by rw [List.length_append, List.length_singleton]; omega, cl⟩, GO.sa, GO.sm, GO.sl, GO.rl, by omega, GO.nl, ?_, fun r hr p hp => List.mem_append_left _ (GO.cc r hr p hp), GO.rf, GO.rb⟩⟩, .refl _, L.ok.ra⟩, ⟨ca, L.ok.na, L.ok.ra, cl, L.ok.nl, L.ok.rl, L.ok.ro, cn, L.ok.nn⟩⟩
  have nd := List.nodup_append.mp GO.nd
  refine List.nodup_append.mpr ⟨nodup_lts ca, nd.2.1, fun a ha b hb => ?_⟩
  rcases List.mem_append.mp ha with h | h
  · exact nd.2.2 a h b hb
  · cases List.mem_singleton.mp h
    obtain ⟨r, hr, rfl⟩ := List.mem_map.mp hb
    exact fun z => nw _ (L.wm r hr) z.symm
/-- one state, no rows -/
theorem LawD.lone {G : Gr} (L : LawD G) {n : Str} (nn : NameOk n) : Makes G.cs [n] [] ⟨G.cs, [n], []⟩ ∧ Gr.Ok ⟨G.cs, [n], []⟩ := by
  obtain ⟨x, st, e, GO⟩ := L.made.ok
  have no : ∀ c ∈ [n], NameOk c := fun c hc => by
    cases List.mem_singleton.mp hc
    exact nn
  refine ⟨⟨⟨n, [], rfl, ⟨GO.cn, no, fun _ h => (by cases h), GO.ea, GO.em, GO.el, .cons (fun _ h => (by cases h)) .nil, fun z => ⟨.inl, fun h => h.elim id fun h => (by cases h)⟩, by show 1 ≤ 8; decide, by show 0 ≤ 16; decide, GO.cl, by show 1 ≤ 16; decide, ?_, fun _ h => (by cases h), fun ks h _ y hy => ?_, fun ks h _ y hy => ?_⟩⟩, .nil, .nil⟩, ⟨L.ok.ca, .cons (fun _ h => (by cases h)) .nil, .nil, L.ok.cl, by show 1 ≤ 8; decide, by show 0 ≤ 16; decide, fun _ h => (by cases h), L.ok.cn, no⟩⟩
  · rw [List.map_nil, List.append_nil]
    exact nodup_lts L.ok.ca
  · cases List.mem_singleton.mp hy
    exact h
  · cases List.mem_singleton.mp hy
    exact h
/-- without rows there is one state -/
theorem LawD.one {G : Gr} (L : LawD G) (r0 : G.rs = []) : ∃ n, G.ns = [n] := by
  obtain ⟨x, st, e, GO⟩ := L.made.ok
  have all : ∀ y ∈ x :: st, y ∈ [x] := fun y hy => GO.rf [x] List.mem_cons_self (fun l hl => by rw [r0] at hl; cases hl) y hy
  refine ⟨x, ?_⟩
  rw [e]
  cases st with
  | nil => rfl
  | cons z st =>
    have z1 := List.mem_singleton.mp (all z (List.mem_cons_of_mem _ List.mem_cons_self))
    have sa := List.pairwise_cons.mp GO.sa
    have l := sa.1 z List.mem_cons_self
    rw [z1] at l
    exact absurd l (lts_irrefl _)
/-- a row b from that state to itself -/
theorem LawD.loop {G : Gr} (L : LawD G) {n : Str} (hn : G.ns = [n]) : Makes G.cs [n] [⟨"b", n, n, []⟩] ⟨G.cs, [n], [⟨"b", n, n, []⟩]⟩ ∧ Gr.Ok ⟨G.cs, [n], [⟨"b", n, n, []⟩]⟩ := by
  obtain ⟨x, st, e, GO⟩ := L.made.ok
  have nn : NameOk n := L.ok.nn n (by rw [hn]; exact List.mem_cons_self)
  have bb : NameOk "b" := by decide +kernel
  have no : ∀ c ∈ [n], NameOk c := fun c hc => by
    cases List.mem_singleton.mp hc
    exact nn
  have nb : ∀ c ∈ counters5, c ≠ "b" := by decide +kernel
  have ro : ∀ r ∈ [(⟨"b", n, n, []⟩ : Row)], RowOk r := fun r hr => by
    cases List.mem_singleton.mp hr
    refine ⟨bb, nn, nn, ?_⟩
    show ChOk []
    exact ⟨fun _ h => (by cases h), asc_of .nil, by decide⟩
  refine ⟨⟨⟨n, [], rfl, ⟨GO.cn, no, ro, GO.ea, GO.em, GO.el, .cons (fun _ h => (by cases h)) .nil, fun z => ⟨.inl, fun h => h.elim id fun h => ?_⟩, by show 1 ≤ 8; decide, by show 1 ≤ 16; decide, GO.cl, by show 1 ≤ 16; decide, ?_, fun r hr p hp => ?_, fun ks h _ y hy => ?_, fun ks h _ y hy => ?_⟩⟩, .refl _, .cons (fun _ h => (by cases h)) .nil⟩, ⟨L.ok.ca, .cons (fun _ h => (by cases h)) .nil, .cons (fun _ h => (by cases h)) .nil, L.ok.cl, by show 1 ≤ 8; decide, by show 1 ≤ 16; decide, ro, L.ok.cn, no⟩⟩
  · have h2 : z ∈ [n, n] := h
    rcases List.mem_cons.mp h2 with rfl | h2
    · exact List.mem_cons_self
    · exact h2
  · refine List.nodup_append.mpr ⟨nodup_lts L.ok.ca, (List.nodup_cons.mpr ⟨List.not_mem_nil, .nil⟩ : ([("b" : Str)] : List Str).Nodup), fun a ha b hb => ?_⟩
    cases List.mem_singleton.mp hb
    exact nb a (L.cm a ha)
  · cases List.mem_singleton.mp hr
    cases hp
  · cases List.mem_singleton.mp hy
    exact h
  · cases List.mem_singleton.mp hy
    exact h
end Qp

/-! list(z), z a zip that walks one tuple twice -/
namespace QN
open PySem PySem.Spec PyProof.Rows L2
/-- a zip over one tuple twice, i turns later; S is no tuple that it gave out -/
structure ZpAt (h : Heap) (z TI TO i1 i2 t S : Addr) (its : Array Value) (i : Nat) : Prop where
  zz : (IsZip h z TI TO .none ∧ ∃ a b, IsPair h TO a b) ∨ ∃ (T : Addr) (f : Bool) (o : Obj), IsZipHeld h z TI TO T f ∧ h.get? T = some o ∧ T ≠ S ∧ T ≠ z ∧ T ≠ i1 ∧ T ≠ i2
  ti : IsPair h TI (.ref i1) (.ref i2)
  a1 : h.IsTupleIter i1 t i
  a2 : h.IsTupleIter i2 t i
  tt : h.IsTuple t its
/-- the pairs that it gave out stand at as -/
structure ZpG (its : Array Value) (lo : Addr) (h : Heap) (as : List Addr) : Prop where
  rise : as.Pairwise (· < ·)
  over : ∀ a ∈ as, lo < a
  at_ : ∀ (j : Nat) (a : Addr), as[j]? = some a → ∃ x, its[j]? = some x ∧ IsPair h a x x
theorem ZpG.lt {its : Array Value} {lo : Addr} {h : Heap} {as : List Addr} (g : ZpG its lo h as) {a : Addr} (m : a ∈ as) : a < h.objs.size := by
  obtain ⟨j, e⟩ := List.mem_iff_getElem?.mp m
  obtain ⟨_, _, p⟩ := g.at_ j a e
  exact Heap.lt_size p
theorem ZpG.low {its : Array Value} {lo lo' : Addr} {h : Heap} {as : List Addr} (g : ZpG its lo h as) (l : lo' ≤ lo) : ZpG its lo' h as := ⟨g.rise, fun a m => Nat.lt_of_le_of_lt l (g.over a m), g.at_⟩
section
variable {prog : Program} {w : World} {A : Around} {E : Value → Shared → Prop} {s : Shared} {z TI TO i1 i2 t S : Addr} {its : Array Value}
theorem zp_next_held {T : Addr} {f : Bool} {oT : Obj} {k : Nat} {x : Value} {R : Value → Shared → Prop} (D : ZipApart z TI TO i1 i2 t t) (zh : IsZipHeld s.heap z TI TO T f) (al : s.heap.get? T = some oT) (ti : IsPair s.heap TI (.ref i1) (.ref i2)) (a1 : s.heap.IsTupleIter i1 t k) (a2 : s.heap.IsTupleIter i2 t k) (tt : s.heap.IsTuple t its) (ex : its[k]? = some x)
    (hR : ∀ g, IsZipHeld g z TI TO T true → g.IsTupleIter i1 t (k + 1) → g.IsTupleIter i2 t (k + 1) → IsPair g s.heap.objs.size x x → g.objs.size = s.heap.objs.size + 1 → (∀ c o, c ≠ z → c ≠ i1 → c ≠ i2 → s.heap.get? c = some o → g.get? c = some o) → R (.ref s.heap.objs.size) { s with heap := g }) :
    wpAny (model prog w) A (Builtin.«zip.__next__» ⟨[.ref z], []⟩) (fun fin s' => ∃ v, fin = .done (.ret v) ∧ R v s') E s := by
  show wpAny (model prog w) A (field (.ref z) 2 >>= _) _ E s
  refine wpAny_bind (wpAny_field zh rfl (x := .bool false) rfl ?_)
  show wpAny (model prog w) A (field (.ref z) 3 >>= _) _ E s
  refine wpAny_bind (wpAny_field zh rfl (x := .ref TI) rfl (wpAny_bind (wpAny_seqItems ti rfl ?_)))
  show wpAny (model prog w) A (Builtin.SmallTypes.ownedTupleIsFree (.ref z) >>= _) _ E s
  refine wpAny_bind (wpAny_tupleHeld_zip zh al fun g1 z1 c1 => ?_)
  simp only [if_false, Bool.false_eq_true]
  refine wpAny_bind ?_
  rw [← Array.forIn_toList]
  simp only [List.forIn_nil, List.forIn_cons]
  refine wpAny_bind (wpAny_bind (wpAny_holding ?_))
  show wpAny (model prog w) A (Builtin.SmallTypes.nextOf (.ref i1) >>= _) _ E _
  refine wpAny_bind (RZ.nextOf_tuple_item (s := { s with heap := g1 }) (a1.extBut c1.extBut D.i1z) (tt.extBut c1.extBut D.l1z) ex fun g2 b1 c2 => wpAny_pure (wpAny_pure (wpAny_bind (wpAny_bind (wpAny_holding ?_)))))
  show wpAny (model prog w) A (Builtin.SmallTypes.nextOf (.ref i2) >>= _) _ E _
  refine wpAny_bind (RZ.nextOf_tuple_item (s := { s with heap := g2 }) ((a2.extBut c1.extBut D.i2z).extBut c2.extBut D.i12.symm) ((tt.extBut c1.extBut D.l1z).extBut c2.extBut D.l1i1) ex fun g3 b2 c3 => wpAny_pure (wpAny_pure (wpAny_pure ?_)))
  show wpAny (model prog w) A (newTuple [x, x] >>= _) _ E _
  refine wpAny_bind (wpAny_newTuple (wpAny_pure ⟨_, rfl, ?_⟩))
  have sz : g3.objs.size = s.heap.objs.size := by rw [c3.1, c2.1, c1.1]
  have z3 : IsZipHeld g3 z TI TO T true := c3.extBut _ _ D.i2z.symm (c2.extBut _ _ D.i1z.symm z1)
  have kp : ∀ c o, c ≠ z → c ≠ i1 → c ≠ i2 → s.heap.get? c = some o → g3.get? c = some o := fun c o n1 n2 n3 e => c3.extBut _ _ n3 (c2.extBut _ _ n2 (c1.extBut _ _ n1 e))
  have b1' := b1.extBut c3.extBut D.i12
  show R (.ref g3.objs.size) _
  have pr : IsPair (g3.push { cls := .type "tuple", data := .seq #[x, x] }) g3.objs.size x x := Heap.get?_push_size _ rfl
  have s4 : (g3.push { cls := .type "tuple", data := .seq #[x, x] }).objs.size = g3.objs.size + 1 := Heap.size_push ..
  rw [sz] at pr s4 ⊢
  exact hR _ (Heap.get?_push_of_some _ z3) (b1'.at fun o e => Heap.get?_push_of_some _ e) (b2.at fun o e => Heap.get?_push_of_some _ e) pr s4 fun c o n1 n2 n3 e => Heap.get?_push_of_some _ (kp c o n1 n2 n3 e)
theorem zp_stop_held {T : Addr} {f : Bool} {oT : Obj} {k : Nat} {R : Fin → Shared → Prop} (hh : A.handled = none) (D : ZipApart z TI TO i1 i2 t t) (zh : IsZipHeld s.heap z TI TO T f) (al : s.heap.get? T = some oT) (ti : IsPair s.heap TI (.ref i1) (.ref i2)) (a1 : s.heap.IsTupleIter i1 t k) (tt : s.heap.IsTuple t its) (ex : its[k]? = none)
    (hE : ∀ g e, (∀ c o, c ≠ z → c ≠ i1 → s.heap.get? c = some o → g.get? c = some o) → (∃ o, g.get? e = some o ∧ o.cls = .type "StopIteration") → E (.ref e) { s with heap := g }) :
    wpAny (model prog w) A (Builtin.«zip.__next__» ⟨[.ref z], []⟩) R E s := by
  show wpAny (model prog w) A (field (.ref z) 2 >>= _) _ E s
  refine wpAny_bind (wpAny_field zh rfl (x := .bool false) rfl ?_)
  show wpAny (model prog w) A (field (.ref z) 3 >>= _) _ E s
  refine wpAny_bind (wpAny_field zh rfl (x := .ref TI) rfl (wpAny_bind (wpAny_seqItems ti rfl ?_)))
  show wpAny (model prog w) A (Builtin.SmallTypes.ownedTupleIsFree (.ref z) >>= _) _ E s
  refine wpAny_bind (wpAny_tupleHeld_zip zh al fun g1 z1 c1 => ?_)
  simp only [if_false, Bool.false_eq_true]
  refine wpAny_bind ?_
  rw [← Array.forIn_toList]
  simp only [List.forIn_nil, List.forIn_cons]
  refine wpAny_bind (wpAny_bind (wpAny_holding ?_))
  show wpAny (model prog w) A (Builtin.SmallTypes.nextOf (.ref i1) >>= _) _ E _
  refine wpAny_bind (RZ.nextOf_tuple_end (s := { s with heap := g1 }) hh (a1.extBut c1.extBut D.i1z) (tt.extBut c1.extBut D.l1z) ex fun g2 e c2 he => ?_)
  exact hE g2 e (fun c o n1 n2 y => c2 _ _ n2 (c1.extBut _ _ n1 y)) he
/-- the next pair -/
theorem zp_item {i : Nat} {x : Value} {Q : Option Value → Shared → Prop} (D : ZipApart z TI TO i1 i2 t t) (h : ZpAt s.heap z TI TO i1 i2 t S its i) (hx : its[i]? = some x) (lS : S < s.heap.objs.size)
    (hQ : ∀ g, ZpAt g z TI TO i1 i2 t S its (i + 1) → IsPair g s.heap.objs.size x x → g.objs.size = s.heap.objs.size + 1 → (∀ c o, c ≠ z → c ≠ TO → c ≠ i1 → c ≠ i2 → s.heap.get? c = some o → g.get? c = some o) → Q (some (.ref s.heap.objs.size)) { s with heap := g }) :
    wpAny (model prog w) A (pyNext (.ref z)) Q E s := by
  obtain ⟨zz, ti, a1, a2, tt⟩ := h
  have lt : ∀ {c : Addr} {o : Obj}, s.heap.get? c = some o → s.heap.objs.size ≠ c := fun e => Nat.ne_of_gt (Heap.lt_size e)
  have l1 : s.heap.objs.size ≠ i1 := let ⟨_, e, _⟩ := a1; lt e
  have l2 : s.heap.objs.size ≠ i2 := let ⟨_, e, _⟩ := a2; lt e
  rcases zz with ⟨hz, a, b, hTO⟩ | ⟨T, f, o, hz, al, n1, n2, n3, n4⟩
  · refine RZ.pyNext_zipT_item D hz ti hTO a1 a2 tt tt hx hx fun g z' _ b1 b2 pr sz kp => hQ g ⟨.inr ⟨_, false, _, z', pr, Nat.ne_of_gt lS, lt hz, l1, l2⟩, kp _ _ D.TIz D.TITO D.TIi1 D.TIi2 ti, b1, b2, tt.at fun o e => kp _ _ D.l1z D.l1TO D.l1i1 D.l1i2 e⟩ pr sz kp
  · have hty : s.TypeIs (.ref z) "zip" := ⟨_, hz, rfl⟩
    unfold pyNext
    refine wpAny_bind (wpAny_attempt (wpAny_callSpecial?_slot (name := Str.ofString "__next__") hty F.slot_zip_next (wpAny_call_entry F.slot_zip_next hty F.entry_zip_next (zp_next_held D hz al ti a1 a2 tt hx fun g z' b1 b2 pr sz kp => wpAny_pure ?_) (F.args_zip_next_1 _))))
    exact hQ g ⟨.inr ⟨T, true, o, z', kp _ _ n2 n3 n4 al, n1, n2, n3, n4⟩, kp _ _ D.TIz D.TIi1 D.TIi2 ti, b1, b2, tt.at fun o e => kp _ _ D.l1z D.l1i1 D.l1i2 e⟩ pr sz fun c o m1 _ m3 m4 e => kp c o m1 m3 m4 e
/-- no pair any more -/
theorem zp_done {i : Nat} {Q : Option Value → Shared → Prop} (hh : A.handled = none) (D : ZipApart z TI TO i1 i2 t t) (h : ZpAt s.heap z TI TO i1 i2 t S its i) (hx : its[i]? = none)
    (hQ : ∀ g, (∀ c o, c ≠ z → c ≠ TO → c ≠ i1 → c ≠ i2 → s.heap.get? c = some o → g.get? c = some o) → Q none { s with heap := g }) : wpAny (model prog w) A (pyNext (.ref z)) Q E s := by
  obtain ⟨zz, ti, a1, a2, tt⟩ := h
  rcases zz with ⟨hz, a, b, hTO⟩ | ⟨T, f, o, hz, al, n1, n2, n3, n4⟩
  · exact RZ.pyNext_zipT_end hh D hz ti hTO a1 a2 tt tt (.inl hx) fun g kp => hQ g kp
  · have hty : s.TypeIs (.ref z) "zip" := ⟨_, hz, rfl⟩
    unfold pyNext
    refine wpAny_bind (wpAny_attempt (wpAny_callSpecial?_slot (name := Str.ofString "__next__") hty F.slot_zip_next (wpAny_call_entry F.slot_zip_next hty F.entry_zip_next (zp_stop_held hh D hz al ti a1 tt hx fun g e kp he => ?_) (F.args_zip_next_1 _))))
    obtain ⟨oe, ho, hc⟩ := he
    refine wpAny_bind (wpAny_isInstance (T := "StopIteration") (b := true) ⟨oe, ho, hc⟩ isSubtype_stop (wpAny_pure (hQ _ fun c o m1 _ m3 _ y => kp c o m1 m3 y)))
end
section
variable {prog : Program} {w : World} {A : Around} {s : Shared} {z TI TO i1 i2 t S : Addr} {its : Array Value} {R : Result → Shared → Prop}
theorem ZpAt.over {h h' : Heap} {i : Nat} (D : ZipApart z TI TO i1 i2 t t) (m : ZpAt h z TI TO i1 i2 t S its i) (nz : z ≠ S) (nI : TI ≠ S) (nO : TO ≠ S) (n1 : i1 ≠ S) (n2 : i2 ≠ S) (nt : t ≠ S) (k : ∀ b o, b ≠ S → h.get? b = some o → h'.get? b = some o) : ZpAt h' z TI TO i1 i2 t S its i := by
  obtain ⟨zz, ti, a1, a2, tt⟩ := m
  refine ⟨?_, k _ _ nI ti, a1.at fun o e => k _ _ n1 e, a2.at fun o e => k _ _ n2 e, tt.at fun o e => k _ _ nt e⟩
  rcases zz with ⟨hz, a, b, hTO⟩ | ⟨T, f, o, hz, al, m1, m2, m3, m4⟩
  · exact .inl ⟨k _ _ nz hz, a, b, k _ _ nO hTO⟩
  · exact .inr ⟨T, f, o, k _ _ nz hz, k _ _ m1 al, m1, m2, m3, m4⟩
theorem zp_loop (hh : A.handled = none) (D : ZipApart z TI TO i1 i2 t t) (lz : z < S) (lI : TI < S) (lO : TO < S) (l1 : i1 < S) (l2 : i2 < S) (lt : t < S) (few : its.size ≤ sizeLine) (res : Value) {h1 : Heap}
    (hR : ∀ g tk acc c as, (∀ b o, b ≠ S → b ≠ z → b ≠ TO → b ≠ i1 → b ≠ i2 → h1.get? b = some o → g.get? b = some o) → g.get? S = some { cls := .type "list", dict := none, data := .seq acc c, slots := #[] } → as.length = its.size → ZpG its S g as → acc.toList = as.map Value.ref → R (.ok (.ret res)) { s with heap := g, toks := tk }) :
    ∀ (k i : Nat) (h : Heap) (tk c : Nat) (acc : Array Value) (as : List Addr), its.size - i = k → i ≤ its.size → ZpAt h z TI TO i1 i2 t S its i → (∀ b o, b ≠ S → b ≠ z → b ≠ TO → b ≠ i1 → b ≠ i2 → h1.get? b = some o → h.get? b = some o) → h.get? S = some { cls := .type "list", dict := none, data := .seq acc c, slots := #[] } → acc.toList = as.map Value.ref → as.length = i → ZpG its S h as →
      codeAny (model prog w) A (.builtin "list.extend.loop" ⟨[.ref S, .ref z, res], []⟩) R { s with heap := h, toks := tk } := by
  have ne : ∀ {a : Addr}, a < S → a ≠ S := fun l => Nat.ne_of_lt l
  intro k
  induction k with
  | zero =>
    intro i h tk c acc as ek le st kp hS eacc el hG
    obtain rfl : i = its.size := by omega
    refine codeAny_builtin PySem.F.entry_extend_loop ?_
    rw [Around.under_plainId PySem.F.plain_extend_loop _]
    show wpAny (model prog w) A.in1 (pyNext (.ref z) >>= _) _ _ _
    refine wpAny_bind (zp_done (s := { s with heap := h, toks := tk }) (A := A.in1) hh D st (by simp) fun g kg => wpAny_pure (hR g tk acc c as (fun b o m1 m2 m3 m4 m5 e => kg b o m2 m3 m4 m5 (kp b o m1 m2 m3 m4 m5 e)) (kg S _ (ne lz).symm (ne lO).symm (ne l1).symm (ne l2).symm hS) el ⟨hG.rise, hG.over, fun j a hj => ?_⟩ eacc))
    obtain ⟨x, ex, pr⟩ := hG.at_ j a hj
    have up := hG.over a (List.mem_of_getElem? hj)
    exact ⟨x, ex, kg _ _ (Nat.ne_of_gt (Nat.lt_trans lz up)) (Nat.ne_of_gt (Nat.lt_trans lO up)) (Nat.ne_of_gt (Nat.lt_trans l1 up)) (Nat.ne_of_gt (Nat.lt_trans l2 up)) pr⟩
  | succ k ih =>
    intro i h tk c acc as ek le st kp hS eacc el hG
    have lt' : i < its.size := by omega
    have asz : acc.size = i := by rw [← Array.length_toList, eacc, List.length_map, el]
    have hSl := Heap.lt_size hS
    refine codeAny_builtin PySem.F.entry_extend_loop ?_
    rw [Around.under_plainId PySem.F.plain_extend_loop _]
    show wpAny (model prog w) A.in1 (pyNext (.ref z) >>= _) _ _ _
    refine wpAny_bind (zp_item (s := { s with heap := h, toks := tk }) (S := S) (x := its[i]) D st (by simp [lt']) hSl fun g st' pr sz kg => ?_)
    dsimp only at pr sz kg ⊢
    have hS' := kg S _ (ne lz).symm (ne lO).symm (ne l1).symm (ne l2).symm hS
    have up : ∀ b o, b ≠ S → g.get? b = some o → (g.update S (Obj.mapSeq (·.push (Value.ref h.objs.size)))).get? b = some o := fun b o hb e => (Heap.get?_update_other _ _ (Ne.symm hb)).trans e
    have nw : h.objs.size ≠ S := Nat.ne_of_gt hSl
    show wpAny (model prog w) A.in1 (updateSeq S (·.push (Value.ref h.objs.size)) >>= _) _ _ _
    refine wpAny_bind (wpAny_updateSeq hS' rfl (wpAny_pure ⟨plainId_quiet PySem.F.plain_extend_loop _, ih (i + 1) _ tk _ (acc.push (Value.ref h.objs.size)) (as ++ [h.objs.size]) (by omega) lt' (st'.over D (ne lz) (ne lI) (ne lO) (ne l1) (ne l2) (ne lt) up)
      (fun b o m1 m2 m3 m4 m5 e => up b o m1 (kg b o m2 m3 m4 m5 (kp b o m1 m2 m3 m4 m5 e))) (Heap.get?_update_self _ hS' rfl) (by rw [Array.toList_push, eacc, List.map_append]; rfl) (by rw [List.length_append, el]; rfl) ⟨?_, ?_, ?_⟩⟩) (by rw [asz]; omega) (by show (acc.push (Value.ref h.objs.size)).size ≤ sizeLine + 1; rw [Array.size_push, asz]; omega))
    · refine List.pairwise_append.mpr ⟨hG.rise, List.pairwise_singleton _ _, fun a ha b hb => ?_⟩
      cases List.mem_singleton.mp hb
      exact hG.lt ha
    · intro a ha
      rcases List.mem_append.mp ha with ha | ha
      · exact hG.over a ha
      · cases List.mem_singleton.mp ha
        exact hSl
    · intro j b hj
      rcases Nat.lt_trichotomy j as.length with q | q | q
      · rw [List.getElem?_append_left q] at hj
        obtain ⟨x, ex, p⟩ := hG.at_ j b hj
        have ov := hG.over b (List.mem_of_getElem? hj)
        exact ⟨x, ex, up b _ (Nat.ne_of_gt ov) (kg b _ (Nat.ne_of_gt (Nat.lt_trans lz ov)) (Nat.ne_of_gt (Nat.lt_trans lO ov)) (Nat.ne_of_gt (Nat.lt_trans l1 ov)) (Nat.ne_of_gt (Nat.lt_trans l2 ov)) p)⟩
      · subst q
        have eb : h.objs.size = b := by simpa using hj
        subst eb
        exact ⟨its[i], by rw [el]; simp [lt'], up _ _ nw pr⟩
      · rw [List.getElem?_eq_none (by rw [List.length_append, List.length_singleton]; omega)] at hj
        cases hj
end
end QN

/-! list(z), the call -/
namespace QN
open PySem PySem.Spec PyProof.Rows L2
theorem zip_bare_len : typeLookup (.type "zip") "__len__" = pure none := am_miss_of_fast (by decide +kernel)
theorem zip_bare_hint : typeLookup (.type "zip") "__length_hint__" = pure none := am_miss_of_fast (by decide +kernel)
section
variable {prog : Program} {w : World} {A : Around} {E : Value → Shared → Prop} {s : Shared} {z TI TO i1 i2 t S : Addr} {its : Array Value} {a b : Value}
theorem zp_extend {R : Result → Shared → Prop} (hh : A.handled = none) (D : ZipApart z TI TO i1 i2 t t) (hz : IsZip s.heap z TI TO .none) (hO : IsPair s.heap TO a b) (ti : IsPair s.heap TI (.ref i1) (.ref i2)) (a1 : s.heap.IsTupleIter i1 t 0) (a2 : s.heap.IsTupleIter i2 t 0) (tt : s.heap.IsTuple t its) (lz : z < S) (lI : TI < S) (lO : TO < S) (l1 : i1 < S) (l2 : i2 < S) (lt : t < S) (few : its.size ≤ sizeLine) (res : Value) (c0 : Nat) (hS : s.heap.get? S = some { cls := .type "list", data := .seq #[] c0 })
    (hR : ∀ g tk acc c as, (∀ b o, b ≠ S → b ≠ z → b ≠ TO → b ≠ i1 → b ≠ i2 → s.heap.get? b = some o → g.get? b = some o) → g.get? S = some { cls := .type "list", dict := none, data := .seq acc c, slots := #[] } → as.length = its.size → ZpG its S g as → acc.toList = as.map Value.ref → R (.ok (.ret res)) { s with heap := g, toks := tk }) :
    wpAny (model prog w) A.in1 (Builtin.List.listExtendWith (.ref S) (.ref z) res) (fun fin s' => match fin with | .done f => R (.ok f) s' | .again c' => c'.quiet = true ∧ codeAny (model prog w) A c' R s') (fun e s' => R (.error e) s') s := by
  have ne : ∀ {a : Addr}, a < S → a ≠ S := fun l => Nat.ne_of_lt l
  have hty : s.TypeIs (.ref z) "zip" := ⟨_, hz, rfl⟩
  have st : ZpAt s.heap z TI TO i1 i2 t S its 0 := ⟨.inl ⟨hz, a, b, hO⟩, ti, a1, a2, tt⟩
  have self : ∀ {A' : Around} {E' : Value → Shared → Prop} {Q : Value → Shared → Prop}, Q (.ref z) s → wpAny (model prog w) A' (pyIter (.ref z)) Q E' s := fun q => wpAny_pyIter_zip hz q
  unfold Builtin.List.listExtendWith
  refine wpAny_bind (wpAny_typeOf hty ?_)
  have e1 : Builtin.List.listSameRef (.ref S) (.ref z) = false := by simp [Builtin.List.listSameRef, (ne lz).symm]
  have e2 : (Value.type "zip" == Value.type "list") = false := by decide
  have e3 : (Value.type "zip" == Value.type "tuple") = false := by decide
  simp only [e1, e2, e3, Bool.or_false, Bool.false_eq_true, if_false]
  refine wpAny_bind (self (wpAny_bind (wpAny_holding ?_)))
  unfold Builtin.List.listLengthHint
  refine wpAny_bind (wpAny_specialOf hty zip_bare_len ?_)
  show wpAny (model prog w) A.in1 (specialOf (Value.ref z) (Str.ofString "__length_hint__") >>= _) _ _ s
  refine wpAny_bind (wpAny_specialOf hty zip_bare_hint (wpAny_pure ?_))
  show wpAny (model prog w) A.in1 (rule "list.extend.makes-room" >>= fun _ => Builtin.List.listTouch (.ref S) >>= fun _ => again (.builtin "list.extend.loop" ⟨[.ref S, .ref z, res], []⟩)) _ _ s
  refine wpAny_bind (wpAny_rule (wpAny_bind ?_))
  show wpAny (model prog w) A.in1 (updateSeq S (·.push .none) >>= fun _ => updateSeq S (·.pop)) _ _ s
  refine wpAny_bind (wpAny_updateSeq hS rfl ?_)
  have hS2 := Heap.get?_update_self (Obj.mapSeq (·.push Value.none)) hS rfl
  refine wpAny_updateSeq (hz := by seq_fits) hS2 rfl ?_
  have hS3 := Heap.get?_update_self (Obj.mapSeq (·.pop)) hS2 rfl
  have up : ∀ b o, b ≠ S → s.heap.get? b = some o → ((s.heap.update S (Obj.mapSeq (·.push Value.none))).update S (Obj.mapSeq (·.pop))).get? b = some o := fun b o hb e => (Heap.get?_update_other _ _ (Ne.symm hb)).trans ((Heap.get?_update_other _ _ (Ne.symm hb)).trans e)
  exact wpAny_pure ⟨plainId_quiet PySem.F.plain_extend_loop _, zp_loop hh D lz lI lO l1 l2 lt few res (h1 := s.heap) hR its.size 0 _ s.toks _ #[] [] (Nat.sub_zero _) (Nat.zero_le _) (st.over D (ne lz) (ne lI) (ne lO) (ne l1) (ne l2) (ne lt) up) (fun b o m1 _ _ _ _ e => up b o m1 e) hS3 rfl rfl ⟨List.Pairwise.nil, (fun _ m => nomatch m), fun j a e => by simp at e⟩⟩
/-- list(z) -/
theorem zp_list {Q : Value → Shared → Prop} (hh : A.handled = none) (D : ZipApart z TI TO i1 i2 t t) (hz : IsZip s.heap z TI TO .none) (hO : IsPair s.heap TO a b) (ti : IsPair s.heap TI (.ref i1) (.ref i2)) (a1 : s.heap.IsTupleIter i1 t 0) (a2 : s.heap.IsTupleIter i2 t 0) (tt : s.heap.IsTuple t its) (few : its.size ≤ sizeLine)
    (hQ : ∀ g tk acc c as, (∀ b o, b ≠ z → b ≠ TO → b ≠ i1 → b ≠ i2 → s.heap.get? b = some o → g.get? b = some o) → g.get? s.heap.objs.size = some { cls := .type "list", dict := none, data := .seq acc c, slots := #[] } → as.length = its.size → ZpG its s.heap.objs.size g as → acc.toList = as.map Value.ref → Q (.ref s.heap.objs.size) { s with heap := g, toks := tk }) :
    wpAny (model prog w) A (call (.type "list") [.ref z]) Q E s := by
  refine callType_codes (Q₁ := fun obj s1 => obj = .ref s.heap.objs.size ∧ s1 = { s with heap := s.heap.push { cls := .type "list", data := .seq #[] } }) PySem.F.called_list (PySem.F.typeCall_list_1 _) PySem.F.entry_list_init (code_list_new _ ⟨rfl, rfl⟩) fun obj s1 h1 => ?_
  obtain ⟨rfl, rfl⟩ := h1
  have hS : (s.heap.push { cls := .type "list", data := .seq #[] }).get? s.heap.objs.size = some { cls := .type "list", data := .seq #[] } := Heap.get?_push_size _ rfl
  refine ⟨⟨_, hS, rfl⟩, PySem.F.args_list_init_2 _ _, ?_⟩
  have lt : ∀ {c : Addr} {o : Obj}, s.heap.get? c = some o → c < s.heap.objs.size := fun e => Heap.lt_size e
  have lz := lt hz
  have lO := lt hO
  have lI := lt ti
  have l1 : i1 < s.heap.objs.size := let ⟨_, e, _⟩ := a1; lt e
  have l2 : i2 < s.heap.objs.size := let ⟨_, e, _⟩ := a2; lt e
  have l3 : t < s.heap.objs.size := let ⟨_, e, _⟩ := tt; lt e
  show wpAny _ _ (do let old ← Builtin.List.listItems (.ref s.heap.objs.size); Builtin.List.listUpdate (.ref s.heap.objs.size) (fun _ => #[]); letGo old.toList.reverse; Builtin.List.listExtendWith (.ref s.heap.objs.size) (.ref z) .none) _ _ _
  refine wpAny_bind ?_
  unfold Builtin.List.listItems
  refine wpAny_bind (wpAny_seqItems hS rfl (wpAny_pure ?_))
  show wpAny _ _ (updateSeq s.heap.objs.size (fun _ => #[]) >>= fun _ => letGo (#[] : Array Value).toList.reverse >>= fun _ => Builtin.List.listExtendWith (.ref s.heap.objs.size) (.ref z) .none) _ _ _
  refine wpAny_bind (wpAny_updateSeq hS rfl ?_)
  have hS2 := Heap.get?_update_self (Obj.mapSeq (fun _ => (#[] : Array Value))) hS rfl
  have up : ∀ b o, b ≠ s.heap.objs.size → s.heap.get? b = some o → ((s.heap.push { cls := .type "list", data := .seq #[] }).update s.heap.objs.size (Obj.mapSeq (fun _ => (#[] : Array Value)))).get? b = some o := fun b o hb e => (Heap.get?_update_other _ _ (Ne.symm hb)).trans (Heap.get?_push_of_some _ e)
  refine wpAny_bind (wpAny_letGo ?_)
  have ne : ∀ {a : Addr}, a < s.heap.objs.size → a ≠ s.heap.objs.size := fun l => Nat.ne_of_lt l
  refine zp_extend (A := A.in1) hh D (up _ _ (ne lz) hz) (up _ _ (ne lO) hO) (up _ _ (ne lI) ti) (a1.at fun o e => up _ _ (ne l1) e) (a2.at fun o e => up _ _ (ne l2) e) (tt.at fun o e => up _ _ (ne l3) e) lz lI lO l1 l2 l3 few .none _ hS2 fun g tk acc c as kp hg el hG eacc => ?_
  exact ⟨rfl, hQ g tk acc c as (fun b o m1 m2 m3 m4 e => kp b o (ne (lt e)) m1 m2 m3 m4 (up b o (ne (lt e)) e)) hg el hG eacc⟩
end
end QN

/-! several new things laid at once -/
namespace QN
open PySem PySem.Spec PyProof.Rows L2
theorem same_newZ {H : Hp} {a : Addr} {o : HO} (n : H a = none) : Same H (upd H a o) := fun b u e => by
  have ne : b ≠ a := fun z => by rw [z, n] at e; cases e
  rw [upd_ne ne]
  exact e
/-- the heap with these things in it -/
def layL (H : Hp) : List (Addr × HO) → Hp
  | [] => H
  | p :: N => upd (layL H N) p.1 p.2
theorem layL_off {H : Hp} {b : Addr} : ∀ {N : List (Addr × HO)}, b ∉ N.map (·.1) → layL H N b = H b
  | [], _ => rfl
  | p :: N, h => by
    show upd (layL H N) p.1 p.2 b = H b
    rw [List.map_cons, List.mem_cons, not_or] at h
    rw [upd_ne h.1, layL_off h.2]
theorem layL_at {H : Hp} {b : Addr} {o : HO} : ∀ {N : List (Addr × HO)}, (N.map (·.1)).Nodup → (b, o) ∈ N → layL H N b = some o
  | [], _, m => by cases m
  | p :: N, nd, m => by
    rw [List.map_cons, List.nodup_cons] at nd
    show upd (layL H N) p.1 p.2 b = some o
    rcases List.mem_cons.mp m with e | m
    · rw [← e, upd_same]
    · rw [upd_ne fun z => nd.1 (by rw [← z]; exact List.mem_map.mpr ⟨_, m, rfl⟩)]
      exact layL_at nd.2 m
theorem layL_in {H : Hp} {b : Addr} {o : HO} : ∀ {N : List (Addr × HO)}, layL H N b = some o → (b, o) ∈ N ∨ (b ∉ N.map (·.1) ∧ H b = some o)
  | [], h => .inr ⟨fun m => (by cases m), h⟩
  | p :: N, h => by
    replace h : upd (layL H N) p.1 p.2 b = some o := h
    by_cases z : b = p.1
    · rw [z, upd_same] at h
      refine .inl (List.mem_cons.mpr (.inl ?_))
      rw [z, ← Option.some.inj h]
    · rw [upd_ne z] at h
      rcases layL_in h with m | ⟨m, e⟩
      · exact .inl (List.mem_cons_of_mem _ m)
      · refine .inr ⟨fun q => ?_, e⟩
        rcases List.mem_cons.mp (by rw [List.map_cons] at q; exact q) with q | q
        · exact z q
        · exact m q
theorem layL_same {H : Hp} {N : List (Addr × HO)} (new : ∀ p ∈ N, H p.1 = none) : ∀ b o, H b = some o → layL H N b = some o := fun b o e => by
  rw [layL_off fun m => ?_]
  · exact e
  · obtain ⟨p, hp, z⟩ := List.mem_map.mp m
    rw [← z, new p hp] at e
    cases e
section
variable {X : Cx} {pins : List (Addr × Obj)} {σ : L2.St} {H : Hp} {s : Shared} {h' : Heap}
/-- records of ours have turned, and new things are laid -/
theorem inv_layL {t' : Nat} {ch : List Addr} {N : List (Addr × HO)} (I : Inv X pins σ H s) (keep : ∀ b o, b ∉ ch → s.heap.get? b = some o → h'.get? b = some o) (own : ∀ b ∈ ch, FpOk X pins H b) (young : ∀ p ∈ N, s.heap.objs.size ≤ p.1) (new : ∀ p ∈ N, ObjOk X.prog X.w (layL H N) h' p.1 p.2) :
    Inv X pins σ (layL H N) { s with heap := h', toks := t' } := by
  have fresh : ∀ p ∈ N, H p.1 = none := fun p hp => I.hok.fresh (young p hp)
  have same := layL_same fresh
  have off : ∀ {b u}, s.heap.get? b = some u → b ∉ N.map (·.1) := fun {b u} e m => by
    obtain ⟨p, hp, z⟩ := List.mem_map.mp m
    exact absurd (Heap.lt_size e) (Nat.not_lt.mpr (by rw [← z]; exact young p hp))
  have mine : ∀ {b u}, H b = some u → b ∉ ch := fun {b u} e z => by
    have q := (own b z).1
    rw [e] at q
    cases q
  refine I.step (ch := ch) (g' := s.gens) (d' := s.drawn) (fun b hb => ⟨(own b hb).2.2.2.1, (own b hb).2.1, (own b hb).2.2.2.2.1, (own b hb).2.2.2.2.2⟩) (fun b o _ _ n e _ => keep b o n e) (fun b o _ _ n e _ => ⟨o.slots, keep b o n e⟩) (fun b o _ e n => ?_) (fun b o n e => ⟨o, keep b o n e⟩) (fun b xs e => same _ _ e) (fun b o u e => same _ _ e) (fun b ps e => ⟨#[], ?_⟩) (fun m hm => ?_) (fun b u e => ?_) I.bare
  · rw [layL_off (off e)]
    exact n
  · rw [same _ _ e]
    simp
  · obtain ⟨o, es, ep, ho, r⟩ := hm
    exact ⟨o, es, ep, keep _ o (fun z => (own _ z).2.1 rfl) ho, r⟩
  · rcases layL_in e with m | ⟨_, e⟩
    · exact new _ m
    · refine (I.hok b u e).stay (fun c v hc q => keep c v ?_ q) (fun c q => same _ _ q) fun c xs q => same _ _ q
      rcases hc with z | z
      · rw [z]
        exact mine e
      · exact mine z
end
end QN

/-! list(zip(o, o)), o of an own class whose __iter__ returns iter(a tuple) -/
namespace QN
open PySem PySem.Spec PyProof.Rows L2
section
variable {X : Cx} {k : Nat} {C g : Addr} {fd : FuncData} {ps : List Str} {pins : List (Addr × Obj)} {σ : L2.St} {H : Hp} {s : Shared} {its : Hp → Addr → Addr → Prop}
/-- iter(o), in a deeper place -/
theorem iter_deep {A' : Around} {a t : Addr} {Q : Value → Shared → Prop} {E : Value → Shared → Prop} (M : OMeth X.K C "__iter__" g) (F : FnN X.prog X.w X.K X.mg X.base k g fd ps (spIterT its)) (hb : L2.Binds X.K fd ps []) (hr : Room k A') (e0 : Env0 X.prog X.w X.K X.mg X.base A' X.stack s H) (I : Inv X pins σ H s) (ha : OAt C H a) (hi : its H a t)
    (hQ : ∀ it s', H it = none → s.heap.objs.size ≤ it → Inv X pins σ (upd H it (TtO t it)) s' → Q (.ref it) s') : wpAny (model X.prog X.w) A' (pyIter (.ref a)) Q E s := by
  obtain ⟨ox, od, J⟩ := OAt.inst I ha
  obtain ⟨m, fr⟩ := I.fr
  refine PySem.W.owit_iter fr I.ok.mod.kin J M.at_ M.fn ?_
  have hsp : spIterT its s.heap.objs.size [.ref a] H (fun u H2 => ∃ it, u = .ref it ∧ H it = none ∧ s.heap.objs.size ≤ it ∧ H2 = upd H it (TtO t it)) L2.E0 := ⟨a, t, rfl, hi, fun it h1 h2 => ⟨it, rfl, h1, h2, rfl⟩⟩
  have n1 : [Value.ref a].length = ps.length := F.len _ _ _ _ _ hsp
  have bind := hb s [.ref a] I.kIn (by rw [List.append_nil]; exact n1)
  rw [List.append_nil] at bind
  refine wpAny_call (codeAny_mono (F.go A' X.stack s H ⟨[.ref a], []⟩ [.ref a] [.ref a] _ L2.E0 hr e0 bind (.cons (rv_ref _) .nil) hsp) fun out s' got => ?_)
  match out, got with
  | .error e, got => exact got.elim
  | .ok .next, got => exact got.elim
  | .ok .brk, got => exact got.elim
  | .ok .cont, got => exact got.elim
  | .ok (.ret u), got =>
    obtain ⟨v, H2, I2, r, it, ev, hn, young, eH⟩ := I.after got
    subst ev
    subst eH
    obtain rfl : u = Value.ref it := r
    have eo : s'.heap.get? it = some (ttObj t) := (I2.hok it _ (upd_same (H := H) (a := it) (o := TtO t it))).1
    exact wpAny_specialOf (name := Str.ofString "__next__") (show Shared.TypeIs s' (.ref it) "tuple_iterator" from ⟨_, eo, rfl⟩) PySem.F.slot_tuple_iterator_next.lookup (hQ it s' hn young I2)
/-- zip(o, o) -/
theorem call_zipO {a t : Addr} {Q : Value → Shared → Prop} {E : Value → Shared → Prop} (M : OMeth X.K C "__iter__" g) (F : FnN X.prog X.w X.K X.mg X.base k g fd ps (spIterT its)) (hb : L2.Binds X.K fd ps []) (hr : Room (k + 2) X.A) (I : Inv X pins σ H s) (ha : OAt C H a) (hi : ∀ H2, Same H H2 → its H2 a t)
    (hQ : ∀ (i1 i2 : Addr) (s3 : Shared) (h' : Heap), H i1 = none → (upd H i1 (TtO t i1)) i2 = none → s.heap.objs.size ≤ i1 → i1 < i2 → Inv X pins σ (upd (upd H i1 (TtO t i1)) i2 (TtO t i2)) s3 → IsZip h' (s3.heap.objs.size + 2) s3.heap.objs.size (s3.heap.objs.size + 1) .none → IsPair h' s3.heap.objs.size (.ref i1) (.ref i2) → IsPair h' (s3.heap.objs.size + 1) .none .none → h'.objs.size = s3.heap.objs.size + 3 →
      (∀ b o, s3.heap.get? b = some o → h'.get? b = some o) → Q (.ref (s3.heap.objs.size + 2)) { s3 with heap := h' }) : wpAny (model X.prog X.w) X.A (call (.type "zip") [.ref a, .ref a]) Q E s := by
  have r2 := hr.in1.in1
  have two : wpAny (model X.prog X.w) X.A.in1.in1 (pyIter (.ref a)) (fun v1 s2 => wpAny (model X.prog X.w) X.A.in1.in1 (pyIter (.ref a)) (fun v2 s3 => ∃ i1 i2 : Addr, v1 = .ref i1 ∧ v2 = .ref i2 ∧ H i1 = none ∧ (upd H i1 (TtO t i1)) i2 = none ∧ s.heap.objs.size ≤ i1 ∧ i1 < i2 ∧ Inv X pins σ (upd (upd H i1 (TtO t i1)) i2 (TtO t i2)) s3) E s2) E s := by
    refine iter_deep M F hb r2 I.env0.in1.in1 I ha (hi _ (Same.refl _)) fun i1 s2 n1 y1 I2 => ?_
    have ha2 : OAt C (upd H i1 (TtO t i1)) a := by
      obtain ⟨dx, fs, e⟩ := ha
      exact ⟨dx, fs, same_newZ n1 _ _ e⟩
    refine iter_deep M F hb r2 I2.env0.in1.in1 I2 ha2 (hi _ (same_newZ n1)) fun i2 s3 n2 y2 I3 => ⟨i1, i2, rfl, rfl, n1, n2, y1, ?_, I3⟩
    obtain ⟨e, _⟩ := (I2.hok i1 _ (upd_same (H := H) (a := i1) (o := TtO t i1)))
    exact Nat.lt_of_lt_of_le (Heap.lt_size e) y2
  refine callType_codes (T := "zip") (Bi := Builtin.«object.__init__») (Q₁ := fun r s₁ => s₁.TypeIs r "zip" ∧ Q r s₁) PySem.F.called_zip (PySem.F.typeCall_zip_2 _ _) PySem.F.entry_object_init ?_ ?_
  · refine codeAny_of_tree ?_
    show wpAny _ X.A.in1.in1 (do checkBuiltinCall "zip.__new__" ⟨[.type "zip", .ref a, .ref a], []⟩; again (.builtin "zip.__new__" ⟨[.type "zip", .ref a, .ref a], []⟩)) _ _ s
    refine wpAny_bind (wpAny_of_eq (PySem.F.newCall_zip_2 _ _) (wpAny_pure ⟨plainId_quiet (by decide +kernel) _, codeAny_builtin PySem.F.entry_zip_new ?_⟩))
    rw [Around.under_plainId (by decide +kernel) _]
    have f1 := PySem.sub_zip
    unfold Builtin.«zip.__new__»
    repeat (any_goals (first | assumption | (with_reducible refine wpAny_mono two ?_ fun _ _ y => y) | wp_step))
    intro v1 s2 two2
    repeat (any_goals (first | assumption | (with_reducible refine wpAny_mono two2 ?_ fun _ _ y => y) | wp_step))
    rintro v2 s3 ⟨i1, i2, rfl, rfl, n1, n2, y1, lt, I3⟩
    obtain ⟨hp, gg, dd, tk, os⟩ := s3
    repeat (any_goals (first | assumption | wp_step))
    have key : ∀ g1 g2 g3 : Heap, g1 = hp.push { cls := .type "tuple", data := .seq #[.ref i1, .ref i2] } → g2 = g1.push { cls := .type "tuple", data := .seq #[.none, .none] } → g3 = g2.push { cls := .type "zip", data := .fields #[.none, .bool false, .bool false, .ref hp.objs.size, .ref g1.objs.size] } →
        Shared.TypeIs ⟨g3, gg, dd, tk, os⟩ (.ref g2.objs.size) "zip" ∧ Q (.ref g2.objs.size) ⟨g3, gg, dd, tk, os⟩ := by
      intro g1 g2 g3 e1 e2 e3
      have z1 : g1.objs.size = hp.objs.size + 1 := by rw [e1, Heap.size_push]
      have z2 : g2.objs.size = hp.objs.size + 2 := by rw [e2, Heap.size_push, z1]
      have z3 : g3.objs.size = hp.objs.size + 3 := by rw [e3, Heap.size_push, z2]
      have p1 : g1.get? hp.objs.size = some { cls := .type "tuple", data := .seq #[.ref i1, .ref i2] } := by rw [e1]; exact Heap.get?_push_size _ rfl
      have p2 : g2.get? g1.objs.size = some { cls := .type "tuple", data := .seq #[.none, .none] } := by rw [e2]; exact Heap.get?_push_size _ rfl
      have p3 : g3.get? g2.objs.size = some { cls := .type "zip", data := .fields #[.none, .bool false, .bool false, .ref hp.objs.size, .ref g1.objs.size] } := by rw [e3]; exact Heap.get?_push_size _ rfl
      have up2 : ∀ b o, g1.get? b = some o → g2.get? b = some o := fun b o e => by rw [e2]; exact Heap.get?_push_of_some _ e
      have up3 : ∀ b o, g2.get? b = some o → g3.get? b = some o := fun b o e => by rw [e3]; exact Heap.get?_push_of_some _ e
      have up1 : ∀ b o, hp.get? b = some o → g1.get? b = some o := fun b o e => by rw [e1]; exact Heap.get?_push_of_some _ e
      refine ⟨⟨_, p3, rfl⟩, ?_⟩
      rw [z1] at p2 p3
      rw [z2] at p3 ⊢
      exact hQ i1 i2 ⟨hp, gg, dd, tk, os⟩ g3 n1 n2 y1 lt I3 p3 (up3 _ _ (up2 _ _ p1)) (up3 _ _ p2) z3 fun b o e => up3 _ _ (up2 _ _ (up1 _ _ e))
    exact key _ _ _ rfl rfl rfl
  · rintro obj s₁ ⟨hty, q⟩
    refine ⟨hty, PySem.F.args_object_init_3 _ _ _, ?_⟩
    exact object_init_meets PySem.F.called_zip.init.lookup PySem.F.called_zip.made (by decide) X.prog X.w X.A.in1 _ s₁ ⟨hty, rfl, q⟩
theorem zap_nat (n i1 i2 t : Nat) (l1 : i1 < i2) (l2 : i2 < n) (lt : t < i1) : n ≠ n + 2 ∧ n + 1 ≠ n + 2 ∧ i1 ≠ n + 2 ∧ i2 ≠ n + 2 ∧ n ≠ n + 1 ∧ n ≠ i1 ∧ n ≠ i2 ∧ n + 1 ≠ i1 ∧ n + 1 ≠ i2 ∧ i1 ≠ i2 ∧ t ≠ n + 2 ∧ t ≠ n + 1 ∧ t ≠ i1 ∧ t ≠ i2 := by omega
theorem zap {n i1 i2 t : Addr} (l1 : i1 < i2) (l2 : i2 < n) (lt : t < i1) : ZipApart (n + 2) n (n + 1) i1 i2 t t := by
  obtain ⟨a, b, c, d, e, f, g, h, i, j, k, l, m, o⟩ := zap_nat n i1 i2 t l1 l2 lt
  exact ⟨a, b, c, d, e, f, g, h, i, j, k, l, m, o, k, l, m, o⟩
theorem sqT_sameZ {K : PySem.W.Frag} {H H' : Hp} {q : Addr} {xs : List V} (sm : Same H H') (h : SqT K H q xs) : SqT K H' q xs := by
  rcases h with (h | ⟨o, h⟩) | h
  · exact .inl (.inl (sm _ _ h))
  · exact .inl (.inr ⟨o, sm _ _ h⟩)
  · exact .inr h
/-- the pairs, laid -/
def zpN : List Addr → List V → List (Addr × HO)
  | a :: as, x :: xs => (a, .tup [x, x]) :: zpN as xs
  | _, _ => []
theorem zpN_fst : ∀ {as : List Addr} {xs : List V}, as.length = xs.length → (zpN as xs).map (·.1) = as
  | [], [], _ => rfl
  | [], _ :: _, h => by cases h
  | _ :: _, [], h => by cases h
  | a :: as, x :: xs, h => by
    show a :: (zpN as xs).map (·.1) = a :: as
    rw [zpN_fst (Nat.succ.inj h)]
theorem zpN_at : ∀ {as : List Addr} {xs : List V} {j : Nat} {a : Addr} {x : V}, as[j]? = some a → xs[j]? = some x → (a, .tup [x, x]) ∈ zpN as xs
  | [], _, _, _, _, h, _ => by simp at h
  | _ :: _, [], _, _, _, _, h => by simp at h
  | a :: as, x :: xs, 0, _, _, h1, h2 => by
    cases h1
    cases h2
    exact List.mem_cons_self
  | a :: as, x :: xs, j + 1, _, _, h1, h2 => List.mem_cons_of_mem _ (zpN_at (j := j) (by simpa using h1) (by simpa using h2))
theorem zpN_mem : ∀ {as : List Addr} {xs : List V} {p : Addr × HO}, p ∈ zpN as xs → ∃ (j : Nat) (x : V), as[j]? = some p.1 ∧ xs[j]? = some x ∧ p.2 = .tup [x, x]
  | [], _, p, h => by cases h
  | _ :: _, [], p, h => by cases h
  | a :: as, x :: xs, p, h => by
    rcases List.mem_cons.mp h with rfl | h
    · exact ⟨0, x, rfl, rfl, rfl⟩
    · obtain ⟨j, y, h1, h2, h3⟩ := zpN_mem h
      exact ⟨j + 1, y, by simpa using h1, by simpa using h2, h3⟩
theorem vals_refsZ : ∀ as : List Addr, Vals (as.map V.ref) (as.map Value.ref)
  | [] => .nil
  | _ :: as => .cons rfl (vals_refsZ as)
/-- list(zip(o, o)) -/
def tZipO (K : PySem.W.Frag) (C : Addr) (its : Hp → Addr → Addr → Prop) (ta : TA) : TE := fun σ H Q => ta σ H fun vs H1 => ∃ (a t : Addr) (xs : List V), vs = [.ref a, .ref a] ∧ OAt C H1 a ∧ (∀ H2, Same H1 H2 → its H2 a t) ∧ SqT K H1 t xs ∧
  ∀ (p : Addr) (as : List Addr) (H' : Hp), Same H1 H' → as.length = xs.length → H' p = some (.lst (as.map V.ref)) → (∀ (j : Nat) (b : Addr) (x : V), as[j]? = some b → xs[j]? = some x → H' b = some (.tup [x, x])) → Q (.ref p) H'
theorem pe_zipO {e1 e2 : Expr} {ta : TA} {p p2 q pos : Pos} (hc : X.calm = true) (M : OMeth X.K C "__iter__" g) (F : FnN X.prog X.w X.K X.mg X.base k g fd ps (spIterT its)) (hb : L2.Binds X.K fd ps []) (hr : Room (k + 2) X.A)
    (hg : Gl X "list") (hm : X.mg "list" = none) (hg2 : Gl X "zip") (hm2 : X.mg "zip" = none) (hv : bootBuiltins "list" = some (.type "list")) (ha : PA X [e1, e2] ta) (hs : starEach [e1, e2] X.env = (false, eval e1 X.env) :: starEach [e2] X.env := by rfl) (hpl : (backTo q (starEach [e2] X.env)).any (·.1) = false := by rfl)
    (hs2 : starEach [.Call (.Name "zip" p2) [e1, e2] [] q] X.env = (false, eval (.Call (.Name "zip" p2) [e1, e2] [] q) X.env) :: starEach [] X.env := by rfl) : PE X (.Call (.Name "list" p) [.Call (.Name "zip" p2) [e1, e2] [] q] [] pos) (tZipO X.K C its ta) := by
  refine ⟨fun pins s σ H Q I h => ?_⟩
  refine wpAny_Call_Name_kw (ld_blt I hg hm hv (PyProof.Rows.callWith_type1 ?_ hs2 rfl))
  rw [hs2]
  show wpAny _ _ (spliced ((false, eval (.Call (.Name "zip" p2) [e1, e2] [] q) X.env) :: backTo pos (starEach [] X.env))) _ _ s
  refine Calls.spliced_cons (wpAny_Call_Name_kw (ld_blt I hg2 hm2 PyProof.Rows.boot_zip (PyProof.Rows.callWith_type1 (thn (ha.run q pins s σ H _ I h) fun us s1 ⟨vs, H1, I1, r1, q1⟩ => ?_) hs hpl)))
  obtain ⟨a, t, xs, rfl, hat, hit, hq, fin⟩ := q1
  cases r1 with
  | cons r rr =>
    cases rr with
    | cons r' rr =>
      cases rr
      cases r
      cases r'
      refine call_zipO M F hb hr I1 hat hit fun i1 i2 s3 h' n1 n2 y1 lt I3 hz hTI hTO hsz hk => ?_
      refine Calls.spliced_nil ?_
      have x1 : (upd (upd H1 i1 (TtO t i1)) i2 (TtO t i2)) i2 = some (TtO t i2) := upd_same
      have x2 : (upd (upd H1 i1 (TtO t i1)) i2 (TtO t i2)) i1 = some (TtO t i1) := by rw [upd_ne (Nat.ne_of_lt lt), upd_same]
      have o1 : s3.heap.get? i1 = some (ttObj t) := (I3.hok i1 _ x2).1
      have o2 : s3.heap.get? i2 = some (ttObj t) := (I3.hok i2 _ x1).1
      have hq3 : SqT X.K (upd (upd H1 i1 (TtO t i1)) i2 (TtO t i2)) t xs := sqT_sameZ ((same_newZ n1).trans (same_newZ n2)) hq
      obtain ⟨itsA, rv, pl, few⟩ := I3.tuple hq3
      obtain ⟨_, _, pl1, _⟩ := I1.tuple hq
      have lt1 : t < i1 := by
        obtain ⟨ot, ho, _⟩ := id pl1
        exact Nat.lt_of_lt_of_le (Heap.lt_size ho) y1
      have l2 := Heap.lt_size o2
      have l1 := Heap.lt_size o1
      have D := zap lt l2 lt1
      have tt : h'.IsTuple t itsA.toArray := by
        obtain ⟨ot, ho, r⟩ := id pl
        exact ⟨ot, hk _ _ ho, r⟩
      have vl := rv.length
      refine zp_list (I3.ok.hd hc) D hz hTO hTI ⟨_, hk _ _ o1, rfl, rfl⟩ ⟨_, hk _ _ o2, rfl, rfl⟩ tt (by simpa [← vl] using few) fun g' tk acc c as kp hg' el hG eacc => ?_
      have J1 : Inv X pins σ (upd H1 i1 (TtO t i1)) s3 := by
        have z := ItX.inv_drop I3 x1
        rw [ItX.dropH_upd n2] at z
        exact z
      have J : Inv X pins σ H1 s3 := by
        have z := ItX.inv_drop J1 (upd_same (H := H1) (a := i1) (o := TtO t i1))
        rw [ItX.dropH_upd n1] at z
        exact z
      have f1 := ItX.inv_fp I3 x2 (Nat.le_trans I1.sz y1)
      have f2 := ItX.inv_fp I3 x1 (Nat.le_trans (Nat.le_trans I1.sz y1) (Nat.le_of_lt lt))
      have n2' : H1 i2 = none := by
        rw [upd_ne (Nat.ne_of_gt lt)] at n2
        exact n2
      have own : ∀ b ∈ [i1, i2], FpOk X pins H1 b := fun b hb => by
        rcases List.mem_cons.mp hb with rfl | hb
        · exact ⟨n1, f1.2⟩
        · cases List.mem_singleton.mp hb
          exact ⟨n2', f2.2⟩
      have e3 : h'.objs.size = s3.heap.objs.size + 3 := hsz
      generalize hS : h'.objs.size = S at *
      have nas : S ∉ as := fun m => Nat.lt_irrefl _ (hG.over _ m)
      have al : as.length = xs.length := by rw [el, vl, List.size_toArray]
      have nd : (((S, HO.lst (as.map V.ref)) :: zpN as xs).map (·.1)).Nodup := by
        rw [List.map_cons, zpN_fst al, List.nodup_cons]
        exact ⟨nas, List.Pairwise.imp (fun {a b} (h : a < b) => Nat.ne_of_lt h) hG.rise⟩
      have low : ∀ {b : Addr} {o : Obj}, s3.heap.get? b = some o → b ≠ s3.heap.objs.size + 2 ∧ b ≠ s3.heap.objs.size + 1 := fun e => by
        have l := Heap.lt_size e
        exact ⟨Nat.ne_of_lt (Nat.lt_of_lt_of_le l (Nat.le_add_right _ _)), Nat.ne_of_lt (Nat.lt_of_lt_of_le l (Nat.le_add_right _ _))⟩
      have yS : s3.heap.objs.size ≤ S := by rw [e3]; exact Nat.le_add_right _ _
      have IL : Inv X pins σ (layL H1 ((S, HO.lst (as.map V.ref)) :: zpN as xs)) { s3 with heap := g', toks := tk } := by
        refine inv_layL (ch := [i1, i2]) J (fun b o nb e => ?_) own (fun p hp => ?_) fun p hp => ?_
        · obtain ⟨m1, m2⟩ := low e
          exact kp b o m1 m2 (fun z => nb (by rw [z]; exact List.mem_cons_self)) (fun z => nb (by rw [z]; exact List.mem_cons_of_mem _ List.mem_cons_self)) (hk b o e)
        · rcases List.mem_cons.mp hp with rfl | hp
          · exact yS
          · obtain ⟨j, x, f1, _, _⟩ := zpN_mem hp
            exact Nat.le_trans yS (Nat.le_of_lt (hG.over _ (List.mem_of_getElem? f1)))
        · rcases List.mem_cons.mp hp with rfl | hp
          · refine ⟨by rw [List.length_map, al]; exact few, acc.toList, c, by rw [eacc]; exact vals_refsZ as, ?_⟩
            rw [Array.toArray_toList]
            exact hg'
          · obtain ⟨j, x, f1, f2, f3⟩ := zpN_mem hp
            obtain ⟨y, ey, pr⟩ := hG.at_ j _ f1
            have rx : RelV x y := by
              obtain ⟨y', e', r'⟩ := Vals.get rv f2
              have q : itsA.toArray[j]? = itsA[j]? := by simp
              rw [q, e'] at ey
              cases ey
              exact r'
            rw [f3]
            exact ⟨(show 2 ≤ sizeLine by decide), [y, y], .cons rx (.cons rx .nil), ⟨_, pr, rfl, _, rfl⟩⟩
      refine ⟨.ref S, _, IL, rfl, fin S as _ (layL_same fun p hp => ?_) al (layL_at nd List.mem_cons_self) fun j b x f1 f2 => layL_at nd (List.mem_cons_of_mem _ (zpN_at f1 f2))⟩
      rcases List.mem_cons.mp hp with rfl | hp
      · exact J.hok.fresh yS
      · obtain ⟨j, x, f1, _, _⟩ := zpN_mem hp
        exact J.hok.fresh (Nat.le_trans yS (Nat.le_of_lt (hG.over _ (List.mem_of_getElem? f1))))
end
end QN

/-! what is told of a graph: the lists that the law makes of it -/
namespace Qp
open PySem PySem.Spec PyProof.Rows L2 QN
theorem graphAt_same {K : PySem.W.Frag} {C : Addr} {H H' : Hp} {g : Addr} {G : Gr} (s : Same H H') (h : GraphAt K C H g G) : GraphAt K C H' g G := graphAt_sim (Sim.of s) h
theorem tyx_same {K : PySem.W.Frag} {H H' : Hp} {v : V} {t : Value} (s : Same H H') (h : TyX K H v t) : TyX K H' v t := by
  cases h with
  | base b =>
    refine .base ?_
    cases b with
    | lst e => exact .lst (s _ _ e)
    | frz e => exact .frz (s _ _ e)
    | tup e => exact .tup (s _ _ e)
    | dK e => exact .dK (s _ _ e)
    | dT e => exact .dT (s _ _ e)
    | ins e a b c d f => exact .ins (s _ _ e) a b c d f
    | non => exact .non
    | bl => exact .bl _
    | int => exact .int _
    | str => exact .str _
    | flt => exact .flt _
  | byt => exact .byt _
  | set e => exact .set (s _ _ e)
  | kList e c => exact .kList e c
  | kTuple e c => exact .kTuple e c
  | kDict e c => exact .kDict e c
  | fTuple e => exact .fTuple (s _ _ e)
  | fDict e => exact .fDict (s _ _ e)
theorem inG_same {K : PySem.W.Frag} {H H' : Hp} {G : Gr} {o : V} {b : Bool} (s : Same H H') (h : InG K H G o b) : InG K H' G o b := by
  rcases h with h | ⟨h, t, ty, k⟩
  · exact .inl h
  · exact .inr ⟨h, t, tyx_same s ty, k⟩
theorem sqL_sameP {K : PySem.W.Frag} {H H' : Hp} {q : Addr} {xs : List V} (s : Same H H') (h : SqL K H q xs) : SqL K H' q xs := sqL_sim (Sim.of s) h
section
variable {K : PySem.W.Frag} {a : Addr} {xs ys : List V} {g : TG} {te : TE} {vs : List Nat} {σ : L2.St} {H1 : Hp} {D : Addr} {Qd : Hp → Prop}
/-- [.. for .. in a tuple], the values known -/
theorem lc_valsT {j : Nat} (hD : H1 D = none) (hq : SqT K H1 a xs) (few : xs.length < sizeLine) (hl : ys.length = xs.length) (hw : ∀ x, wipe ((wipe σ vs).set j (some x)) vs = wipe σ vs)
    (hs : ∀ (i : Nat) (x : V) (H' : Hp) (R : VK), xs[i]? = some x → Same H1 H' → (∀ y, ys[i]? = some y → R y H') → te ((wipe σ vs).set j (some x)) H' R) (hd : ∀ H', Same H1 H' → H' D = some (.lst ys) → Qd H') :
    ∃ W : Nat → Nat → Hp → Prop, (∃ m, W 0 m (upd H1 D (.lst []))) ∧ ∀ i m H, W i m H → ((Itt K a).stop i H ∧ Qd H) ∨ ((Itt K a).go i H ∧ ∃ Nx : Hp → Prop, (∀ H', Nx H' → ∃ m', m' < m ∧ W (i + 1) m' H') ∧ ∀ x H', (Itt K a).yld i H x H' → gName j x (wipe σ vs) H' fun σ2 H2 => wipe σ2 vs = wipe σ vs ∧ tYes σ2 H2 fun b H3 =>
        if b = true then te σ2 H3 fun y H4 => ∃ acc, H4 D = some (.lst acc) ∧ acc.length < sizeLine ∧ Nx (upd H4 D (.lst (acc ++ [y]))) else Nx H3) := by
  refine lc_tup (fun i H' => Same H1 H' ∧ H' D = some (.lst (ys.take i))) ⟨same_new hD, upd_same⟩ (fun i H' _ p => sqT_same p.1 hq) (fun i x H' hx p => ⟨hw x, yes_if ?_⟩) fun H' p => ?_
  · have il := (List.getElem?_eq_some_iff.mp hx).1
    refine hs i x H' _ hx p.1 fun y hy => ⟨_, p.2, ?_, same_upd' p.1 hD, ?_⟩
    · rw [List.length_take]
      omega
    · rw [upd_same, List.take_add_one, hy]
      rfl
  · obtain ⟨sm, e⟩ := p
    rw [← hl, List.take_length] at e
    exact hd H' sm e
/-- [.. for .. in a list], the values known -/
theorem lc_valsL {j : Nat} (hD : H1 D = none) (hq : SqL K H1 a xs) (few : xs.length < sizeLine) (hl : ys.length = xs.length) (hw : ∀ x, wipe ((wipe σ vs).set j (some x)) vs = wipe σ vs)
    (hs : ∀ (i : Nat) (x : V) (H' : Hp) (R : VK), xs[i]? = some x → Same H1 H' → (∀ y, ys[i]? = some y → R y H') → te ((wipe σ vs).set j (some x)) H' R) (hd : ∀ H', Same H1 H' → H' D = some (.lst ys) → Qd H') :
    ∃ W : Nat → Nat → Hp → Prop, (∃ m, W 0 m (upd H1 D (.lst []))) ∧ ∀ i m H, W i m H → ((Itl K a).stop i H ∧ Qd H) ∨ ((Itl K a).go i H ∧ ∃ Nx : Hp → Prop, (∀ H', Nx H' → ∃ m', m' < m ∧ W (i + 1) m' H') ∧ ∀ x H', (Itl K a).yld i H x H' → gName j x (wipe σ vs) H' fun σ2 H2 => wipe σ2 vs = wipe σ vs ∧ tYes σ2 H2 fun b H3 =>
        if b = true then te σ2 H3 fun y H4 => ∃ acc, H4 D = some (.lst acc) ∧ acc.length < sizeLine ∧ Nx (upd H4 D (.lst (acc ++ [y]))) else Nx H3) := by
  refine lc_list (fun i H' => Same H1 H' ∧ H' D = some (.lst (ys.take i))) ⟨same_new hD, upd_same⟩ (fun i H' _ p => sqL_sameP p.1 hq) (fun i x H' hx p => ⟨hw x, yes_if ?_⟩) fun H' p => ?_
  · have il := (List.getElem?_eq_some_iff.mp hx).1
    refine hs i x H' _ hx p.1 fun y hy => ⟨_, p.2, ?_, same_upd' p.1 hD, ?_⟩
    · rw [List.length_take]
      omega
    · rw [upd_same, List.take_add_one, hy]
      rfl
  · obtain ⟨sm, e⟩ := p
    rw [← hl, List.take_length] at e
    exact hd H' sm e
end
end Qp

/-! what is told of a graph: the comprehensions, the data that they give -/
namespace Qp
open PySem PySem.Spec PyProof.Rows L2 QN
theorem name_ix {K : PySem.W.Frag} {H : Hp} {u : V} {r : Row} {Q : VK} (h : PlRow K H u r) (k : Q (.str r.n) H) : rIxT K u (.int 0) H Q := by
  obtain ⟨ra, rc, ws, rfl, h1, _, _⟩ := h
  exact ⟨ra, _, _, _, rfl, rfl, h1, rfl, k⟩
theorem dpAll_pair {K : PySem.W.Frag} {H : Hp} {α : Type} {F : V → α → Prop} {f : α → PyData} : ∀ {us : List V} {rs : List α}, Paired F us rs → (∀ u r, F u r → Dp K H u (f r)) → DpAll K H us (rs.map f)
  | _, _, .nil, _ => .nil
  | _, _, .cons h t, k => .cons (k _ _ h) (dpAll_pair t k)
section
variable {K : PySem.W.Frag} {C : Addr} {H : Hp} {Q : VK} {v0 v2 v3 v4 v5 v6 : Option V} {pl a b v g : Addr} {us : List V} {G : Gr}
/-- [row[0] for row in plain[2]] -/
theorem told_names (hp : PlainG K H pl a b v us G) (ok : G.Ok) (k : ∀ (D : Addr) (H' : Hp), Same H H' → H' D = some (.lst ((G.rs.map (·.n)).map V.str)) → Q (.ref D) H') :
    tLc (iTup K (tOp (rIxT K) (tVar 1) (tC (.int 2)))) (gName 5) tYes (tOp (rIxT K) (tVar 5) (tC (.int 0))) [5] [v0, some (.ref pl), v2, v3, v4, v5, v6] H Q := by
  have rl := hp.hu.length
  have r16 := ok.rl
  refine ⟨_, rfl, pl, _, _, _, rfl, rfl, hp.hp, rfl, v, rfl, ⟨_, hp.hv⟩, fun D hD => lc_valsT (ys := (G.rs.map (·.n)).map V.str) hD hp.hv (by rw [sizeLine_eq]; omega) (by rw [List.length_map, List.length_map]; exact rl.symm) (fun _ => rfl) (fun i x H' R hx sm kR => ?_) fun H' sm e => k D H' sm e⟩
  have il := (List.getElem?_eq_some_iff.mp hx).1
  have hrow : G.rs[i]? = some (G.rs[i]'(by omega)) := List.getElem?_eq_getElem _
  generalize G.rs[i]'(by omega) = row at hrow
  refine ⟨_, rfl, name_ix (plRow_sim (Sim.of sm) (paired_at hp.hu hx hrow)) (kR _ ?_)⟩
  rw [List.getElem?_map, List.getElem?_map, hrow]
  rfl
/-- [row for row in thing] -/
theorem told_rows (hg : GraphAt K C H g G) (ok : G.Ok) {v1 : Option V} (k : ∀ (D : Addr) (ws : List V) (H' : Hp), Same H H' → H' D = some (.lst ws) → DpAll K H' ws (G.rs.map rowD) → Q (.ref D) H') :
    tLc (iOwnT K C (tVar 0) (itsGraph K C)) (gName 5) tYes (tVar 5) [5] [some (.ref g), v1, v2, v3, v4, v5, v6] H Q := by
  have hg0 := hg
  obtain ⟨dx, c, st, r, n, b, kk, ws, h1, h2⟩ := hg
  have rl := h2.hp.length
  have r16 := ok.rl
  refine ⟨_, rfl, g, rfl, oat_graph hg0, r, ⟨G, dx, c, st, n, b, kk, ws, h1, h2.hr, h2.hp, hg0⟩, fun H2 s2 => fun D hD => ?_⟩
  have sm2 : Same H H2 := s2
  refine lc_valsT (ys := ws) hD (sqT_same sm2 h2.hr) (by rw [sizeLine_eq]; omega) rfl (fun _ => rfl) (fun i x H' R hx sm kR => ⟨_, rfl, kR _ hx⟩) fun H' sm e => k D ws H' (sm2.trans sm) e (dpAll_same (sm2.trans sm) _ _ h2.hu)
/-- [thing[row[0]] for row in plain[2]] -/
theorem told_got (hp : PlainG K H pl a b v us G) (hg : GraphAt K C H g G) (ok : G.Ok) (k : ∀ (D : Addr) (ws : List V) (H' : Hp), Same H H' → H' D = some (.lst ws) → DpAll K H' ws (G.rs.map rowD) → Q (.ref D) H') :
    tLc (iTup K (tOp (rIxT K) (tVar 1) (tC (.int 2)))) (gName 5) tYes (tItemO C (spGGet K C) L2.E0 (tVar 0) (tOp (rIxT K) (tVar 5) (tC (.int 0)))) [5] [some (.ref g), some (.ref pl), v2, v3, v4, v5, v6] H Q := by
  have rl := hp.hu.length
  have r16 := ok.rl
  refine ⟨_, rfl, pl, _, _, _, rfl, rfl, hp.hp, rfl, v, rfl, ⟨_, hp.hv⟩, fun D hD => lc_tup (xs := us) (fun i H' => Same H H' ∧ ∃ ws, H' D = some (.lst ws) ∧ ws.length = i ∧ Paired (PlRow K H') ws (G.rs.take i)) ⟨same_new hD, [], upd_same, rfl, .nil⟩ (fun i H' _ p => sqT_same p.1 hp.hv) (fun i x H' hx p => ⟨rfl, yes_if ?_⟩) fun H' p => ?_⟩
  · obtain ⟨sm, ws, hD', wl, hd⟩ := p
    have il := (List.getElem?_eq_some_iff.mp hx).1
    have hrow : G.rs[i]? = some (G.rs[i]'(by omega)) := List.getElem?_eq_getElem _
    generalize G.rs[i]'(by omega) = row at hrow
    have hg' := graphAt_same sm hg
    obtain ⟨ra, rc, xs, rfl, h1, _, _⟩ := plRow_sim (Sim.of sm) (paired_at hp.hu hx hrow)
    refine ⟨_, rfl, _, rfl, ra, _, _, _, rfl, rfl, h1, rfl, g, rfl, oat_graph hg', g, G, row, rfl, hg', ok.ra, List.mem_of_getElem? hrow, fun u hu => ?_⟩
    refine ⟨ws, hD', by rw [wl, sizeLine_eq]; omega, same_upd' sm hD, ws ++ [u], upd_same, by rw [List.length_append, List.length_singleton, wl], ?_⟩
    have sx : SimX D H' (upd H' D (.lst (ws ++ [u]))) := simX_upd
    rw [List.take_add_one, hrow]
    exact plAll_simL sx hD' (paired_append hd hu)
  · obtain ⟨sm, ws, hD', wl, hd⟩ := p
    rw [rl, List.take_length] at hd
    exact k D ws H' sm hD' (plAll_dp hd)
def pairR (r : Row) : PyData := .tuple [rowD r, rowD r]
/-- [(row, row) for row in plain[2]] -/
theorem told_twice (hp : PlainG K H pl a b v us G) (ok : G.Ok) (k : ∀ (D : Addr) (ws : List V) (H' : Hp), Same H H' → H' D = some (.lst ws) → DpAll K H' ws (G.rs.map pairR) → Q (.ref D) H') :
    tLc (iTup K (tOp (rIxT K) (tVar 1) (tC (.int 2)))) (gName 5) tYes (tTup (tCons (tVar 5) (tCons (tVar 5) tNil))) [5] [v0, some (.ref pl), v2, v3, v4, v5, v6] H Q := by
  have rl := hp.hu.length
  have r16 := ok.rl
  refine ⟨_, rfl, pl, _, _, _, rfl, rfl, hp.hp, rfl, v, rfl, ⟨_, hp.hv⟩, fun D hD => lc_tup (xs := us) (fun i H' => Same H H' ∧ ∃ ws, H' D = some (.lst ws) ∧ ws.length = i ∧ Paired (fun u r => ∃ T x, u = V.ref T ∧ H' T = some (.tup [x, x]) ∧ PlRow K H x r) ws (G.rs.take i)) ⟨same_new hD, [], upd_same, rfl, .nil⟩ (fun i H' _ p => sqT_same p.1 hp.hv) (fun i x H' hx p => ⟨rfl, yes_if ?_⟩) fun H' p => ?_⟩
  · obtain ⟨sm, ws, hD', wl, hd⟩ := p
    have il := (List.getElem?_eq_some_iff.mp hx).1
    have hrow : G.rs[i]? = some (G.rs[i]'(by omega)) := List.getElem?_eq_getElem _
    generalize G.rs[i]'(by omega) = row at hrow
    have px := paired_at hp.hu hx hrow
    refine ⟨_, rfl, _, rfl, (by show 2 ≤ sizeLine; decide), fun T hT => ?_⟩
    have sT := same_new (o := .tup [x, x]) hT
    refine ⟨ws, sT _ _ hD', by rw [wl, sizeLine_eq]; omega, same_upd' (sm.trans sT) hD, ws ++ [.ref T], upd_same, by rw [List.length_append, List.length_singleton, wl], ?_⟩
    have keep : ∀ (q : Addr) (z : List V), (upd H' T (.tup [x, x])) q = some (.tup z) → (upd (upd H' T (.tup [x, x])) D (.lst (ws ++ [.ref T]))) q = some (.tup z) := fun q z e => by
      rw [upd_ne (fun z' => by rw [z', sT _ _ hD'] at e; cases e)]
      exact e
    rw [List.take_add_one, hrow]
    refine paired_append (Paired.mapP hd fun u r ⟨T', y, e1, e2, e3⟩ => ⟨T', y, e1, keep _ _ (sT _ _ e2), e3⟩) ⟨T, x, rfl, keep _ _ upd_same, px⟩
  · obtain ⟨sm, ws, hD', wl, hd⟩ := p
    rw [rl, List.take_length] at hd
    refine k D ws H' sm hD' (dpAll_pair hd fun u r ⟨T', y, e1, e2, e3⟩ => ?_)
    subst e1
    have d := plRow_dp (plRow_sim (Sim.of sm) e3)
    exact .tup (.inl (.inl e2)) (.cons d (.cons d .nil))
end
end Qp

/-! repr of plain values of any kind, where no repr is under way -/
namespace QN
open PySem PySem.Spec PyProof.Rows L2
/-- what repr says of a value -/
inductive Shown (K : PySem.W.Frag) (H : Hp) : V → Str → Prop where
  | int (i : Int) (h : i.natAbs.log2 < 1920) : Shown K H (.int i) (Str.ofString (toString i))
  | bl (b : Bool) : Shown K H (.bl b) (if b then "True" else "False")
  | non : Shown K H .non "None"
  | str (x : Str) (h : (reprText x).length ≤ sizeLine) : Shown K H (.str x) (reprText x)
  | dat {a : Addr} {d : PyData} (h : Dp K H (.ref a) d) (sh : d.showable = true) (nd : d.hasDict = false) (dp : d.depth + 1 ≤ 64) (ln : d.shown.length ≤ sizeLine) : Shown K H (.ref a) d.shown
  | dic {a : Addr} (h : H a = some (.dK [])) : Shown K H (.ref a) (PyData.dict []).shown
section
variable {X : Cx}
theorem reads_nodict {pins : List (Addr × Obj)} {σ : L2.St} {H : Hp} {s : Shared} {a : Addr} (I : Inv X pins σ H s) (h : H a = some (.dK [])) : Reads s.heap (.ref a) (.dict []) [a] ∧ a ≠ sysModules := by
  obtain ⟨z, hs, vs, kv, o, es, ep, ho, hx, hdt, r⟩ := I.hok a _ h
  have l2 : 0 = vs.length := Paired.length kv
  have l1 := r.2.1.length
  have e : es.toList = [] := by
    refine List.length_eq_zero_iff.mp ?_
    exact (l1.trans l2.symm)
  have q : Reads s.heap (.ref a) (.dict []) (a :: [] ++ []) := Reads.dict ho hx.1 hdt (by rw [e]; exact ReadsAll.nil) (by rw [e]; exact ReadsAll.nil)
  exact ⟨q, fun c => by rw [c] at hs; simp at hs⟩
/-- repr(v) -/
theorem call_reprV (hgd : X.A.guards = some []) (hu : X.A.units + 80 < cLine) : CallR X (.builtin "repr") (fun xs H Q => ∃ (v : V) (z : Str), xs = [v] ∧ Shown X.K H v z ∧ Q (.str z) H) := by
  intro pins s σ H xs us Q I r h
  obtain ⟨v, z, rfl, sh, q⟩ := h
  obtain ⟨u, rfl, ru⟩ := vals1 r
  cases sh with
  | int i hi =>
    obtain ⟨t, rfl⟩ := (show ∃ t, u = Value.int i t from ru)
    exact PySem.P.repr_of_int hi ⟨.str _, H, I.tok _, ⟨_, rfl⟩, q⟩
  | bl b =>
    obtain rfl : u = Value.bool b := ru
    exact PySem.P.repr_of_bool ⟨.str _, H, I.tok _, ⟨_, rfl⟩, q⟩
  | non =>
    obtain rfl : u = Value.none := ru
    exact PySem.P.repr_of_none ⟨.str _, H, I.tok _, ⟨_, rfl⟩, q⟩
  | str x hx =>
    obtain ⟨t, rfl⟩ := (show ∃ t, u = Value.str x t from ru)
    exact PySem.P.repr_of_str ⟨.str _, H, I.tok _, ⟨_, rfl⟩, q⟩ hx
  | dat hd hs hn hdp hz =>
    obtain rfl : u = Value.ref _ := ru
    obtain ⟨as, rd⟩ := Dp.reads I _ _ _ hd rfl
    refine repr_of_reads' rd hs (fun z => by rw [hn] at z; cases z) hgd (by omega) (fun _ _ e => e) (fun h' tk t' k => ⟨.str _, H, ?_, ⟨_, rfl⟩, q⟩) hz
    exact I.kept k
  | dic hd =>
    obtain rfl : u = Value.ref _ := ru
    obtain ⟨rd, ns⟩ := reads_nodict I hd
    refine repr_of_reads' rd (by decide) (fun _ z => ns (List.mem_singleton.mp z).symm) hgd ?_ (fun _ _ e => e) (fun h' tk t' k => ⟨.str _, H, ?_, ⟨_, rfl⟩, q⟩) (by decide +kernel)
    · have : (PyData.dict []).depth ≤ 60 := by decide
      omega
    · exact I.kept k
end
end QN

/-! questions opened one construct at a time -/
namespace QN
open PySem PySem.Spec PyProof.Rows L2
section
variable {σ : L2.St} {H : Hp} {D : Ends} {t u : TS} {te ta tb : TE} {tl tr : TA} {g : TG} {r : R2} {rc : List V → Hp → VK → Prop} {K : PySem.W.Frag} {T : String} {rm : V → List V → Hp → VK → Prop} {Q : VK} {QA : List V → Hp → Prop} {sp : Sp} {dvs : List V} {E : XK}
theorem q_seq (h : t { D with nx := u D } σ H) : tSeq t u D σ H := h
theorem q_asg (h : te σ H fun x H1 => g x σ H1 D.nx) : tAsg te g D σ H := h
theorem q_drop (h : te σ H fun _ H1 => D.nx σ H1) : tDrop te D σ H := h
theorem q_ret (h : te σ H D.rt) : tRet te D σ H := h
theorem q_lst (h : tl σ H fun xs H1 => xs.length ≤ sizeLine ∧ ∀ p, H1 p = none → Q (.ref p) (upd H1 p (.lst xs))) : tLst tl σ H Q := h
theorem q_tup (h : tl σ H fun xs H1 => xs.length ≤ sizeLine ∧ ∀ p, H1 p = none → Q (.ref p) (upd H1 p (.tup xs))) : tTup tl σ H Q := h
theorem q_cons (h : ta σ H fun x H1 => tr σ H1 fun xs H2 => QA (x :: xs) H2) : tCons ta tr σ H QA := h
theorem q_nil (h : QA [] H) : tNil σ H QA := h
theorem q_op (h : ta σ H fun x H1 => tb σ H1 fun y H2 => r x y H2 Q) : tOp r ta tb σ H Q := h
theorem q_cb (h : tl σ H fun vs H1 => rc vs H1 Q) : tCB rc tl σ H Q := h
theorem q_call (h : tl σ H fun vs H1 => sp (vs ++ dvs) H1 Q E) : tCall sp dvs E tl σ H Q := h
theorem q_bm (h : te σ H fun x H1 => tyV K T x H1 ∧ tl σ H1 fun xs H2 => rm x xs H2 Q) : tBM K T rm te tl σ H Q := h
end
section
variable {σ : L2.St} {H : Hp} {D : Ends} {t u : TS} {c d : TT} {te : TE} {QT : Bool → Hp → Prop}
theorem q_np {QO : Option Int → Hp → Prop} (h : QO none H) : tNoPart σ H QO := h
theorem q_ifs (h : c σ H fun b H1 => if b = true then t D σ H1 else u D σ H1) : tIfS c t u D σ H := h
theorem q_or (h : c σ H fun b H1 => if b = true then QT true H1 else d σ H1 QT) : tOr c d σ H QT := h
theorem q_and (h : c σ H fun b H1 => if b = true then d σ H1 QT else QT false H1) : tAnd c d σ H QT := h
theorem q_not (h : c σ H fun b H1 => QT (!b) H1) : tNot c σ H QT := h
theorem q_tb (h : te σ H fun x H1 => ∃ b, x = .bl b ∧ QT b H1) : tB te σ H QT := h
theorem q_test (h : te σ H fun x H1 => ∃ k, x = .bl k ∧ QT k H1) : tTest te σ H QT := h
end
end QN

/-! whether a graph tells what a plain one has -/
namespace Qp
open PySem PySem.Spec PyProof.Rows L2 QN
abbrev sLTold : Stmt := top 39 -- _law_told_right
abbrev ltrN : List Str := ["_law_thing", "_law_plain", "_law_outside", "_law_inside", "_law_sizes", "_law_row", "_law_value"]
theorem scLTold : FnScope ltrN ["_law_thing", "_law_plain"] (defScope sLTold) := ⟨rfl, rfl, rfl, by decide +kernel, rfl, by decide +kernel, by decide +kernel⟩
def spLTold (K : PySem.W.Frag) (C : Addr) : Sp := fun vs H Q _ => ∃ (g pl a b v : Addr) (us : List V) (G : Gr), vs = [.ref g, .ref pl] ∧ PlainG K H pl a b v us G ∧ LawD G ∧ GraphAt K C H g G ∧ ∀ H', Same H H' → Q (.bl true) H'
theorem shapedL_rows {rs : List Row} (ok : ∀ r ∈ rs, RowOk r) : SeqAt.shaped (.list (rs.map rowD)) = true := shaped_rows ok
theorem lay_pairR : ∀ {rs : List Row}, (∀ r ∈ rs, RowOk r) → PyData.canLayAll0 (rs.map pairR) = true
  | [], _ => rfl
  | r :: rs, h => by
    show ((PyData.canLay0 (rowD r) && (PyData.canLay0 (rowD r) && true)) && PyData.canLayAll0 (rs.map pairR)) = true
    rw [lay_row (h r List.mem_cons_self), lay_pairR fun y hy => h y (List.mem_cons_of_mem _ hy)]
    rfl
theorem depth_pairR : ∀ rs : List Row, PyData.depthAll (rs.map pairR) ≤ 12
  | [] => by simp [PyData.depthAll]
  | r :: rs => by
    have h := depth_pairR rs
    have h2 := depth_row r
    show PyData.depthAll (pairR r :: rs.map pairR) ≤ 12
    simp only [PyData.depthAll, pairR, PyData.depth]
    omega
theorem shaped_pairR {rs : List Row} (ok : ∀ r ∈ rs, RowOk r) : SeqAt.shaped (.list (rs.map pairR)) = true := by
  show (PyData.canLayAll0 (rs.map pairR) && decide (PyData.depthAll (rs.map pairR) + 1 ≤ 64)) = true
  have h := depth_pairR rs
  rw [lay_pairR ok, decide_eq_true (by omega)]
  rfl
theorem lay_bls : ∀ bs : List Bool, PyData.canLayAll0 (bs.map PyData.bool) = true
  | [] => rfl
  | b :: bs => lay_bls bs
theorem depth_bls : ∀ bs : List Bool, PyData.depthAll (bs.map PyData.bool) = 0
  | [] => by simp [PyData.depthAll]
  | b :: bs => by
    show PyData.depthAll (.bool b :: bs.map PyData.bool) = 0
    simp [PyData.depthAll, PyData.depth, depth_bls bs]
theorem shaped_bls (bs : List Bool) : SeqAt.shaped (.list (bs.map PyData.bool)) = true := by
  show (PyData.canLayAll0 (bs.map PyData.bool) && decide (PyData.depthAll (bs.map PyData.bool) + 1 ≤ 64)) = true
  rw [lay_bls, depth_bls]
  rfl
theorem bls_dp {K : PySem.W.Frag} {H : Hp} : ∀ bs : List Bool, DpAll K H (bs.map V.bl) (bs.map PyData.bool)
  | [] => .nil
  | b :: bs => .cons (.bl b) (bls_dp bs)
theorem shows_names {G : Gr} (ok : G.Ok) : (PyData.tuple ((G.rs.map (·.n)).map PyData.str)).showable = true ∧ (PyData.tuple ((G.rs.map (·.n)).map PyData.str)).hasDict = false ∧ (PyData.tuple ((G.rs.map (·.n)).map PyData.str)).depth + 1 ≤ 64 ∧ (PyData.tuple ((G.rs.map (·.n)).map PyData.str)).shown.length ≤ sizeLine := by
  have hn : ∀ x ∈ G.rs.map (·.n), NameOk x := fun x hx => by
    obtain ⟨r, hr, rfl⟩ := List.mem_map.mp hx
    exact (ok.ro r hr).n
  obtain ⟨a, b, c, d⟩ := nice_names hn
  have dp := depth_strs (G.rs.map (·.n))
  have rl := ok.rl
  rw [List.length_map] at d
  refine ⟨b, c, by show PyData.depthAll ((G.rs.map (·.n)).map PyData.str) + 1 + 1 ≤ 64; omega, PyData.shown_fits (B := 13) (by decide) (by decide) a ?_⟩
  show PyData.weightAll ((G.rs.map (·.n)).map PyData.str) ≤ 2 ^ 20
  have e : (2 : Nat) ^ 20 = 1048576 := by decide
  omega
/-- the values that are no names of rows -/
def outsV (u0 u1 u2 u3 u5 u7 : Addr) (big : Int) : List V := [.non, .int 7, .ref u0, .ref u1, .str "none", .ref u2, .ref u3, .ref u5, .ref u7, .int big]
theorem paired_rep {α β : Type} {F : α → β → Prop} {y : β} : ∀ {xs : List α}, (∀ x ∈ xs, F x y) → Paired F xs (List.replicate xs.length y)
  | [], _ => .nil
  | x :: xs, h => .cons (h x List.mem_cons_self) (paired_rep fun z hz => h z (List.mem_cons_of_mem _ hz))
theorem paired_app {α β : Type} {F : α → β → Prop} : ∀ {xs xs' : List α} {ys ys' : List β}, Paired F xs ys → Paired F xs' ys' → Paired F (xs ++ xs') (ys ++ ys')
  | _, _, _, _, .nil, h => h
  | _, _, _, _, .cons r t, h => .cons r (paired_app t h)
theorem none_word : ("none" : Str) ∉ words16 := by decide +kernel
theorem inG_out {K : PySem.W.Frag} {H : Hp} {G : Gr} (L : LawD G) {u0 u1 u2 u3 u5 u7 : Addr} {big : Int} {x4 x6 : V} (f0 : H u0 = some (.tup [])) (f1 : H u1 = some (.lst [])) (f2 : H u2 = some (.tup [.str "a"])) (f3 : H u3 = some (.dK [])) (f5 : H u5 = some (.tup [x4])) (f7 : H u7 = some (.tup [x6])) :
    ∀ o ∈ G.cs.map V.str ++ outsV u0 u1 u2 u3 u5 u7 big, InG K H G o false := by
  have other : ∀ {o : V} {t : String}, TyX K H o (.type t) → kitB t "str" = some false → InG K H G o false := fun ty e => .inr ⟨rfl, _, ty, kit_ty e⟩
  have text : ∀ {x : Str}, x ∉ words16 → InG K H G (.str x) false := fun {x} n => .inl ⟨x, rfl, (decide_eq_false fun m => by
    obtain ⟨r, hr, e⟩ := List.mem_map.mp m
    exact n (by rw [← e]; exact L.wm r hr)).symm⟩
  intro o ho
  rcases List.mem_append.mp ho with h | h
  · obtain ⟨c, hc, rfl⟩ := List.mem_map.mp h
    exact text fun m => apart c (L.cm c hc) c m rfl
  · unfold outsV at h
    simp only [List.mem_cons, List.not_mem_nil, or_false] at h
    rcases h with rfl | rfl | rfl | rfl | rfl | rfl | rfl | rfl | rfl | rfl
    · exact other (.base .non) (by decide +kernel)
    · exact other (.base (.int 7)) (by decide +kernel)
    · exact other (.base (.tup f0)) (by decide +kernel)
    · exact other (.base (.lst f1)) (by decide +kernel)
    · exact text none_word
    · exact other (.base (.tup f2)) (by decide +kernel)
    · exact other (.base (.dK f3)) (by decide +kernel)
    · exact other (.base (.tup f5)) (by decide +kernel)
    · exact other (.base (.tup f7)) (by decide +kernel)
    · exact other (.base (.int big)) (by decide +kernel)
theorem flat_one {α : Type} (x : α) : ∀ n : Nat, (List.replicate n [x]).flatten = List.replicate n x
  | 0 => rfl
  | n + 1 => by
    rw [List.replicate_succ, List.flatten_cons, flat_one x n, List.replicate_succ]
    rfl
theorem map_bls (n m : Nat) : (List.replicate n true ++ List.replicate m false).map V.bl = List.replicate n (V.bl true) ++ List.replicate m (V.bl false) := by
  rw [List.map_append, List.map_replicate, List.map_replicate]
theorem zp_dp {K : PySem.W.Frag} {H : Hp} : ∀ {as : List Addr} {ws : List V} {rs : List Row}, as.length = ws.length → Paired (PlRow K H) ws rs → (∀ (j : Nat) (b : Addr) (x : V), as[j]? = some b → ws[j]? = some x → H b = some (.tup [x, x])) → DpAll K H (as.map V.ref) (rs.map pairR)
  | [], [], _, _, .nil, _ => .nil
  | [], _ :: _, _, h, _, _ => by cases h
  | _ :: _, [], _, h, _, _ => by cases h
  | a :: as, x :: ws, _, h, .cons r t, k => by
    have d := plRow_dp r
    exact .cons (.tup (.inl (.inl (k 0 a x rfl rfl))) (.cons d (.cons d .nil))) (zp_dp (Nat.succ.inj h) t fun j b y h1 h2 => k (j + 1) b y (by simpa using h1) (by simpa using h2))
theorem cat_assoc (a b c : Str) : a ++ b ++ c = a ++ (b ++ c) := by
  show (⟨a.cps ++ b.cps ++ c.cps⟩ : Str) = ⟨a.cps ++ (b.cps ++ c.cps)⟩
  rw [Array.append_assoc]
theorem cat_empty (a : Str) : (("" : Str)) ++ a = a := by
  show (⟨(Str.ofString "").cps ++ a.cps⟩ : Str) = a
  have e : (Str.ofString "").cps = #[] := by decide +kernel
  rw [e, Array.empty_append]
theorem gText_eq (G : Gr) : gText G = ("graph of " : Str) ++ (Str.ofString (toString ((G.ns.length : Nat) : Int)) ++ (" states, " : Str) ++ Str.ofString (toString ((G.cs.length : Nat) : Int)) ++ (" counters, " : Str)) ++ Str.ofString (toString ((G.rs.length : Nat) : Int)) ++ (" transitions" : Str) := by
  unfold gText
  rw [cat_empty]
  simp only [cat_assoc]
section
variable {P : Program} {w : World} {K : PySem.W.Frag} {mg : Str → Option Value} {base : Heap}
theorem ok_ltold {f C pC fC pS fS pN fN pT fT fI fG fL fH fB fX : Addr} {fd fdC fdS fdN fdT fdI : FuncData} (F : Fun K "_law_told_right" "_law_told_right" sLTold f fd) (T : GraphC K mg C)
    (PC : PropOf K C "counters" pC fC) (GC : FnOk P w K mg base CX0 1 fC fdC ["self"] (spGCtrs K C)) (bC : L2.Binds K fdC ["self"] []) (PS : PropOf K C "states" pS fS) (GS : FnOk P w K mg base CX0 1 fS fdS ["self"] (spGSts K C)) (bS : L2.Binds K fdS ["self"] [])
    (PN : PropOf K C "names" pN fN) (GN : FnOk P w K mg base CX0 1 fN fdN ["self"] (spGNames K C)) (bN : L2.Binds K fdN ["self"] []) (PT : PropOf K C "transitions" pT fT) (GT : FnOk P w K mg base CX0 1 fT fdT ["self"] (spGTrans K C)) (bT : L2.Binds K fdT ["self"] [])
    (MI : OMeth K C "__iter__" fI) (GI : FnN P w K mg base 1 fI fdI ["self"] (spIterT (itsGraph K C))) (bI : L2.Binds K fdI ["self"] []) (MG : OMeth K C "__getitem__" fG) (fiG : PySem.W.fnIn K fG = true) (GG : FnR P w K mg base CX0 2 fG (spGGet K C))
    (ML : OMeth K C "__len__" fL) (GL : FnR P w K mg base CX0 1 fL (spGLen K C)) (MC : OMeth K C "__contains__" fH) (GCn : FnR P w K mg base CX0 1 fH (spGConV K C)) (MB : OMeth K C "__bool__" fB) (GB : FnR P w K mg base CX0 1 fB (spGBool K C)) (MS : OMeth K C "__str__" fX) (GSt : FnR P w K mg base CX0 1 fX (spGStr K C))
    (B : BltP mg) (B2 : Blt2 mg) (rp : mg "repr" = none) (zi : mg "zip" = none) : FnG P w K mg base 5 f fd ["_law_thing", "_law_plain"] (spLTold K C) := by
  refine Fun_okC F scLTold (fun vs H Q E h => ?_) (fun cdv A outer s H vs Q E hcd hr hng h => ?_)
  · obtain ⟨g, pl, a, b, v, us, G, rfl, _⟩ := h
    rfl
  · obtain ⟨g, pl, a, b, v, us, G, rfl, hp, L, hg, k⟩ := h
    have hng' : NoRepr (A.deeper (envOfC "_law_told_right" (defScope sLTold) s.heap.objs.size f cdv)) := noRepr_deeper hng
    have hu80 : (A.deeper (envOfC "_law_told_right" (defScope sLTold) s.heap.objs.size f cdv)).units + 80 < cLine := by
      have := hr.un
      omega
    have hu64 : (A.deeper (envOfC "_law_told_right" (defScope sLTold) s.heap.objs.size f cdv)).units + 64 < cLine := by
      have := hr.un
      omega
    have r3 := hr.mono (by decide : 2 + 1 ≤ 4)
    have r2 := hr.mono (by decide : 1 + 1 ≤ 4)
    have r1 := hr.mono (by decide : 1 ≤ 4)
    refine ⟨_, pss_cons (ps_if (pt_cmpR op_ne (pe_callB (call_reprV hng' hu80) (by rfl) rp (by decide +kernel) (pa_cons (pe_lst (pa_cons (pe_prop (pv 0) T.cls PC GC r2 bC .nil pass0 rfl) (pa_cons (pe_prop (pv 0) T.cls PS GS r2 bS .nil pass0 rfl) (pa_cons (pe_prop (pv 0) T.cls PT GT r2 bT .nil pass0 rfl) pa_nil)))) pa_nil)) (pe_callB (call_reprV hng' hu80) (by rfl) rp (by decide +kernel) (pa_cons (pe_lst (pa_cons (pe_ix ix_tup (pv 1) pe_int (fun _ _ => rfl)) (pa_cons (pe_ix ix_tup (pv 1) pe_int (fun _ _ => rfl)) (pa_cons (pe_ix ix_tup (pv 1) pe_int (fun _ _ => rfl)) pa_nil)))) pa_nil)) (nomark _)) (pss_one (ps_ret pe_bl)) pss_nil)
      (pss_cons (ps_if (PW.pt (pw_or (pt_cmpR op_ne (pe_callB (call_reprV hng' hu80) (by rfl) rp (by decide +kernel) (pa_cons (pe_prop (pv 0) T.cls PN GN r2 bN .nil pass0 rfl) pa_nil)) (pe_callB (call_reprV hng' hu80) (by rfl) rp (by decide +kernel) (pa_cons (pe_callTy call_tuple_of (by rfl) B.tuple (by decide +kernel) (pa_cons (pe_lc (own := [("_law_row", 5)]) (g := gName 5) (tt := tYes) (te := tOp (rIxT K) (tVar 5) (tC (.int 0))) rfl scLTold.nd (pi_tup (pe_ix ix_tup (pv 1) pe_int (fun _ _ => rfl))) (blkOk_by (N := ltrN) (sc := defScope sLTold) (by decide +kernel)) (fun _ _ _ _ _ => pg_name (i := 5) scLTold.nd rfl (.inl rfl)) (fun _ _ _ _ _ => pts_nil) (fun _ _ _ _ _ => (pe_ix ix_tup (pv 5) pe_int (fun _ _ => rfl)))) pa_nil)) pa_nil)) (nomark _)) (pw_or1 (pt_cmpR (op_neD hu64) (pe_lc (own := [("_law_row", 5)]) (g := gName 5) (tt := tYes) (te := tVar 5) rfl scLTold.nd (pi_ownT MI GI bI r1 (pv 0)) (blkOk_by (N := ltrN) (sc := defScope sLTold) (by decide +kernel)) (fun _ _ _ _ _ => pg_name (i := 5) scLTold.nd rfl (.inl rfl)) (fun _ _ _ _ _ => pts_nil) (fun _ _ _ _ _ => pv 5)) (pe_callTy call_list_of (by rfl) B2.li (by decide +kernel) (pa_cons (pe_ix ix_tup (pv 1) pe_int (fun _ _ => rfl)) pa_nil)) (nomark _))))) (pss_one (ps_ret pe_bl)) pss_nil)
      (pss_cons (ps_if (PW.pt (pw_or (pt_cmpR (op_neD hu64) (pe_lc (own := [("_law_row", 5)]) (g := gName 5) (tt := tYes) (te := tItemO C (spGGet K C) L2.E0 (tVar 0) (tOp (rIxT K) (tVar 5) (tC (.int 0)))) rfl scLTold.nd (pi_tup (pe_ix ix_tup (pv 1) pe_int (fun _ _ => rfl))) (blkOk_by (N := ltrN) (sc := defScope sLTold) (by decide +kernel)) (fun _ _ _ _ _ => pg_name (i := 5) scLTold.nd rfl (.inl rfl)) (fun _ _ _ _ _ => pts_nil) (fun _ _ _ _ _ => pe_itemO MG fiG GG r3 pass0 (pv 0) (pe_ix ix_tup (pv 5) pe_int (fun _ _ => rfl)) (fun _ _ => rfl))) (pe_callTy call_list_of (by rfl) B2.li (by decide +kernel) (pa_cons (pe_ix ix_tup (pv 1) pe_int (fun _ _ => rfl)) pa_nil)) (nomark _)) (pw_or1 (pt_cmpR op_ne (pe_callB (call_lenO ML GL r2 pass0) (by rfl) B.len PySem.boot_len (pa_cons (pv 0) pa_nil)) (pe_callB (r := rLenM K) call_len_seq (by rfl) B.len PySem.boot_len (pa_cons (pe_ix ix_tup (pv 1) pe_int (fun _ _ => rfl)) pa_nil)) (nomark _))))) (pss_one (ps_ret pe_bl)) pss_nil)
      (pss_cons (ps_set (i := 2) scLTold.nd rfl (.inl rfl) (pe_op op_cat (pe_callTy call_list_of (by rfl) B2.li (by decide +kernel) (pa_cons (pe_ix ix_tup (pv 1) pe_int (fun _ _ => rfl)) pa_nil)) (pe_lst (pa_cons pe_non (pa_cons pe_int (pa_cons (pe_tup pa_nil) (pa_cons (pe_lst pa_nil) (pa_cons pe_str (pa_cons (pe_tup (pa_cons pe_str pa_nil)) (pa_cons pe_dnewK (pa_cons (pe_tup (pa_cons (pe_lst (pa_cons pe_str pa_nil)) pa_nil)) (pa_cons (pe_tup (pa_cons pe_dnewK pa_nil)) (pa_cons (pe_op op_pow pe_int pe_int) pa_nil)))))))))))))
      (pss_cons (ps_setLc (i := 3) (own := [("_law_value", 6)]) (g := gName 6) (tt := tYes) (te := tOp (rInO C (spGConV K C) L2.E0 true) (tVar 6) (tVar 0)) rfl scLTold.nd rfl rfl (sw_true rfl rfl rfl (by decide +kernel)) (pi_list (pe_op op_cat (pe_callTy call_list_of (by rfl) B2.li (by decide +kernel) (pa_cons (pe_prop (pv 0) T.cls PN GN r2 bN .nil pass0 rfl) pa_nil)) (pv 2))) (blkOk_by (N := ltrN) (sc := defScope sLTold) (by decide +kernel)) (fun _ _ _ _ _ => pg_name (i := 6) scLTold.nd rfl (.inl rfl)) (fun _ _ _ _ _ => pts_nil) (fun _ _ _ _ _ => pe_cmpR (op_inO MC GCn r1 pass0) (pv 6) (pv 0) (by rfl)))
      (pss_cons (ps_if (PW.pt (pw_or (pt_cmpR (op_neD hu64) (pv 3) (pe_op op_cat (pe_op op_rep (pe_lst (pa_cons pe_bl pa_nil)) (pe_callB (r := rLenM K) call_len_seq (by rfl) B.len PySem.boot_len (pa_cons (pe_ix ix_tup (pv 1) pe_int (fun _ _ => rfl)) pa_nil))) (pe_op op_rep (pe_lst (pa_cons pe_bl pa_nil)) (pe_callB (r := rLenM K) call_len_seq (by rfl) B.len PySem.boot_len (pa_cons (pv 2) pa_nil)))) (nomark _)) (pw_or1 (pt_cmpR op_ne (pe_callTy (call_boolO MB GB r3 pass0) (by rfl) B.bool (by decide +kernel) (pa_cons (pv 0) pa_nil)) (pe_cmpR (op_neD hu64) (pe_ix ix_tup (pv 1) pe_int (fun _ _ => rfl)) (pe_tup pa_nil) (nomark _)) (nomark _))))) (pss_one (ps_ret pe_bl)) pss_nil)
      (pss_cons (ps_if (pt_cmpR (op_neD hu64) (pe_zipO rfl MI GI bI r3 (by rfl) B2.li (by rfl) zi (by decide +kernel) (pa_cons (pv 0) (pa_cons (pv 0) pa_nil))) (pe_lc (own := [("_law_row", 5)]) (g := gName 5) (tt := tYes) (te := tTup (tCons (tVar 5) (tCons (tVar 5) tNil))) rfl scLTold.nd (pi_tup (pe_ix ix_tup (pv 1) pe_int (fun _ _ => rfl))) (blkOk_by (N := ltrN) (sc := defScope sLTold) (by decide +kernel)) (fun _ _ _ _ _ => pg_name (i := 5) scLTold.nd rfl (.inl rfl)) (fun _ _ _ _ _ => pts_nil) (fun _ _ _ _ _ => pe_tup (pa_cons (pv 5) (pa_cons (pv 5) pa_nil)))) (nomark _)) (pss_one (ps_ret pe_bl)) pss_nil)
      (pss_cons (ps_set (i := 4) scLTold.nd rfl (.inl rfl) (pe_op op_add_str (pe_op op_add_str (pe_op op_add_str (pe_callTy call_str_int (by rfl) B.str (by decide +kernel) (pa_cons (pe_callB (r := rLenM K) call_len_seq (by rfl) B.len PySem.boot_len (pa_cons (pe_ix ix_tup (pv 1) pe_int (fun _ _ => rfl)) pa_nil)) pa_nil)) pe_str) (pe_callTy call_str_int (by rfl) B.str (by decide +kernel) (pa_cons (pe_callB (r := rLenM K) call_len_seq (by rfl) B.len PySem.boot_len (pa_cons (pe_ix ix_tup (pv 1) pe_int (fun _ _ => rfl)) pa_nil)) pa_nil))) pe_str))
      (pss_one (ps_ret (pe_cmpR op_eq (pe_callTy (call_strO MS GSt r3 pass0) (by rfl) B.str (by decide +kernel) (pa_cons (pv 0) pa_nil)) (pe_op op_add_str (pe_op op_add_str (pe_op op_add_str pe_str (pv 4)) (pe_callTy call_str_int (by rfl) B.str (by decide +kernel) (pa_cons (pe_callB (r := rLenM K) call_len_seq (by rfl) B.len PySem.boot_len (pa_cons (pe_ix ix_tup (pv 1) pe_int (fun _ _ => rfl)) pa_nil)) pa_nil))) pe_str) (nomark _))))))))))), ?_⟩
    have ok := L.ok
    obtain ⟨q1, q2, q3, q4⟩ := shows_parts ok
    obtain ⟨dx, c0, st0, r0, n0, b0, k0, ws, i1, i2⟩ := id hg
    have w3 : 3 ≤ sizeLine := by decide
    have eR : PyData.eqv (.list (G.rs.map rowD)) (.list (G.rs.map rowD)) = true := PySem.SeqAt.eqv_refl _ (lay_rows _ ok.ro)
    -- the parts
    refine ⟨_, rfl, g, dx, _, rfl, i1, g, G, rfl, hg, fun a1 h1 => ⟨_, rfl, g, dx, _, rfl, i1, g, G, rfl, hg, fun a2 h2 => ⟨_, rfl, g, dx, _, rfl, i1, g, G, rfl, hg, fun a3 h3 => ⟨w3, fun l1 hl1 => ?_⟩⟩⟩⟩
    have s1 := same_new (o := .lst [.ref a1, .ref a2, .ref a3]) hl1
    have d1 : Dp K (upd H l1 (.lst [.ref a1, .ref a2, .ref a3])) (.ref l1) (partsD G) := .lst (.inl (.inl upd_same)) (.cons (.tup (sqT_same s1 h1) (strs_dp _)) (.cons (.tup (sqT_same s1 h2) (strs_dp _)) (.cons (dp_same s1 _ _ h3) .nil)))
    generalize upd H l1 (.lst [.ref a1, .ref a2, .ref a3]) = Ha at s1 d1
    have pa := hp.sim (Sim.of s1)
    refine ⟨_, _, rfl, .dat d1 q1 q2 q3 q4, _, rfl, pl, _, _, _, rfl, rfl, pa.hp, rfl, _, rfl, pl, _, _, _, rfl, rfl, pa.hp, rfl, _, rfl, pl, _, _, _, rfl, rfl, pa.hp, rfl, w3, fun l2 hl2 => ?_⟩
    have s2 := same_new (o := .lst [.ref a, .ref b, .ref v]) hl2
    have p2 := pa.sim (Sim.of s2)
    have d2 : Dp K (upd Ha l2 (.lst [.ref a, .ref b, .ref v])) (.ref l2) (partsD G) := .lst (.inl (.inl upd_same)) (.cons (.tup p2.ha (strs_dp _)) (.cons (.tup p2.hb (strs_dp _)) (.cons (.tup p2.hv (plAll_dp p2.hu)) .nil)))
    have S2 := s1.trans s2
    generalize upd Ha l2 (.lst [.ref a, .ref b, .ref v]) = Hb at s2 p2 d2 S2
    refine ⟨_, _, rfl, .dat d2 q1 q2 q3 q4, rfl, _, rfl, if_no (by simp) ?_⟩
    clear h1 h2 h3 hl1 hl2 d1 d2 pa s1 s2
    have g2 := graphAt_same S2 hg
    have j1 := S2 _ _ i1
    -- the names, the rows by iteration
    obtain ⟨z1, z2, z3, z4⟩ := shows_names ok
    refine ⟨_, rfl, g, dx, _, rfl, j1, g, G, rfl, g2, fun n1 hn1 => ⟨_, _, rfl, .dat (.tup hn1 (strs_dp _)) z1 z2 z3 z4, ?_⟩⟩
    refine q_cb (q_cons (q_cb (q_cons (told_names p2 ok fun D1 H3 s3 e3 => ⟨D1, _, rfl, .inl ⟨.inl (.inl e3), fun t1 ht1 => ?_⟩⟩))))
    have s4 := same_new (o := .tup ((G.rs.map (·.n)).map V.str)) ht1
    refine ⟨_, _, rfl, .dat (.tup (.inl (.inl upd_same)) (strs_dp _)) z1 z2 z3 z4, rfl, _, rfl, if_no (by simp) ?_⟩
    have S4 := S2.trans (s3.trans s4)
    generalize upd H3 t1 (.tup ((G.rs.map (·.n)).map V.str)) = Hc at s4 S4
    clear ht1 e3 s3 s4 hn1
    refine q_test (q_op (told_rows (graphAt_same S4 hg) ok fun D2 us2 H5 s5 e5 d5 => ?_))
    have S5 := S4.trans s5
    have p5 := hp.sim (Sim.of S5)
    refine ⟨_, rfl, pl, _, _, _, rfl, rfl, p5.hp, rfl, v, us, rfl, .inr p5.hv, fun l3 hl3 => ?_⟩
    have s6 := same_new (o := .lst us) hl3
    have S6 := S5.trans s6
    have p6 := hp.sim (Sim.of S6)
    refine ⟨.list (G.rs.map rowD), .list (G.rs.map rowD), .lst (.inl (.inl (s6 _ _ e5))) (dpAll_same s6 _ _ d5), .lst (.inl (.inl upd_same)) (plAll_dp p6.hu), shapedL_rows ok.ro, shapedL_rows ok.ro, ?_⟩
    rw [eR]
    refine ⟨_, rfl, if_no (by decide) ?_⟩
    generalize upd H5 l3 (.lst us) = Hd at s6 S6 p6
    clear hl3 s5 e5 d5 s6 p5 S5 S4
    -- the rows by their names, how many
    have g6 := graphAt_same S6 hg
    refine q_seq (q_ifs (q_or (q_test (q_op (told_got p6 g6 ok fun D3 us3 H7 s7 e7 d7 => ?_)))))
    have p7 := p6.sim (Sim.of s7)
    refine ⟨_, rfl, pl, _, _, _, rfl, rfl, p7.hp, rfl, v, us, rfl, .inr p7.hv, fun l4 hl4 => ?_⟩
    have s8 := same_new (o := .lst us) hl4
    have S8 := S6.trans (s7.trans s8)
    have p8 := hp.sim (Sim.of S8)
    have g8 := graphAt_same S8 hg
    refine ⟨.list (G.rs.map rowD), .list (G.rs.map rowD), .lst (.inl (.inl (s8 _ _ e7))) (dpAll_same s8 _ _ d7), .lst (.inl (.inl upd_same)) (plAll_dp p8.hu), shapedL_rows ok.ro, shapedL_rows ok.ro, ?_⟩
    rw [eR]
    refine ⟨_, rfl, if_no (by decide) ?_⟩
    generalize upd H7 l4 (.lst us) = He at s8 S8 p8 g8
    clear hl4 s7 e7 d7 s8 p7 p6 g6 S6
    have r16 := ok.rl
    refine ⟨_, rfl, g, rfl, oat_graph g8, g, G, rfl, g8, G.rs.length, rfl, by rw [sizeLine_eq]; omega, _, rfl, pl, _, _, _, rfl, rfl, p8.hp, rfl, v, us, rfl, .inr p8.hv, rfl, _, rfl, if_no (by simp [p8.hu.length]) ?_⟩
    -- what is outside, what is inside
    refine ⟨_, rfl, pl, _, _, _, rfl, rfl, p8.hp, rfl, a, _, rfl, .inr p8.ha, fun lA hlA => ?_⟩
    have cl := ok.cl
    have m1 := same_new (o := .lst (G.cs.map V.str)) hlA
    have eA : (upd He lA (.lst (G.cs.map V.str))) lA = some (.lst (G.cs.map V.str)) := upd_same
    generalize upd He lA (.lst (G.cs.map V.str)) = K1 at m1 eA
    refine ⟨(by show 0 ≤ sizeLine; decide), fun u0 hu0 => ?_⟩
    have m2 := same_new (o := .tup []) hu0
    have e0 : (upd K1 u0 (.tup [])) u0 = some (.tup []) := upd_same
    generalize upd K1 u0 (.tup []) = K2 at m2 e0
    refine ⟨(by show 0 ≤ sizeLine; decide), fun u1 hu1 => ?_⟩
    have m3 := same_new (o := .lst []) hu1
    have e1 : (upd K2 u1 (.lst [])) u1 = some (.lst []) := upd_same
    generalize upd K2 u1 (.lst []) = K3 at m3 e1
    refine ⟨(by show 1 ≤ sizeLine; decide), fun u2 hu2 => ?_⟩
    have m4 := same_new (o := .tup [.str "a"]) hu2
    have e2 : (upd K3 u2 (.tup [.str "a"])) u2 = some (.tup [.str "a"]) := upd_same
    generalize upd K3 u2 (.tup [.str "a"]) = K4 at m4 e2
    refine fun u3 hu3 => ?_
    have m5 := same_new (o := .dK []) hu3
    have e3 : (upd K4 u3 (.dK [])) u3 = some (.dK []) := upd_same
    generalize upd K4 u3 (.dK []) = K5 at m5 e3
    refine ⟨(by show 1 ≤ sizeLine; decide), fun u4 hu4 => ?_⟩
    have m6 := same_new (o := .lst [.str "a"]) hu4
    generalize upd K5 u4 (.lst [.str "a"]) = K6 at m6
    refine ⟨(by show 1 ≤ sizeLine; decide), fun u5 hu5 => ?_⟩
    have m7 := same_new (o := .tup [.ref u4]) hu5
    have e5 : (upd K6 u5 (.tup [.ref u4])) u5 = some (.tup [.ref u4]) := upd_same
    generalize upd K6 u5 (.tup [.ref u4]) = K7 at m7 e5
    refine fun u6 hu6 => ?_
    have m8 := same_new (o := .dK []) hu6
    generalize upd K7 u6 (.dK []) = K8 at m8
    refine ⟨(by show 1 ≤ sizeLine; decide), fun u7 hu7 => ?_⟩
    have m9 := same_new (o := .tup [.ref u6]) hu7
    have e7 : (upd K8 u7 (.tup [.ref u6])) u7 = some (.tup [.ref u6]) := upd_same
    generalize upd K8 u7 (.tup [.ref u6]) = K9 at m9 e7
    refine ⟨10, 50, rfl, rfl, ⟨by decide, by decide, by decide⟩, (by show 10 ≤ sizeLine; decide), fun lB hlB => ?_⟩
    have n8 := m9
    have n7 := m8.trans n8
    have n6 := m7.trans n7
    have n5 := m6.trans n6
    have n4 := m5.trans n5
    have n3 := m4.trans n4
    have n2 := m3.trans n3
    have n1 := m2.trans n2
    have nA := n1 _ _ eA
    have nn := m1.trans n1
    have f0 := n2 _ _ e0
    have f1 := n3 _ _ e1
    have f2 := n4 _ _ e2
    have f3 := n5 _ _ e3
    have f5 := n7 _ _ e5
    have f7 := e7
    clear hlA hu0 hu1 hu2 hu3 hu4 hu5 hu6 hu7 m1 m2 m3 m4 m5 m6 m7 m8 m9 n1 n2 n3 n4 n5 n6 n7 n8 eA e0 e1 e2 e3 e5 e7
    show rCat (.ref lA) (.ref lB) (upd K9 lB (.lst (outsV u0 u1 u2 u3 u5 u7 ((10 : Int) ^ (50 : Int).toNat)))) _
    generalize (10 : Int) ^ (50 : Int).toNat = big
    have mB := same_new (o := .lst (outsV u0 u1 u2 u3 u5 u7 big)) hlB
    have eB : (upd K9 lB (.lst (outsV u0 u1 u2 u3 u5 u7 big))) lB = some (.lst (outsV u0 u1 u2 u3 u5 u7 big)) := upd_same
    refine ⟨lA, lB, _, _, rfl, rfl, mB _ _ nA, eB, (by rw [List.length_map, sizeLine_eq]; show G.cs.length + 10 ≤ _; omega), fun lO hlO => ?_⟩
    have mO := same_new (o := .lst (G.cs.map V.str ++ outsV u0 u1 u2 u3 u5 u7 big)) hlO
    have eO : (upd (upd K9 lB (.lst (outsV u0 u1 u2 u3 u5 u7 big))) lO (.lst (G.cs.map V.str ++ outsV u0 u1 u2 u3 u5 u7 big))) lO = some (.lst (G.cs.map V.str ++ outsV u0 u1 u2 u3 u5 u7 big)) := upd_same
    have mm := mB.trans mO
    generalize upd (upd K9 lB (.lst (outsV u0 u1 u2 u3 u5 u7 big))) lO (.lst (G.cs.map V.str ++ outsV u0 u1 u2 u3 u5 u7 big)) = L0 at mm eO
    have out := inG_out (K := K) (H := L0) L (big := big) (mm _ _ f0) (mm _ _ f1) (mm _ _ f2) (mm _ _ f3) (mm _ _ f5) (mm _ _ f7)
    have olen : (G.cs.map V.str ++ outsV u0 u1 u2 u3 u5 u7 big).length ≤ 15 := by
      rw [List.length_append, List.length_map]
      show G.cs.length + 10 ≤ 15
      omega
    generalize G.cs.map V.str ++ outsV u0 u1 u2 u3 u5 u7 big = outs at eO out olen
    have S9 := S8.trans (nn.trans mm)
    clear hlB hlO mB mO eB f0 f1 f2 f3 f5 f7 nA nn mm
    have p9 := hp.sim (Sim.of S9)
    have g9 := graphAt_same S9 hg
    -- in
    refine ⟨_, rfl, g, dx, _, rfl, S9 _ _ i1, g, G, rfl, g9, fun n2 hn2 => ⟨n2, _, rfl, .inr hn2, fun lC hlC => ⟨_, rfl, lC, lO, _, _, rfl, rfl, upd_same, same_new hlC _ _ eO, (by rw [List.length_map, List.length_map, sizeLine_eq]; omega), fun lD hlD => ⟨lD, rfl, ⟨_, .inl (.inl upd_same)⟩, fun D4 hD4 => ?_⟩⟩⟩⟩
    have mC := (same_new (o := .lst ((G.rs.map (·.n)).map V.str)) hlC).trans (same_new (o := .lst ((G.rs.map (·.n)).map V.str ++ outs)) hlD)
    have eD : SqL K (upd (upd L0 lC (.lst ((G.rs.map (·.n)).map V.str))) lD (.lst ((G.rs.map (·.n)).map V.str ++ outs))) lD ((G.rs.map (·.n)).map V.str ++ outs) := .inl (.inl upd_same)
    generalize upd (upd L0 lC (.lst ((G.rs.map (·.n)).map V.str))) lD (.lst ((G.rs.map (·.n)).map V.str ++ outs)) = L1 at mC eD hD4
    have S10 := S9.trans mC
    have g10 := graphAt_same S10 hg
    have pr : Paired (fun o b => InG K L1 G o b) ((G.rs.map (·.n)).map V.str ++ outs) (List.replicate G.rs.length true ++ List.replicate outs.length false) := by
      refine paired_app ?_ (paired_rep fun o ho => inG_same mC (out o ho))
      have z := paired_rep (F := fun o b => InG K L1 G o b) (y := true) (xs := (G.rs.map (·.n)).map V.str) fun o ho => by
        obtain ⟨x, hx, rfl⟩ := List.mem_map.mp ho
        exact .inl ⟨x, rfl, (decide_eq_true hx).symm⟩
      rw [List.length_map, List.length_map] at z
      exact z
    generalize eb : List.replicate G.rs.length true ++ List.replicate outs.length false = bs at pr
    refine lc_valsL (ys := bs.map V.bl) hD4 eD (by rw [List.length_append, List.length_map, List.length_map, sizeLine_eq]; omega) (by rw [List.length_map]; exact pr.length.symm) (fun _ => rfl) (fun i x H' R hx sm kR => ?_) fun H11 s11 e11 => ?_
    · have il := (List.getElem?_eq_some_iff.mp hx).1
      have hb : bs[i]? = some (bs[i]'(by rw [← pr.length]; exact il)) := List.getElem?_eq_getElem _
      have g' := graphAt_same sm g10
      refine ⟨_, rfl, _, rfl, g, rfl, oat_graph g', g, x, G, _, rfl, g', inG_same sm (paired_at pr hx hb), _, rfl, kR _ ?_⟩
      rw [List.getElem?_map, hb]
      rfl
    have S11 := S10.trans s11
    have p11 := hp.sim (Sim.of S11)
    have eO11 := s11 _ _ (mC _ _ eO)
    clear hlC hlD hD4 mC eD S10 g10 pr hn2 S9 p9 g9 out eO
    refine ⟨_, rfl, (by show 1 ≤ sizeLine; decide), fun x1 hx1 => ?_⟩
    have t1 := same_new (o := .lst [.bl true]) hx1
    have y1 : (upd H11 x1 (.lst [.bl true])) x1 = some (.lst [.bl true]) := upd_same
    have pb := p11.sim (Sim.of t1)
    generalize upd H11 x1 (.lst [.bl true]) = L2' at t1 y1 pb
    have ul := hp.hu.length
    refine ⟨_, rfl, pl, _, _, _, rfl, rfl, pb.hp, rfl, v, us, rfl, .inr pb.hv, x1, _, _, rfl, rfl, y1, by omega, by omega, (by show 1 * us.length ≤ sizeLine; rw [sizeLine_eq]; omega), fun x2 hx2 => ?_⟩
    have t2 := same_new (o := .lst (List.replicate ((us.length : Nat) : Int).toNat [V.bl true]).flatten) hx2
    have y2 : (upd L2' x2 (.lst (List.replicate ((us.length : Nat) : Int).toNat [V.bl true]).flatten)) x2 = some (.lst (List.replicate G.rs.length (V.bl true))) := by
      rw [upd_same, flat_one, Int.toNat_natCast, ul]
    generalize upd L2' x2 (.lst (List.replicate ((us.length : Nat) : Int).toNat [V.bl true]).flatten) = L3 at t2 y2
    refine ⟨(by show 1 ≤ sizeLine; decide), fun x3 hx3 => ?_⟩
    have t3 := same_new (o := .lst [.bl false]) hx3
    have y3 : (upd L3 x3 (.lst [.bl false])) x3 = some (.lst [.bl false]) := upd_same
    generalize upd L3 x3 (.lst [.bl false]) = L4 at t3 y3
    have t123 := t1.trans (t2.trans t3)
    refine ⟨_, rfl, lO, outs, rfl, .inl (.inl (.inl (t123 _ _ eO11))), x3, _, _, rfl, rfl, y3, by omega, by omega, (by show 1 * outs.length ≤ sizeLine; rw [sizeLine_eq]; omega), fun x4 hx4 => ?_⟩
    have t4 := same_new (o := .lst (List.replicate ((outs.length : Nat) : Int).toNat [V.bl false]).flatten) hx4
    have y4 : (upd L4 x4 (.lst (List.replicate ((outs.length : Nat) : Int).toNat [V.bl false]).flatten)) x4 = some (.lst (List.replicate outs.length (V.bl false))) := by
      rw [upd_same, flat_one, Int.toNat_natCast]
    generalize upd L4 x4 (.lst (List.replicate ((outs.length : Nat) : Int).toNat [V.bl false]).flatten) = L5 at t4 y4
    refine ⟨x2, x4, _, _, rfl, rfl, t4 _ _ (t3 _ _ y2), y4, (by rw [List.length_replicate, List.length_replicate, sizeLine_eq]; omega), fun x5 hx5 => ?_⟩
    have t5 := same_new (o := .lst (List.replicate G.rs.length (V.bl true) ++ List.replicate outs.length (V.bl false))) hx5
    have y5 : (upd L5 x5 (.lst (List.replicate G.rs.length (V.bl true) ++ List.replicate outs.length (V.bl false)))) x5 = some (.lst (bs.map V.bl)) := by
      rw [upd_same, ← eb, map_bls]
    generalize upd L5 x5 (.lst (List.replicate G.rs.length (V.bl true) ++ List.replicate outs.length (V.bl false))) = L6 at t5 y5
    have tt := t123.trans (t4.trans t5)
    have S12 := S11.trans tt
    refine ⟨.list (bs.map PyData.bool), .list (bs.map PyData.bool), .lst (.inl (.inl (tt _ _ e11))) (bls_dp bs), .lst (.inl (.inl y5)) (bls_dp bs), shaped_bls bs, shaped_bls bs, ?_⟩
    have eB : PyData.eqv (.list (bs.map PyData.bool)) (.list (bs.map PyData.bool)) = true := PySem.SeqAt.eqv_refl _ (lay_bls bs)
    rw [eB]
    refine ⟨_, rfl, if_no (by decide) ?_⟩
    clear t1 y1 pb hx1 t2 y2 hx2 t3 y3 hx3 t123 t4 y4 hx4 t5 y5 hx5 tt eB e11 eO11 p11 S11 s11 S8 p8 g8
    have p12 := hp.sim (Sim.of S12)
    have g12 := graphAt_same S12 hg
    -- truth
    refine ⟨_, rfl, g, rfl, oat_graph g12, g, G, rfl, g12, _, rfl, _, rfl, pl, _, _, _, rfl, rfl, p12.hp, rfl, (by show 0 ≤ sizeLine; decide), fun w1 hw1 => ?_⟩
    have S13 := S12.trans (same_new (o := .tup []) hw1)
    have p13 := hp.sim (Sim.of S13)
    refine ⟨.tuple (G.rs.map rowD), .tuple (([] : List Row).map rowD), .tup p13.hv (plAll_dp p13.hu), .tup (.inl (.inl upd_same)) .nil, shaped_rows ok.ro, by decide, rfl, _, rfl, if_no ?_ ?_⟩
    · rw [eqv_rows]
      cases G.rs <;> simp
    generalize upd L6 w1 (.tup []) = L7 at S13 p13
    have g13 := graphAt_same S13 hg
    -- zip
    have hits : ∀ H2, Same L7 H2 → itsGraph K C H2 g r0 := fun H2 s2 => by
      have q := gHas_sim (Sim.of (S13.trans s2)) i2
      exact ⟨G, dx, c0, st0, n0, b0, k0, ws, (S13.trans s2) _ _ i1, q.hr, q.hp, graphAt_same s2 g13⟩
    refine ⟨_, rfl, _, rfl, g, r0, ws, rfl, oat_graph g13, hits, (gHas_sim (Sim.of S13) i2).hr, fun z as H14 s14 al hz has => ?_⟩
    have S14 := S13.trans s14
    refine told_twice (hp.sim (Sim.of S14)) ok fun D5 ws5 H15 s15 e15 d15 => ?_
    have S15 := S14.trans s15
    refine ⟨.list (G.rs.map pairR), .list (G.rs.map pairR), .lst (.inl (.inl (s15 _ _ hz))) (zp_dp al (gHas_sim (Sim.of S15) i2).hp fun j b x h1 h2 => s15 _ _ (has j b x h1 h2)), .lst (.inl (.inl e15)) d15, shaped_pairR ok.ro, shaped_pairR ok.ro, ?_⟩
    have eP : PyData.eqv (.list (G.rs.map pairR)) (.list (G.rs.map pairR)) = true := PySem.SeqAt.eqv_refl _ (lay_pairR ok.ro)
    rw [eP]
    refine ⟨_, rfl, if_no (by decide) ?_⟩
    clear hits has hz d15 e15 s15 s14 S14 S13 p13 g13 S12 p12 g12
    have pz := hp.sim (Sim.of S15)
    have gz := graphAt_same S15 hg
    -- the text
    have cl' := ok.cl
    have nl' := ok.nl
    obtain ⟨b1, g1⟩ := short_len (n := G.ns.length) (by omega)
    obtain ⟨b2, g2'⟩ := short_len (n := G.cs.length) (by omega)
    obtain ⟨b3, g3⟩ := short_len (n := G.rs.length) (by omega)
    have ln1 : (("graph of " : Str)).length = 9 := rfl
    have ln2 : ((" states, " : Str)).length = 9 := rfl
    have ln3 : ((" counters, " : Str)).length = 11 := rfl
    have ln4 : ((" transitions" : Str)).length = 12 := rfl
    have sz := sizeLine_eq
    refine ⟨_, rfl, pl, _, _, _, rfl, rfl, pz.hp, rfl, b, _, rfl, .inr pz.hb, _, rfl, (by rw [List.length_map]; exact g1), _, _, rfl, rfl, ?_, _, rfl, pl, _, _, _, rfl, rfl, pz.hp, rfl, a, _, rfl, .inr pz.ha, _, rfl, (by rw [List.length_map]; exact g2'), _, _, rfl, rfl, ?_, _, _, rfl, rfl, ?_, ?_⟩
    · rw [List.length_map]
      omega
    · rw [List.length_map, List.length_map]
      simp only [strLen_append]
      omega
    · rw [List.length_map, List.length_map]
      simp only [strLen_append]
      omega
    rw [List.length_map, List.length_map]
    have lz : (Str.ofString (toString ((G.ns.length : Nat) : Int)) ++ (" states, " : Str) ++ Str.ofString (toString ((G.cs.length : Nat) : Int)) ++ (" counters, " : Str)).length ≤ 40 := by
      simp only [strLen_append]
      omega
    have gt := gText_eq G
    generalize Str.ofString (toString ((G.ns.length : Nat) : Int)) ++ (" states, " : Str) ++ Str.ofString (toString ((G.cs.length : Nat) : Int)) ++ (" counters, " : Str) = sizes at lz gt ⊢
    have ul := hp.hu.length
    refine ⟨_, rfl, g, rfl, oat_graph gz, g, G, rfl, gz, ok, _, rfl, _, rfl, _, _, rfl, rfl, (by omega), _, rfl, pl, _, _, _, rfl, rfl, pz.hp, rfl, v, us, rfl, .inr pz.hv, _, rfl, (by rw [ul]; exact g3), _, _, rfl, rfl, ?_, _, _, rfl, rfl, ?_, rfl, ?_⟩
    · rw [ul, strLen_append]
      omega
    · rw [ul, strLen_append, strLen_append]
      omega
    rw [ul, gt, decide_eq_true rfl]
    exact k _ S15
end
end Qp

/-! enumerate(a tuple) -/
namespace PySem
open Sem (wp)
open AutoSeq1 (wpAny_loadPart')
theorem qn_meets_enumerate_newT (l : Addr) (items : Array Value) :
    Meets (Builtin.«enumerate.__new__» ⟨[.type "enumerate", .ref l], []⟩) (fun _ R s => s.heap.IsTuple l items ∧
      R (.ok (.ret (.ref (s.heap.push { cls := .type "tuple_iterator", data := .fields #[.ref l, .int 0 0] }).objs.size)))
        { s with heap := (s.heap.push { cls := .type "tuple_iterator", data := .fields #[.ref l, .int 0 0] }).push { cls := .type "enumerate", data := .fields #[.none, .bool false, .ref s.heap.objs.size, rawInt 0, .none, .none] } }) :=
  .of_wp fun prog w A R s h => by
    obtain ⟨hp, g, d, tk, os⟩ := s; obtain ⟨hL, h⟩ := h
    have hsub := sub_enumerate
    have q1 : ∀ {A' : Around} {E : Value → Shared → Prop} {Q : Value → Shared → Prop}, Q (.ref hp.objs.size) ⟨hp.push { cls := .type "tuple_iterator", data := .fields #[.ref l, .int 0 0] }, g, d, tk, os⟩ → wpAny (model prog w) A' (pyIter (.ref l)) Q E ⟨hp, g, d, tk, os⟩ :=
      fun q => wpAny_pyIter_tuple hL q
    wp_walk using q1
    refine wpAny_stack_any fun st => wpAny_pure ?_
    split
    · rename_i c _ _ _ _ _
      cases (c == Value.type "enumerate")
      · wp_walk using q1
        exact ⟨_, rfl, h⟩
      · wp_walk using q1
        exact ⟨_, rfl, h⟩
    · wp_walk using q1
      exact ⟨_, rfl, h⟩
theorem qn_call_enumerate_tuple {prog : Program} {w : World} {A : Around} {E : Value → Shared → Prop} {s : Shared} {l : Addr} {items : Array Value} {Q : Value → Shared → Prop} (hL : s.heap.IsTuple l items)
    (h : ∀ h', IsEnum h' (s.heap.objs.size + 1) s.heap.objs.size 0 .none → h'.IsTupleIter s.heap.objs.size l 0 → h'.objs.size = s.heap.objs.size + 2 →
      (∀ b o, s.heap.get? b = some o → h'.get? b = some o) → Q (.ref (s.heap.objs.size + 1)) { s with heap := h' }) :
    wpAny (model prog w) A (call (.type "enumerate") [.ref l]) Q E s := by
  refine callType_new F.called_enumerate (by decide) (F.typeCall_enumerate_1 _) (F.newCall_enumerate_1 _) (fun obj => F.args_object_init_2 obj _) F.entry_enumerate_new
    (qn_meets_enumerate_newT l items) ⟨hL, ?_⟩
  have hz : (s.heap.push { cls := .type "tuple_iterator", data := .fields #[.ref l, .int 0 0] }).objs.size = s.heap.objs.size + 1 := Heap.size_push ..
  show _ ∧ _
  rw [hz]
  have he : IsEnum ((s.heap.push { cls := .type "tuple_iterator", data := .fields #[.ref l, .int 0 0] }).push
      { cls := .type "enumerate", data := .fields #[.none, .bool false, .ref s.heap.objs.size, rawInt 0, .none, .none] }) (s.heap.objs.size + 1) s.heap.objs.size 0 .none := by
    have := Heap.get?_push_size (s.heap.push { cls := .type "tuple_iterator", data := .fields #[.ref l, .int 0 0] })
      (o := { cls := .type "enumerate", data := .fields #[.none, .bool false, .ref s.heap.objs.size, rawInt 0, .none, .none] }) rfl
    rw [hz] at this; exact this
  refine ⟨⟨_, he, rfl⟩, h _ he ⟨_, Heap.get?_push_of_some _ (Heap.get?_push_size _ rfl), rfl, rfl⟩ (by rw [Heap.size_push, hz]) fun b o x => Heap.get?_push_of_some _ (Heap.get?_push_of_some _ x)⟩
theorem qn_pyNext_enum_endT {prog : Program} {w : World} {A : Around} {E : Value → Shared → Prop} {s : Shared} {e it l : Addr} {i : Nat} {items : Array Value} {old : Value} {Q : Option Value → Shared → Prop} (hh : A.handled = none)
    (he : IsEnum s.heap e it i old) (hit : s.heap.IsTupleIter it l i) (hl : s.heap.IsTuple l items) (hx : items[i]? = none)
    (hQ : ∀ h', Heap.ExtBut it s.heap h' → Q none { s with heap := h' }) : wpAny (model prog w) A (pyNext (.ref e)) Q E s := by
  have hT : s.TypeIs (.ref e) "enumerate" := ⟨_, he, rfl⟩
  unfold pyNext
  refine wpAny_bind (wpAny_attempt (wpAny_callSpecial?_slot (name := Str.ofString "__next__") hT F.slot_enumerate_next
    (wpAny_call_entry F.slot_enumerate_next hT F.entry_enumerate_next ?_ (F.args_enumerate_next_1 _))))
  show wpAny _ _ (field (.ref e) 2 >>= _) _ _ _
  refine wpAny_bind (wpAny_field he rfl (x := .ref it) rfl ?_)
  refine wpAny_bind (wpAny_nextOf_tuple_end hh hit hl hx fun h' x he' hx' => ?_)
  obtain ⟨o, ho, hc⟩ := hx'
  refine wpAny_bind (wpAny_isInstance (T := "StopIteration") (b := true) ⟨o, ho, hc⟩ isSubtype_stop ?_)
  exact wpAny_pure (hQ _ he')
end PySem
namespace QN
open PySem PySem.Spec PyProof.Rows L2
/-- the tuple at a, each item in a new pair -/
def IteT (K : PySem.W.Frag) (a : Addr) : It :=
  ⟨fun i H => ∃ (xs : List V) (x : V), SqT K H a xs ∧ xs[i]? = some x, fun i H v H' => ∃ T x, v = .ref T ∧ H T = none ∧ H' = upd H T (.tup [.int (i : Nat), x]) ∧ ∀ xs, SqT K H a xs → xs[i]? = some x, fun i H => ∃ xs : List V, SqT K H a xs ∧ xs.length ≤ i⟩
theorem turn_enumT {P : Program} {w : World} {K : PySem.W.Frag} {elts : List Expr} {kk : Nat} {tpos : Pos} (a e it : Addr) :
    Turn P w K (.Tuple elts kk tpos) (IteT K a) [e, it] e (fun i h => (∃ old, IsEnum h e it ((i : Nat) : Int) old) ∧ h.IsTupleIter it a i ∧ e ≠ it ∧ a ≠ it ∧ e ≠ a) where
  mem := by simp
  obj := fun i h st b hb => by
    obtain ⟨⟨old, he⟩, ⟨o, ho, hc, hd⟩, _⟩ := st
    have e' : b = e ∨ b = it := by simpa using hb
    rcases e' with z | z
    · rw [z]; exact ⟨_, he, fun v q => nomatch q⟩
    · rw [z]; exact ⟨o, ho, fun v q => by rw [hd] at q; cases q⟩
  keep := fun i h h' st k => let ⟨⟨old, he⟩, hi, hne⟩ := st; ⟨⟨old, k e (by simp) _ he⟩, hi.at fun o q => k it (by simp) o q, hne⟩
  item := by
    intro X hP hw hK hc i pins s σ H E I hf st hg
    subst hP hw hK
    obtain ⟨⟨old, he⟩, hit, hne, hai, hea⟩ := st
    obtain ⟨xs, x, hq, hx⟩ := hg
    obtain ⟨its, rv, p, hz⟩ := I.tuple hq
    obtain ⟨u, hu, ru⟩ := rv.get hx
    have hel : e < s.heap.objs.size := Heap.lt_size he
    have hil : it < s.heap.objs.size := by obtain ⟨_, q, _⟩ := hit; exact Heap.lt_size q
    have hlt : i < its.toArray.size := by
      rw [List.size_toArray]
      exact (List.getElem?_eq_some_iff.mp hu).1
    have D := Draws.tuple (prog := X.prog) (w := X.w) (A := X.A.in1) (I.ok.hd hc) it a hai its.toArray
    refine wpAny_pyNext_enum_itemD D he ⟨hit, p⟩ hlt hne (by simp [hne, hea]) fun x' h' tk hx' ho hit' hT hsz hk => ?_
    obtain rfl : x' = u := by
      rw [List.getElem?_toArray, hu] at hx'
      exact (Option.some.inj hx').symm
    refine ⟨_, rfl, wpAny_letOwnedTupleGo_enum (s := { s with heap := h', toks := tk + 1 }) ho fun h'' he' sb => ?_⟩
    have hT2 : h''.get? s.heap.objs.size = some { cls := .type "tuple", data := .seq #[.int i tk, x'] } := (sb.2 _ (Nat.ne_of_gt hel)).trans hT
    have new : ObjOk X.prog X.w (upd H s.heap.objs.size (.tup [.int (i : Nat), x])) h'' s.heap.objs.size (.tup [.int (i : Nat), x]) :=
      ⟨by show 2 ≤ sizeLine; decide, [.int i tk, x'], .cons ⟨_, rfl⟩ (.cons ru .nil), ⟨_, hT2, rfl, _, rfl⟩⟩
    have I1 : Inv X pins σ (upd H s.heap.objs.size (.tup [.int (i : Nat), x])) { s with heap := h'', toks := tk + 1 } :=
      I.turnedNew (ch := [e, it]) (fun b ob hb q => (sb.2 b (fun z => hb (by simp [z]))).trans (hk b ob (fun z => hb (by simp [z])) (fun z => hb (by simp [z])) q)) hf (Nat.le_refl _) new
    refine ⟨.ref s.heap.objs.size, _, I1, rfl, ⟨_, x, rfl, I.hok.fresh (Nat.le_refl _), rfl, fun ys hy => ?_⟩, ⟨⟨x', ?_⟩, hit'.1.at fun o q => (sb.2 it (Ne.symm hne)).trans q, hne, hai, hea⟩, fun b hb => ?_⟩
    · rw [I.tuple_inj hy hq]
      exact hx
    · have e1 : ((i + 1 : Nat) : Int) = (i : Int) + 1 := by omega
      rw [e1]; exact he'
    · have hb' : b < s.heap.objs.size := by
        have e' : b = e ∨ b = it := by simpa using hb
        rcases e' with z | z
        · rw [z]; exact hel
        · rw [z]; exact hil
      rw [upd_ne (Nat.ne_of_lt hb')]
      exact (hf b hb).1
  done := by
    intro X hP hw hK hc i pins s σ H E I hf st hg
    subst hP hw hK
    obtain ⟨⟨old, he⟩, hit, hne, hai, hea⟩ := st
    obtain ⟨xs, hq, hx⟩ := hg
    obtain ⟨its, rv, p, hz⟩ := I.tuple hq
    obtain ⟨f0, f1, f2, f3, f4, f5⟩ := hf it (by simp)
    have hl := rv.length
    exact qn_pyNext_enum_endT (I.ok.hd hc) he hit (show s.heap.IsTuple a its.toArray from p) (by simp; omega) fun h' eb => ⟨rfl, I.turned (t' := s.toks) (fun b o hb q => eb b o hb q) f0 f1 f3 f4 f5⟩
  self := fun A i s Q E st h => let ⟨⟨_, he⟩, _⟩ := st; wpAny_pyIter_enum he h
def iEnumT (K : PySem.W.Frag) (ta : TA) : TI := fun σ H R => ta σ H fun vs H1 => ∃ a xs, vs = [.ref a] ∧ SqT K H1 a xs ∧ R (IteT K a) H1
theorem pi_enumT {X : Cx} {e : Expr} {ta : TA} {p pos tpos : Pos} {elts : List Expr} {kk : Nat} (hg : Gl X "enumerate") (hm : X.mg "enumerate" = none) (ha : PA X [e] ta) (hs : starEach [e] X.env = [(false, eval e X.env)] := by rfl) :
    PI X (.Tuple elts kk tpos) (.Call (.Name "enumerate" p) [e] [] pos) (iEnumT X.K ta) := by
  refine ⟨fun pins s σ H R I h => ?_⟩
  refine Call_ (ld_blt I hg hm boot_enumerate (PyProof.Rows.callWith_type1 (thn (ha.run pos pins s σ H _ I h) fun us s1 ⟨vs, H1, I1, r1, q1⟩ => ?_) hs rfl))
  obtain ⟨a, xs, ex, hq, q⟩ := q1
  subst ex
  cases r1 with
  | cons r rr =>
    cases rr
    cases r
    obtain ⟨its, rv, p', hz⟩ := I1.tuple hq
    have hal : a < s1.heap.objs.size := by obtain ⟨_, q, _⟩ := (show s1.heap.IsTuple a its.toArray from p'); exact Heap.lt_size q
    refine qn_call_enumerate_tuple (show s1.heap.IsTuple a its.toArray from p') fun h' he hit hsz hk => wpAny_pyIter_enum he ?_
    have I2 : Inv X pins σ H1 { s1 with heap := h' } := I1.kept (t' := s1.toks) hk
    refine ⟨s1.heap.objs.size + 1, [s1.heap.objs.size + 1, s1.heap.objs.size], _, _, H1, rfl, I2, turn_enumT a (s1.heap.objs.size + 1) s1.heap.objs.size, ⟨⟨.none, he⟩, hit, Nat.succ_ne_self _, Nat.ne_of_lt hal, Nat.ne_of_gt (Nat.lt_succ_of_lt hal)⟩, fun b hb => ?_, q⟩
    have e' : b = s1.heap.objs.size + 1 ∨ b = s1.heap.objs.size := by simpa using hb
    have hle : s1.heap.objs.size ≤ b := by
      rcases e' with z | z
      · rw [z]; exact Nat.le_add_right _ _
      · rw [z]; exact Nat.le_refl _
    exact I1.fpOk hle (I1.hok.fresh hle)
theorem for_enumT {K : PySem.W.Frag} {a : Addr} {xs : List V} {g : TG} {tb : TS} {D : Ends} {σ : L2.St} {H : Hp} (Pv : Nat → L2.St → Hp → Prop) (h0 : Pv 0 σ H) (hl : ∀ i σ H, i ≤ xs.length → Pv i σ H → SqT K H a xs)
    (hs : ∀ i x T σ H, xs[i]? = some x → Pv i σ H → H T = none → g (.ref T) σ (upd H T (.tup [.int (i : Nat), x])) fun σ2 H2 => tb { D with nx := Pv (i + 1), ct := Pv (i + 1), bk := D.nx } σ2 H2) (hd : ∀ σ H, Pv xs.length σ H → D.nx σ H) :
    ∃ W : Nat → Nat → L2.St → Hp → Prop, (∃ m, W 0 m σ H) ∧ ∀ i m σ H, W i m σ H →
      ((IteT K a).stop i H ∧ D.nx σ H) ∨ ((IteT K a).go i H ∧ ∃ N : L2.St → Hp → Prop, (∀ σ' H', N σ' H' → ∃ m', m' < m ∧ W (i + 1) m' σ' H') ∧ ∀ x H', (IteT K a).yld i H x H' → g x σ H' fun σ2 H2 => tb { D with nx := N, ct := N, bk := D.nx } σ2 H2) := by
  refine ⟨fun i m σ H => m = xs.length - i ∧ i ≤ xs.length ∧ Pv i σ H, ⟨xs.length, by simp, Nat.zero_le _, h0⟩, ?_⟩
  rintro i m σ H ⟨rfl, hi, p⟩
  have q := hl i σ H hi p
  by_cases hlt : i < xs.length
  · refine .inr ⟨⟨xs, xs[i], q, by simp [hlt]⟩, Pv (i + 1), fun σ' H' p' => ⟨xs.length - (i + 1), by omega, rfl, hlt, p'⟩, fun x H' y => ?_⟩
    obtain ⟨T, z, rfl, hT, rfl, y⟩ := y
    exact hs i z T σ _ (y xs q) p hT
  · have e : i = xs.length := by omega
    subst e
    exact .inl ⟨⟨xs, q, Nat.le_refl _⟩, hd σ H p⟩
end QN

/-! the graphs that are not equal to one -/
namespace Qp
open PySem PySem.Spec PyProof.Rows L2 QN
/-- t + u, whatever is empty -/
theorem catA_any {K : PySem.W.Frag} {H : Hp} {Q : VK} {a b : Addr} {xs ys : List V} (ha : SqT K H a xs) (hb : SqT K H b ys) (hl : xs.length + ys.length ≤ sizeLine) (k : ∀ (p : Addr) (H' : Hp), Same H H' → SqT K H' p (xs ++ ys) → Q (.ref p) H') : rCatA K (.ref a) (.ref b) H Q := by
  refine ⟨a, b, xs, ys, rfl, rfl, ha, hb, hl, fun e => k b H (Same.refl _) (by rw [e]; exact hb), fun _ e => k a H (Same.refl _) (by rw [e, List.append_nil]; exact ha), fun _ _ p hp => k p _ (same_new hp) (.inl (.inl upd_same))⟩
/-- t[:n] -/
theorem slA_to {K : PySem.W.Frag} {H : Hp} {Q : VK} {a : Addr} {xs : List V} {n : Nat} (ha : SqT K H a xs) (k : ∀ (p : Addr) (H' : Hp), Same H H' → SqT K H' p (xs.take n) → Q (.ref p) H') : rSlA K (.ref a) none (some (n : Int)) H Q := by
  refine ⟨a, xs, rfl, ha, fun w => ?_, fun _ p hp => ?_⟩
  · have w2 := w.2
    rw [HT.sIx_nat] at w2
    exact k a H (Same.refl _) (by rw [List.take_of_length_le (by omega)]; exact ha)
  · refine k p _ (same_new hp) (.inl (.inl ?_))
    have e := cut_to xs n (fun v => v)
    rw [List.map_id', List.map_id'] at e
    rw [upd_same, e]
/-- t[n:] -/
theorem slA_from {K : PySem.W.Frag} {H : Hp} {Q : VK} {a : Addr} {xs : List V} {n : Nat} (ha : SqT K H a xs) (k : ∀ (p : Addr) (H' : Hp), Same H H' → SqT K H' p (xs.drop n) → Q (.ref p) H') : rSlA K (.ref a) (some (n : Int)) none H Q := by
  refine ⟨a, xs, rfl, ha, fun w => ?_, fun _ p hp => ?_⟩
  · have w1 := w.1
    rw [HT.sIx_nat] at w1
    by_cases z : n = 0
    · subst z
      exact k a H (Same.refl _) (by rw [List.drop_zero]; exact ha)
    · have l0 : xs.length = 0 := by omega
      have e0 := List.eq_nil_of_length_eq_zero l0
      exact k a H (Same.refl _) (by rw [e0, List.drop_nil]; rw [e0] at ha; exact ha)
  · refine k p _ (same_new hp) (.inl (.inl ?_))
    have e : cutV xs (some (n : Int)) none = xs.drop n := by
      unfold cutV
      rw [HT.sIx_nat, HT.sIx_none]
      by_cases c : n ≤ xs.length
      · rw [Nat.min_eq_left c, List.take_of_length_le (by rw [List.length_drop]; exact Nat.le_refl _)]
      · rw [Nat.min_eq_right (by omega), List.drop_of_length_le (Nat.le_refl _), List.drop_of_length_le (by omega), List.take_nil]
    rw [upd_same, e]
end Qp

/-! a graph with one row's change otherwise is put into the list -/
namespace Qp
open PySem PySem.Spec PyProof.Rows L2 QN
theorem tSl_at {K : PySem.W.Frag} {σ : L2.St} {H : Hp} {Q : VK} {te : TE} {tl th : TO} (h : te σ H fun x H1 => tl σ H1 fun l H2 => th σ H2 fun u H3 => rSlA K x l u H3 Q) : tSl (rSlA K) te tl th σ H Q := h
/-- found.append((plain[0], plain[1], plain[2][:at] + (row[:3] + (change,),) + plain[2][at + 1:])) -/
theorem other_te {K : PySem.W.Frag} {H : Hp} {Q : VK} {pl a b v FO ra cc : Addr} {us os : List V} {G : Gr} {i : Nat} {x1 x2 x3 x4 : V} (hp : PlainG K H pl a b v us G) (hF : H FO = some (.lst os)) (few : os.length ≤ 1000) (hr : SqT K H ra [x1, x2, x3, x4]) (hl : us.length ≤ 1000)
    (k : ∀ (n t r : Addr) (H' : Hp), Same H H' → SqT K H' r [x1, x2, x3, .ref cc] → SqT K H' t (us.take i ++ [.ref r] ++ us.drop (i + 1)) → SqT K H' n [.ref a, .ref b, .ref t] → H' FO = some (.lst os) → Q .non (upd H' FO (.lst (os ++ [.ref n])))) :
    tBM K "list" rAppend (tVar 1) (tCons (tTup (tCons (tOp (rIxT K) (tVar 0) (tC (.int 0))) (tCons (tOp (rIxT K) (tVar 0) (tC (.int 1)))
      (tCons (tOp (rCatA K) (tOp (rCatA K) (tSl (rSlA K) (tOp (rIxT K) (tVar 0) (tC (.int 2))) tNoPart (tPart (tVar 2))) (tTup (tCons (tOp (rCatA K) (tSl (rSlA K) (tVar 3) tNoPart (tPart (tC (.int 3)))) (tTup (tCons (tVar 4) tNil))) tNil)))
        (tSl (rSlA K) (tOp (rIxT K) (tVar 0) (tC (.int 2))) (tPart (tOp (rI0 fun i j => V.int (i + j)) (tVar 2) (tC (.int 1)))) tNoPart)) tNil)))) tNil)
      [some (.ref pl), some (.ref FO), some (.int (i : Nat)), some (.ref ra), some (.ref cc)] H Q := by
  have ul : (us.take i).length ≤ 1000 := by rw [List.length_take]; omega
  refine ⟨_, rfl, .inl ⟨rfl, _, .inl (.inl hF)⟩, _, rfl, pl, _, _, _, rfl, rfl, hp.hp, rfl, _, rfl, pl, _, _, _, rfl, rfl, hp.hp, rfl, _, rfl, pl, _, _, _, rfl, rfl, hp.hp, rfl, ?_⟩
  refine ⟨_, rfl, _, rfl, slA_to hp.hv fun q1 H1 s1 hq1 => ?_⟩
  refine ⟨_, rfl, _, rfl, slA_to (n := 3) (sqT_same s1 hr) fun q2 H2 s2 hq2 => ?_⟩
  refine ⟨_, rfl, (by show 1 ≤ sizeLine; decide), fun q3 hq3 => ?_⟩
  have s3 := same_new (o := .tup [.ref cc]) hq3
  refine catA_any (sqT_same s3 hq2) (.inl (.inl upd_same)) (by show 3 + 1 ≤ sizeLine; decide) fun r H4 s4 hr4 => ?_
  refine ⟨(by show 1 ≤ sizeLine; decide), fun q5 hq5 => ?_⟩
  have s5 := same_new (o := .tup [.ref r]) hq5
  have s15 := s2.trans (s3.trans (s4.trans s5))
  refine catA_any (sqT_same s15 hq1) (.inl (.inl upd_same)) (by show (us.take i).length + 1 ≤ sizeLine; rw [sizeLine_eq]; omega) fun q6 H6 s6 hq6 => ?_
  have s06 := (s1.trans s15).trans s6
  have p6 := hp.sim (Sim.of s06)
  refine ⟨_, rfl, pl, _, _, _, rfl, rfl, p6.hp, rfl, _, rfl, _, _, rfl, rfl, _, rfl, ?_⟩
  rw [show ((i : Nat) : Int) + 1 = ((i + 1 : Nat) : Int) from rfl]
  dsimp only [tNoPart]
  refine slA_from p6.hv fun q7 H7 s7 hq7 => ?_
  refine catA_any (sqT_same s7 hq6) hq7 (by rw [List.length_append, List.length_drop, List.length_singleton, sizeLine_eq]; omega) fun t H8 s8 ht8 => ?_
  refine ⟨(by show 3 ≤ sizeLine; decide), fun n hn => ?_⟩
  have s9 := same_new (o := .tup [.ref a, .ref b, .ref t]) hn
  have s49 := s5.trans (s6.trans (s7.trans (s8.trans s9)))
  have sm := s06.trans (s7.trans (s8.trans s9))
  exact ⟨FO, os, .ref n, rfl, rfl, sm _ _ hF, by rw [sizeLine_eq]; omega, k n t r _ sm (sqT_same s49 hr4) (sqT_same s9 ht8) (.inl (.inl upd_same)) (sm _ _ hF)⟩
end Qp

/-! the graphs that are not equal to one: the def -/
namespace Qp
open PySem PySem.Spec PyProof.Rows L2 QN
abbrev sLOthers : Stmt := top 40 -- _law_others
abbrev loN : List Str := ["_law_plain", "_law_found", "_law_at", "_law_row", "_law_change_here"]
theorem scLOthers : FnScope loN ["_law_plain"] (defScope sLOthers) := ⟨rfl, rfl, rfl, by decide +kernel, rfl, by decide +kernel, by decide +kernel⟩
theorem eqv_ch (c d : List (Str × Int)) : PyData.eqv (chD c) (chD d) = decide (c = d) := by
  unfold chD
  simp only [PyData.eqv]
  exact eqvAll_map eqv_pairD c d
theorem shaped_ch {c : List (Str × Int)} (ok : ChOk c) : SeqAt.shaped (chD c) = true := by
  show (PyData.canLayAll0 (c.map pairD) && decide (PyData.depthAll (c.map pairD) + 1 ≤ 64)) = true
  have := depth_ch c
  rw [lay_ch c fun p hp => (ok.1 p hp).1, decide_eq_true (by omega)]
  rfl
theorem paired_set {α β : Type} {F : α → β → Prop} : ∀ {xs : List α} {ys : List β} {i : Nat} {x : α} {y : β}, Paired F xs ys → F x y → Paired F (xs.set i x) (ys.set i y)
  | _, _, _, _, _, .nil, _ => .nil
  | _, _, 0, _, _, .cons _ t, h => .cons h t
  | _, _, i + 1, _, _, .cons r t, h => .cons r (paired_set (i := i) t h)
/-- a plain graph that can be made and is not G -/
def OtherAt (K : PySem.W.Frag) (H : Hp) (G : Gr) (u : V) : Prop := ∃ (pl a b v : Addr) (us : List V) (G' : Gr), u = .ref pl ∧ PlainG K H pl a b v us G' ∧ Makes G'.cs G'.ns G'.rs G' ∧ G'.Ok ∧ G' ≠ G
theorem PlainG.simL {K : PySem.W.Frag} {x : Addr} {H H' : Hp} {l : List V} (s : SimX x H H') (hx : H x = some (.lst l)) {pl a b v : Addr} {us : List V} {G : Gr} (h : PlainG K H pl a b v us G) : PlainG K H' pl a b v us G :=
  have t : ∀ {q : Addr} {xs : List V}, SqT K H q xs → SqT K H' q xs := fun h => sqT_simX s hx (fun _ e => by cases e) (fun _ _ e => by cases e) h
  ⟨t h.hp, t h.ha, t h.hb, t h.hv, plAll_simL s hx h.hu⟩
theorem OtherAt.same {K : PySem.W.Frag} {H H' : Hp} {G : Gr} {u : V} (s : Same H H') : OtherAt K H G u → OtherAt K H' G u := fun ⟨pl, a, b, v, us, G', e, h, r⟩ => ⟨pl, a, b, v, us, G', e, h.sim (Sim.of s), r⟩
theorem OtherAt.simL {K : PySem.W.Frag} {x : Addr} {H H' : Hp} {l : List V} (s : SimX x H H') (hx : H x = some (.lst l)) {G : Gr} {u : V} : OtherAt K H G u → OtherAt K H' G u := fun ⟨pl, a, b, v, us, G', e, h, r⟩ => ⟨pl, a, b, v, us, G', e, h.simL s hx, r⟩
/-- a graph without rows: two more -/
theorem last_te {K : PySem.W.Frag} {H : Hp} {Q : VK} {v2 v3 v4 : Option V} {pl a b v FO : Addr} {us os : List V} {G : Gr} (hp : PlainG K H pl a b v us G) (L : LawD G) (hF : H FO = some (.lst os)) (ho : ∀ u ∈ os, OtherAt K H G u) (few : os.length ≤ 17)
    (k : ∀ (D : Addr) (os' : List V) (H' : Hp), Same H H' → H' D = some (.lst os') → (∀ u ∈ os', OtherAt K H' G u) → os'.length ≤ 20 → Q (.ref D) H') :
    tSeq (tIfS (tTest (tOp (rEqD K) (tOp (rIxT K) (tVar 0) (tC (.int 2))) (tTup tNil)))
      (tAsg (tOp rCat (tVar 1) (tLst (tCons (tTup (tCons (tOp (rIxT K) (tVar 0) (tC (.int 0))) (tCons (tTup (tCons (tC (.str "zz")) tNil)) (tCons (tTup tNil) tNil))))
        (tCons (tTup (tCons (tOp (rIxT K) (tVar 0) (tC (.int 0))) (tCons (tOp (rIxT K) (tVar 0) (tC (.int 1))) (tCons (tTup (tCons (tTup (tCons (tC (.str "b")) (tCons (tOp (rIxT K) (tOp (rIxT K) (tVar 0) (tC (.int 1))) (tC (.int 0))) (tCons (tOp (rIxT K) (tOp (rIxT K) (tVar 0) (tC (.int 1))) (tC (.int 0))) (tCons (tTupZ tNil) tNil))))) tNil)) tNil)))) tNil)))) (gName 1))
      tNext) (tRet (tVar 1)) { nx := fun _ H' => Q .non H', rt := Q } [some (.ref pl), some (.ref FO), v2, v3, v4] H := by
  refine ⟨_, rfl, pl, _, _, _, rfl, rfl, hp.hp, rfl, (by show 0 ≤ sizeLine; decide), fun e he => ?_⟩
  have se := same_new (o := .tup []) he
  have p2 := hp.sim (Sim.of se)
  have em : SqT K (upd H e (.tup [])) e [] := .inl (.inl upd_same)
  have F2 := se _ _ hF
  have o2 : ∀ u ∈ os, OtherAt K (upd H e (.tup [])) G u := fun u hu => (ho u hu).same se
  generalize upd H e (.tup []) = H2 at se p2 em F2 o2
  refine ⟨.tuple (G.rs.map rowD), .tuple [], .tup p2.hv (plAll_dp p2.hu), .tup em .nil, shaped_rows L.ok.ro, by decide, ?_⟩
  have e1 : PyData.eqv (.tuple (G.rs.map rowD)) (.tuple []) = decide (G.rs = []) := eqv_rows G.rs []
  rw [e1]
  by_cases r0 : G.rs = []
  · refine ⟨_, rfl, if_yes (decide_eq_true r0) ?_⟩
    obtain ⟨n0, e0⟩ := L.one r0
    have hn0 : atI (G.ns.map V.str) 0 = some (.str n0) := by
      rw [e0]
      exact atI_nat (j := 0) rfl
    refine ⟨_, rfl, _, rfl, pl, _, _, _, rfl, rfl, p2.hp, rfl, (by show 1 ≤ sizeLine; decide), fun z1 hz1 => ⟨(by show 0 ≤ sizeLine; decide), fun z2 hz2 => ⟨(by show 3 ≤ sizeLine; decide), fun A hA => ?_⟩⟩⟩
    have s1 := same_new (o := .tup [.str "zz"]) hz1
    have s2 := same_new (o := .tup []) hz2
    have s3 := same_new (o := .tup [.ref a, .ref z1, .ref z2]) hA
    have s13 := s1.trans (s2.trans s3)
    have Z1 := s3 _ _ (s2 _ _ (upd_same (H := H2) (a := z1) (o := .tup [.str "zz"])))
    have Z2 := s3 _ _ (upd_same (H := upd H2 z1 (.tup [.str "zz"])) (a := z2) (o := .tup []))
    have ZA : (upd (upd (upd H2 z1 (.tup [.str "zz"])) z2 (.tup [])) A (.tup [.ref a, .ref z1, .ref z2])) A = some (.tup [.ref a, .ref z1, .ref z2]) := upd_same
    generalize upd (upd (upd H2 z1 (.tup [.str "zz"])) z2 (.tup [])) A (.tup [.ref a, .ref z1, .ref z2]) = H3 at s13 Z1 Z2 ZA
    have p3 := p2.sim (Sim.of s13)
    have zz : NameOk "zz" := by decide +kernel
    have nz : ∀ w ∈ nodes4, w ≠ "zz" := by decide +kernel
    have oA : OtherAt K H3 G (.ref A) := by
      obtain ⟨m, o⟩ := L.lone zz
      refine ⟨A, a, z1, z2, [], ⟨G.cs, zzL, []⟩, rfl, ⟨.inl (.inl ZA), p3.ha, .inl (.inl Z1), .inl (.inl Z2), .nil⟩, m, o, fun e => ?_⟩
      have e2 : zzL = G.ns := congrArg Gr.ns e
      exact nz "zz" (L.nm "zz" (by rw [← e2]; exact List.mem_cons_self)) rfl
    refine ⟨_, rfl, pl, _, _, _, rfl, rfl, p3.hp, rfl, _, rfl, pl, _, _, _, rfl, rfl, p3.hp, rfl, _, rfl, pl, _, _, _, rfl, rfl, p3.hp, rfl, b, _, _, _, rfl, rfl, p3.hb, hn0, _, rfl, pl, _, _, _, rfl, rfl, p3.hp, rfl, b, _, _, _, rfl, rfl, p3.hb, hn0,
      (by show 0 ≤ sizeLine; decide), fun u o hu od => ⟨(by show 4 ≤ sizeLine; decide), fun w hw => ⟨(by show 1 ≤ sizeLine; decide), fun t ht => ⟨(by show 3 ≤ sizeLine; decide), fun B hB => ⟨(by show 2 ≤ sizeLine; decide), fun LL hLL => ?_⟩⟩⟩⟩⟩
    have k1 := same_new (o := .frz o (.tup [])) hu
    have k2 := same_new (o := .tup [.str "b", .str n0, .str n0, .ref u]) hw
    have k3 := same_new (o := .tup [.ref w]) ht
    have k4 := same_new (o := .tup [.ref a, .ref b, .ref t]) hB
    have k5 := same_new (o := .lst [.ref A, .ref B]) hLL
    have k45 := k4.trans k5
    have k35 := k3.trans k45
    have k25 := k2.trans k35
    have k15 := k1.trans k25
    have U := k25 _ _ (upd_same (H := H3) (a := u) (o := .frz o (.tup [])))
    have W := k35 _ _ (upd_same (H := upd H3 u (.frz o (.tup []))) (a := w) (o := .tup [.str "b", .str n0, .str n0, .ref u]))
    have T := k45 _ _ (upd_same (H := upd (upd H3 u (.frz o (.tup []))) w (.tup [.str "b", .str n0, .str n0, .ref u])) (a := t) (o := .tup [.ref w]))
    have BB := k5 _ _ (upd_same (H := upd (upd (upd H3 u (.frz o (.tup []))) w (.tup [.str "b", .str n0, .str n0, .ref u])) t (.tup [.ref w])) (a := B) (o := .tup [.ref a, .ref b, .ref t]))
    have LE : (upd (upd (upd (upd (upd H3 u (.frz o (.tup []))) w (.tup [.str "b", .str n0, .str n0, .ref u])) t (.tup [.ref w])) B (.tup [.ref a, .ref b, .ref t])) LL (.lst [.ref A, .ref B])) LL = some (.lst [.ref A, .ref B]) := upd_same
    generalize upd (upd (upd (upd (upd H3 u (.frz o (.tup []))) w (.tup [.str "b", .str n0, .str n0, .ref u])) t (.tup [.ref w])) B (.tup [.ref a, .ref b, .ref t])) LL (.lst [.ref A, .ref B]) = H4 at k15 U W T BB LE
    have p4 := p3.sim (Sim.of k15)
    have oB : OtherAt K H4 G (.ref B) := by
      obtain ⟨m, o'⟩ := L.loop e0
      refine ⟨B, a, b, t, [.ref w], ⟨G.cs, [n0], [⟨"b", n0, n0, []⟩]⟩, rfl, ⟨.inl (.inl BB), p4.ha, ?_, .inl (.inl T), .cons ⟨w, u, [], rfl, .inl (.inl W), ⟨.inl (.inr ⟨o, U⟩), .inl ⟨o, U, od⟩⟩, .nil⟩ .nil⟩, m, o', fun e => ?_⟩
      · have := p4.hb
        rw [e0] at this
        exact this
      · have e2 := congrArg Gr.rs e
        rw [r0] at e2
        cases e2
    have F4 := k15 _ _ (s13 _ _ F2)
    refine ⟨FO, LL, os, _, rfl, rfl, F4, LE, by rw [sizeLine_eq]; show os.length + 2 ≤ _; omega, fun D hD => ⟨_, rfl, ?_⟩⟩
    have sD := same_new (o := .lst (os ++ [.ref A, .ref B])) hD
    refine k D _ _ (se.trans (s13.trans (k15.trans sD))) upd_same (fun x hx => ?_) (by rw [List.length_append]; show os.length + 2 ≤ 20; omega)
    rcases List.mem_append.mp hx with h | h
    · exact (o2 x h).same (s13.trans (k15.trans sD))
    · rcases List.mem_cons.mp h with rfl | h
      · exact oA.same (k15.trans sD)
      · cases List.mem_singleton.mp h
        exact oB.same sD
  · refine ⟨_, rfl, if_no (by simpa using r0) ?_⟩
    exact ⟨_, rfl, k FO os H2 se F2 o2 (by omega)⟩
def spLOthers (K : PySem.W.Frag) : Sp := fun vs H Q _ => ∃ (pl a b v : Addr) (us : List V) (G : Gr), vs = [.ref pl] ∧ PlainG K H pl a b v us G ∧ LawD G ∧
  ∀ (D : Addr) (os : List V) (H' : Hp), Same H H' → H' D = some (.lst os) → (∀ u ∈ os, OtherAt K H' G u) → os.length ≤ 20 → Q (.ref D) H'
section
variable {P : Program} {w : World} {K : PySem.W.Frag} {mg : Str → Option Value} {base : Heap}
theorem ok_lothers {f : Addr} {fd : FuncData} (F : Fun K "_law_others" "_law_others" sLOthers f fd) (B : BltP mg) (en : mg "enumerate" = none) : FnOk P w K mg base CX0 1 f fd ["_law_plain"] (spLOthers K) := by
  refine F.ok scLOthers (fun vs H Q E h => ?_) (fun cdv A outer s H vs Q E hr h => ?_)
  · obtain ⟨pl, a, b, v, us, G, rfl, _⟩ := h
    rfl
  · obtain ⟨pl, a, b, v, us, G, rfl, hp, L, k⟩ := h
    have hu64 : (A.deeper (envOfC "_law_others" (defScope sLOthers) s.heap.objs.size f cdv)).units + 64 < cLine := by
      have := hr.un
      omega
    refine ⟨_, pss_cons (ps_set (i := 1) scLOthers.nd rfl (.inl rfl) (pe_lst pa_nil))
      (pss_cons (ps_for PassesOwn.never rfl (pi_enumT (by rfl) en (pa_cons (pe_ix ix_tup (pv 0) pe_int (fun _ _ => rfl)) pa_nil)) (pg_tup rfl (pgs_cons (pg_name (i := 2) scLOthers.nd rfl (.inl rfl)) (pgs_cons (pg_name (i := 3) scLOthers.nd rfl (.inl rfl)) pgs_nil)))
        (pss_cons (ps_set (i := 4) scLOthers.nd rfl (.inl rfl) (pe_ifExp (pt_cmpR (op_neD hu64) (pe_ix ix_tup (pv 3) pe_int (fun _ _ => rfl)) (pe_tup (pa_cons (pe_tup (pa_cons (pe_ix ix_tup (pe_ix ix_tup (pv 0) pe_int (fun _ _ => rfl)) pe_int (fun _ _ => rfl)) (pa_cons pe_int pa_nil))) pa_nil)) (nomark _))
          (pe_tupZ (pa_cons (pe_tup (pa_cons (pe_ix ix_tup (pe_ix ix_tup (pv 0) pe_int (fun _ _ => rfl)) pe_int (fun _ _ => rfl)) (pa_cons pe_int pa_nil))) pa_nil)) (pe_tupZ pa_nil)))
        (pss_one (ps_expr (pe_bm PySem.F.plainAttrs_list PySem.F.slot_list_append PySem.F.type_list_append mt_append (pv 1) (pa_cons (pe_tup (pa_cons (pe_ix ix_tup (pv 0) pe_int (fun _ _ => rfl)) (pa_cons (pe_ix ix_tup (pv 0) pe_int (fun _ _ => rfl))
          (pa_cons (pe_op op_catA (pe_op op_catA (pe_slice sl_tupA (pe_ix ix_tup (pv 0) pe_int (fun _ _ => rfl)) po_none (po_some (pv 2))) (pe_tup (pa_cons (pe_op op_catA (pe_slice sl_tupA (pv 3) po_none (po_some pe_int)) (pe_tup (pa_cons (pv 4) pa_nil))) pa_nil)))
            (pe_slice sl_tupA (pe_ix ix_tup (pv 0) pe_int (fun _ _ => rfl)) (po_some (pe_op op_add (pv 2) pe_int)) po_none)) pa_nil)))) pa_nil))))))
      (pss_cons (ps_if (pt_cmpR op_lt (pe_callB call_len_seq (by rfl) B.len PySem.boot_len (pa_cons (pe_ix ix_tup (pv 0) pe_int (fun _ _ => rfl)) pa_nil)) pe_int (nomark _))
        (pss_one (ps_expr (pe_bm PySem.F.plainAttrs_list PySem.F.slot_list_append PySem.F.type_list_append mt_append (pv 1) (pa_cons (pe_tup (pa_cons (pe_op op_catA (pe_ix ix_tup (pv 0) pe_int (fun _ _ => rfl)) (pe_tup (pa_cons pe_str pa_nil))) (pa_cons (pe_ix ix_tup (pv 0) pe_int (fun _ _ => rfl)) (pa_cons (pe_ix ix_tup (pv 0) pe_int (fun _ _ => rfl)) pa_nil)))) pa_nil)))) pss_nil)
      (pss_cons (ps_if (pt_cmpR (op_eqD hu64) (pe_ix ix_tup (pv 0) pe_int (fun _ _ => rfl)) (pe_tup pa_nil) (nomark _))
        (pss_one (ps_set (i := 1) scLOthers.nd rfl (.inl rfl) (pe_op op_cat (pv 1) (pe_lst (pa_cons (pe_tup (pa_cons (pe_ix ix_tup (pv 0) pe_int (fun _ _ => rfl)) (pa_cons (pe_tup (pa_cons pe_str pa_nil)) (pa_cons (pe_tup pa_nil) pa_nil))))
          (pa_cons (pe_tup (pa_cons (pe_ix ix_tup (pv 0) pe_int (fun _ _ => rfl)) (pa_cons (pe_ix ix_tup (pv 0) pe_int (fun _ _ => rfl)) (pa_cons (pe_tup (pa_cons (pe_tup (pa_cons pe_str (pa_cons (pe_ix ix_tup (pe_ix ix_tup (pv 0) pe_int (fun _ _ => rfl)) pe_int (fun _ _ => rfl)) (pa_cons (pe_ix ix_tup (pe_ix ix_tup (pv 0) pe_int (fun _ _ => rfl)) pe_int (fun _ _ => rfl)) (pa_cons (pe_tupZ pa_nil) pa_nil))))) pa_nil)) pa_nil)))) pa_nil)))))) pss_nil)
      (pss_one (ps_ret (pv 1)))))), ?_⟩
    obtain ⟨c0, hc0, mc0⟩ : ∃ c0, atI (G.cs.map V.str) 0 = some (V.str c0) ∧ c0 ∈ G.cs := by
      have c1 := L.c1
      cases e : G.cs with
      | nil => rw [e] at c1; exact absurd c1 (by decide)
      | cons x r => exact ⟨x, atI_nat (j := 0) rfl, List.mem_cons_self⟩
    have chOne : ChOk [(c0, 1)] := ⟨fun p hp => by cases List.mem_singleton.mp hp; exact ⟨L.ok.cn c0 mc0, by show (1 : Int) ≠ 0; decide, by show -9 ≤ (1 : Int); decide, by show (1 : Int) ≤ 9; decide⟩, asc_of (.cons (fun _ h => (by cases h)) .nil), by show 1 ≤ 100; decide⟩
    refine ⟨(by show 0 ≤ sizeLine; decide), fun FO hFO => ?_⟩
    have sF := same_new (o := .lst []) hFO
    have FE : (upd H FO (.lst [])) FO = some (.lst []) := upd_same
    generalize upd H FO (.lst []) = HE at sF FE
    refine ⟨_, rfl, pl, _, _, _, rfl, rfl, sqT_same sF hp.hp, rfl, v, us, rfl, sqT_same sF hp.hv, for_enumT (xs := us) (fun i σ H' => ∃ y2 y3 y4, σ = [some (.ref pl), some (.ref FO), y2, y3, y4] ∧ Same H H' ∧ ∃ os : List V, H' FO = some (.lst os) ∧ (∀ u ∈ os, OtherAt K H' G u) ∧ os.length = i) ⟨_, _, _, rfl, sF, [], FE, fun _ h => (by cases h), rfl⟩ (fun i σ H' _ p => sqT_same p.choose_spec.choose_spec.choose_spec.2.1 hp.hv) ?hs ?hd⟩
    case hs =>
      rintro i u T σ H1 hu ⟨y2, y3, y4, rfl, sm, os, hos, ho, ol⟩ hT
      have sT := same_new (o := .tup [.int (i : Nat), u]) hT
      have il := (List.getElem?_eq_some_iff.mp hu).1
      have rl := hp.hu.length
      have rl16 := L.ok.rl
      have hrow : G.rs[i]? = some (G.rs[i]'(by omega)) := List.getElem?_eq_getElem _
      generalize G.rs[i]'(by omega) = row at hrow
      have s2 := sm.trans sT
      obtain ⟨ra, rc, xs, rfl, h1, h2, h3⟩ := plRow_sim (Sim.of s2) (paired_at hp.hu hu hrow)
      refine ⟨T, _, rfl, .inl (.inl upd_same), rfl, _, _, rfl, _, _, rfl, rfl, ?_⟩
      dsimp only [gName]
      have p2 := hp.sim (Sim.of s2)
      have F2 := sT _ _ hos
      have o2 : ∀ u ∈ os, OtherAt K (upd H1 T (.tup [.int (i : Nat), .ref ra])) G u := fun u hu => (ho u hu).same sT
      generalize upd H1 T (.tup [.int (i : Nat), .ref ra]) = H2 at s2 h1 h2 h3 p2 F2 o2
      have done : ∀ (cc : Addr) (ws : List V) (c' : List (Str × Int)) (H3 : Hp), Same H2 H3 → PlT K H3 cc ws → DpAll K H3 ws (c'.map pairD) → ChOk c' → (∀ p ∈ c', p.1 ∈ G.cs) → c' ≠ row.c → ∀ (n t r : Addr) (H' : Hp), Same H3 H' → SqT K H' r [.str row.n, .str row.s, .str row.t, .ref cc] → SqT K H' t (us.take i ++ [.ref r] ++ us.drop (i + 1)) → SqT K H' n [.ref a, .ref b, .ref t] → H' FO = some (.lst os) →
          Same H (upd H' FO (.lst (os ++ [.ref n]))) ∧ ∃ os' : List V, (upd H' FO (.lst (os ++ [.ref n]))) FO = some (.lst os') ∧ (∀ u ∈ os', OtherAt K (upd H' FO (.lst (os ++ [.ref n]))) G u) ∧ os'.length = i + 1 := by
        intro cc ws c' H3 s3 hcc hws okc inc ne n t r H' s4 hr ht hn hF
        have LD := L.setCh hrow okc inc
        have sx : SimX FO H' (upd H' FO (.lst (os ++ [.ref n]))) := simX_upd
        have s24 := s3.trans s4
        have hset : us.take i ++ [V.ref r] ++ us.drop (i + 1) = us.set i (.ref r) := by
          rw [List.set_eq_take_append_cons_drop, if_pos il, List.append_assoc]
          rfl
        have pn : PlainG K H' n a b t (us.set i (.ref r)) ⟨G.cs, G.ns, G.rs.set i { row with c := c' }⟩ := by
          have p4 := p2.sim (Sim.of s24)
          refine ⟨hn, p4.ha, p4.hb, by rw [← hset]; exact ht, ?_⟩
          exact paired_set p4.hu ⟨r, cc, ws, rfl, hr, plT_same s4 hcc, dpAll_same s4 _ _ hws⟩
        refine ⟨same_upd' (s2.trans s24) hFO, os ++ [.ref n], upd_same, fun u hu => ?_, by rw [List.length_append, List.length_singleton, ol]⟩
        rcases List.mem_append.mp hu with h | h
        · exact ((o2 u h).same s24).simL sx hF
        · cases List.mem_singleton.mp h
          refine ⟨n, a, b, t, _, _, rfl, pn.simL sx hF, LD.made, LD.ok, fun e => ne ?_⟩
          have e2 : G.rs.set i { row with c := c' } = G.rs := congrArg Gr.rs e
          have e3 := congrArg (fun l => l[i]?) e2
          simp only [List.getElem?_set_self (by omega : i < G.rs.length), hrow] at e3
          exact congrArg Row.c (Option.some.inj e3)
      have ul : us.length ≤ 1000 := by omega
      have ol2 : os.length ≤ 1000 := by omega
      refine ⟨_, rfl, ra, _, _, _, rfl, rfl, h1, rfl, _, rfl, pl, _, _, _, rfl, rfl, p2.hp, rfl, a, _, _, _, rfl, rfl, p2.ha, hc0, (by show 2 ≤ sizeLine; decide), fun t1 ht1 => ⟨(by show 1 ≤ sizeLine; decide), fun t2 ht2 => ?_⟩⟩
      have q1 := same_new (o := .tup [.str c0, .int 1]) ht1
      have q2 := same_new (o := .tup [.ref t1]) ht2
      have s24 := q1.trans q2
      have T1 := q2 _ _ (upd_same (H := H2) (a := t1) (o := .tup [.str c0, .int 1]))
      have T2 : (upd (upd H2 t1 (.tup [.str c0, .int 1])) t2 (.tup [.ref t1])) t2 = some (.tup [.ref t1]) := upd_same
      generalize upd (upd H2 t1 (.tup [.str c0, .int 1])) t2 (.tup [.ref t1]) = H4 at s24 T1 T2
      have okr := (L.ok.ro row (List.mem_of_getElem? hrow)).c
      refine ⟨chD row.c, chD [(c0, 1)], .tup (sqT_same s24 h2.1) (dpAll_same s24 _ _ h3), .tup (.inl (.inl T2)) (.cons (.tup (.inl (.inl T1)) (.cons (.str _) (.cons (.int _) .nil))) .nil), shaped_ch okr, shaped_ch chOne, ?_⟩
      rw [eqv_ch]
      have p4 := p2.sim (Sim.of s24)
      by_cases e : row.c = [(c0, 1)]
      · refine ⟨_, rfl, if_no (by simp [e]) ⟨(by show 0 ≤ sizeLine; decide), fun z o hz od => ?_⟩⟩
        have sz := same_new (o := .frz o (.tup [])) hz
        have s3 := s24.trans sz
        refine other_te (p4.sim (Sim.of sz)) (s3 _ _ F2) ol2 (sqT_same s3 h1) ul fun n t r H' s4 hr ht hn hF => ?_
        obtain ⟨d1, d2⟩ := done z [] [] _ s3 ⟨.inl (.inr ⟨o, upd_same⟩), .inl ⟨o, upd_same, od⟩⟩ .nil ⟨fun _ h => (by cases h), asc_of .nil, by decide⟩ (fun _ h => (by cases h)) (by rw [e]; exact fun h => by cases h) n t r H' s4 hr ht hn hF
        exact ⟨_, _, _, rfl, d1, d2⟩
      · refine ⟨_, rfl, if_yes (by simp [e]) ⟨_, rfl, pl, _, _, _, rfl, rfl, p4.hp, rfl, a, _, _, _, rfl, rfl, p4.ha, hc0, (by show 2 ≤ sizeLine; decide), fun t3 ht3 => ⟨(by show 1 ≤ sizeLine; decide), fun z o hz od => ?_⟩⟩⟩
        have sy := same_new (o := .tup [.str c0, .int 1]) ht3
        have sz := same_new (o := .frz o (.tup [.ref t3])) hz
        have s3 := s24.trans (sy.trans sz)
        have T3 := sz _ _ (upd_same (H := H4) (a := t3) (o := .tup [.str c0, .int 1]))
        refine other_te (p4.sim (Sim.of (sy.trans sz))) (s3 _ _ F2) ol2 (sqT_same s3 h1) ul fun n t r H' s4 hr ht hn hF => ?_
        obtain ⟨d1, d2⟩ := done z [.ref t3] [(c0, 1)] _ s3 ⟨.inl (.inr ⟨o, upd_same⟩), .inl ⟨o, upd_same, od⟩⟩ (.cons (.tup (.inl (.inl T3)) (.cons (.str _) (.cons (.int _) .nil))) .nil) chOne (fun p hp => by cases List.mem_singleton.mp hp; exact mc0) (fun h => e h.symm) n t r H' s4 hr ht hn hF
        exact ⟨_, _, _, rfl, d1, d2⟩
    case hd =>
      rintro σ H1 ⟨y2, y3, y4, rfl, sm, os, hos, ho, ol⟩
      have p1 := hp.sim (Sim.of sm)
      refine ⟨_, rfl, pl, _, _, _, rfl, rfl, p1.hp, rfl, a, _, rfl, .inr p1.ha, _, _, rfl, rfl, _, rfl, ?_⟩
      rw [List.length_map]
      by_cases f5 : G.cs.length < 5
      · refine if_yes (decide_eq_true (by omega)) ?_
        have rl16 := L.ok.rl
        have rl := hp.hu.length
        refine ⟨_, rfl, .inl ⟨rfl, _, .inl (.inl hos)⟩, _, rfl, pl, _, _, _, rfl, rfl, p1.hp, rfl, (by show 1 ≤ sizeLine; decide), fun z1 hz1 => ?_⟩
        have s1 := same_new (o := .tup [.str "zz"]) hz1
        refine catA_any (sqT_same s1 p1.ha) (.inl (.inl upd_same)) (by rw [List.length_map, sizeLine_eq]; show G.cs.length + 1 ≤ _; omega) fun z2 H2 s2 hz2 => ?_
        have s12 := s1.trans s2
        have p2 := p1.sim (Sim.of s12)
        refine ⟨_, rfl, pl, _, _, _, rfl, rfl, p2.hp, rfl, _, rfl, pl, _, _, _, rfl, rfl, p2.hp, rfl, (by show 3 ≤ sizeLine; decide), fun A hA => ?_⟩
        have s3 := same_new (o := .tup [.ref z2, .ref b, .ref v]) hA
        have s13 := s12.trans s3
        have F3 := s13 _ _ hos
        refine ⟨FO, os, .ref A, rfl, rfl, F3, by rw [sizeLine_eq]; omega, ?_⟩
        have sx : SimX FO (upd H2 A (.tup [.ref z2, .ref b, .ref v])) (upd (upd H2 A (.tup [.ref z2, .ref b, .ref v])) FO (.lst (os ++ [.ref A]))) := simX_upd
        have p3 := p2.sim (Sim.of s3)
        obtain ⟨m, o⟩ := L.counter f5
        have oA : OtherAt K (upd H2 A (.tup [.ref z2, .ref b, .ref v])) G (.ref A) := by
          refine ⟨A, z2, b, v, us, ⟨G.cs ++ zzL, G.ns, G.rs⟩, rfl, ⟨.inl (.inl upd_same), ?_, p3.hb, p3.hv, p3.hu⟩, m, o, fun e => ?_⟩
          · show SqT K _ z2 ((G.cs ++ zzL).map V.str)
            rw [List.map_append]
            exact sqT_same s3 hz2
          · have e2 := congrArg (fun g : Gr => g.cs.length) e
            simp at e2
        have sm2 := same_upd' (sm.trans s13) hFO (o := .lst (os ++ [.ref A]))
        refine last_te (p3.simL sx F3) L upd_same (fun u hu => ?_) (by rw [List.length_append, List.length_singleton]; omega) fun D os' H' s' hD h1 h2 => k D os' H' (sm2.trans s') hD h1 h2
        rcases List.mem_append.mp hu with h | h
        · exact ((ho u h).same s13).simL sx F3
        · cases List.mem_singleton.mp h
          exact oA.simL sx F3
      · refine if_no (by simp; omega) ?_
        have rl16 := L.ok.rl
        have rl := hp.hu.length
        exact last_te p1 L hos ho (by omega) fun D os' H' s' hD h1 h2 => k D os' H' (sm.trans s') hD h1 h2
end
end Qp

/-! parts in another order, with repeats, make the same graph -/
namespace Qp
open PySem PySem.Spec PyProof.Rows L2 QN
theorem mem_touched {rs : List Row} {z : Str} : z ∈ touched rs ↔ ∃ l ∈ fwd rs, l.1 = z ∨ l.2 = z := by
  rw [touched_fwd, List.mem_flatMap]
  constructor
  · rintro ⟨l, hl, h⟩
    refine ⟨l, hl, ?_⟩
    rcases List.mem_cons.mp h with h | h
    · exact .inl h.symm
    · exact .inr (List.mem_singleton.mp h).symm
  · rintro ⟨l, hl, h⟩
    refine ⟨l, hl, ?_⟩
    rcases h with h | h
    · rw [← h]
      exact List.mem_cons_self
    · rw [← h]
      exact List.mem_cons_of_mem _ List.mem_cons_self
/-- where there are rows, each state is the end of one -/
theorem LawD.touched {G : Gr} (L : LawD G) (r0 : G.rs ≠ []) : ∀ z ∈ G.ns, z ∈ Qp.touched G.rs := by
  obtain ⟨x, st, e, GO⟩ := L.made.ok
  intro z hz
  rw [e] at hz
  refine Classical.byContradiction fun no => ?_
  have nt : ∀ l ∈ fwd G.rs, l.1 ≠ z ∧ l.2 ≠ z := fun l hl => ⟨fun h => no (mem_touched.mpr ⟨l, hl, .inl h⟩), fun h => no (mem_touched.mpr ⟨l, hl, .inr h⟩)⟩
  by_cases zx : z = x
  · subst zx
    have all := GO.rf [z] List.mem_cons_self fun l hl h => absurd (List.mem_singleton.mp h) (nt l hl).1
    cases er : G.rs with
    | nil => exact r0 er
    | cons r rs =>
      have m : (r.s, r.t) ∈ fwd G.rs := by
        rw [er]
        exact List.mem_cons_self
      have s1 : r.s ∈ z :: st := (GO.sm r.s).mpr (.inr (mem_touched.mpr ⟨_, m, .inl rfl⟩))
      exact (nt _ m).1 (List.mem_singleton.mp (all _ s1))
  · have c := GO.rf ((x :: st).filter fun y => decide (y ≠ z)) (List.mem_filter.mpr ⟨List.mem_cons_self, decide_eq_true fun h => zx h.symm⟩) (fun l hl _ => List.mem_filter.mpr ⟨(GO.sm l.2).mpr (.inr (mem_touched.mpr ⟨l, hl, .inr rfl⟩)), decide_eq_true (nt l hl).2⟩) z hz
    exact absurd rfl (of_decide_eq_true (List.mem_filter.mp c).2)
theorem LawD.perm {G : Gr} (L : LawD G) {cs ns : List Str} {rs : List Row} (hc : ∀ z, z ∈ cs ↔ z ∈ G.cs) (lc : cs.length ≤ 16) (hn : ∀ z ∈ ns, z ∈ G.ns) (hn0 : G.rs = [] → ∀ z ∈ G.ns, z ∈ ns) (ln : ns.length ≤ 16) (pm : rs.Perm G.rs) : Makes cs ns rs G := by
  have tz := L.touched
  obtain ⟨x, st, e, GO⟩ := L.made.ok
  have mt : ∀ z, z ∈ Qp.touched rs ↔ z ∈ Qp.touched G.rs := fun z => (List.Perm.flatMap_right _ pm).mem_iff
  refine ⟨⟨x, st, e, ⟨fun c h => L.ok.cn c ((hc c).mp h), fun c h => L.ok.nn c (hn c h), fun r h => L.ok.ro r (pm.mem_iff.mp h), GO.ea, fun z => (hc z).symm, GO.el, GO.sa, fun z => ⟨fun h => ?_, fun h => ?_⟩, GO.sl, by rw [pm.length_eq]; exact GO.rl, lc, ln, ?_, fun r h => GO.cc r (pm.mem_iff.mp h), reach_mono GO.rf fun l hl => ((pm.map _).mem_iff.mpr hl), reach_mono GO.rb fun l hl => ((pm.map _).mem_iff.mpr hl)⟩⟩, pm.symm, L.ok.ra⟩
  · by_cases r0 : G.rs = []
    · exact .inl (hn0 r0 z (by rw [e]; exact h))
    · exact .inr ((mt z).mpr (tz r0 z (by rw [e]; exact h)))
  · rcases h with h | h
    · rw [← e]
      exact hn z h
    · exact (GO.sm z).mpr (.inr ((mt z).mp h))
  · exact ((List.Perm.append_left G.cs (pm.map _)).nodup_iff).mpr GO.nd
end Qp

/-! the graph of a plain one that can be made; things in another order -/
namespace Qp
open PySem PySem.Spec PyProof.Rows L2 QN
def spLBuiltM (K : PySem.W.Frag) (C PI : Addr) : Sp := fun vs H Q _ => ∃ (pl a b v : Addr) (us : List V) (G : Gr), vs = [.ref pl] ∧ PlainG K H pl a b v us G ∧ Makes G.cs G.ns G.rs G ∧ GxR.TabG H PI ∧ ∀ (g : Addr) (H' : Hp), Sim H H' → GraphAt K C H' g G → Q (.ref g) H'
theorem graphAt_simL {K : PySem.W.Frag} {C x : Addr} {H H' : Hp} {l : List V} (s : SimX x H H') (hx : H x = some (.lst l)) {g : Addr} {G : Gr} (h : GraphAt K C H g G) : GraphAt K C H' g G := by
  have t : ∀ {q : Addr} {xs : List V}, SqT K H q xs → SqT K H' q xs := fun h => sqT_simX s hx (fun _ e => by cases e) (fun _ _ e => by cases e) h
  have o : ∀ {q : Addr} {u : HO}, NoTb u → (∀ m, u ≠ .lst m) → H q = some u → H' q = some u := fun nt nl e => s.st _ _ (fun z => by rw [z, hx] at e; exact nl _ (Option.some.inj e).symm) nt e
  obtain ⟨dx, c, st, r, n, b, k, us, h1, h2⟩ := h
  exact ⟨dx, c, st, r, n, b, k, us, o (nt_ins _ _ _) (fun _ e => by cases e) h1, t h2.hc, t h2.ht, t h2.hr, plAll_simL s hx h2.hp, t h2.hn, o (nt_dK _) (fun _ e => by cases e) h2.hb, o (nt_dK _) (fun _ e => by cases e) h2.hk⟩
theorem tabG_ne {H : Hp} {p T : Addr} {l : List V} (hp : H p = some (.lst l)) (t : GxR.TabG H T) : T ≠ p := fun c => by
  obtain ⟨ps, e, _⟩ := t
  rw [c, hp] at e
  cases e
theorem paired_perm {α β : Type} {F : α → β → Prop} {xs ys : List α} (h : ys.Perm xs) : ∀ {rs : List β}, Paired F xs rs → ∃ rs', Paired F ys rs' ∧ rs'.Perm rs := by
  have key : ∀ {xs ys : List α}, xs.Perm ys → ∀ {rs : List β}, Paired F xs rs → ∃ rs', Paired F ys rs' ∧ rs'.Perm rs := by
    intro xs ys h
    induction h with
    | nil => exact fun p => ⟨_, p, List.Perm.refl _⟩
    | cons x _ ih =>
      intro rs p
      cases p with
      | cons r t =>
        obtain ⟨rs', p', pm⟩ := ih t
        exact ⟨_, .cons r p', pm.cons _⟩
    | swap x y l =>
      intro rs p
      cases p with
      | cons r t =>
        cases t with
        | cons r2 t => exact ⟨_, .cons r2 (.cons r t), List.Perm.swap _ _ _⟩
    | trans _ _ ih1 ih2 =>
      intro rs p
      obtain ⟨r1, p1, m1⟩ := ih1 p
      obtain ⟨r2, p2, m2⟩ := ih2 p1
      exact ⟨r2, p2, m2.trans m1⟩
  exact fun {rs} p => key h.symm p
/-- of things in another order, some, all are among the things -/
theorem some_strs {ys : List V} {xs : List Str} {m : Nat} (h : ys.Perm (xs.map V.str)) : ∃ zs : List Str, ys.take m = zs.map V.str ∧ (∀ z ∈ zs, z ∈ xs) ∧ zs.length ≤ xs.length := by
  obtain ⟨zs, rfl, pm⟩ := perm_strs h
  refine ⟨zs.take m, by rw [List.map_take], fun z hz => pm.mem_iff.mp (List.mem_of_mem_take hz), ?_⟩
  rw [List.length_take, pm.length_eq]
  exact Nat.min_le_right _ _
theorem noint_strs (xs : List Str) : ∀ i : Int, V.int i ∉ xs.map V.str := fun i h => by
  obtain ⟨x, _, e⟩ := List.mem_map.mp h
  cases e
theorem LawD.few {G : Gr} (L : LawD G) : G.ns.length ≤ 4 := List.Nodup.length_le_of_subset (nodup_lts L.ok.na) fun z hz => L.nm z hz
theorem sim_upd' {H H1 : Hp} {D : Addr} {o : HO} (a : Sim H H1) (n : H D = none) : Sim H (upd H1 D o) :=
  ⟨fun c x nt e => by
    have ne : c ≠ D := fun z => by rw [z, n] at e; cases e
    rw [upd_ne ne]
    exact a.st c x nt e, fun c ⟨ps, e, t⟩ => by
    have ne : c ≠ D := fun z => by rw [z, n] at e; cases e
    obtain ⟨qs, e2, t2⟩ := a.tb c ⟨ps, e, t⟩
    exact ⟨qs, by rw [upd_ne ne]; exact e2, t2⟩⟩
/-- plain[1] + nodes if plain[2] == () else nodes -/
theorem nodes_te {K : PySem.W.Frag} {σ : L2.St} {H : Hp} {Q : VK} {pl a b v tn : Addr} {us : List V} {G : Gr} {ns0 : List Str} (h1 : σ[1]? = some (some (.ref pl))) (h5 : σ[5]? = some (some (.ref tn))) (pg : PlainG K H pl a b v us G) (ht : SqT K H tn (ns0.map V.str)) (hm : ∀ z ∈ ns0, z ∈ G.ns) (hl : ns0.length ≤ 8) (L : LawD G)
    (k : ∀ (nd : Addr) (ns' : List Str) (H' : Hp), Same H H' → SqT K H' nd (ns'.map V.str) → (∀ z ∈ ns', z ∈ G.ns) → (G.rs = [] → ∀ z ∈ G.ns, z ∈ ns') → ns'.length ≤ 16 → Q (.ref nd) H') :
    if decide (G.rs = []) = true then tOp (rCatA K) (tOp (rIxT K) (tVar 1) (tC (.int 1))) (tVar 5) σ H Q else tVar 5 σ H Q := by
  by_cases e : G.rs = []
  · refine if_yes (decide_eq_true e) ⟨_, h1, pl, _, _, _, rfl, rfl, pg.hp, rfl, _, h5, ?_⟩
    have nf := L.few
    refine catA_any pg.hb ht (by rw [List.length_map, List.length_map, sizeLine_eq]; omega) fun q H' sm hq => k q (G.ns ++ ns0) H' sm (by rw [List.map_append]; exact hq) (fun z hz => ?_) (fun _ z hz => List.mem_append_left _ hz) (by rw [List.length_append]; omega)
    rcases List.mem_append.mp hz with h | h
    · exact h
    · exact hm z h
  · exact if_no (by simpa using e) ⟨_, h5, k tn ns0 H (Same.refl _) ht hm (fun z => absurd z e) (by omega)⟩
section
variable {P : Program} {w : World} {K : PySem.W.Frag} {mg : Str → Option Value} {base : Heap}
theorem ok_lbuiltM {f C fP fO PI : Addr} {fd : FuncData} (F : Fun K "_law_built" "_law_built" sLBuilt f fd) (T : GraphC K mg C) (CR : ClX.CRead K C (.type "type")) (CM : ClX.CMet K C (.type "type") "of" fP fO) (GO : FnR P w K mg base CX0 9 fO (spGOf K C PI)) :
    FnOk P w K mg base CX0 10 f fd ["_law_plain"] (spLBuiltM K C PI) := by
  refine F.ok scLBuilt (fun vs H Q E h => ?_) (fun cdv A outer s H vs Q E hr h => ?_)
  · obtain ⟨pl, a, b, v, us, G, rfl, _⟩ := h
    rfl
  · obtain ⟨pl, a, b, v, us, G, rfl, h, M, tab, k⟩ := h
    refine ⟨_, pss_one (ps_ret (ClX.pe_cmeth (pe_glob (v := .ref C) (by rfl) T.gC rfl) CR CM GO hr pass0 (pa_cons (pe_ix ix_tup (pv 0) pe_int (fun _ _ => rfl)) (pa_cons (pe_ix ix_tup (pv 0) pe_int (fun _ _ => rfl)) (pa_cons (pe_ix ix_tup (pv 0) pe_int (fun _ _ => rfl)) pa_nil))))), ?_⟩
    refine ⟨rfl, _, rfl, pl, _, _, _, rfl, rfl, h.hp, rfl, _, rfl, pl, _, _, _, rfl, rfl, h.hp, rfl, _, rfl, pl, _, _, _, rfl, rfl, h.hp, rfl, ?_⟩
    exact ⟨a, b, v, us, G.cs, G.ns, G.rs, G, rfl, h.ha, h.hb, h.hv, h.hu, tab, M, k⟩
end
end Qp

/-! whether a drawn graph is made rightly in several ways -/
namespace Qp
open PySem PySem.Spec PyProof.Rows L2 QN
abbrev sLRight6 : Stmt := top 41 -- _law_right
abbrev lr6N : List Str := ["_law_dice_here", "_law_plain", "_law_thing", "_law_counters", "_law_rows", "_law_nodes", "_law_other", "_law_others_here", "_law_one"]
theorem scLRight6 : FnScope lr6N ["_law_dice_here"] (defScope sLRight6) := ⟨rfl, rfl, rfl, by decide +kernel, rfl, by decide +kernel, by decide +kernel⟩
def spLRight6 (PI : Addr) : Sp := fun vs H Q _ => ∃ (p : Addr) (x y z : Int), vs = [.ref p] ∧ H p = some (.lst (hand x y z)) ∧ GxR.TabG H PI ∧
  ∀ (x' y' z' : Int) (H' : Hp), H' p = some (.lst (hand x' y' z')) → SimX p H H' → Q (.bl true) H'
/-- of built-in kinds beside the class -/
structure KindsG (K : PySem.W.Frag) (C : Addr) : Prop where
  sub : ∀ t ∈ ["NoneType", "tuple", "int", "str"], PySem.W.subIn K (.type t) (.ref C) = some false
  kit : ∀ t ∈ ["NoneType", "tuple", "int", "str"], PySem.W.kitOne K (.type t) (.ref C) = some false
section
variable {P : Program} {w : World} {K : PySem.W.Frag} {mg : Str → Option Value} {base : Heap}
theorem ok_lright6 {f C fD fB fM fS fO fH fT pN fN fQ fX fP fF PI : Addr} {fd fdD fdB fdM fdS fdO fdH fdT fdN : FuncData} (F : Fun K "_law_right" "_law_right" sLRight6 f fd) (T : GraphC K mg C) (O : GraphO K C) (KG : KindsG K C)
    (GD : FnOk P w K mg base CX0 6 fD fdD ["_law_dice_here"] (spLDrawn K)) (kD : PySem.W.keepIn K (.ref fD) = true) (bD : L2.Binds K fdD ["_law_dice_here"] []) (gD : mg "_law_drawn" = some (.ref fD))
    (GB : FnOk P w K mg base CX0 10 fB fdB ["_law_plain"] (spLBuiltM K C PI)) (kB : PySem.W.keepIn K (.ref fB) = true) (bB : L2.Binds K fdB ["_law_plain"] []) (gB : mg "_law_built" = some (.ref fB))
    (GM : FnOk P w K mg base CX0 2 fM fdM ["_law_dice_here", "_law_items"] (spMixed K)) (kM : PySem.W.keepIn K (.ref fM) = true) (bM : L2.Binds K fdM ["_law_dice_here", "_law_items"] []) (gM : mg "_law_mixed" = some (.ref fM))
    (GS : FnOk P w K mg base CX0 3 fS fdS ["_law_dice_here", "_law_items"] (spSome K)) (kS : PySem.W.keepIn K (.ref fS) = true) (bS : L2.Binds K fdS ["_law_dice_here", "_law_items"] []) (gS : mg "_law_some" = some (.ref fS))
    (GO' : FnOk P w K mg base CX0 1 fO fdO ["_law_plain"] (spLOthers K)) (kO : PySem.W.keepIn K (.ref fO) = true) (bO : L2.Binds K fdO ["_law_plain"] []) (gO : mg "_law_others" = some (.ref fO))
    (GH : FnOk P w K mg base CX0 10 fH fdH ["_law_counters", "_law_rows", "_law_nodes"] (spLHand K C PI)) (kH : PySem.W.keepIn K (.ref fH) = true) (bH : L2.Binds K fdH ["_law_counters", "_law_rows", "_law_nodes"] []) (gH : mg "_law_by_hand" = some (.ref fH))
    (GT : FnG P w K mg base 5 fT fdT ["_law_thing", "_law_plain"] (spLTold K C)) (kT : PySem.W.keepIn K (.ref fT) = true) (bT : L2.Binds K fdT ["_law_thing", "_law_plain"] []) (gT : mg "_law_told_right" = some (.ref fT))
    (PN : PropOf K C "names" pN fN) (GN : FnOk P w K mg base CX0 1 fN fdN ["self"] (spGNames K C)) (bN : L2.Binds K fdN ["self"] []) (MQ : OMeth K C "__eq__" fQ) (GQ : FnR P w K mg base CX0 1 fQ (spGEqV K C)) (hmro : PySem.W.mroIn K C (.type "object") = some true)
    (hne : PySem.W.findIn K (.ref C) "__ne__" = some (some (.builtin "object.__ne__"))) (MS : OMeth K C "__str__" fX) (GSt : FnR P w K mg base CX0 1 fX (spGStr K C)) (CR : ClX.CRead K C (.type "type")) (CM : ClX.CMet K C (.type "type") "of" fP fF) (GO : FnR P w K mg base CX0 9 fF (spGOf K C PI)) (B : BltP mg) (B2 : Blt2 mg) :
    FnG P w K mg base 11 f fd ["_law_dice_here"] (spLRight6 PI) := by
  refine Fun_okC F scLRight6 (fun vs H Q E h => ?_) (fun cdv A outer s H vs Q E hcd hr hng h => ?_)
  · obtain ⟨p, x, y, z, rfl, _⟩ := h
    rfl
  · obtain ⟨p, x, y, z, rfl, hp, ti, k⟩ := h
    have hng' : NoRepr (A.deeper (envOfC "_law_right" (defScope sLRight6) s.heap.objs.size f cdv)) := noRepr_deeper hng
    have hu64 : (A.deeper (envOfC "_law_right" (defScope sLRight6) s.heap.objs.size f cdv)).units + 64 < cLine := by
      have := hr.un
      omega
    have r9 := hr.mono (by decide : 9 ≤ 10)
    have r6 := hr.mono (by decide : 6 ≤ 10)
    have r5 := hr.mono (by decide : 5 ≤ 10)
    have r3 := hr.mono (by decide : 2 + 1 ≤ 10)
    have r2 := hr.mono (by decide : 1 + 1 ≤ 10)
    have r1 := hr.mono (by decide : 1 ≤ 10)
    refine ⟨_, pss_cons (ps_set (i := 1) scLRight6.nd rfl (.inl rfl) (pe_call GD r6 (by rfl) gD kD bD .nil pass0 (pa_cons (pv 0) pa_nil)))
      (pss_cons (ps_par (i := 2) (j := 3) (by rfl) scLRight6.nd rfl rfl (by decide) rfl rfl (pa_cons (pe_call GB hr (by rfl) gB kB bB .nil pass0 (pa_cons (pv 1) pa_nil)) (pa_cons (pe_callTy call_tuple_of (by rfl) B.tuple (by decide +kernel) (pa_cons (pe_call GM r2 (by rfl) gM kM bM .nil pass0 (pa_cons (pv 0) (pa_cons (pe_op op_cat (pe_callTy call_list_of (by rfl) B2.li (by decide +kernel) (pa_cons (pe_ix ix_tup (pv 1) pe_int (fun _ _ => rfl)) pa_nil)) (pe_call GS r3 (by rfl) gS kS bS .nil pass0 (pa_cons (pv 0) (pa_cons (pe_ix ix_tup (pv 1) pe_int (fun _ _ => rfl)) pa_nil)))) pa_nil))) pa_nil)) pa_nil)) (by rfl))
      (pss_cons (ps_par (i := 4) (j := 5) (by rfl) scLRight6.nd rfl rfl (by decide) rfl rfl (pa_cons (pe_callTy call_tuple_of (by rfl) B.tuple (by decide +kernel) (pa_cons (pe_call GM r2 (by rfl) gM kM bM .nil pass0 (pa_cons (pv 0) (pa_cons (pe_ix ix_tup (pv 1) pe_int (fun _ _ => rfl)) pa_nil))) pa_nil)) (pa_cons (pe_callTy call_tuple_of (by rfl) B.tuple (by decide +kernel) (pa_cons (pe_op op_cat (pe_call GS r3 (by rfl) gS kS bS .nil pass0 (pa_cons (pv 0) (pa_cons (pe_ix ix_tup (pv 1) pe_int (fun _ _ => rfl)) pa_nil))) (pe_call GS r3 (by rfl) gS kS bS .nil pass0 (pa_cons (pv 0) (pa_cons (pe_ix ix_tup (pv 1) pe_int (fun _ _ => rfl)) pa_nil)))) pa_nil)) pa_nil)) (by rfl))
      (pss_cons (ps_set (i := 5) scLRight6.nd rfl (.inl rfl) (pe_ifExp (pt_cmpR (op_eqD hu64) (pe_ix ix_tup (pv 1) pe_int (fun _ _ => rfl)) (pe_tup pa_nil) (nomark _)) (pe_op op_catA (pe_ix ix_tup (pv 1) pe_int (fun _ _ => rfl)) (pv 5)) (pv 5)))
      (pss_cons (ps_for PassesOwn.never rfl (pi_tup (pe_tup (pa_cons (pv 2) (pa_cons (ClX.pe_cmeth (pe_glob (v := .ref C) (by rfl) T.gC rfl) CR CM GO r9 pass0 (pa_cons (pv 3) (pa_cons (pv 4) (pa_cons (pv 5) pa_nil)))) (pa_cons (pe_call GH hr (by rfl) gH kH bH .nil pass0 (pa_cons (pv 3) (pa_cons (pv 4) (pa_cons (pv 5) pa_nil)))) pa_nil))))) (pg_name (i := 6) scLRight6.nd rfl (.inl rfl)) (pss_one (ps_if (PW.pt (pw_or (pt_not (pt_val (pe_callG GT hng' r5 (by rfl) gT kT bT (pa_cons (pv 6) (pa_cons (pv 1) pa_nil))))) (pw_or (pt_not (pt_cmpR (op_eqO MQ GQ r1 pass0) (pv 6) (pv 2) (nomark _))) (pw_or1 (pt_cmpR (op_neO MQ hmro hne GQ r2 pass0) (pv 6) (pv 2) (nomark _)))))) (pss_one (ps_ret pe_bl)) pss_nil)))
      (pss_cons (ps_setLc (i := 7) (own := [("_law_one", 8)]) (g := gName 8) (tt := tYes) (te := tCall (spLBuiltM K C PI) [] L2.E0 (tCons (tVar 8) tNil)) rfl scLRight6.nd rfl rfl (sw_true rfl rfl rfl (by decide +kernel)) (pi_list (pe_call GO' r1 (by rfl) gO kO bO .nil pass0 (pa_cons (pv 1) pa_nil))) (blkOk_by (N := lr6N) (sc := defScope sLRight6) (by decide +kernel)) (fun _ _ _ _ _ => pg_name (i := 8) scLRight6.nd rfl (.inl rfl)) (fun _ _ _ _ _ => pts_nil) (fun _ _ _ _ _ => (pe_call GB hr (by rfl) gB kB bB .nil pass0 (pa_cons (pv 8) pa_nil))))
      (pss_cons (ps_for PassesOwn.never rfl (pi_list (pe_op op_cat (pv 7) (pe_lst (pa_cons pe_non (pa_cons (pv 1) (pa_cons (pe_ix ix_tup (pv 1) pe_int (fun _ _ => rfl)) (pa_cons (pe_prop (pv 2) T.cls PN GN r2 bN .nil pass0 rfl) (pa_cons pe_int (pa_cons (pe_callTy (call_strO MS GSt r3 pass0) (by rfl) B.str (by decide +kernel) (pa_cons (pv 2) pa_nil)) pa_nil))))))))) (pg_name (i := 6) scLRight6.nd rfl (.inl rfl)) (pss_one (ps_if (PW.pt (pw_or (pt_cmpR (op_eqO MQ GQ r1 pass0) (pv 2) (pv 6) (nomark _)) (pw_or1 (pt_not (pt_cmpR (op_neO MQ hmro hne GQ r2 pass0) (pv 2) (pv 6) (nomark _)))))) (pss_one (ps_ret pe_bl)) pss_nil)))
      (pss_one (ps_ret (pe_callG GT hng' r5 (by rfl) gT kT bT (pa_cons (pv 2) (pa_cons (pv 1) pa_nil))))))))))), ?_⟩
    -- a drawn graph
    refine ⟨_, rfl, p, x, y, z, rfl, hp, fun pl a b v us G x1 y1 z1 H1 L pg hp1 b1 => ?_⟩
    have X1 := SimX.but b1
    have ti1 := X1.tb _ (tabG_ne hp ti) ti
    refine ⟨_, rfl, pl, a, b, v, us, G, rfl, pg, L.made, ti1, fun g H2 s12 hg => ?_⟩
    have pg2 := pg.sim s12
    have hp2 := s12.st _ _ (nt_lst _) hp1
    have ti2 := s12.tb _ ti1
    have X2 := X1.trans (SimX.of s12)
    clear s12 pg hp1 ti1 X1 b1 ti
    have cl := L.ok.cl
    have nf := L.few
    have r16 := L.ok.rl
    have ul := pg2.hu.length
    -- the counters
    refine ⟨_, rfl, _, rfl, pl, _, _, _, rfl, rfl, pg2.hp, rfl, a, _, rfl, .inr pg2.ha, fun lA hlA => ?_⟩
    have mA := same_new (o := .lst (G.cs.map V.str)) hlA
    have eA : (upd H2 lA (.lst (G.cs.map V.str))) lA = some (.lst (G.cs.map V.str)) := upd_same
    have nAp : lA ≠ p := fun c => by rw [c, hp2] at hlA; cases hlA
    generalize upd H2 lA (.lst (G.cs.map V.str)) = H3 at mA eA
    have pg3 := pg2.sim (Sim.of mA)
    refine ⟨_, rfl, _, rfl, pl, _, _, _, rfl, rfl, pg3.hp, rfl, p, a, x1, y1, z1, _, rfl, mA _ _ hp2, .inr pg3.ha, (by rw [List.length_map]; omega), noint_strs _, fun r1' ys m x2 y2 z2 H4 pm hr1 hp4 rp1 b4 => ?_⟩
    obtain ⟨zs, ez, zm, zl⟩ := some_strs (m := m) pm
    rw [ez] at hr1
    refine ⟨lA, r1', _, _, rfl, rfl, b4 _ _ nAp eA, hr1, (by rw [List.length_map, List.length_map, sizeLine_eq]; omega), fun lB hlB => ?_⟩
    have mB := same_new (o := .lst (G.cs.map V.str ++ zs.map V.str)) hlB
    have eB : (upd H4 lB (.lst (G.cs.map V.str ++ zs.map V.str))) lB = some (.lst ((G.cs ++ zs).map V.str)) := by rw [upd_same, List.map_append]
    generalize upd H4 lB (.lst (G.cs.map V.str ++ zs.map V.str)) = H5 at mB eB
    refine ⟨p, lB, x2, y2, z2, _, rfl, mB _ _ hp4, .inl (.inl (.inl eB)), (by rw [List.length_map, List.length_append]; omega), fun r2' ys2 x3 y3 z3 H6 pm2 hr2 hp6 b6 => ?_⟩
    obtain ⟨ws, rfl, pw⟩ := perm_strs pm2
    refine ⟨r2', _, rfl, .inl ⟨.inl (.inl hr2), fun tc htc => ?_⟩⟩
    have mC := same_new (o := .tup (ws.map V.str)) htc
    have eC : SqT K (upd H6 tc (.tup (ws.map V.str))) tc (ws.map V.str) := .inl (.inl upd_same)
    have X7 : SimX p H2 (upd H6 tc (.tup (ws.map V.str))) := (SimX.of (Sim.of mA)).trans ((SimX.but b4).trans ((SimX.of (Sim.of mB)).trans ((SimX.but b6).trans (SimX.of (Sim.of mC)))))
    have hp7 := mC _ _ hp6
    generalize upd H6 tc (.tup (ws.map V.str)) = H7 at X7 hp7 eC
    have wc : ∀ z, z ∈ ws ↔ z ∈ G.cs := fun z => by
      rw [pw.mem_iff, List.mem_append]
      exact ⟨fun h => h.elim id (zm z), .inl⟩
    have wl : ws.length ≤ 16 := by
      rw [pw.length_eq, List.length_append]
      omega
    have pg7 := pg2.simL X7 hp2
    have hg7 := graphAt_simL X7 hp2 hg
    have ti7 := X7.tb _ (tabG_ne hp2 ti2) ti2
    have X := X2.trans X7
    clear mA eA hlA pg3 pm hr1 b4 ez zm zl mB eB hlB pm2 hr2 b6 pw htc mC X7 X2 pg2 hg ti2 hp4 hp6 hp2
    -- the rows
    refine ⟨_, _, rfl, _, rfl, _, rfl, pl, _, _, _, rfl, rfl, pg7.hp, rfl, p, v, x3, y3, z3, us, rfl, hp7, .inr pg7.hv, by omega, fun r3' ys3 x4 y4 z4 H8 pm3 hr3 hp8 b8 => ⟨r3', _, rfl, .inl ⟨.inl (.inl hr3), fun tr htr => ?_⟩⟩⟩
    obtain ⟨rs', pr', prm⟩ := paired_perm pm3 pg7.hu
    have X8 := SimX.but b8
    have mD := same_new (o := .tup ys3) htr
    have eD : SqT K (upd H8 tr (.tup ys3)) tr ys3 := .inl (.inl upd_same)
    have X9 : SimX p H7 (upd H8 tr (.tup ys3)) := X8.trans (SimX.of (Sim.of mD))
    have hp9 := mD _ _ hp8
    generalize upd H8 tr (.tup ys3) = H9 at X9 hp9 eD
    have pg9 := pg7.simL X9 hp7
    have hg9 := graphAt_simL X9 hp7 hg7
    have ti9 := X9.tb _ (tabG_ne hp7 ti7) ti7
    have pr9 := plAll_simL X9 hp7 pr'
    have eC9 := sqT_simX X9 hp7 (fun _ e => by cases e) (fun _ _ e => by cases e) eC
    have XX := X.trans X9
    clear X X8 X9 mD htr hp8 b8 pm3 hr3 pr' pg7 hg7 ti7 hp7 eC
    -- the states
    refine ⟨_, rfl, _, rfl, pl, _, _, _, rfl, rfl, pg9.hp, rfl, p, b, x4, y4, z4, _, rfl, hp9, .inr pg9.hb, (by rw [List.length_map]; omega), noint_strs _, fun r4 ys4 m4 x5 y5 z5 HA pm4 hr4 hpA rp4 bA => ?_⟩
    obtain ⟨n1, e1, n1m, n1l⟩ := some_strs (m := m4) pm4
    rw [e1] at hr4
    have XA := SimX.but bA
    have pgA := pg9.simL XA hp9
    refine ⟨_, rfl, _, rfl, pl, _, _, _, rfl, rfl, pgA.hp, rfl, p, b, x5, y5, z5, _, rfl, hpA, .inr pgA.hb, (by rw [List.length_map]; omega), noint_strs _, fun r5' ys5 m5 x6 y6 z6 HB pm5 hr5 hpB rp5 bB => ?_⟩
    obtain ⟨n2, e2, n2m, n2l⟩ := some_strs (m := m5) pm5
    rw [e2] at hr5
    refine ⟨r4, r5', _, _, rfl, rfl, bB _ _ rp4 hr4, hr5, (by rw [List.length_map, List.length_map, sizeLine_eq]; omega), fun lN hlN => ⟨lN, _, rfl, .inl ⟨.inl (.inl upd_same), fun tn htn => ?_⟩⟩⟩
    have mE := (same_new (o := .lst (n1.map V.str ++ n2.map V.str)) hlN).trans (same_new (o := .tup (n1.map V.str ++ n2.map V.str)) htn)
    have eE : SqT K (upd (upd HB lN (.lst (n1.map V.str ++ n2.map V.str))) tn (.tup (n1.map V.str ++ n2.map V.str))) tn ((n1 ++ n2).map V.str) := by
      rw [List.map_append]
      exact .inl (.inl upd_same)
    have hpC := mE _ _ hpB
    have XC : SimX p H9 (upd (upd HB lN (.lst (n1.map V.str ++ n2.map V.str))) tn (.tup (n1.map V.str ++ n2.map V.str))) := XA.trans ((SimX.but bB).trans (SimX.of (Sim.of mE)))
    generalize upd (upd HB lN (.lst (n1.map V.str ++ n2.map V.str))) tn (.tup (n1.map V.str ++ n2.map V.str)) = HC at XC hpC eE
    have pgC := pg9.simL XC hp9
    have hgC := graphAt_simL XC hp9 hg9
    have tiC := XC.tb _ (tabG_ne hp9 ti9) ti9
    have prC := plAll_simL XC hp9 pr9
    have eCC := sqT_simX XC hp9 (fun _ e => by cases e) (fun _ _ e => by cases e) eC9
    have eDC := sqT_simX XC hp9 (fun _ e => by cases e) (fun _ _ e => by cases e) eD
    have Y := XX.trans XC
    clear XX XA XC mE htn hlN hpA bA pm4 hr4 rp4 e1 bB pm5 hr5 rp5 e2 pgA pg9 hg9 ti9 pr9 hp9 eC9 eD hpB
    have few2 : (n1 ++ n2).length ≤ 8 := by rw [List.length_append]; omega
    have in2 : ∀ z ∈ n1 ++ n2, z ∈ G.ns := fun z hz => (List.mem_append.mp hz).elim (n1m z) (n2m z)
    refine ⟨_, _, rfl, _, rfl, pl, _, _, _, rfl, rfl, pgC.hp, rfl, (by show 0 ≤ sizeLine; decide), fun e0 he0 => ?_⟩
    have mF := same_new (o := .tup []) he0
    have eF : SqT K (upd HC e0 (.tup [])) e0 [] := .inl (.inl upd_same)
    generalize upd HC e0 (.tup []) = HD at mF eF
    have pgD := pgC.sim (Sim.of mF)
    refine ⟨.tuple (G.rs.map rowD), .tuple (([] : List Row).map rowD), .tup pgD.hv (plAll_dp pgD.hu), .tup eF .nil, shaped_rows L.ok.ro, by decide, ?_⟩
    rw [eqv_rows]
    refine ⟨_, rfl, ?_⟩
    refine nodes_te (G := G) (ns0 := n1 ++ n2) rfl rfl pgD (sqT_same mF eE) in2 few2 L fun nd ns' HE sE hnd in3 all3 len3 => ?_
    have mG := mF.trans sE
    have pgE := pgC.sim (Sim.of mG)
    have hgE := graphAt_same mG hgC
    have tiE := tabG_same mG tiC
    have hpE := mG _ _ hpC
    have YE := Y.trans (SimX.of (Sim.of mG))
    have MK := L.perm wc wl in3 all3 len3 prm
    have prE := plAll_sim (Sim.of mG) prC
    have eCE := sqT_same mG eCC
    have eDE := sqT_same mG eDC
    clear mF he0 eF pgD sE mG Y pgC hgC tiC hpC prC eCC eDC few2 in2 eE in3 all3 len3
    -- three graphs
    refine ⟨_, rfl, rfl, _, rfl, _, rfl, _, rfl, tc, nd, tr, ys3, ws, ns', rs', G, rfl, eCE, hnd, eDE, prE, tiE, MK, fun g2 HF sF hg2 => ?_⟩
    refine ⟨_, rfl, _, rfl, _, rfl, tc, nd, tr, ys3, ws, ns', rs', G, rfl, sqT_sim sF eCE, sqT_sim sF hnd, sqT_sim sF eDE, plAll_sim sF prE, sF.tb _ tiE, MK, fun g3 HG sG hg3 => ⟨(by show 3 ≤ sizeLine; decide), fun tt htt => ?_⟩⟩
    have mt := same_new (o := .tup [.ref g, .ref g2, .ref g3]) htt
    have sH := (sF.trans sG).trans (Sim.of mt)
    have et : SqT K (upd HG tt (.tup [.ref g, .ref g2, .ref g3])) tt [.ref g, .ref g2, .ref g3] := .inl (.inl upd_same)
    have q1 := graphAt_sim sH hgE
    have q2 := graphAt_sim (sG.trans (Sim.of mt)) hg2
    have q3 := graphAt_sim (Sim.of mt) hg3
    generalize upd HG tt (.tup [.ref g, .ref g2, .ref g3]) = HH at mt sH et q1 q2 q3
    have pgH := pgE.sim sH
    have tiH := sH.tb _ tiE
    have hpH := sH.st _ _ (nt_lst _) hpE
    have YH := YE.trans (SimX.of sH)
    clear sF sG mt htt hg2 hg3 sH pgE hgE tiE hpE YE MK prE eCE eDE hnd
    have all : ∀ u ∈ [V.ref g, .ref g2, .ref g3], ∃ q, u = .ref q ∧ GraphAt K C HH q G := by
      intro u hu
      rcases List.mem_cons.mp hu with rfl | hu
      · exact ⟨_, rfl, q1⟩
      rcases List.mem_cons.mp hu with rfl | hu
      · exact ⟨_, rfl, q2⟩
      · cases List.mem_singleton.mp hu
        exact ⟨_, rfl, q3⟩
    clear q2 q3
    refine ⟨tt, rfl, ⟨_, et⟩, for_tup (xs := [.ref g, .ref g2, .ref g3]) (fun i σ H' => ∃ y6, σ = [some (.ref p), some (.ref pl), some (.ref g), some (.ref tc), some (.ref tr), some (.ref nd), y6, none, none] ∧ Same HH H') ⟨_, rfl, Same.refl _⟩ (fun i σ H' _ pv' => sqT_same pv'.choose_spec.2 et) (fun i u σ H' hu pv' => ?_) fun σ H' pv' => ?_⟩
    · obtain ⟨y6, rfl, sm⟩ := pv'
      obtain ⟨q, rfl, hq⟩ := all u (List.mem_of_getElem? hu)
      refine ⟨_, rfl, _, rfl, q, pl, a, b, v, us, G, rfl, pgH.sim (Sim.of sm), L, graphAt_same sm hq, fun H2' s2 => ⟨_, rfl, if_no (by decide) ?_⟩⟩
      have sm2 := sm.trans s2
      have gq := graphAt_same sm2 hq
      have gg := graphAt_same sm2 q1
      have eg : EqG K C H2' G (.ref g) (decide (G = G)) := .inl ⟨g, G, rfl, gg, L.ok, rfl⟩
      rw [decide_eq_true rfl] at eg
      refine ⟨_, rfl, _, rfl, q, rfl, oat_graph gq, .inr ⟨g, rfl, oat_graph gg⟩, q, .ref g, G, true, rfl, gq, L.ok, eg, true, rfl, _, rfl, if_no (by decide) ?_⟩
      exact ⟨_, rfl, _, rfl, q, rfl, oat_graph gq, .inr ⟨g, rfl, oat_graph gg⟩, q, .ref g, G, true, rfl, gq, L.ok, eg, true, rfl, _, rfl, if_no (by decide) ⟨_, rfl, sm2⟩⟩
    obtain ⟨y6, rfl, sm⟩ := pv'
    have pgI := pgH.sim (Sim.of sm)
    have hgI := graphAt_same sm q1
    have tiI := tabG_same sm tiH
    have hpI := sm _ _ hpH
    have YI := YH.trans (SimX.of (Sim.of sm))
    clear all q1 et pgH tiH hpH YH sm
    -- the others
    refine ⟨_, rfl, pl, a, b, v, us, G, rfl, pgI, L, fun D0 os HJ sJ hD0 ho ol => ⟨D0, rfl, ⟨_, .inl (.inl hD0)⟩, fun D1 hD1 => ?_⟩⟩
    have tiJ := tabG_same sJ tiI
    refine lc_list (xs := os) (fun i H' => Sim HJ H' ∧ ∃ ws, H' D1 = some (.lst ws) ∧ ws.length = i ∧ ∀ u ∈ ws, ∃ (q : Addr) (G' : Gr), u = .ref q ∧ GraphAt K C H' q G' ∧ G'.Ok ∧ G' ≠ G) ⟨Sim.of (same_new hD1), [], upd_same, rfl, fun _ h => (by cases h)⟩ (fun i H' _ pv' => sqL_sim pv'.1 (.inl (.inl hD0))) (fun i u H' hu pv' => ⟨rfl, yes_if ?_⟩) fun H' pv' => ?_
    · obtain ⟨sm, ws', hD1', wl', hw⟩ := pv'
      obtain ⟨pl', a', b', v', us', G', rfl, pg', M', ok', ne'⟩ := ho u (List.mem_of_getElem? hu)
      have il := (List.getElem?_eq_some_iff.mp hu).1
      refine ⟨_, rfl, pl', a', b', v', us', G', rfl, pg'.sim sm, M', sm.tb _ tiJ, fun q HK sK hq => ?_⟩
      have e1 := sK.st _ _ (nt_lst _) hD1'
      have sx : SimX D1 HK (upd HK D1 (.lst (ws' ++ [.ref q]))) := simX_upd
      refine ⟨ws', e1, by rw [wl', sizeLine_eq]; omega, sim_upd' (sm.trans sK) hD1, ws' ++ [.ref q], upd_same, by rw [List.length_append, List.length_singleton, wl'], fun u hu => ?_⟩
      rcases List.mem_append.mp hu with h | h
      · obtain ⟨q', G2, rfl, h1, h2⟩ := hw u h
        exact ⟨q', G2, rfl, graphAt_simL sx e1 (graphAt_sim sK h1), h2⟩
      · cases List.mem_singleton.mp h
        exact ⟨q, G', rfl, graphAt_simL sx e1 hq, ok', ne'⟩
    obtain ⟨sm, ws', hD1', wl', hw⟩ := pv'
    have sK := (Sim.of sJ).trans sm
    have pgK := pgI.sim sK
    have hgK := graphAt_sim sK hgI
    have hpK := sK.st _ _ (nt_lst _) hpI
    have YK := YI.trans (SimX.of sK)
    clear sm sK pgI hgI tiI hpI YI sJ hD0 ho hD1 tiJ
    obtain ⟨dx, f1, f2, f3, f4, f5, f6, us2, i1, i2⟩ := id hgK
    refine ⟨_, rfl, _, rfl, _, rfl, pl, _, _, _, rfl, rfl, pgK.hp, rfl, _, rfl, g, dx, _, rfl, i1, g, G, rfl, hgK, fun n1 hn1 => ?_⟩
    refine ⟨_, rfl, g, rfl, oat_graph hgK, g, G, rfl, hgK, L.ok, _, rfl, (by show 6 ≤ sizeLine; decide), fun lZ hlZ => ?_⟩
    have mZ := same_new (o := .lst [.non, .ref pl, .ref v, .ref n1, .int 7, .str (gText G)]) hlZ
    have eZ : (upd H' lZ (.lst [.non, .ref pl, .ref v, .ref n1, .int 7, .str (gText G)])) lZ = some (.lst [.non, .ref pl, .ref v, .ref n1, .int 7, .str (gText G)]) := upd_same
    generalize upd H' lZ (.lst [.non, .ref pl, .ref v, .ref n1, .int 7, .str (gText G)]) = HL at mZ eZ
    refine ⟨D1, lZ, _, _, rfl, rfl, mZ _ _ hD1', eZ, (by show ws'.length + 6 ≤ sizeLine; rw [wl', sizeLine_eq]; omega), fun lY hlY => ⟨lY, rfl, ⟨_, .inl (.inl upd_same)⟩, ?_⟩⟩
    have mY := mZ.trans (same_new (o := .lst (ws' ++ [.non, .ref pl, .ref v, .ref n1, .int 7, .str (gText G)])) hlY)
    have eY : SqL K (upd HL lY (.lst (ws' ++ [.non, .ref pl, .ref v, .ref n1, .int 7, .str (gText G)]))) lY (ws' ++ [.non, .ref pl, .ref v, .ref n1, .int 7, .str (gText G)]) := .inl (.inl upd_same)
    generalize upd HL lY (.lst (ws' ++ [.non, .ref pl, .ref v, .ref n1, .int 7, .str (gText G)])) = HM at mY eY
    have pgM := pgK.sim (Sim.of mY)
    have hgM := graphAt_same mY hgK
    have hpM := mY _ _ hpK
    have YM := YK.trans (SimX.of (Sim.of mY))
    have diff : ∀ o ∈ ws' ++ [.non, .ref pl, .ref v, .ref n1, .int 7, .str (gText G)], EqG K C HM G o false ∧ Side K C HM o := by
      have kind : ∀ {o : V} {t : String}, TyX K HM o (.type t) → t ∈ ["NoneType", "tuple", "int", "str"] → EqG K C HM G o false ∧ Side K C HM o := fun ty m => ⟨.inr ⟨rfl, _, ty, KG.kit _ m⟩, .inl ⟨_, ty, KG.sub _ m⟩⟩
      intro o ho
      rcases List.mem_append.mp ho with h | h
      · obtain ⟨q, G', rfl, h1, h2, h3⟩ := hw o h
        have h4 := graphAt_same mY h1
        exact ⟨.inl ⟨q, G', rfl, h4, h2, (decide_eq_false fun e => h3 e.symm).symm⟩, .inr ⟨q, rfl, oat_graph h4⟩⟩
      · simp only [List.mem_cons, List.not_mem_nil, or_false] at h
        rcases h with rfl | rfl | rfl | rfl | rfl | rfl
        · exact kind (.base .non) (by decide)
        · exact kind (tyx_tup pgM.hp) (by decide)
        · exact kind (tyx_tup pgM.hv) (by decide)
        · exact kind (tyx_tup (sqT_same mY hn1)) (by decide)
        · exact kind (.base (.int 7)) (by decide)
        · exact kind (.base (.str _)) (by decide)
    generalize ws' ++ [.non, .ref pl, .ref v, .ref n1, .int 7, .str (gText G)] = all at eY diff
    clear mZ eZ hlZ hlY pgK hgK hpK YK hw hD1' hn1 i1 i2 mY
    refine for_list (xs := all) (fun i σ H2' => ∃ y6 y7, σ = [some (.ref p), some (.ref pl), some (.ref g), some (.ref tc), some (.ref tr), some (.ref nd), y6, y7, none] ∧ H2' = HM) ⟨_, _, rfl, rfl⟩ (fun i σ H2' _ pv' => by rw [pv'.choose_spec.choose_spec.2]; exact eY) (fun i u σ H2' hu pv' => ?_) fun σ H2' pv' => ?_
    · obtain ⟨y6, y7, rfl, rfl⟩ := pv'
      obtain ⟨d1, d2⟩ := diff u (List.mem_of_getElem? hu)
      refine ⟨_, rfl, _, rfl, g, rfl, oat_graph hgM, d2, g, u, G, false, rfl, hgM, L.ok, d1, false, rfl, _, rfl, if_no (by decide) ?_⟩
      exact ⟨_, rfl, _, rfl, g, rfl, oat_graph hgM, d2, g, u, G, false, rfl, hgM, L.ok, d1, false, rfl, _, rfl, if_no (by decide) ⟨_, _, rfl, rfl⟩⟩
    obtain ⟨y6, y7, rfl, rfl⟩ := pv'
    exact ⟨_, rfl, _, rfl, g, pl, a, b, v, us, G, rfl, pgM, L, hgM, fun HZ sZ => k _ _ _ HZ (sZ _ _ hpM) (YM.trans (SimX.of (Sim.of sZ)))⟩
end
end Qp

/-! the law of k06 -/
namespace Qp
open PySem PySem.Spec PyProof.Rows L2 QN
abbrev sLaw6 : Stmt := top 42 -- law
abbrev law6N : List Str := ["_law_script", "_law_at", "_law_dice_here", "_law_turn", "_law_lone", "_law_told", "_law_row"]
theorem scLaw6 : FnScope law6N ["_law_script"] (defScope sLaw6) := ⟨rfl, rfl, rfl, by decide +kernel, rfl, by decide +kernel, by decide +kernel⟩
def spLaw6 (K : PySem.W.Frag) (PI : Addr) : Sp := fun vs H Q _ => ∃ (a : Addr) (ns : List Int), vs = [.ref a] ∧ SqL K H a (ns.map V.int) ∧ GxR.TabG H PI ∧ ∀ H', Q (.bl true) H'
/-- behind a new list at p, whatever becomes of it -/
theorem sqL_fresh {K : PySem.W.Frag} {H H' : Hp} {p q : Addr} {o : HO} {xs : List V} (n : H p = none) (s : SimX p (upd H p o) H') (h : SqL K H q xs) : SqL K H' q xs := by
  rcases h with (h | ⟨u, h⟩) | h
  · have ne : q ≠ p := fun z => by rw [z, n] at h; cases h
    exact .inl (.inl (s.st _ _ ne (nt_lst _) (by rw [upd_ne ne]; exact h)))
  · have ne : q ≠ p := fun z => by rw [z, n] at h; cases h
    exact .inl (.inr ⟨u, s.st _ _ ne (nt_frz _ _) (by rw [upd_ne ne]; exact h)⟩)
  · exact .inr h
theorem tabG_fresh {H H' : Hp} {p T : Addr} {o : HO} (n : H p = none) (s : SimX p (upd H p o) H') (h : GxR.TabG H T) : GxR.TabG H' T := by
  obtain ⟨ps, e, t⟩ := h
  have ne : T ≠ p := fun z => by rw [z, n] at e; cases e
  exact s.tb _ ne ⟨ps, by rw [upd_ne ne]; exact e, t⟩
theorem SimX.refl (x : Addr) (H : Hp) : SimX x H H := SimX.of (Sim.refl H)
def lone6 : Gr := ⟨["x"], ["p"], []⟩
theorem lone6_ok : lone6.Ok := ⟨.cons (fun _ h => by cases h) .nil, .cons (fun _ h => by cases h) .nil, .nil, by decide, by decide, by decide, fun _ h => (by cases h), by show ∀ c ∈ (["x"] : List Str), NameOk c; intro c hc; cases List.mem_singleton.mp hc; exact counters_ok _ (by decide +kernel), by show ∀ c ∈ (["p"] : List Str), NameOk c; intro c hc; cases List.mem_singleton.mp hc; exact nodes_ok _ (by decide +kernel)⟩
theorem lone6_made : Makes ["x", "x"] ["p", "p"] [] lone6 := by
  have nx : NameOk "x" := lone6_ok.cn _ List.mem_cons_self
  have np : NameOk "p" := lone6_ok.nn _ List.mem_cons_self
  have two : ∀ {y : Str} {z : Str}, z ∈ [y, y] → z = y := fun h => by
    rcases List.mem_cons.mp h with h | h
    · exact h
    · exact List.mem_singleton.mp h
  refine ⟨⟨"p", [], rfl, ⟨fun c h => by rw [two h]; exact nx, fun c h => by rw [two h]; exact np, fun _ h => (by cases h), lone6_ok.ca, fun z => ⟨fun h => by cases List.mem_singleton.mp h; exact List.mem_cons_self, fun h => by rw [two h]; exact List.mem_cons_self⟩, by decide, lone6_ok.na, fun z => ⟨fun h => by cases List.mem_singleton.mp h; exact .inl List.mem_cons_self, fun h => h.elim (fun h => by rw [two h]; exact List.mem_cons_self) fun h => (by cases h)⟩, by decide, by decide, by decide, by decide, ?_, fun _ h => (by cases h), fun ks h _ y hy => ?_, fun ks h _ y hy => ?_⟩⟩, .nil, .nil⟩
  · decide +kernel
  · cases List.mem_singleton.mp hy
    exact h
  · cases List.mem_singleton.mp hy
    exact h
theorem lone6_text : gText lone6 = "graph of 1 states, 1 counters, 0 transitions" := by decide +kernel
def lone6D : PyData := .list [.tuple [.str "p"], .tuple [.str "x"], .tuple [], .int 0, .list [], .str "graph of 1 states, 1 counters, 0 transitions", .bool false]
theorem lone6_shaped : SeqAt.shaped lone6D = true := by decide +kernel
theorem lone6_eqv : PyData.eqv lone6D lone6D = true := PySem.SeqAt.eqv_refl _ (by decide +kernel)
section
variable {P : Program} {w : World} {K : PySem.W.Frag} {mg : Str → Option Value} {base : Heap}
theorem ok_law6 {f fI fD fV C pC fC pS fS pN fN fT fL fB fX PI : Addr} {fd fdD fdV fdC fdS fdN fdT : FuncData} (F : Fun K "law" "law" sLaw6 f fd) (T : GraphC K mg C) (M : Mk K C fI) (GK : FnRK P w K mg base CX0 7 fI ["states"] (spMk K C PI))
    (PC : PropOf K C "counters" pC fC) (GC : FnOk P w K mg base CX0 1 fC fdC ["self"] (spGCtrs K C)) (bC : L2.Binds K fdC ["self"] []) (PS : PropOf K C "states" pS fS) (GS : FnOk P w K mg base CX0 1 fS fdS ["self"] (spGSts K C)) (bS : L2.Binds K fdS ["self"] [])
    (PN : PropOf K C "names" pN fN) (GN : FnOk P w K mg base CX0 1 fN fdN ["self"] (spGNames K C)) (bN : L2.Binds K fdN ["self"] []) (MI : OMeth K C "__iter__" fT) (GI : FnN P w K mg base 1 fT fdT ["self"] (spIterT (itsGraph K C))) (bI : L2.Binds K fdT ["self"] [])
    (ML : OMeth K C "__len__" fL) (GL : FnR P w K mg base CX0 1 fL (spGLen K C)) (MB : OMeth K C "__bool__" fB) (GB : FnR P w K mg base CX0 1 fB (spGBool K C)) (MS : OMeth K C "__str__" fX) (GSt : FnR P w K mg base CX0 1 fX (spGStr K C))
    (GD : FnOk P w K mg base CX0 1 fD fdD ["_law_script", "_law_at"] (spDice K)) (kD : PySem.W.keepIn K (.ref fD) = true) (bD : L2.Binds K fdD ["_law_script", "_law_at"] []) (gD : mg "_law_dice" = some (.ref fD))
    (GV : FnG P w K mg base 11 fV fdV ["_law_dice_here"] (spLRight6 PI)) (kV : PySem.W.keepIn K (.ref fV) = true) (bV : L2.Binds K fdV ["_law_dice_here"] []) (gV : mg "_law_right" = some (.ref fV)) (B : BltP mg) (B2 : Blt2 mg) (mx : mg "max" = none) (mn : mg "min" = none) :
    FnG P w K mg base 12 f fd ["_law_script"] (spLaw6 K PI) := by
  refine Fun_okC F scLaw6 (fun vs H Q E h => ?_) (fun cdv A outer s H vs Q E hcd hr hng h => ?_)
  · obtain ⟨a, ns, rfl, _⟩ := h
    rfl
  · obtain ⟨a, ns, rfl, hS, ti, fin⟩ := h
    have hng' : NoRepr (A.deeper (envOfC "law" (defScope sLaw6) s.heap.objs.size f cdv)) := noRepr_deeper hng
    have hu64 : (A.deeper (envOfC "law" (defScope sLaw6) s.heap.objs.size f cdv)).units + 64 < cLine := by
      have := hr.un
      omega
    have r8 := hr.mono (by decide : 7 + 1 ≤ 11)
    have r3 := hr.mono (by decide : 2 + 1 ≤ 11)
    have r2 := hr.mono (by decide : 1 + 1 ≤ 11)
    have r1 := hr.mono (by decide : 1 ≤ 11)
    refine ⟨_, (pss_cons (ps_for PassesOwn.never rfl (pi_range1 (by rfl) B2.rg (pa_cons (pe_callB (call_max2 rfl) (by rfl) mx (by decide +kernel) (pa_cons pe_int (pa_cons (pe_callB (call_min2 rfl) (by rfl) mn (by decide +kernel) (pa_cons pe_int (pa_cons (pe_callB call_len_seq (by rfl) B.len PySem.boot_len (pa_cons (pv 0) pa_nil)) pa_nil))) pa_nil))) pa_nil)) (pg_name (i := 1) scLaw6.nd rfl (.inl rfl))
      (pss_cons (ps_set (i := 2) scLaw6.nd rfl (.inl rfl) (pe_call GD r1 (by rfl) gD kD bD .nil pass0 (pa_cons (pv 0) (pa_cons (pv 1) pa_nil))))
      (pss_one (ps_for PassesOwn.never rfl (pi_range1 (by rfl) B2.rg (pa_cons pe_int pa_nil)) (pg_name (i := 3) scLaw6.nd rfl (.inl rfl))
      (pss_one (ps_if (pt_not (pt_val (pe_callG GV hng' hr (by rfl) gV kV bV (pa_cons (pv 2) pa_nil)))) (pss_one (ps_ret pe_bl)) pss_nil))))))
      (pss_cons (ps_set (i := 4) scLaw6.nd rfl (.inl rfl) (pe_makeKG M GK r8 (by rfl) T.gC pass0 (pa_cons (pe_tup (pa_cons pe_str (pa_cons pe_str pa_nil))) pa_nil) (pk_cons (pe_tup (pa_cons pe_str (pa_cons pe_str pa_nil))) pk_nil)))
      (pss_cons (ps_set (i := 5) scLaw6.nd rfl (.inl rfl) (pe_lst (pa_cons (pe_prop (pv 4) T.cls PS GS r2 bS .nil pass0 rfl) (pa_cons (pe_prop (pv 4) T.cls PC GC r2 bC .nil pass0 rfl) (pa_cons (pe_prop (pv 4) T.cls PN GN r2 bN .nil pass0 rfl) (pa_cons (pe_callB (call_lenO ML GL r2 pass0) (by rfl) B.len PySem.boot_len (pa_cons (pv 4) pa_nil))
        (pa_cons (pe_lc (own := [("_law_row", 6)]) (g := gName 6) (tt := tYes) (te := tVar 6) rfl scLaw6.nd (pi_ownT MI GI bI r1 (pv 4)) (blkOk_by (N := law6N) (sc := defScope sLaw6) (by decide +kernel)) (fun _ _ _ _ _ => pg_name (i := 6) scLaw6.nd rfl (.inl rfl)) (fun _ _ _ _ _ => pts_nil) (fun _ _ _ _ _ => pv 6))
        (pa_cons (pe_callTy (call_strO MS GSt r3 pass0) (by rfl) B.str (by decide +kernel) (pa_cons (pv 4) pa_nil)) (pa_cons (pe_callTy (call_boolO MB GB r3 pass0) (by rfl) B.bool (by decide +kernel) (pa_cons (pv 4) pa_nil)) pa_nil)))))))))
      (pss_one (ps_ret (pe_cmpR (op_eqD hu64) (pv 5) (pe_lst (pa_cons (pe_tup (pa_cons pe_str pa_nil)) (pa_cons (pe_tup (pa_cons pe_str pa_nil)) (pa_cons (pe_tup pa_nil) (pa_cons pe_int (pa_cons (pe_lst pa_nil) (pa_cons pe_str (pa_cons pe_bl pa_nil)))))))) (nomark _))))))), ?_⟩
    refine ⟨_, rfl, a, _, rfl, .inl hS, _, _, rfl, _, _, rfl, _, rfl, ?_, ?_, ?_⟩
    · split <;> split <;> omega
    · split <;> split <;> omega
    refine for_range (fun i σ H' => ∃ y1 y2 y3, σ = [some (.ref a), y1, y2, y3, none, none, none] ∧ SqL K H' a (ns.map V.int) ∧ GxR.TabG H' PI) ⟨none, none, none, rfl, hS, ti⟩ ?_ ?_
    · rintro i σ H' hi ⟨y1, y2, y3, rfl, hS1, ti1⟩
      refine ⟨_, rfl, _, rfl, a, ns, i, by rw [Int.zero_add]; rfl, hS1, fun p x y z np => ?_⟩
      refine ⟨3, rfl, by decide, by decide, for_range (n := 3) (fun j σ H2 => ∃ z1 z3, σ = [some (.ref a), z1, some (.ref p), z3, none, none, none] ∧ SimX p (upd H' p (.lst (hand x y z))) H2 ∧ ∃ x y z : Int, H2 p = some (.lst (hand x y z))) ⟨_, _, rfl, SimX.refl _ _, x, y, z, upd_same⟩ ?_ ?_⟩
      · rintro j σ H2 hj ⟨z1, z3, rfl, sx, x2, y2', z2, hp2⟩
        exact ⟨_, rfl, p, x2, y2', z2, rfl, hp2, tabG_fresh np sx ti1, fun x3 y3' z3' H3 hp3 s3 => ⟨true, rfl, if_no (by decide) ⟨_, _, rfl, sx.trans s3, x3, y3', z3', hp3⟩⟩⟩
      · rintro σ H2 ⟨z1, z3, rfl, sx, _⟩
        exact ⟨_, _, _, rfl, sqL_fresh np sx hS1, tabG_fresh np sx ti1⟩
    · rintro σ H1 ⟨y1, y2, y3, rfl, _, ti1⟩
      have w2 : 2 ≤ sizeLine := by decide
      have w1 : 1 ≤ sizeLine := by decide
      refine ⟨w2, fun c hc => ⟨w2, fun d hd => ?_⟩⟩
      have s1 := same_new (o := .tup [.str "x", .str "x"]) hc
      have s2 := same_new (o := .tup [.str "p", .str "p"]) hd
      have sm := s1.trans s2
      have ec : SqT K (upd (upd H1 c (.tup [.str "x", .str "x"])) d (.tup [.str "p", .str "p"])) c ((["x", "x"] : List Str).map V.str) := .inl (.inl (s2 _ _ upd_same))
      have ed : SqT K (upd (upd H1 c (.tup [.str "x", .str "x"])) d (.tup [.str "p", .str "p"])) d ((["p", "p"] : List Str).map V.str) := .inl (.inl upd_same)
      generalize upd (upd H1 c (.tup [.str "x", .str "x"])) d (.tup [.str "p", .str "p"]) = Ha at sm ec ed
      refine ⟨rfl, fun x dx hx hdx ne => ?_⟩
      have sx : Same Ha (upd (upd Ha dx (.own x)) x (.ins C dx [])) := fun b o e => by
        have n1 : b ≠ x := fun z => by rw [z, hx] at e; cases e
        have n2 : b ≠ dx := fun z => by rw [z, hdx] at e; cases e
        rw [upd_ne n1, upd_ne n2]
        exact e
      refine ⟨x, dx, c, d, [], ["x", "x"], ["p", "p"], [], lone6, rfl, rfl, upd_same, sqT_same sx ec, sqT_same sx ed, .nil, tabG_same (sm.trans sx) ti1, lone6_made, fun H2 hg s2 => ⟨rfl, ?_⟩⟩
      clear sx s1 s2 hx hdx ec ed sm hc hd
      obtain ⟨dx1, f1, f2, f3, f4, f5, f6, us1, i1, i1'⟩ := id hg
      refine ⟨_, rfl, x, dx1, _, rfl, i1, x, lone6, rfl, hg, fun n1 h1 => ⟨_, rfl, x, dx1, _, rfl, i1, x, lone6, rfl, hg, fun n2 h2 => ⟨_, rfl, x, dx1, _, rfl, i1, x, lone6, rfl, hg, fun n3 h3 => ?_⟩⟩⟩
      refine ⟨_, rfl, x, rfl, oat_graph hg, x, lone6, rfl, hg, 0, rfl, (by show 0 ≤ sizeLine; decide), ?_⟩
      have u0 : us1 = [] := by
        have := i1'.hp.length
        exact List.eq_nil_of_length_eq_zero this
      subst u0
      refine ⟨_, rfl, x, rfl, oat_graph hg, f3, ⟨lone6, dx1, f1, f2, f4, f5, f6, [], i1, i1'.hr, i1'.hp, hg⟩, fun H3 s3 => fun D hD => ?_⟩
      have s3' : Same H2 H3 := s3
      refine lc_valsT (ys := []) hD (sqT_same s3' i1'.hr) (by show 0 < sizeLine; decide) rfl (fun _ => rfl) (fun i x H' R hx => by cases hx) fun H4 s4 e4 => ?_
      have s24 := s3'.trans s4
      have hg4 := graphAt_same s24 hg
      refine ⟨_, rfl, x, rfl, oat_graph hg4, x, lone6, rfl, hg4, lone6_ok, _, rfl, _, rfl, x, rfl, oat_graph hg4, x, lone6, rfl, hg4, _, rfl, (by show 7 ≤ sizeLine; decide), fun l hl => ?_⟩
      have sl := same_new (o := .lst [.ref n1, .ref n2, .ref n3, .int 0, .ref D, .str (gText lone6), .bl (!lone6.rs.isEmpty)]) hl
      have S := s24.trans sl
      have dl : Dp K (upd H4 l (.lst [.ref n1, .ref n2, .ref n3, .int 0, .ref D, .str (gText lone6), .bl (!lone6.rs.isEmpty)])) (.ref l) lone6D := by
        refine .lst (.inl (.inl upd_same)) (.cons (.tup (sqT_same S h1) (.cons (.str _) .nil)) (.cons (.tup (sqT_same S h2) (.cons (.str _) .nil)) (.cons (.tup (sqT_same S h3) .nil) (.cons (.int _) (.cons (.lst (.inl (.inl (sl _ _ e4))) .nil) (.cons ?_ (.cons (.bl _) .nil)))))))
        rw [lone6_text]
        exact .str _
      generalize upd H4 l (.lst [.ref n1, .ref n2, .ref n3, .int 0, .ref D, .str (gText lone6), .bl (!lone6.rs.isEmpty)]) = H5 at dl
      clear sl S e4 hl hD s3 s4
      refine ⟨_, rfl, w1, fun t1 ht1 => ⟨w1, fun t2 ht2 => ⟨(by show 0 ≤ sizeLine; decide), fun t3 ht3 => ⟨(by show 0 ≤ sizeLine; decide), fun t4 ht4 => ⟨(by show 7 ≤ sizeLine; decide), fun m hm => ?_⟩⟩⟩⟩⟩
      have z1 := same_new (o := .tup [.str "p"]) ht1
      have z2 := same_new (o := .tup [.str "x"]) ht2
      have z3 := same_new (o := .tup []) ht3
      have z4 := same_new (o := .lst []) ht4
      have z5 := same_new (o := .lst [.ref t1, .ref t2, .ref t3, .int 0, .ref t4, .str "graph of 1 states, 1 counters, 0 transitions", .bl false]) hm
      have z45 := z4.trans z5
      have z35 := z3.trans z45
      have z25 := z2.trans z35
      refine ⟨lone6D, lone6D, dp_same (z1.trans z25) _ _ dl, .lst (.inl (.inl upd_same)) (.cons (.tup (.inl (.inl (z25 _ _ upd_same))) (.cons (.str _) .nil)) (.cons (.tup (.inl (.inl (z35 _ _ upd_same))) (.cons (.str _) .nil)) (.cons (.tup (.inl (.inl (z45 _ _ upd_same))) .nil) (.cons (.int _) (.cons (.lst (.inl (.inl (z5 _ _ upd_same))) .nil) (.cons (.str _) (.cons (.bl _) .nil))))))), lone6_shaped, lone6_shaped, ?_⟩
      rw [lone6_eqv]
      exact fin _
end
end Qp

/-! what the top has written -/
namespace Qp
open PySem PySem.Spec PySem.W PyProof.Rows L2 QN
def freeNames : List Str := ["len", "int", "bool", "max", "min", "abs", "isinstance", "tuple", "list", "range", "all", "str", "repr", "sorted", "set", "enumerate", "dict", "zip", "iter"]
def freeLook (K : Frag) : Bool := freeNames.all fun x => nsIn K mainGlobals x == some none
theorem free_of {K : Frag} {h : Heap} {mg : Str → Option Value} (X : K.In h) (G : h.Ns mainGlobals mg) (e : freeLook K = true) {x : Str} (hx : x ∈ freeNames) : mg x = none := by
  have z := List.all_eq_true.mp e x hx
  exact mg_none_of X G (beq_iff_eq.mp z)
def fieldNames : List Str := ["_counters", "_states", "_rows", "_names", "_by_name", "_kept"]
def clsLook (K : Frag) (C : Addr) : Bool :=
  plainGet K C Str.empty && hasDictIn K C && plainOver K C && findIn K (.ref C) "__setattr__" == some (some (.builtin "object.__setattr__")) && (fieldNames.all fun x => findIn K (.ref C) x == some none) &&
  makesIn K C && keepIn K (.ref C) && readsIn K C (.type "type") && specialIn K (.ref C) "__getattribute__" == some (some (.builtin "type.__getattribute__"))
def objLook (K : Frag) (C : Addr) : Bool :=
  kitOne K (.ref C) (.ref C) == some true && findIn K (.ref C) "__class__" == some (some (.builtin "object.__class__")) &&
  specialIn K (.builtin "object.__class__") "__get__" == some (some (.builtin "getset_descriptor.__get__")) && takesIn K (.builtin "object.__class__") == some true && mroIn K C (.type "object") == some true
def kindNames : List String := ["NoneType", "tuple", "int", "str"]
def kindLook (K : Frag) (C : Addr) : Bool := (kindNames.all fun t => subIn K (.type t) (.ref C) == some false && kitOne K (.type t) (.ref C) == some false) && findIn K (.ref C) "__ne__" == some (some (.builtin "object.__ne__"))
def fnLook (K : Frag) (fs : List Addr) : Bool := fs.all fun f => isFn K (.ref f)
def propLook (K : Frag) (ps : List Addr) : Bool := ps.all fun p => specialIn K (.ref p) "__get__" == some (some (.builtin "property.__get__")) && takesIn K (.ref p) == some true
def tabsLook (K : Frag) (cs : List (Addr × Addr)) : Bool := cs.all fun p => codeHdIn K p.1 p.2 && (K.lookup p.2).isNone
def allLook (K : Frag) (C gO gG c1 P1 : Addr) (ps fs : List Addr) : Bool := freeLook K && clsLook K C && objLook K C && kindLook K C && fnLook K fs && propLook K ps && fnIn K gO && fnIn K gG && tabsLook K [(c1, P1)]
def spLawT (K : PySem.W.Frag) (cs : List (Addr × Addr)) : Sp := match cs with
  | [a] => spLaw6 K a.2
  | _ => fun _ _ _ _ => False
theorem gx_tab {base : Heap} {mg : Str → Option Value} {c P : Addr} (t : LamX.TabB base mg c P) : GxR.TabB base mg c P := ⟨t.code, t.bm, t.gP⟩
theorem all_mk {p q : Program} {lo : List Str} {mean : ExcName → Option Value} {w : World} {K : Frag} {h : Heap} {mg mb : Str → Option Value} {fa C pO p_counters p_states p_names p_transitions D e0 e1 TD c1 P1 : Addr} {rO r_counters r_states r_names r_transitions : List Value} {tle tml tmc tcc tms tmt : Tok} (Tp : Top q lo mean mg mb h) (X : K.In h) (hfa : mg "law" = some (.ref fa))
    {g0 : Addr} {od0 an0 : Option Addr} {sl0 : Array (Option Value)} {oc0 kV0 dc0 pm0 cd0 ct0 : Value}
    {g1 : Addr} {od1 an1 : Option Addr} {sl1 : Array (Option Value)} {oc1 kV1 dc1 pm1 cd1 ct1 : Value}
    {g2 : Addr} {od2 an2 : Option Addr} {sl2 : Array (Option Value)} {oc2 kV2 dc2 pm2 cd2 ct2 : Value}
    {g3 : Addr} {od3 an3 : Option Addr} {sl3 : Array (Option Value)} {oc3 kV3 dc3 pm3 cd3 ct3 : Value}
    {g4 : Addr} {od4 an4 : Option Addr} {sl4 : Array (Option Value)} {oc4 kV4 dc4 pm4 cd4 ct4 : Value}
    {g5 : Addr} {od5 an5 : Option Addr} {sl5 : Array (Option Value)} {oc5 kV5 dc5 pm5 cd5 ct5 : Value}
    {g6 : Addr} {od6 an6 : Option Addr} {sl6 : Array (Option Value)} {oc6 kV6 dc6 pm6 cd6 ct6 : Value}
    {g7 : Addr} {od7 an7 : Option Addr} {sl7 : Array (Option Value)} {oc7 kV7 dc7 pm7 cd7 ct7 : Value}
    {g8 : Addr} {od8 an8 : Option Addr} {sl8 : Array (Option Value)} {oc8 kV8 dc8 pm8 cd8 ct8 : Value}
    {g9 : Addr} {od9 an9 : Option Addr} {sl9 : Array (Option Value)} {oc9 kV9 dc9 pm9 cd9 ct9 : Value}
    {g10 : Addr} {od10 an10 : Option Addr} {sl10 : Array (Option Value)} {oc10 kV10 dc10 pm10 cd10 ct10 : Value}
    {g11 : Addr} {od11 an11 : Option Addr} {sl11 : Array (Option Value)} {oc11 kV11 dc11 pm11 cd11 ct11 : Value}
    {g12 : Addr} {od12 an12 : Option Addr} {sl12 : Array (Option Value)} {oc12 kV12 dc12 pm12 cd12 ct12 : Value}
    {g13 : Addr} {od13 an13 : Option Addr} {sl13 : Array (Option Value)} {oc13 kV13 dc13 pm13 cd13 ct13 : Value}
    {g14 : Addr} {od14 an14 : Option Addr} {sl14 : Array (Option Value)} {oc14 kV14 dc14 pm14 cd14 ct14 : Value}
    {g15 : Addr} {od15 an15 : Option Addr} {sl15 : Array (Option Value)} {oc15 kV15 dc15 pm15 cd15 ct15 : Value}
    {g16 : Addr} {od16 an16 : Option Addr} {sl16 : Array (Option Value)} {oc16 kV16 dc16 pm16 cd16 ct16 : Value}
    {g17 : Addr} {od17 an17 : Option Addr} {sl17 : Array (Option Value)} {oc17 kV17 dc17 pm17 cd17 ct17 : Value}
    {g18 : Addr} {od18 an18 : Option Addr} {sl18 : Array (Option Value)} {oc18 kV18 dc18 pm18 cd18 ct18 : Value}
    {g19 : Addr} {od19 an19 : Option Addr} {sl19 : Array (Option Value)} {oc19 kV19 dc19 pm19 cd19 ct19 : Value}
    {g20 : Addr} {od20 an20 : Option Addr} {sl20 : Array (Option Value)} {oc20 kV20 dc20 pm20 cd20 ct20 : Value}
    {g21 : Addr} {od21 an21 : Option Addr} {sl21 : Array (Option Value)} {oc21 kV21 dc21 pm21 cd21 ct21 : Value}
    {g22 : Addr} {od22 an22 : Option Addr} {sl22 : Array (Option Value)} {oc22 kV22 dc22 pm22 cd22 ct22 : Value}
    {g23 : Addr} {od23 an23 : Option Addr} {sl23 : Array (Option Value)} {oc23 kV23 dc23 pm23 cd23 ct23 : Value}
    {g24 : Addr} {od24 an24 : Option Addr} {sl24 : Array (Option Value)} {oc24 kV24 dc24 pm24 cd24 ct24 : Value}
    {g25 : Addr} {od25 an25 : Option Addr} {sl25 : Array (Option Value)} {oc25 kV25 dc25 pm25 cd25 ct25 : Value}
    {g26 : Addr} {od26 an26 : Option Addr} {sl26 : Array (Option Value)} {oc26 kV26 dc26 pm26 cd26 ct26 : Value}
    {g27 : Addr} {od27 an27 : Option Addr} {sl27 : Array (Option Value)} {oc27 kV27 dc27 pm27 cd27 ct27 : Value}
    {g28 : Addr} {od28 an28 : Option Addr} {sl28 : Array (Option Value)} {oc28 dc28 pm28 ct28 : Value}
    {g29 : Addr} {od29 an29 : Option Addr} {sl29 : Array (Option Value)} {oc29 kV29 dc29 pm29 cd29 ct29 : Value}
    {g30 : Addr} {od30 an30 : Option Addr} {sl30 : Array (Option Value)} {oc30 kV30 dc30 pm30 cd30 ct30 : Value}
    {g31 : Addr} {od31 an31 : Option Addr} {sl31 : Array (Option Value)} {oc31 kV31 dc31 pm31 cd31 ct31 : Value}
    {g32 : Addr} {od32 an32 : Option Addr} {sl32 : Array (Option Value)} {oc32 kV32 dc32 pm32 cd32 ct32 : Value}
    {g33 : Addr} {od33 an33 : Option Addr} {sl33 : Array (Option Value)} {oc33 kV33 dc33 pm33 cd33 ct33 : Value}
    {g34 : Addr} {od34 an34 : Option Addr} {sl34 : Array (Option Value)} {oc34 kV34 dc34 pm34 cd34 ct34 : Value}
    {g35 : Addr} {od35 an35 : Option Addr} {sl35 : Array (Option Value)} {oc35 kV35 dc35 pm35 cd35 ct35 : Value}
    {g36 : Addr} {od36 an36 : Option Addr} {sl36 : Array (Option Value)} {oc36 kV36 dc36 pm36 cd36 ct36 : Value}
    {g37 : Addr} {od37 an37 : Option Addr} {sl37 : Array (Option Value)} {oc37 kV37 dc37 pm37 cd37 ct37 : Value}
    {g38 : Addr} {od38 an38 : Option Addr} {sl38 : Array (Option Value)} {oc38 kV38 dc38 pm38 cd38 ct38 : Value}
    {g39 : Addr} {od39 an39 : Option Addr} {sl39 : Array (Option Value)} {oc39 kV39 dc39 pm39 cd39 ct39 : Value}
    {g40 : Addr} {od40 an40 : Option Addr} {sl40 : Array (Option Value)} {oc40 kV40 dc40 pm40 cd40 ct40 : Value}
    {cc1 : Value} {co1 : Option Addr} {cv1 : Array Value} {cs1 : Array (Option Value)} {eo0 to0 : Option Addr} {en0 tn0 : Nat} {es0 ts0 : Array (Option Value)}
    (nC : nsIn K mainGlobals "Graph" = some (some (.ref C))) (nLe : nsIn K mainGlobals "_LETTERS" = some (some (.str letters tle))) (nMl : nsIn K mainGlobals "_MAX_LETTERS" = some (some (.int 8 tml))) (nMc : nsIn K mainGlobals "_MAX_CHANGE" = some (some (.int 9 tmc))) (nCc : nsIn K mainGlobals "_MAX_COUNTERS" = some (some (.int 5 tcc))) (nMs : nsIn K mainGlobals "_MAX_STATES" = some (some (.int 8 tms))) (nMt : nsIn K mainGlobals "_MAX_TRANSITIONS" = some (some (.int 16 tmt)))
    (a0 : nsIn K mainGlobals "_law_dice" = some (some (.ref g0))) (l0 : K.lookup g0 = some ⟨oc0, od0, .func (fnOf "_law_dice" "_law_dice" (defArgs sDice) (defBody sDice) (defScope sDice) .none kV0 dc0 pm0 an0 cd0 ct0), sl0⟩) (u0 : codeIn K cd0 "_law_dice" = true) (k0 : keepIn K (.ref g0) = true)
    (a1 : nsIn K mainGlobals "_law_roll" = some (some (.ref g1))) (l1 : K.lookup g1 = some ⟨oc1, od1, .func (fnOf "_law_roll" "_law_roll" (defArgs sRoll) (defBody sRoll) (defScope sRoll) .none kV1 dc1 pm1 an1 cd1 ct1), sl1⟩) (u1 : codeIn K cd1 "_law_roll" = true) (k1 : keepIn K (.ref g1) = true)
    (a2 : nsIn K mainGlobals "_law_one_of" = some (some (.ref g2))) (l2 : K.lookup g2 = some ⟨oc2, od2, .func (fnOf "_law_one_of" "_law_one_of" (defArgs sOne) (defBody sOne) (defScope sOne) .none kV2 dc2 pm2 an2 cd2 ct2), sl2⟩) (u2 : codeIn K cd2 "_law_one_of" = true) (k2 : keepIn K (.ref g2) = true)
    (a3 : nsIn K mainGlobals "_law_mixed" = some (some (.ref g3))) (l3 : K.lookup g3 = some ⟨oc3, od3, .func (fnOf "_law_mixed" "_law_mixed" (defArgs sMixed) (defBody sMixed) (defScope sMixed) .none kV3 dc3 pm3 an3 cd3 ct3), sl3⟩) (u3 : codeIn K cd3 "_law_mixed" = true) (k3 : keepIn K (.ref g3) = true)
    (a4 : nsIn K mainGlobals "_law_change" = some (some (.ref g4))) (l4 : K.lookup g4 = some ⟨oc4, od4, .func (fnOf "_law_change" "_law_change" (defArgs sLChg) (defBody sLChg) (defScope sLChg) .none kV4 dc4 pm4 an4 cd4 ct4), sl4⟩) (u4 : codeIn K cd4 "_law_change" = true) (k4 : keepIn K (.ref g4) = true)
    (a5 : nsIn K mainGlobals "_law_kind" = some (some (.ref g5))) (l5 : K.lookup g5 = some ⟨oc5, od5, .func (fnOf "_law_kind" "_law_kind" (defArgs sLKind) (defBody sLKind) (defScope sLKind) .none kV5 dc5 pm5 an5 cd5 ct5), sl5⟩) (u5 : codeIn K cd5 "_law_kind" = true) (k5 : keepIn K (.ref g5) = true)
    (a6 : nsIn K mainGlobals "_law_words" = some (some (.ref g6))) (l6 : K.lookup g6 = some ⟨oc6, od6, .func (fnOf "_law_words" "_law_words" (defArgs sLWords) (defBody sLWords) (defScope sLWords) .none kV6 dc6 pm6 an6 cd6 ct6), sl6⟩) (u6 : codeIn K cd6 "_law_words" = true) (k6 : keepIn K (.ref g6) = true)
    (a7 : nsIn K mainGlobals "_law_graph" = some (some (.ref g7))) (l7 : K.lookup g7 = some ⟨oc7, od7, .func (fnOf "_law_graph" "_law_graph" (defArgs sLGraph) (defBody sLGraph) (defScope sLGraph) .none kV7 dc7 pm7 an7 cd7 ct7), sl7⟩) (u7 : codeIn K cd7 "_law_graph" = true) (k7 : keepIn K (.ref g7) = true)
    (a8 : nsIn K mainGlobals "_law_built" = some (some (.ref g8))) (l8 : K.lookup g8 = some ⟨oc8, od8, .func (fnOf "_law_built" "_law_built" (defArgs sLBuilt) (defBody sLBuilt) (defScope sLBuilt) .none kV8 dc8 pm8 an8 cd8 ct8), sl8⟩) (u8 : codeIn K cd8 "_law_built" = true) (k8 : keepIn K (.ref g8) = true)
    (a9 : nsIn K mainGlobals "_law_some" = some (some (.ref g9))) (l9 : K.lookup g9 = some ⟨oc9, od9, .func (fnOf "_law_some" "_law_some" (defArgs sLSome) (defBody sLSome) (defScope sLSome) .none kV9 dc9 pm9 an9 cd9 ct9), sl9⟩) (u9 : codeIn K cd9 "_law_some" = true) (k9 : keepIn K (.ref g9) = true)
    (a10 : nsIn K mainGlobals "_law_drawn" = some (some (.ref g10))) (l10 : K.lookup g10 = some ⟨oc10, od10, .func (fnOf "_law_drawn" "_law_drawn" (defArgs sLDrawn) (defBody sLDrawn) (defScope sLDrawn) .none kV10 dc10 pm10 an10 cd10 ct10), sl10⟩) (u10 : codeIn K cd10 "_law_drawn" = true) (k10 : keepIn K (.ref g10) = true)
    (a11 : nsIn K mainGlobals "_law_by_hand" = some (some (.ref g11))) (l11 : K.lookup g11 = some ⟨oc11, od11, .func (fnOf "_law_by_hand" "_law_by_hand" (defArgs sLHand) (defBody sLHand) (defScope sLHand) .none kV11 dc11 pm11 an11 cd11 ct11), sl11⟩) (u11 : codeIn K cd11 "_law_by_hand" = true) (k11 : keepIn K (.ref g11) = true)
    (a12 : nsIn K mainGlobals "_law_told_right" = some (some (.ref g12))) (l12 : K.lookup g12 = some ⟨oc12, od12, .func (fnOf "_law_told_right" "_law_told_right" (defArgs sLTold) (defBody sLTold) (defScope sLTold) .none kV12 dc12 pm12 an12 cd12 ct12), sl12⟩) (u12 : codeIn K cd12 "_law_told_right" = true) (k12 : keepIn K (.ref g12) = true)
    (a13 : nsIn K mainGlobals "_law_others" = some (some (.ref g13))) (l13 : K.lookup g13 = some ⟨oc13, od13, .func (fnOf "_law_others" "_law_others" (defArgs sLOthers) (defBody sLOthers) (defScope sLOthers) .none kV13 dc13 pm13 an13 cd13 ct13), sl13⟩) (u13 : codeIn K cd13 "_law_others" = true) (k13 : keepIn K (.ref g13) = true)
    (a14 : nsIn K mainGlobals "_law_right" = some (some (.ref g14))) (l14 : K.lookup g14 = some ⟨oc14, od14, .func (fnOf "_law_right" "_law_right" (defArgs sLRight6) (defBody sLRight6) (defScope sLRight6) .none kV14 dc14 pm14 an14 cd14 ct14), sl14⟩) (u14 : codeIn K cd14 "_law_right" = true) (k14 : keepIn K (.ref g14) = true)
    (a15 : nsIn K mainGlobals "law" = some (some (.ref g15))) (l15 : K.lookup g15 = some ⟨oc15, od15, .func (fnOf "law" "law" (defArgs sLaw6) (defBody sLaw6) (defScope sLaw6) .none kV15 dc15 pm15 an15 cd15 ct15), sl15⟩) (u15 : codeIn K cd15 "law" = true) (k15 : keepIn K (.ref g15) = true)
    (a16 : nsIn K mainGlobals "is_name" = some (some (.ref g16))) (l16 : K.lookup g16 = some ⟨oc16, od16, .func (fnOf "is_name" "is_name" (defArgs sIsName) (defBody sIsName) (defScope sIsName) .none kV16 dc16 pm16 an16 cd16 ct16), sl16⟩) (u16 : codeIn K cd16 "is_name" = true) (k16 : keepIn K (.ref g16) = true)
    (a17 : nsIn K mainGlobals "is_tuple_of_names" = some (some (.ref g17))) (l17 : K.lookup g17 = some ⟨oc17, od17, .func (fnOf "is_tuple_of_names" "is_tuple_of_names" (defArgs sIsToN) (defBody sIsToN) (defScope sIsToN) .none kV17 dc17 pm17 an17 cd17 ct17), sl17⟩) (u17 : codeIn K cd17 "is_tuple_of_names" = true) (k17 : keepIn K (.ref g17) = true)
    (a18 : nsIn K mainGlobals "is_integer" = some (some (.ref g18))) (l18 : K.lookup g18 = some ⟨oc18, od18, .func (fnOf "is_integer" "is_integer" (defArgs sIsI) (defBody sIsI) (defScope sIsI) .none kV18 dc18 pm18 an18 cd18 ct18), sl18⟩) (u18 : codeIn K cd18 "is_integer" = true) (k18 : keepIn K (.ref g18) = true)
    (a19 : nsIn K mainGlobals "_is_amount" = some (some (.ref g19))) (l19 : K.lookup g19 = some ⟨oc19, od19, .func (fnOf "_is_amount" "_is_amount" (defArgs sIsAm) (defBody sIsAm) (defScope sIsAm) .none kV19 dc19 pm19 an19 cd19 ct19), sl19⟩) (u19 : codeIn K cd19 "_is_amount" = true) (k19 : keepIn K (.ref g19) = true)
    (a20 : nsIn K mainGlobals "_is_counter_change" = some (some (.ref g20))) (l20 : K.lookup g20 = some ⟨oc20, od20, .func (fnOf "_is_counter_change" "_is_counter_change" (defArgs sIsCC) (defBody sIsCC) (defScope sIsCC) .none kV20 dc20 pm20 an20 cd20 ct20), sl20⟩) (u20 : codeIn K cd20 "_is_counter_change" = true) (k20 : keepIn K (.ref g20) = true)
    (a21 : nsIn K mainGlobals "is_ascending" = some (some (.ref g21))) (l21 : K.lookup g21 = some ⟨oc21, od21, .func (fnOf "is_ascending" "is_ascending" (defArgs sIsAsc) (defBody sIsAsc) (defScope sIsAsc) .none kV21 dc21 pm21 an21 cd21 ct21), sl21⟩) (u21 : codeIn K cd21 "is_ascending" = true) (k21 : keepIn K (.ref g21) = true)
    (a22 : nsIn K mainGlobals "_is_change" = some (some (.ref g22))) (l22 : K.lookup g22 = some ⟨oc22, od22, .func (fnOf "_is_change" "_is_change" (defArgs sIsCh) (defBody sIsCh) (defScope sIsCh) .none kV22 dc22 pm22 an22 cd22 ct22), sl22⟩) (u22 : codeIn K cd22 "_is_change" = true) (k22 : keepIn K (.ref g22) = true)
    (a23 : nsIn K mainGlobals "is_transition" = some (some (.ref g23))) (l23 : K.lookup g23 = some ⟨oc23, od23, .func (fnOf "is_transition" "is_transition" (defArgs sIsTr) (defBody sIsTr) (defScope sIsTr) .none kV23 dc23 pm23 an23 cd23 ct23), sl23⟩) (u23 : codeIn K cd23 "is_transition" = true) (k23 : keepIn K (.ref g23) = true)
    (a24 : nsIn K mainGlobals "reached" = some (some (.ref g24))) (l24 : K.lookup g24 = some ⟨oc24, od24, .func (fnOf "reached" "reached" (defArgs sReached) (defBody sReached) (defScope sReached) .none kV24 dc24 pm24 an24 cd24 ct24), sl24⟩) (u24 : codeIn K cd24 "reached" = true) (k24 : keepIn K (.ref g24) = true)
    (a25 : nsIn K mainGlobals "_are_connected" = some (some (.ref g25))) (l25 : K.lookup g25 = some ⟨oc25, od25, .func (fnOf "_are_connected" "_are_connected" (defArgs sConn) (defBody sConn) (defScope sConn) .none kV25 dc25 pm25 an25 cd25 ct25), sl25⟩) (u25 : codeIn K cd25 "_are_connected" = true) (k25 : keepIn K (.ref g25) = true)
    (a26 : nsIn K mainGlobals "_all_states" = some (some (.ref g26))) (l26 : K.lookup g26 = some ⟨oc26, od26, .func (fnOf "_all_states" "_all_states" (defArgs sAll) (defBody sAll) (defScope sAll) .none kV26 dc26 pm26 an26 cd26 ct26), sl26⟩) (u26 : codeIn K cd26 "_all_states" = true) (k26 : keepIn K (.ref g26) = true)
    (a27 : nsIn K mainGlobals "_is_graph" = some (some (.ref g27))) (l27 : K.lookup g27 = some ⟨oc27, od27, .func (fnOf "_is_graph" "_is_graph" (defArgs sIsG) (defBody sIsG) (defScope sIsG) .none kV27 dc27 pm27 an27 cd27 ct27), sl27⟩) (u27 : codeIn K cd27 "_is_graph" = true) (k27 : keepIn K (.ref g27) = true)
    (a28 : findIn K (.ref C) "__init__" = some (some (.ref g28))) (l28 : K.lookup g28 = some ⟨oc28, od28, .func (fnOf "__init__" "Graph.__init__" (defArgs sGInit) (defBody sGInit) (defScope sGInit) .none (.ref D) dc28 pm28 an28 (.ref c1) ct28), sl28⟩) (u28 : codeIn K (.ref c1) "Graph.__init__" = true) (k28 : keepIn K (.ref g28) = true)
    (a29 : findCls K (.ref C) (.type "type") "of" = some (.get (.builtin "classmethod.__get__") (.ref pO) .none (.ref C))) (r29 : recIn K pO "classmethod" = some (.ref g29 :: rO)) (l29 : K.lookup g29 = some ⟨oc29, od29, .func (fnOf "of" "Graph.of" (defArgs sGOf) (defBody sGOf) (defScope sGOf) (.ref TD) kV29 dc29 pm29 an29 cd29 ct29), sl29⟩) (u29 : codeIn K cd29 "Graph.of" = true) (k29 : keepIn K (.ref g29) = true)
    (a30 : findIn K (.ref C) "counters" = some (some (.ref p_counters))) (r30 : recIn K p_counters "property" = some (.ref g30 :: r_counters)) (l30 : K.lookup g30 = some ⟨oc30, od30, .func (fnOf "counters" "Graph.counters" (defArgs sGCtrs) (defBody sGCtrs) (defScope sGCtrs) .none kV30 dc30 pm30 an30 cd30 ct30), sl30⟩) (u30 : codeIn K cd30 "Graph.counters" = true) (k30 : keepIn K (.ref g30) = true)
    (a31 : findIn K (.ref C) "states" = some (some (.ref p_states))) (r31 : recIn K p_states "property" = some (.ref g31 :: r_states)) (l31 : K.lookup g31 = some ⟨oc31, od31, .func (fnOf "states" "Graph.states" (defArgs sGSts) (defBody sGSts) (defScope sGSts) .none kV31 dc31 pm31 an31 cd31 ct31), sl31⟩) (u31 : codeIn K cd31 "Graph.states" = true) (k31 : keepIn K (.ref g31) = true)
    (a32 : findIn K (.ref C) "names" = some (some (.ref p_names))) (r32 : recIn K p_names "property" = some (.ref g32 :: r_names)) (l32 : K.lookup g32 = some ⟨oc32, od32, .func (fnOf "names" "Graph.names" (defArgs sGNames) (defBody sGNames) (defScope sGNames) .none kV32 dc32 pm32 an32 cd32 ct32), sl32⟩) (u32 : codeIn K cd32 "Graph.names" = true) (k32 : keepIn K (.ref g32) = true)
    (a33 : findIn K (.ref C) "transitions" = some (some (.ref p_transitions))) (r33 : recIn K p_transitions "property" = some (.ref g33 :: r_transitions)) (l33 : K.lookup g33 = some ⟨oc33, od33, .func (fnOf "transitions" "Graph.transitions" (defArgs sGTrans) (defBody sGTrans) (defScope sGTrans) .none kV33 dc33 pm33 an33 cd33 ct33), sl33⟩) (u33 : codeIn K cd33 "Graph.transitions" = true) (k33 : keepIn K (.ref g33) = true)
    (a34 : findIn K (.ref C) "__getitem__" = some (some (.ref g34))) (l34 : K.lookup g34 = some ⟨oc34, od34, .func (fnOf "__getitem__" "Graph.__getitem__" (defArgs sGGet) (defBody sGGet) (defScope sGGet) .none kV34 dc34 pm34 an34 cd34 ct34), sl34⟩) (u34 : codeIn K cd34 "Graph.__getitem__" = true) (k34 : keepIn K (.ref g34) = true)
    (a35 : findIn K (.ref C) "__contains__" = some (some (.ref g35))) (l35 : K.lookup g35 = some ⟨oc35, od35, .func (fnOf "__contains__" "Graph.__contains__" (defArgs sGCon) (defBody sGCon) (defScope sGCon) .none kV35 dc35 pm35 an35 cd35 ct35), sl35⟩) (u35 : codeIn K cd35 "Graph.__contains__" = true) (k35 : keepIn K (.ref g35) = true)
    (a36 : findIn K (.ref C) "__len__" = some (some (.ref g36))) (l36 : K.lookup g36 = some ⟨oc36, od36, .func (fnOf "__len__" "Graph.__len__" (defArgs sGLen) (defBody sGLen) (defScope sGLen) .none kV36 dc36 pm36 an36 cd36 ct36), sl36⟩) (u36 : codeIn K cd36 "Graph.__len__" = true) (k36 : keepIn K (.ref g36) = true)
    (a37 : findIn K (.ref C) "__bool__" = some (some (.ref g37))) (l37 : K.lookup g37 = some ⟨oc37, od37, .func (fnOf "__bool__" "Graph.__bool__" (defArgs sGBool) (defBody sGBool) (defScope sGBool) .none kV37 dc37 pm37 an37 cd37 ct37), sl37⟩) (u37 : codeIn K cd37 "Graph.__bool__" = true) (k37 : keepIn K (.ref g37) = true)
    (a38 : findIn K (.ref C) "__iter__" = some (some (.ref g38))) (l38 : K.lookup g38 = some ⟨oc38, od38, .func (fnOf "__iter__" "Graph.__iter__" (defArgs sGIter) (defBody sGIter) (defScope sGIter) .none kV38 dc38 pm38 an38 cd38 ct38), sl38⟩) (u38 : codeIn K cd38 "Graph.__iter__" = true) (k38 : keepIn K (.ref g38) = true)
    (a39 : findIn K (.ref C) "__eq__" = some (some (.ref g39))) (l39 : K.lookup g39 = some ⟨oc39, od39, .func (fnOf "__eq__" "Graph.__eq__" (defArgs sGEq) (defBody sGEq) (defScope sGEq) .none kV39 dc39 pm39 an39 cd39 ct39), sl39⟩) (u39 : codeIn K cd39 "Graph.__eq__" = true) (k39 : keepIn K (.ref g39) = true)
    (a40 : findIn K (.ref C) "__str__" = some (some (.ref g40))) (l40 : K.lookup g40 = some ⟨oc40, od40, .func (fnOf "__str__" "Graph.__str__" (defArgs sGStr) (defBody sGStr) (defScope sGStr) .none kV40 dc40 pm40 an40 cd40 ct40), sl40⟩) (u40 : codeIn K cd40 "Graph.__str__" = true) (k40 : keepIn K (.ref g40) = true)
    (j1 : K.lookup c1 = some ⟨cc1, co1, .fields cv1, cs1⟩) (i1 : cv1[11]? = some (.ref P1)) (em1 : h.get? P1 = some emptyTab)
    (nD : nsIn K D "states" = some (some (.ref e0))) (le0 : K.lookup e0 = some ⟨.type "tuple", eo0, .seq #[] en0, es0⟩) (lT : K.lookup TD = some ⟨.type "tuple", to0, .seq #[.ref e1] tn0, ts0⟩)
    (look : allLook K C g29 g34 c1 P1 [p_counters, p_states, p_names, p_transitions] [g28, g34, g35, g36, g37, g38, g39, g40] = true) :
    ∃ (fd : FuncData) (cs : List (Addr × Addr)), (∀ b ∈ cs.map (·.2), h.get? b = some emptyTab) ∧ (∀ b ∈ cs.map (·.2), K.lookup b = none) ∧ (∀ p ∈ cs, PySem.W.CodeHd h p.1 p.2) ∧ (∀ (s : Shared) (u : Value), BindsTo s fd ⟨[u], []⟩ [("_law_script", u)]) ∧
        (∀ (H : Hp) (a : Addr) (ns : List Int), ns.length ≤ 63 → (∀ z ∈ ns, Builtin.Int.intBits z ≤ 1048576) → (∀ p ∈ cs, H p.2 = some (.tbl #[])) → SqL K H a (ns.map V.int) → spLawT K cs [.ref a] H (fun v _ => v = .bl true) fun _ _ _ => False) ∧
        ∀ base : Heap, K.In base → base.Ns mainGlobals mg → (∀ p ∈ cs, LamX.TabB base mg p.1 p.2) → FnG p w K mg base 12 fa fd ["_law_script"] (spLawT K cs) := by
  have G := Tp.g
  have e := hfa.symm.trans (mg_of X G a15)
  cases e
  unfold allLook at look
  simp only [Bool.and_eq_true] at look
  obtain ⟨⟨⟨⟨⟨⟨⟨⟨q1, q2⟩, q3⟩, qk⟩, q4⟩, q5⟩, q7⟩, q8⟩, q9⟩ := look
  unfold clsLook at q2
  unfold objLook at q3
  unfold kindLook at qk
  unfold fnLook at q4
  unfold propLook at q5
  unfold tabsLook at q9
  simp only [Bool.and_eq_true, beq_iff_eq] at q2 q3 qk
  obtain ⟨⟨⟨⟨⟨⟨⟨⟨w1, w2⟩, w3⟩, w4⟩, w5⟩, w6⟩, w7⟩, w8⟩, w9⟩ := q2
  obtain ⟨⟨⟨⟨o1, o2⟩, o3⟩, o4⟩, o5⟩ := q3
  obtain ⟨qk, hne⟩ := qk
  have KG : ∀ t ∈ kindNames, subIn K (.type t) (.ref C) = some false ∧ kitOne K (.type t) (.ref C) = some false := fun t ht => by
    have z := List.all_eq_true.mp qk t ht
    simpa only [Bool.and_eq_true, beq_iff_eq] using z
  have pr : ∀ {p : Addr}, p ∈ [p_counters, p_states, p_names, p_transitions] → specialIn K (.ref p) "__get__" = some (some (.builtin "property.__get__")) ∧ takesIn K (.ref p) = some true := fun {p} hp => by
    have z := List.all_eq_true.mp q5 p hp
    simpa only [Bool.and_eq_true, beq_iff_eq] using z
  have fn : ∀ {f : Addr}, f ∈ [g28, g34, g35, g36, g37, g38, g39, g40] → isFn K (.ref f) = true := fun {f} hf => List.all_eq_true.mp q4 f hf
  have fr : ∀ {x : Str}, x ∈ freeNames → mg x = none := fun {x} hx => free_of X G q1 hx
  have tb9 : ∀ z ∈ [(c1, P1)], codeHdIn K z.1 z.2 = true ∧ K.lookup z.2 = none := fun z hz => by
    have y := List.all_eq_true.mp q9 z hz
    simpa only [Bool.and_eq_true, Option.isNone_iff_eq_none] using y
  have t1 : K.lookup P1 = none := (tb9 (c1, P1) (by simp)).2
  have na : ∀ {x : Str}, x ∈ fieldNames → NoAttr K C x := fun {x} hx => beq_iff_eq.mp (List.all_eq_true.mp w5 x hx)
  have B1 : Blt mg := ⟨fr (by decide), fr (by decide), fr (by decide), fr (by decide)⟩
  have BP : BltP mg := ⟨fr (by decide), fr (by decide), fr (by decide), fr (by decide), fr (by decide), fr (by decide), fr (by decide), fr (by decide)⟩
  have B2 : Blt2 mg := ⟨fr (by decide), fr (by decide), fr (by decide)⟩
  have so : mg "sorted" = none := fr (by decide)
  have L1 : Lim mg := ⟨⟨_, mg_of X G nLe⟩, ⟨_, mg_of X G nMl⟩⟩
  have L2' : Lim2 mg := ⟨⟨_, mg_of X G nMc⟩⟩
  have L3 : Lim3 mg := ⟨⟨_, mg_of X G nCc⟩, ⟨_, mg_of X G nMs⟩, ⟨_, mg_of X G nMt⟩, fr (by decide), so⟩
  have T : GraphC K mg C := ⟨mg_of X G nC, ⟨w1, w2, w3, w4⟩, na (by decide), na (by decide), na (by decide), na (by decide), na (by decide), na (by decide)⟩
  have O : GraphO K C := ⟨o1, o2, o3, o4, o5⟩
  have h0 := mg_of X G a0
  have F0 := fun_mk (st := sDice) l0 u0 k0
  have bi0 := F0.binds (ps := ["_law_script", "_law_at"]) fun _ _ _ _ _ _ us hl => match us, hl with | [_, _], _ => rfl
  have h1 := mg_of X G a1
  have F1 := fun_mk (st := sRoll) l1 u1 k1
  have bi1 := F1.binds (ps := ["_law_dice_here", "_law_total"]) fun _ _ _ _ _ _ us hl => match us, hl with | [_, _], _ => rfl
  have h2 := mg_of X G a2
  have F2 := fun_mk (st := sOne) l2 u2 k2
  have bi2 := F2.binds (ps := ["_law_dice_here", "_law_items"]) fun _ _ _ _ _ _ us hl => match us, hl with | [_, _], _ => rfl
  have h3 := mg_of X G a3
  have F3 := fun_mk (st := sMixed) l3 u3 k3
  have bi3 := F3.binds (ps := ["_law_dice_here", "_law_items"]) fun _ _ _ _ _ _ us hl => match us, hl with | [_, _], _ => rfl
  have h4 := mg_of X G a4
  have F4 := fun_mk (st := sLChg) l4 u4 k4
  have bi4 := F4.binds (ps := ["_law_dice_here", "_law_counters"]) fun _ _ _ _ _ _ us hl => match us, hl with | [_, _], _ => rfl
  have h5 := mg_of X G a5
  have F5 := fun_mk (st := sLKind) l5 u5 k5
  have bi5 := F5.binds (ps := ["_law_dice_here", "_law_counters"]) fun _ _ _ _ _ _ us hl => match us, hl with | [_, _], _ => rfl
  have h6 := mg_of X G a6
  have F6 := fun_mk (st := sLWords) l6 u6 k6
  have bi6 := F6.binds (ps := ["_law_dice_here", "_law_much"]) fun _ _ _ _ _ _ us hl => match us, hl with | [_, _], _ => rfl
  have h7 := mg_of X G a7
  have F7 := fun_mk (st := sLGraph) l7 u7 k7
  have bi7 := F7.binds (ps := ["_law_dice_here", "_law_most_states", "_law_most_counters", "_law_more"]) fun _ _ _ _ _ _ us hl => match us, hl with | [_, _, _, _], _ => rfl
  have h8 := mg_of X G a8
  have F8 := fun_mk (st := sLBuilt) l8 u8 k8
  have bi8 := F8.binds (ps := ["_law_plain"]) fun _ _ _ _ _ _ us hl => match us, hl with | [_], _ => rfl
  have h9 := mg_of X G a9
  have F9 := fun_mk (st := sLSome) l9 u9 k9
  have bi9 := F9.binds (ps := ["_law_dice_here", "_law_items"]) fun _ _ _ _ _ _ us hl => match us, hl with | [_, _], _ => rfl
  have h10 := mg_of X G a10
  have F10 := fun_mk (st := sLDrawn) l10 u10 k10
  have bi10 := F10.binds (ps := ["_law_dice_here"]) fun _ _ _ _ _ _ us hl => match us, hl with | [_], _ => rfl
  have h11 := mg_of X G a11
  have F11 := fun_mk (st := sLHand) l11 u11 k11
  have bi11 := F11.binds (ps := ["_law_counters", "_law_rows", "_law_nodes"]) fun _ _ _ _ _ _ us hl => match us, hl with | [_, _, _], _ => rfl
  have h12 := mg_of X G a12
  have F12 := fun_mk (st := sLTold) l12 u12 k12
  have bi12 := F12.binds (ps := ["_law_thing", "_law_plain"]) fun _ _ _ _ _ _ us hl => match us, hl with | [_, _], _ => rfl
  have h13 := mg_of X G a13
  have F13 := fun_mk (st := sLOthers) l13 u13 k13
  have bi13 := F13.binds (ps := ["_law_plain"]) fun _ _ _ _ _ _ us hl => match us, hl with | [_], _ => rfl
  have h14 := mg_of X G a14
  have F14 := fun_mk (st := sLRight6) l14 u14 k14
  have bi14 := F14.binds (ps := ["_law_dice_here"]) fun _ _ _ _ _ _ us hl => match us, hl with | [_], _ => rfl
  have h15 := mg_of X G a15
  have F15 := fun_mk (st := sLaw6) l15 u15 k15
  have h16 := mg_of X G a16
  have F16 := fun_mk (st := sIsName) l16 u16 k16
  have bi16 := F16.binds (ps := ["value"]) fun _ _ _ _ _ _ us hl => match us, hl with | [_], _ => rfl
  have h17 := mg_of X G a17
  have F17 := fun_mk (st := sIsToN) l17 u17 k17
  have bi17 := F17.binds (ps := ["value"]) fun _ _ _ _ _ _ us hl => match us, hl with | [_], _ => rfl
  have h18 := mg_of X G a18
  have F18 := fun_mk (st := sIsI) l18 u18 k18
  have bi18 := F18.binds (ps := ["value"]) fun _ _ _ _ _ _ us hl => match us, hl with | [_], _ => rfl
  have h19 := mg_of X G a19
  have F19 := fun_mk (st := sIsAm) l19 u19 k19
  have bi19 := F19.binds (ps := ["value"]) fun _ _ _ _ _ _ us hl => match us, hl with | [_], _ => rfl
  have h20 := mg_of X G a20
  have F20 := fun_mk (st := sIsCC) l20 u20 k20
  have bi20 := F20.binds (ps := ["value"]) fun _ _ _ _ _ _ us hl => match us, hl with | [_], _ => rfl
  have h21 := mg_of X G a21
  have F21 := fun_mk (st := sIsAsc) l21 u21 k21
  have bi21 := F21.binds (ps := ["values"]) fun _ _ _ _ _ _ us hl => match us, hl with | [_], _ => rfl
  have h22 := mg_of X G a22
  have F22 := fun_mk (st := sIsCh) l22 u22 k22
  have bi22 := F22.binds (ps := ["value"]) fun _ _ _ _ _ _ us hl => match us, hl with | [_], _ => rfl
  have h23 := mg_of X G a23
  have F23 := fun_mk (st := sIsTr) l23 u23 k23
  have bi23 := F23.binds (ps := ["value"]) fun _ _ _ _ _ _ us hl => match us, hl with | [_], _ => rfl
  have h24 := mg_of X G a24
  have F24 := fun_mk (st := sReached) l24 u24 k24
  have bi24 := F24.binds (ps := ["links", "state"]) fun _ _ _ _ _ _ us hl => match us, hl with | [_, _], _ => rfl
  have h25 := mg_of X G a25
  have F25 := fun_mk (st := sConn) l25 u25 k25
  have bi25 := F25.binds (ps := ["states", "transitions"]) fun _ _ _ _ _ _ us hl => match us, hl with | [_, _], _ => rfl
  have h26 := mg_of X G a26
  have F26 := fun_mk (st := sAll) l26 u26 k26
  have bi26 := F26.binds (ps := ["transitions", "states"]) fun _ _ _ _ _ _ us hl => match us, hl with | [_, _], _ => rfl
  have h27 := mg_of X G a27
  have F27 := fun_mk (st := sIsG) l27 u27 k27
  have bi27 := F27.binds (ps := ["counters", "transitions", "states"]) fun _ _ _ _ _ _ us hl => match us, hl with | [_, _, _], _ => rfl
  have F30 := fun_mk (st := sGCtrs) l30 u30 k30
  have bi30 := F30.binds (ps := ["self"]) fun _ _ _ _ _ _ us hl => match us, hl with | [_], _ => rfl
  have F31 := fun_mk (st := sGSts) l31 u31 k31
  have bi31 := F31.binds (ps := ["self"]) fun _ _ _ _ _ _ us hl => match us, hl with | [_], _ => rfl
  have F32 := fun_mk (st := sGNames) l32 u32 k32
  have bi32 := F32.binds (ps := ["self"]) fun _ _ _ _ _ _ us hl => match us, hl with | [_], _ => rfl
  have F33 := fun_mk (st := sGTrans) l33 u33 k33
  have bi33 := F33.binds (ps := ["self"]) fun _ _ _ _ _ _ us hl => match us, hl with | [_], _ => rfl
  have F34 := fun_mk (st := sGGet) l34 u34 k34
  have bi34 := F34.binds (ps := ["self", "at"]) fun _ _ _ _ _ _ us hl => match us, hl with | [_, _], _ => rfl
  have F35 := fun_mk (st := sGCon) l35 u35 k35
  have bi35 := F35.binds (ps := ["self", "x"]) fun _ _ _ _ _ _ us hl => match us, hl with | [_, _], _ => rfl
  have F36 := fun_mk (st := sGLen) l36 u36 k36
  have bi36 := F36.binds (ps := ["self"]) fun _ _ _ _ _ _ us hl => match us, hl with | [_], _ => rfl
  have F37 := fun_mk (st := sGBool) l37 u37 k37
  have bi37 := F37.binds (ps := ["self"]) fun _ _ _ _ _ _ us hl => match us, hl with | [_], _ => rfl
  have F38 := fun_mk (st := sGIter) l38 u38 k38
  have bi38 := F38.binds (ps := ["self"]) fun _ _ _ _ _ _ us hl => match us, hl with | [_], _ => rfl
  have F39 := fun_mk (st := sGEq) l39 u39 k39
  have bi39 := F39.binds (ps := ["self", "other"]) fun _ _ _ _ _ _ us hl => match us, hl with | [_, _], _ => rfl
  have F40 := fun_mk (st := sGStr) l40 u40 k40
  have bi40 := F40.binds (ps := ["self"]) fun _ _ _ _ _ _ us hl => match us, hl with | [_], _ => rfl
  have FO : FunD K "of" "Graph.of" (defArgs sGOf) (defBody sGOf) (defScope sGOf) [.ref e1] [] g29 (fnOf "of" "Graph.of" (defArgs sGOf) (defBody sGOf) (defScope sGOf) (.ref TD) kV29 dc29 pm29 an29 cd29 ct29) :=
    ⟨⟨_, _, _, _, _, _, _, _, _, _, rfl, l29, u29, .inr ⟨by simp, TD, _, [.ref e1], _, rfl, lT, rfl, .cons rfl .nil⟩, .inl rfl⟩, k29⟩
  obtain ⟨ds, vds, bO⟩ := FO.binds1 (ps := gOnames) 4 1 (by simp) rfl fun T kV doc pm an cdv ct us its hu hi => match us, its, hu, hi with | [_, _, _, _], [_], _, _ => ⟨_, by with_unfolding_all rfl, by with_unfolding_all rfl⟩
  cases (show Vals [] ds from vds)
  have he : ∀ H, SqT K H e0 [] := fun H => .inr ⟨_, #[], en0, le0, rfl, rfl, Nat.zero_le _, .nil⟩
  refine ⟨fnOf "law" "law" (defArgs sLaw6) (defBody sLaw6) (defScope sLaw6) .none kV15 dc15 pm15 an15 cd15 ct15, [(c1, P1)], ?_, ?_, ?_, fun s v => .of_eq rfl, ?_, fun base _ _ tb => ?_⟩
  · intro b hb
    simp only [List.map_cons, List.map_nil, List.mem_cons, List.not_mem_nil, or_false] at hb
    subst hb
    exact em1
  · intro b hb
    simp only [List.map_cons, List.map_nil, List.mem_cons, List.not_mem_nil, or_false] at hb
    subst hb
    exact t1
  · intro z hz
    exact codeHd_of_K X (tb9 z hz).1
  · intro H a ns _ _ ht hS
    exact ⟨a, ns, rfl, hS, ⟨_, ht (c1, P1) (by simp), True.intro⟩, fun _ => rfl⟩
  have T1 := gx_tab (tb (c1, P1) (by simp))
  have GNm := ok_isName (P := p) (w := w) (base := base) (mg := mg) F16 BP L1
  have GTn := ok_isToN (P := p) (w := w) (base := base) (mg := mg) F17 GNm k16 bi16 h16 BP
  have GIn := ok_isI (P := p) (w := w) (base := base) (mg := mg) F18 BP
  have GAm := ok_isAm (P := p) (w := w) (base := base) (mg := mg) F19 GIn k18 bi18 h18 L2'
  have GCC := ok_isCC (P := p) (w := w) (base := base) (mg := mg) F20 GNm k16 bi16 h16 GAm k19 bi19 h19 BP
  have GAs := ok_isAsc (P := p) (w := w) (base := base) (mg := mg) F21 BP
  have GCh := ok_isCh (P := p) (w := w) (base := base) (mg := mg) F22 GCC k20 bi20 h20 GAs k21 bi21 h21 BP
  have GTr := ok_isTr (P := p) (w := w) (base := base) (mg := mg) F23 GNm k16 bi16 h16 GCh k22 bi22 h22 BP
  have GRe := ok_reached (P := p) (w := w) (base := base) (mg := mg) F24
  have GCo := ok_conn (P := p) (w := w) (base := base) (mg := mg) F25 GRe k24 bi24 h24 BP
  have GAl := ok_all (P := p) (w := w) (base := base) (mg := mg) F26 (fr (by decide)) so
  have GIg := ok_isG (P := p) (w := w) (base := base) (mg := mg) F27 GTn k17 bi17 h17 GTr k23 bi23 h23 GAl k26 bi26 h26 GCo k25 bi25 h25 BP L3
  have GK := init_kw (P := p) (w := w) (base := base) (mg := mg) l28 u28 GAl k26 bi26 h26 GIg k27 bi27 h27 BP L3 T T1
  have MI : Mk K C g28 := ⟨w6, a28, fn (by simp), w7⟩
  have ROf := Qp.FnOk.toR0 (ok_gof (P := p) (w := w) (base := base) (mg := mg) FO MI GK BP) bO
  have CR : ClX.CRead K C (.type "type") := ⟨w8, w9⟩
  have CM : ClX.CMet K C (.type "type") "of" pO g29 := ⟨a29, ⟨rO, r29⟩, q7⟩
  have PR_counters : PropOf K C "counters" p_counters g30 := ⟨a30, (pr (by simp)).1, (pr (by simp)).2, r_counters, r30⟩
  have G_counters := ok_gctrs (P := p) (w := w) (base := base) (mg := mg) F30 T
  have PR_states : PropOf K C "states" p_states g31 := ⟨a31, (pr (by simp)).1, (pr (by simp)).2, r_states, r31⟩
  have G_states := ok_gsts (P := p) (w := w) (base := base) (mg := mg) F31 T
  have PR_names : PropOf K C "names" p_names g32 := ⟨a32, (pr (by simp)).1, (pr (by simp)).2, r_names, r32⟩
  have G_names := ok_gnames (P := p) (w := w) (base := base) (mg := mg) F32 T
  have PR_transitions : PropOf K C "transitions" p_transitions g33 := ⟨a33, (pr (by simp)).1, (pr (by simp)).2, r_transitions, r33⟩
  have G_transitions := ok_gtrans (P := p) (w := w) (base := base) (mg := mg) F33 T
  have RCon := Qp.FnOk.toR0 (ok_gcon (P := p) (w := w) (base := base) (mg := mg) F35 T BP (fr (by decide))) bi35
  have M__contains__ : OMeth K C "__contains__" g35 := ⟨a35, fn (by simp)⟩
  have RConV := Qp.FnOk.toR0 (ok_gconV (P := p) (w := w) (base := base) (mg := mg) F35 T BP (fr (by decide))) bi35
  have R__getitem__ := Qp.FnOk.toR0 (ok_gget (P := p) (w := w) (base := base) (mg := mg) F34 T M__contains__ RCon) bi34
  have M__getitem__ : OMeth K C "__getitem__" g34 := ⟨a34, fn (by simp)⟩
  have R__len__ := Qp.FnOk.toR0 (ok_glen (P := p) (w := w) (base := base) (mg := mg) F36 T BP) bi36
  have M__len__ : OMeth K C "__len__" g36 := ⟨a36, fn (by simp)⟩
  have R__bool__ := Qp.FnOk.toR0 (ok_gbool (P := p) (w := w) (base := base) (mg := mg) F37 T BP) bi37
  have M__bool__ : OMeth K C "__bool__" g37 := ⟨a37, fn (by simp)⟩
  have GIter := ok_giter (P := p) (w := w) (base := base) (mg := mg) F38 T (fr (by decide))
  have M__iter__ : OMeth K C "__iter__" g38 := ⟨a38, fn (by simp)⟩
  have R__str__ := Qp.FnOk.toR0 (ok_gstr (P := p) (w := w) (base := base) (mg := mg) F40 T BP) bi40
  have M__str__ : OMeth K C "__str__" g40 := ⟨a40, fn (by simp)⟩
  have M__eq__ : OMeth K C "__eq__" g39 := ⟨a39, fn (by simp)⟩
  have REqV := Qp.FnOk.toR0 (ok_geqV (P := p) (w := w) (base := base) (mg := mg) F39 T O BP) bi39
  have GD := ok_dice (P := p) (w := w) (base := base) (mg := mg) F0 B1
  have GR := ok_roll (P := p) (w := w) (base := base) (mg := mg) F1 B1
  have GO := ok_one (P := p) (w := w) (base := base) (mg := mg) F2 F1 bi1 h1 B1
  have GM := ok_mixed (P := p) (w := w) (base := base) (mg := mg) F3 GR k1 bi1 h1 B1 B2
  have GLc := ok_lchg (P := p) (w := w) (base := base) (mg := mg) F4 GO k2 bi2 h2 BP B2 so
  have GLk := ok_lkind (P := p) (w := w) (base := base) (mg := mg) F5 GO k2 bi2 h2 GR k1 bi1 h1 GLc k4 bi4 h4 BP so
  have GLw := ok_lwords (P := p) (w := w) (base := base) (mg := mg) F6 GM k3 bi3 h3
  have GLg := ok_lgraph (P := p) (w := w) (base := base) (mg := mg) (mc := 5) (mo := 5) (by decide) (by decide) (by decide) (by decide) F7 GO k2 bi2 h2 GR k1 bi1 h1 GM k3 bi3 h3 GLk k5 bi5 h5 GLw k6 bi6 h6 BP B2 so (fr (by decide))
  have GLb := ok_lbuiltM (P := p) (w := w) (base := base) (mg := mg) F8 T CR CM ROf
  have GLs := ok_lsome (P := p) (w := w) (base := base) (mg := mg) F9 GR k1 bi1 h1 GM k3 bi3 h3 BP
  have GLd := ok_ldrawn (P := p) (w := w) (base := base) (mg := mg) F10 GR k1 bi1 h1 GLg k7 bi7 h7
  have GLh := ok_lhand (P := p) (w := w) (base := base) (mg := mg) F11 T MI GK CR CM ROf BP
  have GLt := ok_ltold (P := p) (w := w) (base := base) (mg := mg) F12 T PR_counters G_counters bi30 PR_states G_states bi31 PR_names G_names bi32 PR_transitions G_transitions bi33 M__iter__ GIter bi38 M__getitem__ q8 R__getitem__ M__len__ R__len__ M__contains__ RConV M__bool__ R__bool__ M__str__ R__str__ BP B2 (fr (by decide)) (fr (by decide))
  have GLo := ok_lothers (P := p) (w := w) (base := base) (mg := mg) F13 BP (fr (by decide))
  have KK : KindsG K C := ⟨fun t ht => (KG t ht).1, fun t ht => (KG t ht).2⟩
  have GLr := ok_lright6 (P := p) (w := w) (base := base) (mg := mg) F14 T O KK GLd k10 bi10 h10 GLb k8 bi8 h8 GM k3 bi3 h3 GLs k9 bi9 h9 GLo k13 bi13 h13 GLh k11 bi11 h11 GLt k12 bi12 h12 PR_names G_names bi32 M__eq__ REqV o5 hne M__str__ R__str__ CR CM ROf BP B2
  exact ok_law6 F15 T MI GK PR_counters G_counters bi30 PR_states G_states bi31 PR_names G_names bi32 M__iter__ GIter bi38 M__len__ R__len__ M__bool__ R__bool__ M__str__ R__str__ GD k0 bi0 h0 GLr k14 bi14 h14 BP B2 (fr (by decide)) (fr (by decide))
end Qp

open PySem PySem.W PyProof.Rows
-- the head also looks at the tables of the code of methods with generator expressions: they stand empty
local macro_rules | `(tactic| o_head ($_ $k $a $e)) => `(tactic| o_head (kmHook $k $a $e [147]))
set_option maxRecDepth 100000 in
set_option maxHeartbeats 0 in
theorem PySem.Challenge.cw_loopgrowth_k06_graphs_made_holds : PySem.Challenge.rw_loopgrowth_k06_graphs_made.Holds := by
  w_on; o_law; k_head; (case hw => w_witness2)
  k_fill
  refine QN.row_goesT (l := PySem.Challenge.rw_loopgrowth_k06_graphs_made) (n := 63) (k := 12) (x := "_law_script") (sp := Qp.spLawT) rfl (by decide) rfl ⟨rfl, by decide, by decide⟩ (fun w h Y => PySem.W.km_in_of Y) ?F
  case F =>
    intro w mg mb fa h Y KX T hmg
    obtain ⟨lo, mean, T⟩ := T
    refine' Qp.all_mk T KX hmg ?nC ?nLe ?nMl ?nMc ?nCc ?nMs ?nMt ?a0 ?l0 ?u0 ?k0 ?a1 ?l1 ?u1 ?k1 ?a2 ?l2 ?u2 ?k2 ?a3 ?l3 ?u3 ?k3 ?a4 ?l4 ?u4 ?k4 ?a5 ?l5 ?u5 ?k5 ?a6 ?l6 ?u6 ?k6 ?a7 ?l7 ?u7 ?k7 ?a8 ?l8 ?u8 ?k8 ?a9 ?l9 ?u9 ?k9 ?a10 ?l10 ?u10 ?k10 ?a11 ?l11 ?u11 ?k11 ?a12 ?l12 ?u12 ?k12 ?a13 ?l13 ?u13 ?k13 ?a14 ?l14 ?u14 ?k14 ?a15 ?l15 ?u15 ?k15 ?a16 ?l16 ?u16 ?k16 ?a17 ?l17 ?u17 ?k17 ?a18 ?l18 ?u18 ?k18 ?a19 ?l19 ?u19 ?k19 ?a20 ?l20 ?u20 ?k20 ?a21 ?l21 ?u21 ?k21 ?a22 ?l22 ?u22 ?k22 ?a23 ?l23 ?u23 ?k23 ?a24 ?l24 ?u24 ?k24 ?a25 ?l25 ?u25 ?k25 ?a26 ?l26 ?u26 ?k26 ?a27 ?l27 ?u27 ?k27 ?a28 ?l28 ?u28 ?k28 ?a29 ?r29 ?l29 ?u29 ?k29 ?a30 ?r30 ?l30 ?u30 ?k30 ?a31 ?r31 ?l31 ?u31 ?k31 ?a32 ?r32 ?l32 ?u32 ?k32 ?a33 ?r33 ?l33 ?u33 ?k33 ?a34 ?l34 ?u34 ?k34 ?a35 ?l35 ?u35 ?k35 ?a36 ?l36 ?u36 ?k36 ?a37 ?l37 ?u37 ?k37 ?a38 ?l38 ?u38 ?k38 ?a39 ?l39 ?u39 ?k39 ?a40 ?l40 ?u40 ?k40 ?j1 ?i1 ?em1 ?nD ?le0 ?lT ?look
    (case nC => k_is)
    (case nLe => k_is)
    (case nMl => k_is)
    (case nMc => k_is)
    (case nCc => k_is)
    (case nMs => k_is)
    (case nMt => k_is)
    (case a0 => k_is)
    (case l0 => k_is)
    (case u0 => k_is)
    (case k0 => k_is)
    (case a1 => k_is)
    (case l1 => k_is)
    (case u1 => k_is)
    (case k1 => k_is)
    (case a2 => k_is)
    (case l2 => k_is)
    (case u2 => k_is)
    (case k2 => k_is)
    (case a3 => k_is)
    (case l3 => k_is)
    (case u3 => k_is)
    (case k3 => k_is)
    (case a4 => k_is)
    (case l4 => k_is)
    (case u4 => k_is)
    (case k4 => k_is)
    (case a5 => k_is)
    (case l5 => k_is)
    (case u5 => k_is)
    (case k5 => k_is)
    (case a6 => k_is)
    (case l6 => k_is)
    (case u6 => k_is)
    (case k6 => k_is)
    (case a7 => k_is)
    (case l7 => k_is)
    (case u7 => k_is)
    (case k7 => k_is)
    (case a8 => k_is)
    (case l8 => k_is)
    (case u8 => k_is)
    (case k8 => k_is)
    (case a9 => k_is)
    (case l9 => k_is)
    (case u9 => k_is)
    (case k9 => k_is)
    (case a10 => k_is)
    (case l10 => k_is)
    (case u10 => k_is)
    (case k10 => k_is)
    (case a11 => k_is)
    (case l11 => k_is)
    (case u11 => k_is)
    (case k11 => k_is)
    (case a12 => k_is)
    (case l12 => k_is)
    (case u12 => k_is)
    (case k12 => k_is)
    (case a13 => k_is)
    (case l13 => k_is)
    (case u13 => k_is)
    (case k13 => k_is)
    (case a14 => k_is)
    (case l14 => k_is)
    (case u14 => k_is)
    (case k14 => k_is)
    (case a15 => k_is)
    (case l15 => k_is)
    (case u15 => k_is)
    (case k15 => k_is)
    (case a16 => k_is)
    (case l16 => k_is)
    (case u16 => k_is)
    (case k16 => k_is)
    (case a17 => k_is)
    (case l17 => k_is)
    (case u17 => k_is)
    (case k17 => k_is)
    (case a18 => k_is)
    (case l18 => k_is)
    (case u18 => k_is)
    (case k18 => k_is)
    (case a19 => k_is)
    (case l19 => k_is)
    (case u19 => k_is)
    (case k19 => k_is)
    (case a20 => k_is)
    (case l20 => k_is)
    (case u20 => k_is)
    (case k20 => k_is)
    (case a21 => k_is)
    (case l21 => k_is)
    (case u21 => k_is)
    (case k21 => k_is)
    (case a22 => k_is)
    (case l22 => k_is)
    (case u22 => k_is)
    (case k22 => k_is)
    (case a23 => k_is)
    (case l23 => k_is)
    (case u23 => k_is)
    (case k23 => k_is)
    (case a24 => k_is)
    (case l24 => k_is)
    (case u24 => k_is)
    (case k24 => k_is)
    (case a25 => k_is)
    (case l25 => k_is)
    (case u25 => k_is)
    (case k25 => k_is)
    (case a26 => k_is)
    (case l26 => k_is)
    (case u26 => k_is)
    (case k26 => k_is)
    (case a27 => k_is)
    (case l27 => k_is)
    (case u27 => k_is)
    (case k27 => k_is)
    (case a28 => k_is)
    (case l28 => k_is)
    (case u28 => k_is)
    (case k28 => k_is)
    (case a29 => k_is)
    (case r29 => k_is)
    (case l29 => k_is)
    (case u29 => k_is)
    (case k29 => k_is)
    (case a30 => k_is)
    (case r30 => k_is)
    (case l30 => k_is)
    (case u30 => k_is)
    (case k30 => k_is)
    (case a31 => k_is)
    (case r31 => k_is)
    (case l31 => k_is)
    (case u31 => k_is)
    (case k31 => k_is)
    (case a32 => k_is)
    (case r32 => k_is)
    (case l32 => k_is)
    (case u32 => k_is)
    (case k32 => k_is)
    (case a33 => k_is)
    (case r33 => k_is)
    (case l33 => k_is)
    (case u33 => k_is)
    (case k33 => k_is)
    (case a34 => k_is)
    (case l34 => k_is)
    (case u34 => k_is)
    (case k34 => k_is)
    (case a35 => k_is)
    (case l35 => k_is)
    (case u35 => k_is)
    (case k35 => k_is)
    (case a36 => k_is)
    (case l36 => k_is)
    (case u36 => k_is)
    (case k36 => k_is)
    (case a37 => k_is)
    (case l37 => k_is)
    (case u37 => k_is)
    (case k37 => k_is)
    (case a38 => k_is)
    (case l38 => k_is)
    (case u38 => k_is)
    (case k38 => k_is)
    (case a39 => k_is)
    (case l39 => k_is)
    (case u39 => k_is)
    (case k39 => k_is)
    (case a40 => k_is)
    (case l40 => k_is)
    (case u40 => k_is)
    (case k40 => k_is)
    (case j1 => k_is)
    (case i1 => rfl)
    (case em1 => exact PySem.W.km_tabs_of Y _ (by decide))
    (case nD => k_is)
    (case le0 => k_is)
    (case lT => k_is)
    (case look => kernel_rfl)

