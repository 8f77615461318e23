import PyProof.Rows.All
import Wide.All
import OpenK.AllK
import Wide.FinOn
import HandS.ForMost
import PySem.Challenge.RW_loopgrowth_k58_errors_of_polynomials
import HandS.Lambda
import HandS.EndTab
import PyProof.ListMulRoad
import PyProof.FactsAll.tuple_2
import HandS.TupMul
import HandS.TupAny
import HandS.Style
import KE.KRevSl
import HandS.Star
import HandS.CallLocal
import KE.DataCmp
import KE.SortData
import HandS.Deep
import HandS.Wide
import HandS.IsInst
import HandS.WordsExc
import HandS.ExcOwn
import HandS.ClsMeth
import HandS.Property
import HandS.MethStar
import KE.IntBitsLaws
import HandS.WideBits
import OpenK.KOps
import OpenK.KMeth
import KE.KOpsOwn
import KE.KCallOwn
import HandS.Records
import HandS.Small
import KE.KOwnIter
import HandS.IterVal
import HandS.RaiseMore
import HandS.Walk
import KE.GoesMore
import HandS.Iter
import HandS.Exc
import HandS.TryMany
import PyProof.InstNe
import HandS.More
import KE.KExcSuper
import KE.KExcIs
import HandS.Base
import HandS.Call
import HandS.List
import HandS.ExcValue
import HandS.ExcInit
import HandS.ExcField
import HandS.Dict
import KE.RegKSuper
set_option Elab.async false
set_option linter.all false
set_option maxRecDepth 100000
set_option maxHeartbeats 4000000
namespace Qp
open PySem PySem.Spec PyProof.Rows L2
def top (i : Nat) : Stmt := PySem.Challenge.pw_loopgrowth_k58_errors_of_polynomials.main.body.getD i (.Pass ⟨0, 0, 0, 0⟩)
abbrev sDice : Stmt := top 30 -- _law_dice
abbrev sRoll : Stmt := top 31 -- _law_roll
abbrev sOne : Stmt := top 32 -- _law_one_of
theorem scDice : FnScope ["_law_script", "_law_at", "_law_cell", "_law_great", "_law_mixed"] ["_law_script", "_law_at"] (defScope sDice) := ⟨rfl, rfl, rfl, by decide +kernel, rfl, by decide +kernel, by decide +kernel⟩
theorem scRoll : FnScope ["_law_dice_here", "_law_total", "_law_found", "_law_one", "_law_two"] ["_law_dice_here", "_law_total"] (defScope sRoll) := ⟨rfl, rfl, rfl, by decide +kernel, rfl, by decide +kernel, by decide +kernel⟩
theorem scOne : FnScope ["_law_dice_here", "_law_items"] ["_law_dice_here", "_law_items"] (defScope sOne) := ⟨rfl, rfl, rfl, by decide +kernel, rfl, by decide +kernel, by decide +kernel⟩
/-- the three numbers of a drawing hand -/
def hand (x y z : Int) : List V := [.int x, .int y, .int z]
/-- three numbers lie at p -/
def HandAt (H : Hp) (p : Addr) : Prop := ∃ x y z : Int, H p = some (.lst (hand x y z))
/-- what the built-in names still mean -/
structure Blt (mg : Str → Option Value) : Prop where
  len : mg "len" = none
  int : mg "int" = none
  abs : mg "abs" = none
  max : mg "max" = none
/-- all but p as it was -/
def But (p : Addr) (H H' : Hp) : Prop := ∀ b o, b ≠ p → H b = some o → H' b = some o
theorem but_upd {p : Addr} {H : Hp} {o : HO} : But p H (upd H p o) := fun b u n e => by
  rw [upd_ne n]
  exact e
def spRoll : Sp := fun vs H Q _ => ∃ (p : Addr) (x y z t : Int), vs = [.ref p, .int t] ∧ H p = some (.lst (hand x y z)) ∧ 0 < t ∧ t < 1073741824 ∧
  ∀ (r x' y' z' : Int) (H' : Hp), 0 ≤ r → r < t → H' p = some (.lst (hand x' y' z')) → But p H H' → Q (.int r) H'
def spOne : Sp := fun vs H Q _ => ∃ (p q : Addr) (x y z : Int) (its : List V), vs = [.ref p, .ref q] ∧ H p = some (.lst (hand x y z)) ∧ H q = some (.lst its) ∧ q ≠ p ∧ 0 < its.length ∧ its.length < 1073741824 ∧
  ∀ (v : V) (x' y' z' : Int) (H' : Hp), v ∈ its → H' p = some (.lst (hand x' y' z')) → But p H H' → Q v H'
def spDice (K : PySem.W.Frag) : Sp := fun vs H Q _ => ∃ (a : Addr) (ns : List Int) (j : Nat), vs = [.ref a, .int (j : Int)] ∧ SqL K H a (ns.map V.int) ∧
  ∀ (p : Addr) (x y z : Int), H p = none → Q (.ref p) (upd H p (.lst (hand x y z)))
section
variable {P : Program} {w : World} {K : PySem.W.Frag} {mg : Str → Option Value} {base : Heap}
theorem ix3 {K : PySem.W.Frag} {H : Hp} {p : Addr} {x y z : Int} (h : H p = some (.lst (hand x y z))) : SqL K H p (hand x y z) := .inl (.inl h)
theorem ok_roll {f : Addr} {fd : FuncData} (F : Fun K "_law_roll" "_law_roll" sRoll f fd) (B : Blt mg) : FnOk P w K mg base CX0 1 f fd ["_law_dice_here", "_law_total"] spRoll := by
  refine F.ok scRoll (fun vs H Q E h => ?_) (fun cdv A outer s H vs Q E hr h => ?_)
  · obtain ⟨p, x, y, z, t, rfl, _⟩ := h
    rfl
  · obtain ⟨p, x, y, z, t, rfl, hp, ht, ht2, k⟩ := h
    refine ⟨_, pss_cons (ps_if (pt_cmpR op_gt (pe_ix ix_list (pv 0) pe_int (fun _ _ => rfl)) pe_int (nomark _))
        (pss_cons (ps_set (i := 2) scRoll.nd rfl (.inl rfl) (pe_op op_mod (pe_callTy call_int1 (by rfl) B.int (by decide +kernel) (pa_cons (pe_ix ix_list (pv 0) pe_int (fun _ _ => rfl)) pa_nil)) (pv 1)))
        (pss_cons (ps_asg (pe_op op_fdiv (pe_ix ix_list (pv 0) pe_int (fun _ _ => rfl)) (pv 1)) (pg_sub (pv 0) pe_int set_list))
        (pss_one (ps_ret (pv 2))))) pss_nil)
      (pss_cons (ps_asg (pe_op op_add (pe_ix ix_list (pv 0) pe_int (fun _ _ => rfl)) pe_int) (pg_sub (pv 0) pe_int set_list))
      (pss_cons (ps_set (i := 3) scRoll.nd rfl (.inl rfl) (pe_op op_mod (pe_callTy call_int1 (by rfl) B.int (by decide +kernel) (pa_cons (pe_op op_add (pe_ix ix_list (pv 0) pe_int (fun _ _ => rfl)) (pe_op op_mul pe_int (pe_ix ix_list (pv 0) pe_int (fun _ _ => rfl)))) pa_nil)) pe_int))
      (pss_cons (ps_set (i := 4) scRoll.nd rfl (.inl rfl) (pe_op op_add (pe_op op_mul (pe_op op_mod (pe_callTy call_int1 (by rfl) B.int (by decide +kernel) (pa_cons (pe_op op_mul (pv 3) (pv 3)) pa_nil)) pe_int) (pv 3)) (pe_op op_mul pe_int (pe_ix ix_list (pv 0) pe_int (fun _ _ => rfl)))))
      (pss_cons (ps_set (i := 4) scRoll.nd rfl (.inl rfl) (pe_op op_mod (pe_callTy call_int1 (by rfl) B.int (by decide +kernel) (pa_cons (pv 4) pa_nil)) pe_int))
      (pss_one (ps_ret (pe_op op_mod (pe_callTy call_int1 (by rfl) B.int (by decide +kernel) (pa_cons (pe_op op_fdiv (pv 4) pe_int) pa_nil)) (pv 1)))))))), ?_⟩
    -- if hand[0] > 0
    refine ⟨_, rfl, p, hand x y z, 0, .int x, rfl, rfl, ix3 hp, rfl, x, 0, rfl, rfl, _, rfl, ite2 (fun c => ?_) (fun c => ?_)⟩
    · -- found = int(hand[0]) % total
      refine ⟨_, rfl, p, hand x y z, 0, .int x, rfl, rfl, ix3 hp, rfl, .inl ⟨x, rfl, .int t, rfl, x, t, rfl, rfl, ht, ?_⟩⟩
      -- hand[0] = hand[0] // total
      refine ⟨_, rfl, p, hand x y z, 0, .int x, rfl, rfl, ix3 hp, rfl, .int t, rfl, x, t, rfl, rfl, ⟨ht, ht2⟩, _, rfl, p, hand x y z, 0, 0, rfl, rfl, hp, rfl, ?_⟩
      exact ⟨_, rfl, k (x % t) (x / t) y z _ (Int.emod_nonneg _ (by omega)) (Int.emod_lt_of_pos _ ht) upd_same but_upd⟩
    · -- hand[2] = hand[2] + 1
      refine ⟨_, rfl, p, hand x y z, 2, .int z, rfl, rfl, ix3 hp, rfl, z, 1, rfl, rfl, _, rfl, p, hand x y z, 2, 2, rfl, rfl, hp, rfl, ?_⟩
      have hp2 : (upd H p (.lst (hand x y (z + 1)))) p = some (.lst (hand x y (z + 1))) := upd_same
      -- one = ..
      refine ⟨_, rfl, p, hand x y (z + 1), 1, .int y, rfl, rfl, ix3 hp2, rfl, _, rfl, p, hand x y (z + 1), 2, .int (z + 1), rfl, rfl, ix3 hp2, rfl, _, _, rfl, rfl, .inl ⟨by decide, by decide⟩, _, _, rfl, rfl, .inl ⟨_, rfl, _, _, rfl, rfl, (by show (0 : Int) < 2305843009213693951; decide), ?_⟩⟩
      have hb : ∀ g : Int, -(2 ^ 64) < g % 2305843009213693951 ∧ g % 2305843009213693951 < 2 ^ 64 := fun g => ⟨by omega, by omega⟩
      -- two = ..
      refine ⟨_, rfl, _, rfl, _, _, rfl, rfl, .inl (hb _), .inl ⟨_, rfl, _, _, rfl, rfl, (by show (0 : Int) < 2305843009213693921; decide), _, rfl, _, _, rfl, rfl, .inr (hb _), ?_⟩⟩
      refine ⟨_, rfl, p, hand x y (z + 1), 2, .int (z + 1), rfl, rfl, ix3 hp2, rfl, _, _, rfl, rfl, .inl ⟨by decide, by decide⟩, _, _, rfl, rfl, ?_⟩
      -- two = int(two) % ..
      refine ⟨_, rfl, .inl ⟨_, rfl, _, _, rfl, rfl, (by show (0 : Int) < 2305843009213693907; decide), ?_⟩⟩
      -- return int(two // 8192) % total
      refine ⟨_, rfl, _, _, rfl, rfl, ⟨by decide, by decide⟩, .inl ⟨_, rfl, .int t, rfl, _, t, rfl, rfl, ht, ?_⟩⟩
      exact k _ x y (z + 1) _ (Int.emod_nonneg _ (by omega)) (Int.emod_lt_of_pos _ ht) upd_same but_upd
theorem op_powX {X : Cx} : OpR X (binaryOp .Pow) (rI (fun i j => 0 ≤ j ∧ (Builtin.Int.intBits i : Int) * j ≤ 2 ^ 27) fun i j => .int (i ^ j.toNat)) := opI fun _ _ _ _ _ _ _ hc q => pow_int hc.1 hc.2 q
theorem ok_dice {f : Addr} {fd : FuncData} (F : Fun K "_law_dice" "_law_dice" sDice f fd) (B : Blt mg) : FnOk P w K mg base CX0 1 f fd ["_law_script", "_law_at"] (spDice K) := by
  refine F.ok scDice (fun vs H Q E h => ?_) (fun cdv A outer s H vs Q E hr h => ?_)
  · obtain ⟨a, ns, j, rfl, _⟩ := h
    rfl
  · obtain ⟨a, ns, j, rfl, hS, k⟩ := h
    refine ⟨_, pss_cons (ps_set (i := 2) scDice.nd rfl (.inl rfl) (pe_op op_add (pe_op op_mul pe_int (pv 1)) pe_int))
      (pss_cons (ps_if (pt_cmpR op_lt (pv 1) (pe_callB call_len_seq (by rfl) B.len PySem.boot_len (pa_cons (pv 0) pa_nil)) (nomark _))
        (pss_one (ps_set (i := 2) scDice.nd rfl (.inl rfl) (pe_ix ix_list (pv 0) (pv 1) (fun _ _ => rfl)))) pss_nil)
      (pss_cons (ps_set (i := 3) scDice.nd rfl (.inl rfl) (pe_op op_mod (pe_callTy call_int1 (by rfl) B.int (by decide +kernel) (pa_cons (pe_callB call_abs (by rfl) B.abs (by decide +kernel) (pa_cons (pv 2) pa_nil)) pa_nil)) (pe_op op_powX (pe_op op_pow pe_int pe_int) pe_int)))
      (pss_cons (ps_set (i := 4) scDice.nd rfl (.inl rfl) (pe_op op_add (pe_op op_add (pe_op op_add (pe_op op_mul (pe_op op_mod (pe_callTy call_int1 (by rfl) B.int (by decide +kernel) (pa_cons (pv 3) pa_nil)) pe_int) pe_int) (pe_op op_mul pe_int (pv 1)))
          (pe_op op_mul pe_int (pe_callTy call_int1 (by rfl) B.int (by decide +kernel) (pa_cons (pe_cmpR op_lt (pv 2) pe_int (nomark _)) pa_nil)))) pe_int))
      (pss_one (ps_ret (pe_lst (pa_cons (pe_callB (call_max2 rfl) (by rfl) B.max (by decide +kernel) (pa_cons pe_int (pa_cons (pe_op op_sub (pv 3) (pe_op op_pow pe_int pe_int)) pa_nil)))
        (pa_cons (pe_op op_mod (pe_callTy call_int1 (by rfl) B.int (by decide +kernel) (pa_cons (pv 4) pa_nil)) pe_int) (pa_cons pe_int pa_nil))))))))), ?_⟩
    -- cell = 23 * at + 5
    refine ⟨_, rfl, _, _, rfl, rfl, .inl ⟨by decide, by decide⟩, _, _, rfl, rfl, ?_⟩
    -- if at < len(script)
    refine ⟨_, rfl, .ref a, rfl, a, _, rfl, .inl hS, _, _, rfl, rfl, _, rfl, ite2 (fun e => ?inside) (fun _ => ?beyond)⟩
    case' inside =>
      have hj : j < ns.length := by
        have e2 := of_decide_eq_true e
        rw [List.length_map] at e2
        omega
      have hx : (ns.map V.int)[j]? = some (.int ns[j]) := by
        rw [List.getElem?_map, List.getElem?_eq_getElem hj]
        rfl
      refine ⟨_, rfl, _, rfl, a, _, _, _, rfl, rfl, hS, atI_nat hx, ?_⟩
    all_goals
      -- great
      refine ⟨_, rfl, _, rfl, .inl ⟨_, rfl, _, _, rfl, rfl, ⟨by decide, by decide, by decide⟩, _, _, rfl, rfl, ⟨by decide, by decide +kernel⟩, _, _, rfl, rfl, Int.pow_pos (Int.pow_pos (by decide)), ?_⟩⟩
      -- mixed
      refine ⟨_, rfl, .inl ⟨_, rfl, _, _, rfl, rfl, (by show (0 : Int) < 2147483587; decide), _, _, rfl, rfl, .inr ⟨by decide, by decide⟩, _, rfl, _, _, rfl, rfl, .inl ⟨by decide, by decide⟩, _, _, rfl, rfl, ?_⟩⟩
      refine ⟨_, rfl, _, _, rfl, rfl, .inr ⟨_, rfl, _, _, rfl, rfl, .inl ⟨by decide, by decide⟩, _, _, rfl, rfl, _, _, rfl, rfl, ?_⟩⟩
      -- the three numbers
      refine ⟨_, rfl, _, _, rfl, rfl, ⟨by decide, by decide, by decide⟩, _, _, rfl, rfl, _, _, rfl, ?_⟩
      refine ⟨_, rfl, .inl ⟨_, rfl, _, _, rfl, rfl, (by show (0 : Int) < 2147483563; decide), (by show 3 ≤ sizeLine; decide), fun p hp => ?_⟩⟩
      exact k p _ _ _ hp
theorem ok_one {f fR : Addr} {fd fdR : FuncData} (F : Fun K "_law_one_of" "_law_one_of" sOne f fd) (FR : Fun K "_law_roll" "_law_roll" sRoll fR fdR) (bR : Binds K fdR ["_law_dice_here", "_law_total"] []) (gR : mg "_law_roll" = some (.ref fR)) (B : Blt mg) :
    FnOk P w K mg base CX0 2 f fd ["_law_dice_here", "_law_items"] spOne := by
  have GR : FnOk P w K mg base CX0 1 fR fdR ["_law_dice_here", "_law_total"] spRoll := ok_roll FR B
  refine F.ok scOne (fun vs H Q E h => ?_) (fun cdv A outer s H vs Q E hr h => ?_)
  · obtain ⟨p, q, x, y, z, its, rfl, _⟩ := h
    rfl
  · obtain ⟨p, q, x, y, z, its, rfl, hp, hq, nqp, hl, hl2, k⟩ := h
    refine ⟨_, pss_one (ps_ret (pe_ix ix_list (pv 1) (pe_call GR hr (by rfl) gR FR.kp bR .nil pass0 (pa_cons (pv 0) (pa_cons (pe_callB call_len_seq (by rfl) B.len PySem.boot_len (pa_cons (pv 1) pa_nil)) pa_nil))) (fun _ _ => rfl))), ?_⟩
    refine ⟨.ref q, rfl, .ref p, rfl, .ref q, rfl, q, its, rfl, .inl (.inl (.inl hq)), p, x, y, z, _, rfl, hp, by omega, by omega, fun r x' y' z' H' h0 h1 hp' bt => ?_⟩
    obtain ⟨j, rfl⟩ := Int.eq_ofNat_of_zero_le h0
    have hj : j < its.length := by omega
    refine ⟨q, its, _, its[j], rfl, rfl, .inl (.inl (bt q _ nqp hq)), atI_nat (List.getElem?_eq_getElem hj), ?_⟩
    exact k _ x' y' z' H' (List.getElem_mem hj) hp' bt
end
end Qp

/-! Defs of which is known that no repr is under way when they are called; the end of a law whose defs hold lambdas and say repr -/
namespace QN
open PySem PySem.Spec PyProof.Rows L2
def NoRepr (A : Around) : Prop := A.guards = some []
theorem noRepr_deeper {A : Around} {e : Env} (h : NoRepr A) : NoRepr (A.deeper e) := by
  unfold NoRepr at h ⊢
  first
    | exact h
    | (show pushGuards _ A.guards = some []; rw [h]; rfl)
/-- the promise of a def at f, where no repr is under way -/
structure FnG (P : Program) (w : World) (K : PySem.W.Frag) (mg : Str → Option Value) (base : Heap) (k : Nat) (f : Addr) (fd : FuncData) (ps : List Str) (sp : Sp) : Prop where
  len : ∀ vs H Q E, sp vs H Q E → vs.length = ps.length
  go : ∀ (A : Around) (outer : List Env) (s : Shared) (H : Hp) (args : Args) (us : List Value) (vs : List V) (Q : VK) (E : XK), Room k A → NoRepr A → Env0 P w K mg base A outer s H → BindsTo s fd args (ps.zip us) → Vals vs us → sp vs H Q E →
    codeAny (model P w) A (.call (.ref f) args) (CR L2.CX0 outer P w H s Q E) s
/-- the def's body, its code object told: `told` is what the body's promise leans on -/
theorem Fun_okC {P : Program} {w : World} {K : PySem.W.Frag} {mg : Str → Option Value} {base : Heap} {x qual : Str} {st : Stmt} {f : Addr} {fd : FuncData} {N ps : List Str} {k : Nat} {sp : Sp}
    (F : Fun K x qual st f fd) (S : FnScope N ps (defScope st)) (len : ∀ vs H Q E, sp vs H Q E → vs.length = ps.length)
    (body : ∀ (cdv : Value) (A : Around) (outer : List Env) (s : Shared) (H : Hp) (vs : List V) (Q : VK) (E : XK), fd.code = cdv → Room k (A.deeper (envOfC qual (defScope st) s.heap.objs.size f cdv)) → NoRepr A → sp vs H Q E →
      ∃ t, PSs (cxOf L2.CX0 P w K mg base N qual (defScope st) f cdv A outer s H E).nox (defBody st) t ∧ t { nx := fun _ H' => Q .non H', rt := Q } (start N vs) H) :
    FnG P w K mg base (k + 1) f fd ps sp := by
  obtain ⟨oc, od, kV, doc, pm, an, cdv, ct, osl, rfl, lk, hcd⟩ := F.ex
  refine ⟨len, fun A outer s H args us vs Q E room hng env0 hbind rv hsp => ?_⟩
  have nvs := len _ _ _ _ hsp
  have inK : K.In s.heap := env0.mod.kin.keeps fun b o e => (env0.bs b o e).1
  have nolim : s.heap.NoLimit := env0.mod.nolimit.keeps fun b o e => (env0.bs b o e).1
  have kinds : ∀ y ∈ ps.zip us, (defScope st).names.lookup y.1 = some .local ∨ ((defScope st).names.lookup y.1 = some .cell ∧ ((cellsFrom (s.heap.objs.size + 1) (defScope st).names []).lookup y.1).isSome = true) := fun ⟨n, v⟩ hy => by
    rcases S.par n (List.of_mem_zip hy).1 with c | c
    · exact Or.inl c
    · exact Or.inr ⟨c, PySem.W.cellsFrom_some _ _ _ (Or.inl c)⟩
  refine codeAny_call_function room.depth (inK _ _ lk) rfl S.co S.gen rfl (PySem.W.codeRec_of inK hcd) (hbind _ _ _ _ ?_)
  refine wpAny_newFunctionEnv_cells S.kind kinds fun env he s1 entered => ?_
  subst he
  refine ⟨nolim.keeps entered.toInCall.keep, codeAny_func ?_⟩
  obtain ⟨t, ht, hq⟩ := body cdv A outer s H vs Q E rfl (room.deeper _) hng hsp
  have I0 := inv_start (CX := L2.CX0) (E := E) S room.hd env0 nvs rv entered
  refine wpAny_mono (ht.nox.run [] s1 (start N vs) H _ I0 hq) (fun fl s' hs => ?_) fun e s' hs => hs
  have close : ∀ {σ' : L2.St} {H' : Hp} {v : V} {u : Value}, Inv (cxOf L2.CX0 P w K mg base N qual (defScope st) f cdv A outer s H E) [] σ' H' s' → RelV v u → Q v H' → CE outer P w H s Q u s' :=
    fun {σ' H' v u} J r q => ⟨v, H', J.os, J.bare, J.base, J.hok, r, q⟩
  cases fl with
  | ret u =>
    obtain ⟨v, σ', H', J, r, q⟩ := hs
    exact close J r q
  | next =>
    obtain ⟨σ', H', J, q⟩ := hs
    exact close (v := V.non) (u := Value.none) J rfl q
  | brk => exact False.elim hs.choose_spec.choose_spec.2
  | cont => exact False.elim hs.choose_spec.choose_spec.2
/-- a promise that asks less is one where no repr is under way -/
theorem FnG.of {P : Program} {w : World} {K : PySem.W.Frag} {mg : Str → Option Value} {base : Heap} {k : Nat} {f : Addr} {fd : FuncData} {ps : List Str} {sp : Sp} (F : FnOk P w K mg base L2.CX0 k f fd ps sp) : FnG P w K mg base k f fd ps sp :=
  ⟨F.len, fun A outer s H args us vs Q E room _ env0 hbind rv hsp => F.run A outer s H args us vs Q E room env0 hbind rv hsp⟩
section
variable {X : Cx} {k : Nat} {f : Addr} {fd : FuncData} {ps : List Str} {sp : Sp} {x : Str} {p pos : Pos} {e : Expr} {es : List Expr} {t : TA}
/-- f(e, ..) of such a def -/
theorem pe_callG (F : FnG X.prog X.w X.K X.mg X.base k f fd ps sp) (hng : NoRepr X.A) (hr : Room k X.A) (hg : Gl X x) (hm : X.mg x = some (.ref f)) (hk : PySem.W.keepIn X.K (.ref f) = true) (hb : L2.Binds X.K fd ps []) (ha : PA X (e :: es) t)
    (hdb : (x == ("__debug__" : Str)) = false := by decide) (he : starEach (e :: es) X.env = (false, eval e X.env) :: starEach es X.env := by rfl) (hpl : (backTo pos (starEach es X.env)).any (·.1) = false := by rfl) :
    PE X (.Call (.Name x p) (e :: es) [] pos) (tCall sp [] L2.E0 t) := by
  refine ⟨fun pins s σ H Q I h => wpAny_Call_Name_kw (ld_glob I hg hm ?_ hdb)⟩
  refine PySem.W.callWith_K (h₀ := X.base) I.ok.mod.kin hk (thn (ha.run pos pins s σ H _ I h) fun us s1 ⟨vs, H1, J, rv, q⟩ => ⟨J.kIn, ?_⟩) he hpl
  have q' : sp vs H1 Q L2.E0 := by
    have z : sp (vs ++ []) H1 Q L2.E0 := q
    rw [List.append_nil] at z
    exact z
  have n1 : us.length = ps.length := by
    rw [← rv.length]
    exact F.len _ _ _ _ q'
  have bind := hb s1 us J.kIn (by rw [List.append_nil]; exact n1)
  rw [List.append_nil] at bind
  refine wpAny_call (codeAny_mono (F.go X.A X.stack s1 H1 ⟨us, []⟩ us vs Q L2.E0 hr hng J.env0 bind rv q') fun r s' hq => ?_)
  cases r with
  | error e => exact hq.elim
  | ok fl =>
    cases fl with
    | ret u => exact J.after hq
    | next => exact hq.elim
    | brk => exact hq.elim
    | cont => exact hq.elim
end
/-- an object of the tables' kind, still empty -/
abbrev emptyTab : Obj := { cls := .none, data := .fields #[] }
/-- what H tracks, hidden, is a base for the law's def: H tracks the script's list at a and the empty tables alone -/
structure Few (s : Shared) (H : Hp) (a : Addr) (items : List Value) (cs : List (Addr × Addr)) (K : PySem.W.Frag) : Prop where
  la : s.heap.get? a = some { cls := .type "list", data := .seq items.toArray }
  ta : ∀ b ∈ cs.map (·.2), s.heap.get? b = some emptyTab
  only : ∀ b, H b ≠ none → b = a ∨ b ∈ cs.map (·.2)
  hk : H a ≠ none → K.lookup a = none
  tk : ∀ b ∈ cs.map (·.2), K.lookup b = none
theorem Few.un {s : Shared} {H : Hp} {a : Addr} {items : List Value} {cs : List (Addr × Addr)} {K : PySem.W.Frag} (W : Few s H a items cs K) {b : Addr} {o : Obj} (e : s.heap.get? b = some o) (h1 : ∀ xs n, o.data ≠ .seq xs n) (h2 : o.data ≠ .fields #[]) : H b = none := by
  cases c : H b with
  | none => rfl
  | some u =>
    rcases W.only b (by rw [c]; simp) with z | z
    · subst z
      have y := W.la
      rw [e] at y
      cases y
      exact absurd rfl (h1 _ _)
    · have y := W.ta b z
      rw [e] at y
      cases y
      exact absurd rfl h2
theorem Few.mod {mg mb : Str → Option Value} {s : Shared} {H : Hp} {a : Addr} {items : List Value} {cs : List (Addr × Addr)} {K : PySem.W.Frag} (W : Few s H a items cs K) (inK : K.In s.heap) (gl : s.heap.Ns mainGlobals mg) (bl : s.heap.Ns builtinsNs mb)
    (boot : ∀ x : Str, x ≠ "__name__" → mb x = bootBuiltins x) (lim : s.heap.NoLimit) : Mod K mg (hidT s.heap H) := by
  have stays : ∀ {b : Addr} {m : Str → Option Value}, s.heap.Ns b m → (hidT s.heap H).Ns b m := fun {b m} ⟨o, es, n, e, d, r⟩ =>
    ⟨o, es, n, hidT_get e (W.un e (fun xs k z => by rw [d] at z; cases z) fun z => by rw [d] at z; cases z), d, r⟩
  refine ⟨fun b o e => hidT_get (inK b o e) ?_, stays gl, ⟨mb, stays bl, boot⟩, ?_⟩
  · cases c : H b with
    | none => rfl
    | some u =>
      rcases W.only b (by rw [c]; simp) with z | z
      · subst z
        rw [W.hk (by rw [c]; simp)] at e
        cases e
      · rw [W.tk b z] at e
        cases e
  · obtain ⟨mc, y1, y2⟩ := lim
    exact ⟨mc, stays y1, y2⟩
/-- the module of the built-in names stands -/
def BMod (mg : Str → Option Value) (h : Heap) : Prop := ∃ (bm : Addr) (ob : Obj), mg "__builtins__" = some (.ref bm) ∧ bm ≠ builtinsNs ∧ h.get? bm = some ob ∧ ob.cls = .type "module" ∧ ob.dict = some builtinsNs ∧ ob.data = .plain
theorem Few.tabs {mg : Str → Option Value} {s : Shared} {H : Hp} {a : Addr} {items : List Value} {cs : List (Addr × Addr)} {K : PySem.W.Frag} (W : Few s H a items cs K) (gl : s.heap.Ns mainGlobals mg) (bm : BMod mg s.heap) {p : Addr × Addr} (hp : p ∈ cs) (hc : PySem.W.CodeHd s.heap p.1 p.2) :
    LamX.TabB (hidT s.heap H) mg p.1 p.2 := by
  have hp2 : p.2 ∈ cs.map (·.2) := List.mem_map.mpr ⟨p, hp, rfl⟩
  have tp := W.ta _ hp2
  obtain ⟨og, eg, ng, ge, gd, _⟩ := gl
  refine ⟨?_, ?_, fun z => ?_⟩
  · obtain ⟨o, us, file, tf, flags, tg, inF, text, tt, e1, r1, r2, r3, r4, r5, r6, r7, r8, r9⟩ := hc
    refine ⟨o, us, file, tf, flags, tg, inF, text, tt, hidT_get e1 (W.un e1 (fun xs n z => by rw [r2] at z; cases z) fun z => ?_), r1, r2, r3, r4, r5, r6, r7, r8, r9⟩
    rw [r2] at z
    cases z
    simp at r3
  · obtain ⟨m, ob, m1, m2, m3, m4, m5, m6⟩ := bm
    refine ⟨m, ob, m1, m2, fun q => ?_, fun q => ?_, hidT_get m3 (W.un m3 (fun xs n z => by rw [m6] at z; cases z) fun z => by rw [m6] at z; cases z), m4, m5, m6⟩
    · rw [q, ge] at m3
      cases m3
      rw [gd] at m6
      cases m6
    · rw [q, tp] at m3
      cases m3
      cases m6
  · rw [z, tp] at ge
    cases ge
    cases gd
/-- the law's call, from its promise, where defs hold lambdas: cs, their code objects and the tables -/
theorem law_goesT {P : Program} {w : World} {K : PySem.W.Frag} {mg mb : Str → Option Value} {k : Nat} {fa a : Addr} {cs : List (Addr × Addr)} {fd : FuncData} {x : Str} {sp : Sp} {s : Shared} {items : List Value} {ns : List Int}
    (inK : K.In s.heap) (gl : s.heap.Ns mainGlobals mg) (bl : s.heap.Ns builtinsNs mb) (boot : ∀ x : Str, x ≠ "__name__" → mb x = bootBuiltins x) (lim : s.heap.NoLimit) (gens : s.gens = #[]) (bm : BMod mg s.heap)
    (ta : ∀ b ∈ cs.map (·.2), s.heap.get? b = some emptyTab) (tk : ∀ b ∈ cs.map (·.2), K.lookup b = none) (hc : ∀ p ∈ cs, PySem.W.CodeHd s.heap p.1 p.2)
    (la : s.heap.get? a = some { cls := .type "list", data := .seq items.toArray }) (intv : IntsAre items ns) (hl : ns.length ≤ sizeLine) (hr : Room k callerA)
    (F : ∀ base : Heap, K.In base → base.Ns mainGlobals mg → (∀ p ∈ cs, LamX.TabB base mg p.1 p.2) → FnG P w K mg base k fa fd [x] sp) (bind : ∀ (s : Shared) (u : Value), BindsTo s fd ⟨[u], []⟩ [(x, u)])
    (hsp : ∀ H : Hp, (∀ p ∈ cs, H p.2 = some (.tbl #[])) → SqL K H a (ns.map V.int) → sp [.ref a] H (fun v _ => v = .bl true) fun _ _ _ => False) :
    codeAny (model P w) callerA (.call (.ref fa) ⟨[.ref a], []⟩) (fun r s' => r = .ok (.ret (.bool true)) ∧ OldK s.heap s'.heap ∧ s'.os = s.os ∧ AllBare s'.gens) s := by
  have vals := vals_ints intv
  have same := intv.length
  have nota : a ∉ cs.map (·.2) := fun z => by
    have y := ta a z
    rw [la] at y
    cases y
  have go : ∀ H : Hp, Few s H a items cs K → (∀ b ∈ cs.map (·.2), H b = some (.tbl #[])) → (H a = none ∨ ∃ o xs, H a = some (.frz o (.lst xs))) → SqL K H a (ns.map V.int) → HOk P w H s.heap →
      codeAny (model P w) callerA (.call (.ref fa) ⟨[.ref a], []⟩) (fun r s' => r = .ok (.ret (.bool true)) ∧ OldK s.heap s'.heap ∧ s'.os = s.os ∧ AllBare s'.gens) s := by
    intro H W hT hA hS ok
    have mod := W.mod inK gl bl boot lim
    have env0 : Env0 P w K mg (hidT s.heap H) callerA [] s H := ⟨rfl, mod, fun b o e => of_hidT e, Nat.le_of_eq (hidT_size _ _), trivial, fun b hb => absurd (show b ∈ ([] : List Addr) from hb) (by simp), ok, .of_eq gens⟩
    have mem : ∀ p ∈ cs, p.2 ∈ cs.map (·.2) := fun p hp => List.mem_map.mpr ⟨p, hp, rfl⟩
    refine codeAny_mono ((F _ mod.kin mod.glob fun p hp => W.tabs gl bm hp (hc p hp)).go callerA [] s H ⟨[.ref a], []⟩ [.ref a] [.ref a] _ _ hr rfl env0 (bind s (.ref a)) (.cons rfl .nil) (hsp H (fun p hp => hT _ (mem p hp)) hS)) fun r s' h => ?_
    cases r with
    | error e => exact h.elim
    | ok fl =>
      cases fl with
      | next => exact h.elim
      | brk => exact h.elim
      | cont => exact h.elim
      | ret u =>
        obtain ⟨v, H', os, bare, un, ok', rv, q⟩ := h
        cases (show v = .bl true from q)
        cases (show u = Value.bool true from rv)
        have firm : ∀ b o, b ∉ cs.map (·.2) → s.heap.get? b = some o → s'.heap.get? b = some o := fun b o nb e => by
          cases c : H b with
          | none => exact un.keep b o e c (fun z => absurd (show b ∈ ([] : List Addr) from z) (by simp)) (by simp)
          | some u =>
            rcases W.only b (by rw [c]; simp) with z | z
            · subst z
              rcases hA with z | ⟨ob, xs, z⟩
              · rw [c] at z
                cases z
              · have z2 := un.frzs b ob _ z
                obtain ⟨e1, _⟩ := ok b _ z
                obtain ⟨e2, _⟩ := ok' b _ z2
                rw [e] at e1
                cases e1
                exact e2
            · exact absurd z nb
        have more : ∀ b ∈ cs.map (·.2), ∃ ms : Array Value, s'.heap.get? b = some { cls := .none, data := .fields ms } := fun b hb => by
          obtain ⟨ms, z⟩ := un.tbls b #[] (hT b hb)
          exact ⟨_, ok' b _ z⟩
        refine ⟨rfl, ⟨fun b o e => ?old, fun b o e => ?there⟩, os, bare⟩
        case old =>
          by_cases hb : b ∈ cs.map (·.2)
          · obtain ⟨ms, hm⟩ := more b hb
            obtain ⟨p, hp, rfl⟩ := List.mem_map.mp hb
            have y := ta _ hb
            rw [e] at y
            cases y
            exact .inr (.inl ⟨((hc p hp).tab (ta _ hb)).isCodeTable, rfl, #[], ms, rfl, by rw [Array.empty_append]; exact hm⟩)
          · exact .inl (firm b o hb e)
        case there =>
          by_cases hb : b ∈ cs.map (·.2)
          · obtain ⟨ms, hm⟩ := more b hb
            exact ⟨_, hm⟩
          · exact ⟨o, firm b o hb e⟩
  cases hk : K.lookup a with
  | some o =>
    have e := inK a o hk
    rw [la] at e
    cases e
    have off : (if a ∈ cs.map (·.2) then some (HO.tbl #[]) else none) = none := if_neg nota
    refine go (fun b => if b ∈ cs.map (·.2) then some (.tbl #[]) else none) ⟨la, ta, fun b z => ?_, fun z => absurd off z, tk⟩ (fun b hb => if_pos hb) (.inl off) (.inr ⟨_, items.toArray, _, hk, rfl, rfl, rfl, by rw [List.size_toArray, same]; exact hl, by simpa using vals⟩) fun b u z => ?_
    · by_cases hb : b ∈ cs.map (·.2)
      · exact .inr hb
      · exact absurd (if_neg hb) z
    · by_cases hb : b ∈ cs.map (·.2)
      · cases (if_pos hb).symm.trans z
        exact ta b hb
      · cases (if_neg hb).symm.trans z
  | none =>
    have here : (if a = a then some (HO.frz { cls := .type "list", data := .seq items.toArray } (.lst (ns.map V.int))) else if a ∈ cs.map (·.2) then some (HO.tbl #[]) else none) = some (HO.frz { cls := .type "list", data := .seq items.toArray } (.lst (ns.map V.int))) := if_pos rfl
    refine go (fun b => if b = a then some (.frz { cls := .type "list", data := .seq items.toArray } (.lst (ns.map V.int))) else if b ∈ cs.map (·.2) then some (.tbl #[]) else none) ⟨la, ta, fun b z => ?_, fun _ => hk, tk⟩
      (fun b hb => (if_neg fun z => nota (by rw [← z]; exact hb)).trans (if_pos hb)) (.inr ⟨_, _, here⟩) (.inl (.inr ⟨{ cls := .type "list", data := .seq items.toArray }, here⟩)) fun b u z => ?_
    · by_cases c : b = a
      · exact .inl c
      · by_cases hb : b ∈ cs.map (·.2)
        · exact .inr hb
        · exact absurd ((if_neg c).trans (if_neg hb)) z
    · by_cases c : b = a
      · cases (if_pos c).symm.trans z
        subst c
        exact ⟨la, by rw [List.length_map]; exact hl, items, _, vals, la⟩
      · by_cases hb : b ∈ cs.map (·.2)
        · cases ((if_neg c).trans (if_pos hb)).symm.trans z
          exact ta b hb
        · cases ((if_neg c).trans (if_neg hb)).symm.trans z
/-- the law's row, from its promise -/
theorem row_goesT {l : PySem.W.OpenLaw} {n k : Nat} {q : Program} {loose : List Str} {XP : (Str → Option Value) → Heap → Prop} {YP : World → Heap → Prop} {d : DefRec} {K : Params → PySem.W.Frag} {sp : PySem.W.Frag → List (Addr × Addr) → Sp} {x : Str}
    (hn : l.most = some n) (hn2 : n ≤ sizeLine) (hdf : d.params.defaults = []) (hr : Room k callerA)
    (hY : ∀ (w : World) (h : Heap), YP w h → (K w.params).In h)
    (F : ∀ (w : World) (mg mb : Str → Option Value) (fa : Addr) (h : Heap), YP w h → (K w.params).In h → (∃ lo mean, Top q lo mean mg mb h) → mg d.name = some (.ref fa) →
      ∃ (fd : FuncData) (cs : List (Addr × Addr)), (∀ b ∈ cs.map (·.2), h.get? b = some emptyTab) ∧ (∀ b ∈ cs.map (·.2), (K w.params).lookup b = none) ∧ (∀ p ∈ cs, PySem.W.CodeHd h p.1 p.2) ∧ (∀ (s : Shared) (u : Value), BindsTo s fd ⟨[u], []⟩ [(x, u)]) ∧
        (∀ (H : Hp) (a : Addr) (ns : List Int), ns.length ≤ n → (∀ z ∈ ns, Builtin.Int.intBits z ≤ 1048576) → (∀ p ∈ cs, H p.2 = some (.tbl #[])) → SqL (K w.params) H a (ns.map V.int) → sp (K w.params) cs [.ref a] H (fun v _ => v = .bl true) fun _ _ _ => False) ∧
        ∀ base : Heap, (K w.params).In base → base.Ns mainGlobals mg → (∀ p ∈ cs, LamX.TabB base mg p.1 p.2) → FnG l.prog w (K w.params) mg base k fa fd [x] (sp (K w.params) cs)) :
    PySem.W.WalkO q loose XP YP l.row.toRowW d [] (fun f vs => PySem.call f vs) := by
  refine Att.attach_callB hn hdf fun w s0 s mg mb fa o pm cd doc a items ns G Y ho hd hcd hmg hobj intv hlen hbits hg => ?_
  have inK := hY w _ Y
  obtain ⟨fd, cs, ta, tk, hc, bind, hsp, hF⟩ := F w mg mb fa _ Y inK ⟨_, _, G.T⟩ hmg
  exact law_goesT inK G.T.g G.T.b G.T.builtins G.T.nolimit hg G.T.bmain ta tk hc hobj intv (Nat.le_trans hlen hn2) hr hF bind fun H hH hS => hsp H a ns hlen hbits hH hS
end QN

/-! tuples: t * 0 and t * 1, t[::-1] -/
namespace QN
open PySem PySem.Spec PyProof.Rows L2
theorem tuple_mul1 (l : Addr) (items : Array Value) (n : Nat) (dd : Option Addr) (sl : Array (Option Value)) (u : Tok) :
    Meets (Builtin.«tuple.__mul__» ⟨[.ref l, .int 1 u], []⟩) (fun _ R s => s.heap.get? l = some { cls := .type "tuple", dict := dd, data := .seq items n, slots := sl } ∧ R (.ok (.ret (Value.ref l))) s) :=
  .of_wp fun prog w A R s h => by
    obtain ⟨hp, g, d, tk, os⟩ := s
    obtain ⟨hl, h⟩ := h
    have f1 := AutoSeq1.idx_int
    have c1 : (items.isEmpty || (1 : Int) == 1) = true := by simp
    wp_walk using wpAny_loadPart' hl
    repeat (first
      | (refine wpAny_ite_false (decide_eq_false (by decide)) ?_; wp_walk using wpAny_loadPart' hl)
      | (refine wpAny_ite_true (decide_eq_true (by rw [c1])) ?_; wp_walk using wpAny_loadPart' hl))
    exact ⟨_, rfl, h⟩
theorem tuple_mul0 (l : Addr) (items : Array Value) (n : Nat) (dd : Option Addr) (sl : Array (Option Value)) (u : Tok) (hi : items.isEmpty = false) :
    Meets (Builtin.«tuple.__mul__» ⟨[.ref l, .int 0 u], []⟩) (fun _ R s => s.heap.get? l = some { cls := .type "tuple", dict := dd, data := .seq items n, slots := sl } ∧
      R (.ok (.ret (Value.ref s.heap.objs.size))) { s with heap := s.heap.push { cls := Value.type "tuple", data := Data.seq #[] }, toks := s.toks }) :=
  .of_wp fun prog w A R s h => by
    obtain ⟨hp, g, d, tk, os⟩ := s
    obtain ⟨hl, h⟩ := h
    have f1 := AutoSeq1.idx_int
    have c1 : (items.isEmpty || (0 : Int) == 1) = false := by rw [hi]; rfl
    have c2 : (decide ((0 : Int) ≤ 0) || items.isEmpty) = true := by simp
    wp_walk using wpAny_loadPart' hl
    repeat (first
      | (refine wpAny_ite_false (decide_eq_false (by decide)) ?_; wp_walk using wpAny_loadPart' hl)
      | (refine wpAny_ite_false (decide_eq_false (by rw [c1]; exact Bool.false_ne_true)) ?_; wp_walk using wpAny_loadPart' hl)
      | (refine wpAny_ite_true (decide_eq_true (by rw [c2])) ?_; wp_walk using wpAny_loadPart' hl))
    exact ⟨_, rfl, h⟩
theorem fm_congr {α β : Type} {f g : α → Option β} : ∀ {l : List α}, (∀ x ∈ l, f x = g x) → l.filterMap f = l.filterMap g
  | [], _ => rfl
  | a :: l, h => by
    rw [List.filterMap_cons, List.filterMap_cons, h a List.mem_cons_self, fm_congr fun x hx => h x (List.mem_cons_of_mem _ hx)]
theorem sliceApplied_rev {prog : Program} {w : World} {A : Around} {E : Value → Shared → Prop} {s : Shared} {sl : Addr} {u : Tok} {n : Nat} {Q : Int × Int × Nat → Shared → Prop} (hs : s.heap.IsSliceOf sl .none .none (.int (-1) u))
    (h : Q ((n : Int) - 1, -1, Builtin.Slice.slicePlaces ((n : Int) - 1) (-1) (-1)) s) : wpAny (model prog w) A (Builtin.Slice.sliceApplied (.ref sl) (pure (n : Int))) Q E s := by
  obtain ⟨os, hos, hcs, hds⟩ := id hs
  unfold Builtin.Slice.sliceApplied Builtin.Slice.sliceFields
  refine wpAny_bind (wpAny_bind (wpAny_field hos hds (x := .none) rfl (wpAny_bind (wpAny_field hos hds (x := .none) rfl (wpAny_bind (wpAny_field hos hds (x := .int (-1) u) rfl (wpAny_pure ?_)))))))
  refine wpAny_bind (slicePart_int ?_)
  show wpAny _ _ (if ((-1 : Int) == 0) = true then _ else _) _ _ s
  rw [if_neg (by decide)]
  refine wpAny_bind (slicePart_none (wpAny_bind (slicePart_none (wpAny_bind (wpAny_pure ?_)))))
  exact wpAny_pure h
theorem getItem_tuple_rev {prog : Program} {w : World} {A : Around} {E : Value → Shared → Prop} {s : Shared} {t sl : Addr} {items : Array Value} {u : Tok} {Q : Value → Shared → Prop} (ht : IsTup s.heap t items) (hs : s.heap.IsSliceOf sl .none .none (.int (-1) u))
    (h : Q (.ref s.heap.objs.size) { s with heap := s.heap.push { cls := .type "tuple", data := .seq items.toList.reverse.toArray } }) (hsz : items.size ≤ sizeLine) : wpAny (model prog w) A (getItem (.ref t) (.ref sl)) Q E s := by
  have htake : sizeOk (.seq items.toList.reverse.toArray) := by
    show items.toList.reverse.toArray.size ≤ sizeLine
    rw [List.size_toArray, List.length_reverse, Array.length_toList]
    exact hsz
  obtain ⟨os, hos, hcs, hds⟩ := id hs
  have hTs : s.TypeIs (.ref sl) "slice" := ⟨os, hos, hcs⟩
  unfold getItem
  try with_reducible refine wpAny_holding ?_
  first | refine wpAny_bind (wpAny_pure ?_) | skip
  refine wpAny_bind (wpAny_sequenceKey ht.typeIs (by decide) ?_)
  refine wpAny_bind (wpAny_callSpecial?_slot (name := Str.ofString "__getitem__") ht.typeIs PyProof.Rows.slot_tuple_getitem
    (wpAny_call_entry PyProof.Rows.slot_tuple_getitem ht.typeIs entry_tuple_getitem ?_ (args_tuple_getitem _ _)))
  show wpAny _ _ (Builtin.Tuple.tupleItemsOf (.ref t) >>= _) _ _ s
  refine wpAny_bind (tupleItemsOf_ ht ?_)
  refine wpAny_bind (wpAny_typeOf hTs ?_)
  rw [if_pos (by decide)]
  have pick : ((List.range (Builtin.Slice.slicePlaces ((items.size : Int) - 1) (-1) (-1))).filterMap fun (k : Nat) => items[((items.size : Int) - 1 + (k : Int) * (-1)).toNat]?).toArray = items.toList.reverse.toArray := by
    have hp : Builtin.Slice.slicePlaces ((items.size : Int) - 1) (-1) (-1) = items.size := by
      unfold Builtin.Slice.slicePlaces
      rw [if_neg (by decide)]
      by_cases c : items.size = 0
      · rw [c, if_neg (by decide)]
        rfl
      · rw [if_pos (by omega), show (- -1 : Int) = 1 by decide, Int.ediv_one]
        omega
    rw [hp]
    have hf : ((List.range items.size).filterMap fun (k : Nat) => items[((items.size : Int) - 1 + (k : Int) * (-1)).toNat]?) = ((List.range items.size).map fun k => items.size - 1 - k).filterMap (items[·]?) := by
      rw [List.filterMap_map]
      refine fm_congr fun k hk => ?_
      have hk' := List.mem_range.mp hk
      show items[((items.size : Int) - 1 + (k : Int) * (-1)).toNat]? = items[items.size - 1 - k]?
      congr 1
      omega
    rw [hf, PySem.W.krv_range, List.filterMap_reverse, PySem.W.krv_all]
  refine wpAny_bind (sliceApplied_rev hs ?_)
  have hno : ¬ (((items.size : Int) - 1 == 0 && (-1 : Int) == 1 && Builtin.Slice.slicePlaces ((items.size : Int) - 1) (-1) (-1) == items.size) = true) := by
    intro q
    rw [Bool.and_eq_true, Bool.and_eq_true] at q
    exact absurd q.1.2 (by decide)
  show wpAny _ _ (if ((items.size : Int) - 1 == 0 && (-1 : Int) == 1 && Builtin.Slice.slicePlaces ((items.size : Int) - 1) (-1) (-1) == items.size) = true then _ else _) _ _ s
  rw [if_neg hno, pick]
  first
    | exact wpAny_bind (m := Builtin.Tuple.tupleExact _) (wpAny_newObj_type (wpAny_pure ⟨_, rfl, wpAny_pure h⟩) htake)
    | exact wpAny_bind (m := Builtin.Tuple.tupleExact _) (wpAny_newObj_type (wpAny_bind (wpAny_pure (wpAny_pure ⟨_, rfl, wpAny_pure h⟩))) htake)
    | exact wpAny_bind (wpAny_bind (m := Builtin.Tuple.tupleExact _) (wpAny_newObj_type (wpAny_pure (wpAny_pure ⟨_, rfl, wpAny_pure h⟩)) htake))
    | exact wpAny_bind (wpAny_bind (m := Builtin.Tuple.tupleExact _) (wpAny_newObj_type (wpAny_pure ⟨_, rfl, wpAny_pure h⟩) htake))
/-- t[::-1] -/
def tRevT (K : PySem.W.Frag) (te : TE) : TE := fun σ H Q => te σ H fun x H1 => ∃ a xs, x = .ref a ∧ SqT K H1 a xs ∧ ∀ p, H1 p = none → Q (.ref p) (upd H1 p (.tup xs.reverse))
theorem pe_revT {X : Cx} {e : Expr} {te : TE} {k : Nat} {p1 p2 p3 pos : Pos} (he : PE X e te) : PE X (.Subscript e (.Slice none none (some (.UnaryOp .USub (.Constant (.int 1) k p1) p2)) p3) pos) (tRevT X.K te) := by
  refine ⟨fun pins s σ H Q I h => ?_⟩
  refine Subscript_ (thn (he.run pins s σ H _ I h) fun v s1 ⟨x, H1, I1, r1, q1⟩ => ?_)
  obtain ⟨a, xs, ex, hx, q⟩ := q1
  subst ex
  cases r1
  have hst : PO X (some (.UnaryOp .USub (.Constant (.int 1) k p1) p2)) (tPart (tUn (rU fun i => .int (-i)) (tC (.int 1)))) := po_some (pe_un un_neg pe_int)
  refine wpAny_Slice (thn (po_none.run pins s1 σ H1 (fun o H2 => o = none ∧ H2 = H1) I1 ⟨rfl, rfl⟩) fun vl s2 ⟨l, H2, I2, pl, el, e2⟩ => ?_)
  subst el e2
  refine thn (po_none.run pins s2 σ H2 (fun o H3 => o = none ∧ H3 = H2) I2 ⟨rfl, rfl⟩) fun vu s3 ⟨u, H3, I3, pu, eu, e3⟩ => ?_
  subst eu e3
  refine thn (hst.run pins s3 σ H3 (fun o H4 => o = some (-1) ∧ H4 = H3) I3 ⟨1, rfl, -1, rfl, rfl, rfl⟩) fun vs s4 ⟨o, H4, I4, ps, eo, e4⟩ => ?_
  subst eo e4
  cases pl
  cases pu
  obtain ⟨t5, rfl⟩ : ∃ t5, vs = Value.int (-1) t5 := by
    cases ps
    exact ⟨_, rfl⟩
  have I5 : Inv X pins σ H4 { s4 with heap := s4.heap.push { cls := .type "slice", data := .fields #[.none, .none, .int (-1) t5] } } := I4.kept (t' := s4.toks) fun b ob q => Heap.get?_push_of_some _ q
  obtain ⟨its, r, ht, hz⟩ := I5.tuple hx
  have hlen := r.length
  show wpAny (model X.prog X.w) X.A (subscriptTail e (.Slice none none (some (.UnaryOp .USub (.Constant (.int 1) k p1) p2)) p3) (.ref a) (.ref s4.heap.objs.size)) (EP X pins σ Q) X.xe { s4 with heap := s4.heap.push { cls := .type "slice", data := .fields #[.none, .none, .int (-1) t5] } }
  refine tail_any (ops := [.ref a, .ref s4.heap.objs.size]) ht.typeIs (PyProof.Rows.slot_tuple_getitem.lookup) ?_ (by with_unfolding_all rfl)
  refine getItem_tuple_rev ht (Heap.IsSliceOf.new _ .none .none (.int (-1) t5)) ?_ (by rw [List.size_toArray]; omega)
  refine ⟨.ref _, _, I5.laid (t' := s4.toks) (o := .tup xs.reverse) (fun b ob q => Heap.get?_push_of_some _ q) (Nat.le_refl _) ?_, rfl, q _ (I5.hok.fresh (Nat.le_refl _))⟩
  exact ⟨by rw [List.length_reverse]; exact hz, _, r.reverse, IsTup.new _ _⟩
/-- t * k, k from 0 to 1000, t not empty -/
def rRepA (K : PySem.W.Frag) : R2 := fun x y H Q => ∃ l k xs, x = .ref l ∧ y = .int k ∧ SqT K H l xs ∧ xs ≠ [] ∧ 0 ≤ k ∧ k ≤ 1000 ∧ xs.length ≤ 1000 ∧ (k = 1 → Q (.ref l) H) ∧ (k ≠ 1 → ∀ p, H p = none → Q (.ref p) (upd H p (.tup (List.replicate k.toNat xs).flatten)))
theorem op_repA {X : Cx} : OpR X (binaryOp .Mult) (rRepA X.K) := by
  intro pins s σ H x y v u Q I rx ry h
  obtain ⟨l, k, xs, rfl, rfl, hT, hne, h1, h2, hz, q1, q2⟩ := h
  by_cases hk : 2 ≤ k
  · exact op_repT pins s σ H _ _ v u Q I rx ry ⟨l, k, xs, rfl, rfl, hT, hne, hk, h2, hz, q2 (by omega)⟩
  · cases rx
    obtain ⟨t, rfl⟩ := ry
    obtain ⟨its, r, ⟨⟨cls, dd, data, sl⟩, ho, hc, n, hd⟩, hs⟩ := I.tuple hT
    simp only at hc hd
    subst hc hd
    have hle : its.length = xs.length := r.length.symm
    have hi : its.toArray.isEmpty = false := by
      cases its with
      | nil =>
        exact absurd (List.eq_nil_of_length_eq_zero hle.symm) hne
      | cons a b => rfl
    by_cases k0 : k = 0
    · subst k0
      refine wpAny_binaryOp_repeat_ref (T := "tuple") (U := "int") (by decide) ⟨_, ho, rfl⟩ (fun s' => typeIs_int s' 0 t) noFill_tuple_mul F.fills_int_mul F.slot_int_rmul repeat_tuple F.slot_int_index.lookup
        (call_meets F.slot_int_rmul (typeIs_int s 0 t) F.entry_int_rmul (F.args_int_rmul_2 _ _) (int_rmul_tuple 0 t l its.toArray n dd sl)
          ⟨ho, rfl, ⟨_, ho, rfl⟩, call_meets F.slot_tuple_mul ⟨_, ho, rfl⟩ F.entry_tuple_mul (F.args_tuple_mul_2 _ _) (tuple_mul0 l its.toArray n dd sl t hi) ⟨ho, ?_⟩⟩)
      refine ⟨.ref s.heap.objs.size, _, I.laid (t' := s.toks) (o := .tup (List.replicate (0 : Int).toNat xs).flatten) (fun b ob q => Heap.get?_push_of_some _ q) (Nat.le_refl _) ?_, rfl, q2 (by decide) _ (I.hok.fresh (Nat.le_refl _))⟩
      exact ⟨Nat.zero_le _, [], .nil, IsTup.new _ _⟩
    · have k1 : k = 1 := by omega
      subst k1
      exact wpAny_binaryOp_repeat_ref (T := "tuple") (U := "int") (by decide) ⟨_, ho, rfl⟩ (fun s' => typeIs_int s' 1 t) noFill_tuple_mul F.fills_int_mul F.slot_int_rmul repeat_tuple F.slot_int_index.lookup
        (call_meets F.slot_int_rmul (typeIs_int s 1 t) F.entry_int_rmul (F.args_int_rmul_2 _ _) (int_rmul_tuple 1 t l its.toArray n dd sl)
          ⟨ho, rfl, ⟨_, ho, rfl⟩, call_meets F.slot_tuple_mul ⟨_, ho, rfl⟩ F.entry_tuple_mul (F.args_tuple_mul_2 _ _) (tuple_mul1 l its.toArray n dd sl t) ⟨ho, ⟨.ref l, H, I, rfl, q1 rfl⟩⟩⟩)
end QN

/-! own classes made: C(), cls(*e) in a classmethod -/
namespace QN
open PySem PySem.Spec PyProof.Rows L2
section
variable {X : Cx} {CX : CXT} {k i : Nat} {f C : Addr} {sp : Sp} {E : XK} {x : Str} {e : Expr} {te : TE} {p sp_ pos : Pos}
def tMakeR0 (C : Addr) (sp : Sp) (E : XK) : TE := fun σ H Q => ∀ x dx, H x = Option.none → H dx = Option.none → dx ≠ x → sp [V.ref x] (upd (upd H dx (.own x)) x (.ins C dx [])) (fun v H2 => v = .non ∧ Q (.ref x) H2) E
/-- C() -/
theorem pe_makeR0 (M : Mk X.K C f) (F : FnR X.prog X.w X.K X.mg X.base CX k f sp) (hr : Room (k + 1) X.A) (hg : Gl X x) (hm : X.mg x = some (.ref C)) (hx : Passes CX X E) (hdb : (x == ("__debug__" : Str)) = false := by decide) :
    PE X (.Call (.Name x p) [] [] pos) (tMakeR0 C sp E) := by
  refine ⟨fun pins s σ H Q I h => ?_⟩
  refine wpAny_Call_Name_kw (ld_glob I hg hm ?_ hdb)
  exact PySem.W.callWith_K0 I.kIn M.kp (StX.run_makeR M F hr hx I .nil h)
def tMakeS (K : PySem.W.Frag) (i : Nat) (C : Addr) (sp : Sp) (E : XK) (te : TE) : TE := fun σ H Q => σ[i]? = some (some (.ref C)) ∧ te σ H fun y H1 => ∃ a xs, y = V.ref a ∧ (SqT K H1 a xs ∨ SqL K H1 a xs) ∧
  ∀ x dx, H1 x = Option.none → H1 dx = Option.none → dx ≠ x → sp (V.ref x :: xs) (upd (upd H1 dx (.own x)) x (.ins C dx [])) (fun v H2 => v = .non ∧ Q (.ref x) H2) E
/-- cls(*e), cls the class C in the slot i -/
theorem pe_makeS (M : Mk X.K C f) (F : FnR X.prog X.w X.K X.mg X.base CX k f sp) (hr : Room (k + 1) X.A) (hN : X.N[i]? = some x) (hv : Vis X.env.scope x) (hx : Passes CX X E) (he : PE X e te)
    (hdb : (x == ("__debug__" : Str)) = false := by decide) (hcd : (x == ("__classdict__" : Str)) = false := by decide) (hst : starEach [.Starred e sp_] X.env = [(true, eval e X.env)] := by rfl) :
    PE X (.Call (.Name x p) [.Starred e sp_] [] pos) (tMakeS X.K i C sp E te) := by
  refine ⟨fun pins s σ H Q I h => ?_⟩
  obtain ⟨hs, ht⟩ := h
  refine wpAny_Call_Name_kw (thn ((pe_var (pos := p) hN hv hdb hcd).run pins s σ H (fun v H1 => v = .ref C ∧ H1 = H) I ⟨.ref C, hs, rfl, rfl⟩) fun u s1 ⟨v, H1, I1, r1, q1⟩ => ?_)
  obtain ⟨rfl, rfl⟩ := q1
  cases r1
  refine PySem.W.callWith_S (h₀ := X.base) I1.ok.mod.kin M.kp (thn (he.run pins s1 σ _ _ I1 ht) fun v s2 ⟨y, H2, I2, ry, a, xs, ey, hxs, q⟩ => ?_) hst
  subst ey
  obtain rfl : v = Value.ref a := ry
  exact StX.star_any I2 hxs fun us s3 I3 rv => ⟨I3.kIn, StX.run_makeR M F hr hx I3 rv q⟩
end
end QN

/-! < and > of plain data of one kind -/
namespace QN
open PySem PySem.Spec PyProof.Rows L2
/-- x < y, x > y for data that are alike -/
def rLtX (K : PySem.W.Frag) : R2 := fun x y H Q => ∃ d e : PyData, Dp K H x d ∧ Dp K H y e ∧ PySem.W.alike d e = true ∧ d ≠ .none ∧ d.depth ≤ 60 ∧ Q (.bl (PySem.W.dataLt d e)) H
def rGtX (K : PySem.W.Frag) : R2 := fun x y H Q => ∃ d e : PyData, Dp K H x d ∧ Dp K H y e ∧ PySem.W.alike d e = true ∧ d ≠ .none ∧ d.depth ≤ 60 ∧ Q (.bl (PySem.W.dataLt e d)) H
section
variable {X : Cx}
theorem op_ltX (hu : X.A.units + 64 < cLine) : OpR X (compareOp .Lt) (rLtX X.K) := by
  intro pins s σ H x y v u Q I rx ry h
  obtain ⟨d, e, hd, he, al, nn, dp, q⟩ := h
  obtain ⟨as, ra⟩ := Dp.reads I d x v hd rx
  obtain ⟨bs, rb⟩ := Dp.reads I e y u he ry
  exact PySem.W.lt_data ra rb al nn (by omega) ⟨.bl _, H, I, rfl, q⟩
theorem op_gtX (hu : X.A.units + 64 < cLine) : OpR X (compareOp .Gt) (rGtX X.K) := by
  intro pins s σ H x y v u Q I rx ry h
  obtain ⟨d, e, hd, he, al, nn, dp, q⟩ := h
  obtain ⟨as, ra⟩ := Dp.reads I d x v hd rx
  obtain ⟨bs, rb⟩ := Dp.reads I e y u he ry
  exact PySem.W.gt_data ra rb al nn (by omega) ⟨.bl _, H, I, rfl, q⟩
/-- x in t for data in a tuple -/
def rInT (K : PySem.W.Frag) : R2 := fun x y H Q => ∃ (d : PyData) (ds : List PyData), Dp K H x d ∧ Dp K H y (.tuple ds) ∧ SeqAt.shaped d = true ∧ SeqAt.shaped (.tuple ds) = true ∧ Q (.bl (ds.any fun z => PyData.eqv z d)) H
theorem op_inT (hu : X.A.units + 65 < cLine) : OpR X (compareOp .In) (rInT X.K) := by
  intro pins s σ H x y v u Q I rx ry h
  obtain ⟨d, ds, hd, he, sd, se, q⟩ := h
  obtain ⟨as, r1⟩ := Dp.reads I d x v hd rx
  obtain ⟨bs, r2⟩ := Dp.reads I (.tuple ds) y u he ry
  exact SeqAt.in_tuple_reads r2 r1 (SeqAt.canLay_of_shaped se) (SeqAt.canLay_of_shaped sd) (room_in_shaped sd hu) ⟨.bl _, H, I, rfl, q⟩
end
end QN

namespace Qp
open PySem PySem.Spec PyProof.Rows L2 QN
theorem sqT_same {K : PySem.W.Frag} {H H' : Hp} {p : Addr} {xs : List V} (s : Same H H') (h : SqT K H p xs) : SqT K H' p xs := by
  rcases h with h | h
  · rcases h with h | ⟨o, h⟩
    · exact .inl (.inl (s _ _ h))
    · exact .inl (.inr ⟨o, s _ _ h⟩)
  · exact .inr h
theorem same_new {H : Hp} {p : Addr} {o : HO} (h : H p = none) : Same H (upd H p o) := fun b x e => by
  rw [upd_ne (ne_of_none e h)]
  exact e
theorem if_yes {c : Prop} [Decidable c] {a b : Prop} (h : c) (x : a) : if c then a else b := by rw [if_pos h]; exact x
theorem if_no {c : Prop} [Decidable c] {a b : Prop} (h : ¬ c) (x : b) : if c then a else b := by rw [if_neg h]; exact x
theorem but_same {p : Addr} {H H1 H2 : Hp} (s : Same H H1) (b : But p H1 H2) : But p H H2 := fun c o n e => b c o n (s c o e)
theorem but_trans {p : Addr} {H H1 H2 : Hp} (a : But p H H1) (b : But p H1 H2) : But p H H2 := fun c o n e => b c o n (a c o n e)
theorem same_but {p : Addr} {H H1 : Hp} (s : Same H H1) : But p H H1 := fun c o _ e => s c o e
theorem slot_set {σ : L2.St} {i : Nat} {v : V} (h : i < σ.length) : (σ.set i (some v))[i]? = some (some v) := by rw [List.getElem?_set_self h]
theorem slot_keep {σ : L2.St} {i j : Nat} {u : Option V} {v : V} (n : j ≠ i) (h : σ[i]? = some (some v)) : (σ.set j u)[i]? = some (some v) := by rw [List.getElem?_set_ne n]; exact h
/-- ints as values -/
def iv (ns : List Int) : List V := ns.map V.int
/-- a coefficient as the law draws it -/
def okC (n : Int) : Prop := 0 ≤ n ∧ n < 10 ^ 21
structure Blt2 (mg : Str → Option Value) : Prop where
  rg : mg "range" = none
  tu : mg "tuple" = none
  li : mg "list" = none
abbrev sCoef : Stmt := top 33 -- _law_coefficients
abbrev coefNames : List Str := ["_law_dice_here", "_law_found", "_law_turn"]
theorem scCoef : FnScope coefNames ["_law_dice_here"] (defScope sCoef) := ⟨rfl, rfl, rfl, by decide +kernel, rfl, by decide +kernel, by decide +kernel⟩
def spCoef (K : PySem.W.Frag) : Sp := fun vs H Q _ => ∃ (p : Addr) (x y z : Int), vs = [.ref p] ∧ H p = some (.lst (hand x y z)) ∧
  ∀ (q : Addr) (ns : List Int) (x' y' z' : Int) (H' : Hp), (∀ n ∈ ns, okC n) → ns.length ≤ 6 → SqT K H' q (iv ns) → H' p = some (.lst (hand x' y' z')) → But p H H' → Q (.ref q) H'
section
variable {P : Program} {w : World} {K : PySem.W.Frag} {mg : Str → Option Value} {base : Heap}
theorem ok_coef {f fR fO : Addr} {fd fdR fdO : FuncData} (F : Fun K "_law_coefficients" "_law_coefficients" sCoef f fd) (FR : Fun K "_law_roll" "_law_roll" sRoll fR fdR) (bR : L2.Binds K fdR ["_law_dice_here", "_law_total"] []) (gR : mg "_law_roll" = some (.ref fR))
    (FO : Fun K "_law_one_of" "_law_one_of" sOne fO fdO) (bO : L2.Binds K fdO ["_law_dice_here", "_law_items"] []) (gO : mg "_law_one_of" = some (.ref fO)) (B : Blt mg) (B2 : Blt2 mg) : FnOk P w K mg base CX0 3 f fd ["_law_dice_here"] (spCoef K) := by
  have GO : FnOk P w K mg base CX0 2 fO fdO ["_law_dice_here", "_law_items"] spOne := ok_one FO FR bR gR B
  have GR : FnOk P w K mg base CX0 1 fR fdR ["_law_dice_here", "_law_total"] spRoll := ok_roll FR B
  refine F.ok scCoef (fun vs H Q E h => ?_) (fun cdv A outer s H vs Q E hr h => ?_)
  · obtain ⟨p, x, y, z, rfl, _⟩ := h
    rfl
  · obtain ⟨p, x, y, z, rfl, hp, k⟩ := h
    have hr1 := hr.mono (by decide : 1 ≤ 2)
    refine ⟨_, pss_cons (ps_set (i := 1) scCoef.nd rfl (.inl rfl) (pe_lst pa_nil))
      (pss_cons (ps_for PassesOwn.never rfl (pi_range1 (by rfl) B2.rg (pa_cons (pe_call GR hr1 (by rfl) gR FR.kp bR .nil pass0 (pa_cons (pv 0) (pa_cons pe_int pa_nil))) pa_nil)) (pg_name (i := 2) scCoef.nd rfl (.inl rfl))
        (pss_one (ps_expr (pe_bm PySem.F.plainAttrs_list PySem.F.slot_list_append PySem.F.type_list_append mt_append (pv 1) (pa_cons (pe_call GO hr (by rfl) gO FO.kp bO .nil pass0 (pa_cons (pv 0) (pa_cons (pe_lst (pa_cons pe_int (pa_cons pe_int (pa_cons pe_int (pa_cons pe_int (pa_cons pe_int (pa_cons pe_int (pa_cons pe_int (pa_cons pe_int
          (pa_cons (pe_op op_add (pe_op op_pow pe_int pe_int) (pe_call GR hr1 (by rfl) gR FR.kp bR .nil pass0 (pa_cons (pv 0) (pa_cons pe_int pa_nil)))) pa_nil)))))))))) pa_nil))) pa_nil)))))
      (pss_one (ps_ret (pe_op op_catA (pe_callTy call_tuple_of (by rfl) B2.tu (by decide +kernel) (pa_cons (pv 1) pa_nil)) (pe_op op_repA (pe_tup (pa_cons pe_int pa_nil)) (pe_call GO hr (by rfl) gO FO.kp bO .nil pass0 (pa_cons (pv 0) (pa_cons (pe_lst (pa_cons pe_int (pa_cons pe_int (pa_cons pe_int (pa_cons pe_int pa_nil))))) pa_nil)))))))), ?_⟩
    refine ⟨by decide, fun L hL => ?_⟩
    have nLp : L ≠ p := (fun c => by rw [c, hp] at hL; cases hL)
    refine ⟨.ref p, rfl, p, x, y, z, 5, rfl, by rw [upd_ne nLp.symm]; exact hp, by decide, by decide, fun r x1 y1 z1 H1 r0 r5 hp1 b1 => ⟨r, rfl, by omega, by omega, ?_⟩⟩
    have hL1 : H1 L = some (.lst (iv [])) := b1 L _ nLp upd_same
    refine for_range (fun i σ H' => ∃ y2, σ = [some (.ref p), some (.ref L), y2] ∧ ∃ ns x y z, ns.length = i ∧ (∀ n ∈ ns, okC n) ∧ H' L = some (.lst (iv ns)) ∧ H' p = some (.lst (hand x y z)) ∧ But p H H') ⟨none, rfl, [], x1, y1, z1, rfl, (fun n hn => by cases hn), hL1, hp1, but_same (same_new hL) b1⟩ ?_ ?_
    · rintro i σ H' hi ⟨y2, rfl, ns, x2, y2', z2, rfl, hns, hL2, hp2, b2⟩
      refine ⟨.ref L, rfl, .inl ⟨rfl, _, .inl (.inl hL2)⟩, .ref p, rfl, _, _, rfl, rfl, ⟨by decide, by decide, by decide⟩, .ref p, rfl, p, x2, y2', z2, 1000, rfl, hp2, by decide, by decide, fun t x3 y3 z3 H3 t0 t1 hp3 b3 => ?_⟩
      refine ⟨_, _, rfl, rfl, (by show 9 ≤ sizeLine; decide), fun q hq => ?_⟩
      have nqp : q ≠ p := (fun c => by rw [c, hp3] at hq; cases hq)
      refine ⟨p, q, x3, y3, z3, _, rfl, by rw [upd_ne nqp.symm]; exact hp3, upd_same, nqp, (by show 0 < 9; decide), (by show 9 < 1073741824; decide), fun v x4 y4 z4 H4 hv hp4 b4 => ?_⟩
      have hv' : ∃ n : Int, v = .int n ∧ okC n := by
        simp only [List.mem_cons, List.not_mem_nil, or_false] at hv
        rcases hv with rfl | rfl | rfl | rfl | rfl | rfl | rfl | rfl | rfl
        all_goals refine ⟨_, rfl, ?_, ?_⟩
        all_goals first | decide | (show (0 : Int) ≤ 10 ^ 20 + t; omega) | (show (10 : Int) ^ 20 + t < 10 ^ 21; omega)
      obtain ⟨n, rfl, hn⟩ := hv'
      have hL4 : H4 L = some (.lst (iv ns)) := b4 L _ nLp ((same_new hq) _ _ (b3 L _ nLp hL2))
      refine ⟨L, _, _, rfl, rfl, hL4, ?_, _, rfl, ns ++ [n], x4, y4, z4, (by rw [List.length_append]; rfl), fun m hm => ?_, ?_, ?_, ?_⟩
      · unfold iv
        rw [List.length_map, sizeLine_eq]
        have : ns.length < 5 := by omega
        omega
      · rcases List.mem_append.mp hm with hm | hm
        · exact hns m hm
        · rw [List.mem_singleton.mp hm]
          exact hn
      · rw [upd_same]
        unfold iv
        rw [List.map_append]
        rfl
      · rw [upd_ne nLp.symm]
        exact hp4
      · intro b o nb e
        have e4 := b4 b o nb ((same_new hq) b o (b3 b o nb (b2 b o nb e)))
        by_cases c : b = L
        · subst c
          rw [hL] at e
          cases e
        · rw [upd_ne c]
          exact e4
    · rintro σ H' ⟨y2, rfl, ns, x2, y2', z2, hl, hns, hL2, hp2, b2⟩
      have lr : ns.length < 5 := by omega
      refine ⟨.ref L, rfl, L, _, rfl, .inl ⟨.inl (.inl hL2), fun T hT => ?_⟩⟩
      have sT := same_new (o := .tup (iv ns)) hT
      have hT1 : (upd H' T (.tup (iv ns))) T = some (.tup (iv ns)) := upd_same
      have hp3 := sT _ _ hp2
      have b3 : But p H (upd H' T (.tup (iv ns))) := but_trans b2 (same_but sT)
      generalize upd H' T (.tup (iv ns)) = H3 at hT1 hp3 b3
      refine ⟨by decide, fun t ht => ⟨.ref p, rfl, by decide, fun q hq => ?_⟩⟩
      have st := same_new (o := .tup [.int 0]) ht
      have sq := same_new (o := .lst [.int 0, .int 0, .int 1, .int 2]) hq
      have ht1 := sq _ _ (upd_same (a := t) (o := .tup [.int 0]))
      have hp4 := (st.trans sq) _ _ hp3
      have hT4 := (st.trans sq) _ _ hT1
      have nqp : q ≠ p := (fun c => by rw [c, st _ _ hp3] at hq; cases hq)
      have ntp : t ≠ p := (fun c => by rw [c, hp3] at ht; cases ht)
      have nTp : T ≠ p := (fun c => by rw [c, hp3] at hT1; cases hT1)
      refine ⟨p, q, x2, y2', z2, _, rfl, hp4, upd_same, nqp, (by show 0 < 4; decide), (by show 4 < 1073741824; decide), fun v x5 y5 z5 H5 hv hp5 b5 => ?_⟩
      have ht5 := b5 _ _ ntp ht1
      have hT5 := b5 _ _ nTp hT4
      have bb : But p H H5 := but_trans (but_trans b3 (same_but (st.trans sq))) b5
      have hv' : ∃ m : Nat, v = .int (m : Int) ∧ m ≤ 2 := by
        simp only [List.mem_cons, List.not_mem_nil, or_false] at hv
        rcases hv with rfl | rfl | rfl | rfl
        · exact ⟨0, rfl, by decide⟩
        · exact ⟨0, rfl, by decide⟩
        · exact ⟨1, rfl, by decide⟩
        · exact ⟨2, rfl, by decide⟩
      obtain ⟨m, rfl, hm⟩ := hv'
      have zer : ∀ n ∈ ns ++ List.replicate m 0, okC n := fun n hn => by
        rcases List.mem_append.mp hn with hn | hn
        · exact hns n hn
        · rw [(List.mem_replicate.mp hn).2]
          exact ⟨by decide, by decide⟩
      have len6 : (ns ++ List.replicate m (0 : Int)).length ≤ 6 := by
        rw [List.length_append, List.length_replicate]
        omega
      have cat : iv ns ++ List.replicate m (.int 0) = iv (ns ++ List.replicate m 0) := by
        unfold iv
        rw [List.map_append, List.map_replicate]
      have hl6 : (iv ns).length + (List.replicate m (V.int 0)).length ≤ sizeLine := by
        rw [List.length_replicate, sizeLine_eq]
        unfold iv
        rw [List.length_map]
        omega
      have ends : ∀ (u : Addr) (H6 : Hp), Same H5 H6 → SqT K H6 u (List.replicate m (.int 0)) → rCatA K (.ref T) (.ref u) H6 Q := fun u H6 s6 hu => by
        have hT6 : SqT K H6 T (iv ns) := .inl (.inl (s6 _ _ hT5))
        have fin : ∀ (w : Addr) (H7 : Hp), Same H6 H7 → SqT K H7 w (iv (ns ++ List.replicate m 0)) → Q (.ref w) H7 := fun w H7 s7 hw =>
          k w _ x5 y5 z5 H7 zer len6 hw ((s6.trans s7) _ _ hp5) (but_trans bb (same_but (s6.trans s7)))
        refine ⟨T, u, _, _, rfl, rfl, hT6, hu, hl6, fun e => fin u H6 (Same.refl H6) ?_, fun _ e => fin T H6 (Same.refl H6) ?_, fun _ _ w hw => fin w _ (same_new hw) (.inl (.inl ?_))⟩
        · rw [← cat, e]
          exact hu
        · rw [← cat, e, List.append_nil]
          exact hT6
        · rw [upd_same, cat]
      have flat : (List.replicate ((m : Nat) : Int).toNat [V.int 0]).flatten = List.replicate m (V.int 0) := by
        rw [Int.toNat_natCast]
        clear ends hl6 cat len6 zer hm hv hT5 ht5
        induction m with
        | zero => rfl
        | succ m ih => rw [List.replicate_succ, List.flatten_cons, ih, List.replicate_succ]; rfl
      refine ⟨t, m, [.int 0], rfl, rfl, .inl (.inl ht5), (by simp), by omega, by omega, (by show 1 ≤ 1000; decide), fun e => ends t H5 (Same.refl H5) ?_, fun _ u hu => ends u _ (same_new hu) (.inl (.inl ?_))⟩
      · have e1 : m = 1 := by omega
        rw [e1]
        exact .inl (.inl ht5)
      · rw [upd_same, flat]
end
end Qp

/-! the mathematics of coefficients -/
namespace Qp
open PySem PySem.Spec PyProof.Rows L2 QN
/-- without the zeros at the end -/
def cutZ (ns : List Int) : List Int := (ns.reverse.dropWhile (· == 0)).reverse
theorem cutZ_nil : cutZ [] = [] := rfl
theorem cutZ_snoc0 (ms : List Int) : cutZ (ms ++ [0]) = cutZ ms := by
  unfold cutZ
  rw [List.reverse_append]
  rfl
theorem cutZ_snoc {x : Int} (ms : List Int) (h : x ≠ 0) : cutZ (ms ++ [x]) = ms ++ [x] := by
  unfold cutZ
  rw [List.reverse_append]
  show ((x :: ms.reverse).dropWhile (· == 0)).reverse = _
  rw [List.dropWhile_cons, if_neg (by simpa using h), List.reverse_cons, List.reverse_reverse]
/-- a list is empty or has a last one -/
theorem snoc_cases {α : Type} (ms : List α) : ms = [] ∨ ∃ r x, ms = r ++ [x] := by
  rcases List.eq_nil_or_concat ms with h | ⟨r, x, h⟩
  · exact .inl h
  · exact .inr ⟨r, x, by rw [h]; simp [List.concat_eq_append]⟩
/-- the value at n -/
def val (ns : List Int) (n : Int) : Int := ns.foldr (fun c v => v * n + c) 0
theorem val_cons (c : Int) (ns : List Int) (n : Int) : val (c :: ns) n = val ns n * n + c := rfl
theorem val_snoc0 (n : Int) : ∀ ms : List Int, val (ms ++ [0]) n = val ms n
  | [] => by
    show (0 : Int) * n + 0 = 0
    omega
  | c :: ms => by
    rw [List.cons_append, val_cons, val_snoc0 n ms, val_cons]
theorem snoc_ind {P : List Int → Prop} (h0 : P []) (h1 : ∀ r x, P r → P (r ++ [x])) : ∀ (k : Nat) (ms : List Int), ms.length = k → P ms
  | 0, ms, h => by
    rw [List.eq_nil_of_length_eq_zero h]
    exact h0
  | k + 1, ms, h => by
    rcases snoc_cases ms with rfl | ⟨r, x, rfl⟩
    · exact h0
    · exact h1 r x (snoc_ind h0 h1 k r (by rw [List.length_append] at h; simpa using h))
theorem val_cut (n : Int) (ns : List Int) : val (cutZ ns) n = val ns n := by
  refine snoc_ind (P := fun ms => val (cutZ ms) n = val ms n) rfl (fun r x ih => ?_) _ ns rfl
  by_cases h : x = 0
  · subst h
    rw [cutZ_snoc0, val_snoc0, ih]
  · rw [cutZ_snoc r h]
theorem cut_len (ns : List Int) : (cutZ ns).length ≤ ns.length := by
  unfold cutZ
  rw [List.length_reverse, ← List.length_reverse (as := ns)]
  exact (List.dropWhile_sublist _).length_le
theorem cut_mem {ns : List Int} {x : Int} (h : x ∈ cutZ ns) : x ∈ ns := by
  unfold cutZ at h
  have h1 := List.mem_reverse.mp h
  exact List.mem_reverse.mp ((List.dropWhile_sublist _).subset h1)
/-- the last one of what is left is not 0 -/
theorem cut_last (ns : List Int) : cutZ ns = [] ∨ ∃ r x, cutZ ns = r ++ [x] ∧ x ≠ 0 := by
  refine snoc_ind (P := fun ms => cutZ ms = [] ∨ ∃ r x, cutZ ms = r ++ [x] ∧ x ≠ 0) (.inl rfl) (fun r x ih => ?_) _ ns rfl
  by_cases h : x = 0
  · subst h
    rw [cutZ_snoc0]
    exact ih
  · exact .inr ⟨r, x, cutZ_snoc r h, h⟩
theorem cut_prefix (ns : List Int) : cutZ ns = ns.take (cutZ ns).length := by
  refine snoc_ind (P := fun ms => cutZ ms = ms.take (cutZ ms).length) rfl (fun r x ih => ?_) _ ns rfl
  by_cases h : x = 0
  · subst h
    rw [cutZ_snoc0, List.take_append_of_le_length (cut_len r)]
    exact ih
  · rw [cutZ_snoc r h, List.take_length]
theorem pow_mono2 {a b : Nat} (h : a ≤ b) : (2 : Int) ^ a ≤ 2 ^ b := by
  have z : ((2 ^ a : Nat) : Int) ≤ ((2 ^ b : Nat) : Int) := Int.ofNat_le.mpr (Nat.pow_le_pow_right (by decide) h)
  simpa using z
/-- sizes: coefficients below 2 ^ 70, at a place below 2 ^ m -/
theorem val_nn {n : Int} (hn : 0 ≤ n) : ∀ {ns : List Int}, (∀ c ∈ ns, okC c) → 0 ≤ val ns n
  | [], _ => Int.le_refl 0
  | c :: ns, h => by
    rw [val_cons]
    have h1 := val_nn hn (ns := ns) fun x hx => h x (List.mem_cons_of_mem _ hx)
    have h2 := (h c List.mem_cons_self).1
    have h3 := Int.mul_nonneg h1 hn
    omega
theorem val_lt {n : Int} {m : Nat} (hn : 0 ≤ n) (hm : n < 2 ^ m) : ∀ {ns : List Int}, (∀ c ∈ ns, okC c) → val ns n < 2 ^ (70 + ns.length * (m + 1))
  | [], _ => by
    show (0 : Int) < 2 ^ (70 + 0 * (m + 1))
    exact Int.pow_pos (by decide)
  | c :: ns, h => by
    rw [val_cons]
    have hns : ∀ c ∈ ns, okC c := fun x hx => h x (List.mem_cons_of_mem _ hx)
    have h1 := val_lt hn hm hns
    have h0 := val_nn hn hns
    have h2 := (h c List.mem_cons_self)
    have e : 70 + (c :: ns).length * (m + 1) = (70 + ns.length * (m + 1)) + m + 1 := by
      rw [List.length_cons, Nat.add_mul]
      omega
    rw [e, Int.pow_succ, Int.pow_add]
    have h3 : val ns n * n ≤ 2 ^ (70 + ns.length * (m + 1)) * 2 ^ m := Int.mul_le_mul (by omega) (by omega) hn (Int.le_of_lt (Int.pow_pos (by decide)))
    have h4 : (2 : Int) ^ 70 ≤ 2 ^ (70 + ns.length * (m + 1)) * 2 ^ m := by
      rw [← Int.pow_add]
      exact pow_mono2 (by omega)
    have h5 : c < 2 ^ 70 := Int.lt_trans h2.2 (by decide)
    omega
end Qp

namespace Qp
open PySem PySem.Spec PyProof.Rows L2 QN
def ds (ns : List Int) : List PyData := ns.map PyData.int
theorem dps {K : PySem.W.Frag} {H : Hp} : ∀ ns : List Int, DpAll K H (iv ns) (ds ns)
  | [] => .nil
  | n :: ns => .cons (.int n) (dps ns)
theorem lay_ds : ∀ ns : List Int, PyData.canLayAll0 (ds ns) = true
  | [] => rfl
  | n :: ns => by
    show (true && PyData.canLayAll0 (ds ns)) = true
    rw [lay_ds ns]
    rfl
theorem depth_ds : ∀ ns : List Int, PyData.depthAll (ds ns) = 0
  | [] => rfl
  | n :: ns => by
    show max 0 (PyData.depthAll (ds ns)) = 0
    rw [depth_ds ns]
    rfl
theorem shaped_lst (ns : List Int) : SeqAt.shaped (.list (ds ns)) = true := by
  show (PyData.canLayAll0 (ds ns) && decide (PyData.depthAll (ds ns) + 1 ≤ 64)) = true
  rw [lay_ds, depth_ds]
  rfl
theorem shaped_tup (ns : List Int) : SeqAt.shaped (.tuple (ds ns)) = true := by
  show (PyData.canLayAll0 (ds ns) && decide (PyData.depthAll (ds ns) + 1 ≤ 64)) = true
  rw [lay_ds, depth_ds]
  rfl
theorem eqv_nil (ns : List Int) : PyData.eqv (.list (ds ns)) (.list []) = decide (ns = []) := by
  cases ns with
  | nil => rfl
  | cons n ns => simp [PyData.eqv, PyData.eqvAll, ds]
abbrev sCut : Stmt := top 34 -- _law_cut
theorem scCut : FnScope ["_law_some", "_law_found"] ["_law_some"] (defScope sCut) := ⟨rfl, rfl, rfl, by decide +kernel, rfl, by decide +kernel, by decide +kernel⟩
def spCut (K : PySem.W.Frag) : Sp := fun vs H Q _ => ∃ (a : Addr) (ns : List Int), vs = [.ref a] ∧ (SqL K H a (iv ns) ∨ SqT K H a (iv ns)) ∧ ∀ (q : Addr) (H' : Hp), Same H H' → SqT K H' q (iv (cutZ ns)) → Q (.ref q) H'
section
variable {P : Program} {w : World} {K : PySem.W.Frag} {mg : Str → Option Value} {base : Heap}
theorem ok_cut {f : Addr} {fd : FuncData} (F : Fun K "_law_cut" "_law_cut" sCut f fd) (B2 : Blt2 mg) : FnOk P w K mg base CX0 1 f fd ["_law_some"] (spCut K) := by
  refine F.ok scCut (fun vs H Q E h => ?_) (fun cdv A outer s H vs Q E hr h => ?_)
  · obtain ⟨a, ns, rfl, _⟩ := h
    rfl
  · obtain ⟨a, ns, rfl, ha, k⟩ := h
    have hu : (A.deeper (envOfC "_law_cut" (defScope sCut) s.heap.objs.size f cdv)).units + 64 < cLine := by
      have := hr.un
      omega
    refine ⟨_, pss_cons (ps_set (i := 1) scCut.nd rfl (.inl rfl) (pe_callTy call_list_of (by rfl) B2.li (by decide +kernel) (pa_cons (pv 0) pa_nil)))
      (pss_cons (ps_while PassesOwn.never (PW.pt (pw_and (pt_cmpR (op_neD hu) (pv 1) (pe_lst pa_nil) (nomark _)) (pw_and1 (pt_cmpR op_eq (pe_ix ix_list (pv 1) (pe_un un_neg pe_int) (fun _ _ => rfl)) pe_int (nomark _)))))
        (pss_one (ps_expr (pe_bm0 PySem.F.plainAttrs_list PySem.F.slot_list_pop PySem.F.type_list_pop mt_pop (pv 1)))))
      (pss_one (ps_ret (pe_callTy call_tuple_of (by rfl) B2.tu (by decide +kernel) (pa_cons (pv 1) pa_nil))))), ?_⟩
    refine ⟨.ref a, rfl, a, _, rfl, ha, fun L hL => ?_⟩
    have s0 := same_new (o := .lst (iv ns)) hL
    refine ⟨fun m σ H' => ∃ ms, σ = [some (.ref a), some (.ref L)] ∧ H' L = some (.lst (iv ms)) ∧ ms.length = m ∧ cutZ ms = cutZ ns ∧ Same H H', ⟨ns.length, ns, rfl, upd_same, rfl, rfl, s0⟩, ?_⟩
    rintro m σ H' ⟨ms, rfl, hL', rfl, hc, sm⟩
    refine ⟨.ref L, rfl, by decide, fun e he => ?_⟩
    have se := same_new (o := .lst []) he
    have nLe : L ≠ e := fun z => by
      rw [← z, hL'] at he
      cases he
    refine ⟨.list (ds ms), .list [], .lst (.inl (.inl (se _ _ hL'))) (dps ms), .lst (.inl (.inl upd_same)) .nil, shaped_lst ms, (by decide +kernel), _, rfl, ?_⟩
    rw [eqv_nil]
    rcases snoc_cases ms with rfl | ⟨r, x, rfl⟩
    · refine if_no (by decide) (if_no Bool.false_ne_true ⟨.ref L, rfl, L, _, rfl, .inl ⟨.inl (.inl (se _ _ hL')), fun q hq => ?_⟩⟩)
      refine k q _ (sm.trans (se.trans (same_new hq))) (.inl (.inl ?_))
      rw [upd_same, ← hc]
      rfl
    · have ir : iv (r ++ [x]) = iv r ++ [.int x] := by
        unfold iv
        rw [List.map_append]
        rfl
      refine if_yes (by simp) ⟨.ref L, rfl, 1, rfl, L, _, -1, .int x, rfl, rfl, .inl (.inl (se _ _ hL')), (by rw [ir]; exact atI_last _ _), rfl, _, rfl, ?_⟩
      by_cases hx : x = 0
      · subst hx
        refine if_yes (by decide) ⟨fun σ' H2 => σ' = [some (.ref a), some (.ref L)] ∧ H2 L = some (.lst (iv r)) ∧ cutZ r = cutZ ns ∧ Same H H2, fun σ' H2 ⟨h1, h2, h3, h4⟩ => ⟨r.length, by rw [List.length_append]; exact Nat.lt_succ_self _, r, h1, h2, rfl, h3, h4⟩, ?_⟩
        refine ⟨.ref L, rfl, .inl ⟨rfl, _, .inl (.inl (se _ _ hL'))⟩, L, _, .int 0, rfl, rfl, se _ _ hL', ?_, rfl, ?_, ?_, ?_⟩
        · rw [ir, List.length_append]
          show (iv r ++ [V.int 0])[(iv r).length + 1 - 1]? = _
          rw [Nat.add_sub_cancel, List.getElem?_append_right (Nat.le_refl _), Nat.sub_self]
          rfl
        · rw [upd_same, ir, List.dropLast_concat]
        · rw [← hc, cutZ_snoc0]
        · intro b o e
          by_cases c : b = L
          · subst c
            rw [hL] at e
            cases e
          · rw [upd_ne c]
            exact se _ _ (sm _ _ e)
      · refine if_no (by simpa using hx) ⟨.ref L, rfl, L, _, rfl, .inl ⟨.inl (.inl (se _ _ hL')), fun q hq => ?_⟩⟩
        refine k q _ (sm.trans (se.trans (same_new hq))) (.inl (.inl ?_))
        rw [upd_same, ← hc, cutZ_snoc r hx]
end
end Qp

namespace Qp
open PySem PySem.Spec PyProof.Rows L2 QN
theorem abs_lt {v : Int} {a : Nat} (h0 : 0 ≤ v) (h : v < 2 ^ a) : v.natAbs < 2 ^ a := by
  have e : ((v.natAbs : Nat) : Int) = v := by omega
  have z : ((v.natAbs : Nat) : Int) < ((2 ^ a : Nat) : Int) := by
    rw [e]
    simpa using h
  exact Int.ofNat_lt.mp z
/-- these coefficients may be reckoned with at n -/
structure Fit (ns : List Int) (n : Int) : Prop where
  ok : ∀ c ∈ ns, okC c
  nn : 0 ≤ n
  sz : ∃ m, n < 2 ^ m ∧ 0 < m ∧ 70 + ns.length * (m + 1) + m ≤ 1000000
theorem Fit.mul {ns : List Int} {n : Int} (F : Fit ns n) (k : Nat) : CMulW (val (ns.drop k) n) n := by
  obtain ⟨m, hm, m0, hs⟩ := F.sz
  have okd : ∀ c ∈ ns.drop k, okC c := fun c hc => F.ok c (List.mem_of_mem_drop hc)
  have l1 : (ns.drop k).length * (m + 1) ≤ ns.length * (m + 1) := Nat.mul_le_mul_right _ (by rw [List.length_drop]; omega)
  exact wide_mul (a := 70 + (ns.drop k).length * (m + 1)) (b := m) (abs_lt (val_nn F.nn okd) (val_lt F.nn hm okd)) (abs_lt F.nn hm) (by omega) m0 (by omega)
theorem rev_at {ns : List Int} {i : Nat} {x : V} (h : (iv ns).reverse[i]? = some x) : ∃ c, x = .int c ∧ i < ns.length ∧ ns.drop (ns.length - (i + 1)) = c :: ns.drop (ns.length - i) := by
  have hl : (iv ns).length = ns.length := by unfold iv; rw [List.length_map]
  have hi : i < ns.length := by
    have z := (List.getElem?_eq_some_iff.mp h).1
    rw [List.length_reverse, hl] at z
    exact z
  rw [List.getElem?_reverse (by rw [hl]; exact hi), hl] at h
  unfold iv at h
  rw [List.getElem?_map] at h
  have hj : ns.length - 1 - i < ns.length := by omega
  rw [List.getElem?_eq_getElem hj] at h
  refine ⟨ns[ns.length - 1 - i], (Option.some.inj h).symm, hi, ?_⟩
  have e1 : ns.length - (i + 1) = ns.length - 1 - i := by omega
  have e2 : ns.length - i = ns.length - 1 - i + 1 := by omega
  rw [e1, e2]
  exact List.drop_eq_getElem_cons hj
def spWorth (K : PySem.W.Frag) : Sp := fun vs H Q _ => ∃ (a : Addr) (ns : List Int) (n : Int), vs = [.ref a, .int n] ∧ SqT K H a (iv ns) ∧ Fit ns n ∧ ∀ (H' : Hp), Same H H' → Q (.int (val ns n)) H'
section
variable {P : Program} {w : World} {K : PySem.W.Frag} {mg : Str → Option Value} {base : Heap}
end
end Qp

/-! the program's functions -/
namespace Qp
open PySem PySem.Spec PyProof.Rows L2 QN
/-- what is no number -/
def NotNum (K : PySem.W.Frag) (H : Hp) (v : V) : Prop := ∃ (t : Value) (bi : Bool), TyX K H v t ∧ PySem.W.kitOne K t (.type "int") = some bi ∧ (bi = true → PySem.W.kitOne K t (.type "bool") = some true)
theorem notNum_non {K : PySem.W.Frag} {H : Hp} : NotNum K H .non := ⟨_, false, .base .non, kit_ty (by decide +kernel), fun z => by cases z⟩
theorem notNum_bl {K : PySem.W.Frag} {H : Hp} (c : Bool) : NotNum K H (.bl c) := ⟨_, true, .base (.bl c), kit_ty (by decide +kernel), fun _ => kit_ty (by decide +kernel)⟩
theorem notNum_str {K : PySem.W.Frag} {H : Hp} (z : Str) : NotNum K H (.str z) := ⟨_, false, .base (.str z), kit_ty (by decide +kernel), fun z => by cases z⟩
theorem tyx_tup {K : PySem.W.Frag} {H : Hp} {q : Addr} {xs : List V} (h : SqT K H q xs) : TyX K H (.ref q) (.type "tuple") := by
  rcases h with (h | ⟨o, h⟩) | ⟨o, its, n, h1, h2, _⟩
  · exact .base (.tup h)
  · exact .fTuple h
  · exact .kTuple h1 h2
theorem notNum_tup {K : PySem.W.Frag} {H : Hp} {q : Addr} {xs : List V} (h : SqT K H q xs) : NotNum K H (.ref q) := ⟨_, false, tyx_tup h, kit_ty (by decide +kernel), fun z => by cases z⟩
abbrev sIsI : Stmt := top 7 -- is_integer
theorem scIsI : FnScope ["value"] ["value"] (defScope sIsI) := ⟨rfl, rfl, rfl, by decide +kernel, rfl, by decide +kernel, by decide +kernel⟩
abbrev sIsN : Stmt := top 8 -- is_natural
theorem scIsN : FnScope ["value"] ["value"] (defScope sIsN) := ⟨rfl, rfl, rfl, by decide +kernel, rfl, by decide +kernel, by decide +kernel⟩
abbrev sChk : Stmt := top 11 -- check_number
theorem scChk : FnScope ["number"] ["number"] (defScope sChk) := ⟨rfl, rfl, rfl, by decide +kernel, rfl, by decide +kernel, by decide +kernel⟩
abbrev sWz : Stmt := top 14 -- _without_zeros
theorem scWz : FnScope ["coefficients", "many"] ["coefficients"] (defScope sWz) := ⟨rfl, rfl, rfl, by decide +kernel, rfl, by decide +kernel, by decide +kernel⟩
def spIsI (K : PySem.W.Frag) : Sp := fun vs H Q _ => ∃ v, vs = [v] ∧ ((∃ n, v = .int n ∧ Q (.bl true) H) ∨ (NotNum K H v ∧ Q (.bl false) H))
def NumV (K : PySem.W.Frag) (H : Hp) (v : V) (b : Bool) : Prop := (∃ n : Int, v = .int n ∧ b = decide (0 ≤ n)) ∨ (b = false ∧ NotNum K H v)
theorem numV_nat {K : PySem.W.Frag} {H : Hp} {n : Int} (h : 0 ≤ n) : NumV K H (.int n) true := .inl ⟨n, rfl, (decide_eq_true h).symm⟩
def spIsN (K : PySem.W.Frag) : Sp := fun vs H Q _ => ∃ v b, vs = [v] ∧ NumV K H v b ∧ Q (.bl b) H
def spChk : Sp := fun vs H Q _ => ∃ n : Int, vs = [.int n] ∧ 0 ≤ n ∧ Q .non H
structure BltP (mg : Str → Option Value) : Prop where
  isi : mg "isinstance" = none
  int : mg "int" = none
  bool : mg "bool" = none
  tuple : mg "tuple" = none
  len : mg "len" = none
  all : mg "all" = none
section
variable {P : Program} {w : World} {K : PySem.W.Frag} {mg : Str → Option Value} {base : Heap}
theorem ok_isI {f : Addr} {fd : FuncData} (F : Fun K "is_integer" "is_integer" sIsI f fd) (B : BltP mg) : FnOk P w K mg base CX0 1 f fd ["value"] (spIsI K) := by
  refine F.ok scIsI (fun vs H Q E h => ?_) (fun cdv A outer s H vs Q E hr h => ?_)
  · obtain ⟨v, rfl, _⟩ := h
    rfl
  · obtain ⟨v, rfl, h⟩ := h
    refine ⟨_, pss_one (ps_ret (pe_and (pe_callB call_isi (by rfl) B.isi (by decide +kernel) (pa_cons (pv 0) (pa_cons (pe_bltn (v := .ty "int") (by rfl) B.int (by decide +kernel) rfl) pa_nil)))
      (pe_one (pe_not (pe_callB call_isi (by rfl) B.isi (by decide +kernel) (pa_cons (pv 0) (pa_cons (pe_bltn (v := .ty "bool") (by rfl) B.bool (by decide +kernel) rfl) pa_nil))))))), ?_⟩
    rcases h with ⟨n, rfl, k⟩ | ⟨⟨t, bi, ht, h1, h2⟩, k⟩
    · refine ⟨_, rfl, _, _, _, _, true, rfl, .ty _, .base (.int n), kit_ty (by decide +kernel), _, rfl, if_yes rfl ?_⟩
      exact ⟨_, rfl, _, _, _, _, false, rfl, .ty _, .base (.int n), kit_ty (by decide +kernel), _, rfl, k⟩
    · cases bi with
      | false => exact ⟨_, rfl, _, _, _, _, false, rfl, .ty _, ht, h1, _, rfl, if_no Bool.false_ne_true k⟩
      | true =>
        refine ⟨_, rfl, _, _, _, _, true, rfl, .ty _, ht, h1, _, rfl, if_yes rfl ?_⟩
        exact ⟨_, rfl, _, _, _, _, true, rfl, .ty _, ht, h2 rfl, _, rfl, k⟩
theorem ok_isN {f fI : Addr} {fd fdI : FuncData} (F : Fun K "is_natural" "is_natural" sIsN f fd) (FI : Fun K "is_integer" "is_integer" sIsI fI fdI) (bI : L2.Binds K fdI ["value"] []) (gI : mg "is_integer" = some (.ref fI)) (B : BltP mg) :
    FnOk P w K mg base CX0 2 f fd ["value"] (spIsN K) := by
  have GI : FnOk P w K mg base CX0 1 fI fdI ["value"] (spIsI K) := ok_isI FI B
  refine F.ok scIsN (fun vs H Q E h => ?_) (fun cdv A outer s H vs Q E hr h => ?_)
  · obtain ⟨v, b, rfl, _⟩ := h
    rfl
  · obtain ⟨v, b, rfl, h, k⟩ := h
    refine ⟨_, pss_one (ps_ret (pe_and (pe_call GI hr (by rfl) gI FI.kp bI .nil pass0 (pa_cons (pv 0) pa_nil)) (pe_one (pe_cmp (pc_ge (pv 0) pe_int) rfl)))), ?_⟩
    rcases h with ⟨n, rfl, rfl⟩ | ⟨rfl, h⟩
    · refine ⟨_, rfl, _, rfl, .inl ⟨n, rfl, _, rfl, if_yes rfl ⟨_, rfl, _, _, rfl, rfl, k⟩⟩⟩
    · exact ⟨_, rfl, _, rfl, .inr ⟨h, _, rfl, if_no Bool.false_ne_true k⟩⟩
theorem ok_chk {f fN : Addr} {fd fdN : FuncData} (F : Fun K "check_number" "check_number" sChk f fd) (GN : FnOk P w K mg base CX0 2 fN fdN ["value"] (spIsN K)) (kN : PySem.W.keepIn K (.ref fN) = true) (bN : L2.Binds K fdN ["value"] []) (gN : mg "is_natural" = some (.ref fN)) :
    FnOk P w K mg base CX0 3 f fd ["number"] spChk := by
  refine F.ok scChk (fun vs H Q E h => ?_) (fun cdv A outer s H vs Q E hr h => ?_)
  · obtain ⟨n, rfl, _⟩ := h
    rfl
  · obtain ⟨n, rfl, h0, k⟩ := h
    refine ⟨_, pss_one (ps_if (pt_not (pt_val (pe_call GN hr (by rfl) gN kN bN .nil pass0 (pa_cons (pv 0) pa_nil)))) (pss_one ps_never) pss_nil), ?_⟩
    exact ⟨_, rfl, _, true, rfl, numV_nat h0, _, rfl, if_no (by decide) k⟩
/-- _without_zeros -/
def spWz (K : PySem.W.Frag) : Sp := fun vs H Q _ => ∃ (a : Addr) (ns : List Int), vs = [.ref a] ∧ SqT K H a (iv ns) ∧ ∀ (q : Addr) (H' : Hp), Same H H' → SqT K H' q (iv (cutZ ns)) → Q (.ref q) H'
theorem iv_len (ns : List Int) : (iv ns).length = ns.length := by unfold iv; rw [List.length_map]
theorem ok_wz {f : Addr} {fd : FuncData} (F : Fun K "_without_zeros" "_without_zeros" sWz f fd) (B : BltP mg) : FnOk P w K mg base CX0 1 f fd ["coefficients"] (spWz K) := by
  refine F.ok scWz (fun vs H Q E h => ?_) (fun cdv A outer s H vs Q E hr h => ?_)
  · obtain ⟨a, ns, rfl, _⟩ := h
    rfl
  · obtain ⟨a, ns, rfl, ha, k⟩ := h
    refine ⟨_, pss_cons (ps_set (i := 1) scWz.nd rfl (.inl rfl) (pe_callB call_len_seq (by rfl) B.len PySem.boot_len (pa_cons (pv 0) pa_nil)))
      (pss_cons (ps_while PassesOwn.never (PW.pt (pw_and (pt_cmpR op_gt (pv 1) pe_int (nomark _)) (pw_and1 (pt_cmpR op_eq (pe_ix ix_tup (pv 0) (pe_op op_sub (pv 1) pe_int) (fun _ _ => rfl)) pe_int (nomark _)))))
        (pss_one (ps_set (i := 1) scWz.nd rfl (.inl rfl) (pe_op op_sub (pv 1) pe_int))))
      (pss_one (ps_ret (pe_slice sl_tupA (pv 0) po_none (po_some (pv 1)))))), ?_⟩
    refine ⟨_, rfl, a, _, rfl, .inr ha, ?_⟩
    refine ⟨fun m σ H' => σ = [some (.ref a), some (.int (m : Int))] ∧ m ≤ ns.length ∧ cutZ (ns.take m) = cutZ ns ∧ H' = H, ⟨ns.length, by rw [iv_len]; rfl, Nat.le_refl _, by rw [List.take_length], rfl⟩, ?_⟩
    rintro m σ H' ⟨rfl, hm, hc, rfl⟩
    have out : cutZ ns = ns.take m → rSlA K (.ref a) none (some (m : Int)) H' Q := fun e => by
      refine ⟨a, _, rfl, ha, fun hw => k a H' (Same.refl _) ?_, fun hw q hq => k q _ (same_new hq) (.inl (.inl ?_))⟩
      · rw [e]
        have e1 : m = ns.length := by
          have z := hw.2
          rw [HT.sIx_nat, iv_len] at z
          omega
        rw [e1, List.take_length]
        exact ha
      · rw [upd_same, e]
        unfold cutV
        rw [HT.sIx_none, HT.sIx_nat, iv_len, Nat.min_eq_left hm, List.drop_zero, Nat.sub_zero]
        unfold iv
        rw [List.map_take]
    cases m with
    | zero =>
      refine ⟨_, rfl, _, _, rfl, rfl, _, rfl, if_no (by decide) (if_no Bool.false_ne_true ?_)⟩
      exact ⟨_, rfl, _, rfl, _, rfl, out hc.symm⟩
    | succ j =>
      have hj : j < ns.length := hm
      have ej : ((j + 1 : Nat) : Int) - 1 = (j : Int) := by omega
      have at_ : (iv ns)[j]? = some (.int ns[j]) := by
        unfold iv
        rw [List.getElem?_map, List.getElem?_eq_getElem hj]
        rfl
      have tk : ns.take (j + 1) = ns.take j ++ [ns[j]] := by rw [List.take_add_one, List.getElem?_eq_getElem hj]; rfl
      refine ⟨_, rfl, _, _, rfl, rfl, _, rfl, if_yes (decide_eq_true (by omega)) ⟨_, rfl, _, rfl, _, _, rfl, rfl, a, _, _, .int ns[j], rfl, rfl, ha, ?_, rfl, _, rfl, ?_⟩⟩
      · rw [ej]
        exact atI_nat at_
      by_cases h0 : ns[j] = 0
      · refine if_yes (by rw [h0]; decide) ⟨fun σ' H2 => σ' = [some (.ref a), some (.int (j : Int))] ∧ H2 = H', fun σ' H2 ⟨h1, h2⟩ => ⟨j, Nat.lt_succ_self _, h1, Nat.le_of_lt hj, ?_, h2⟩, ?_⟩
        · rw [← hc, tk, h0, cutZ_snoc0]
        · refine ⟨_, rfl, _, _, rfl, rfl, ?_, rfl⟩
          show [some (V.ref a), some (V.int (((j + 1 : Nat) : Int) - 1))] = _
          rw [ej]
      · refine if_no (by simpa using h0) ?_
        refine ⟨_, rfl, _, rfl, _, rfl, out ?_⟩
        rw [← hc, tk, cutZ_snoc _ h0]
end
end Qp

/-! the class Polynomial -/
namespace Qp
open PySem PySem.Spec PyProof.Rows L2 QN
abbrev cPoly : Stmt := top 28 -- Polynomial
abbrev sInit : Stmt := inClass cPoly 0 -- Polynomial.__init__
abbrev sOf : Stmt := inClass cPoly 1 -- Polynomial.of
abbrev sDeg : Stmt := inClass cPoly 3 -- Polynomial.degree
abbrev initNames : List Str := ["self", "coefficients", "number"]
theorem scInit : FnScope initNames ["self", "coefficients"] (defScope sInit) := ⟨rfl, rfl, rfl, by decide +kernel, rfl, by decide +kernel, by decide +kernel⟩
theorem scOf : FnScope ["cls", "coefficients"] ["cls", "coefficients"] (defScope sOf) := ⟨rfl, rfl, rfl, by decide +kernel, rfl, by decide +kernel, by decide +kernel⟩
theorem scDeg : FnScope ["self"] ["self"] (defScope sDeg) := ⟨rfl, rfl, rfl, by decide +kernel, rfl, by decide +kernel, by decide +kernel⟩
/-- what the class has -/
structure PolyC (K : PySem.W.Frag) (mg : Str → Option Value) (C : Addr) : Prop where
  gC : mg "Polynomial" = some (.ref C)
  cls : Cls K C
  noF : NoAttr K C "_coefficients"
/-- the polynomial with these coefficients stands at p -/
def PolyAt (K : PySem.W.Frag) (C : Addr) (H : Hp) (p : Addr) (ns : List Int) : Prop := ∃ dx t, H p = some (.ins C dx [("_coefficients", .ref t)]) ∧ SqT K H t (iv ns)
theorem polyAt_same {K : PySem.W.Frag} {C : Addr} {H H' : Hp} {p : Addr} {ns : List Int} (s : Same H H') (h : PolyAt K C H p ns) : PolyAt K C H' p ns := by
  obtain ⟨dx, t, h1, h2⟩ := h
  exact ⟨dx, t, s _ _ h1, sqT_same s h2⟩
/-- __init__ of natural coefficients: the object at x, still without fields -/
def spInit (K : PySem.W.Frag) (C : Addr) : Sp := fun vs H Q _ => ∃ (x dx : Addr) (ns : List Int), vs = .ref x :: iv ns ∧ H x = some (.ins C dx []) ∧ (∀ c ∈ ns, 0 ≤ c) ∧ ns.length ≤ 1000 ∧
  ∀ (t : Addr) (H' : Hp), H' x = some (.ins C dx [("_coefficients", .ref t)]) → SqT K H' t (iv (cutZ ns)) → But x H H' → Q .non H'
theorem yes_if {σ : L2.St} {H : Hp} {A B : Hp → Prop} (a : A H) : tYes σ H (fun b H3 => if b = true then A H3 else B H3) := by
  show (if true = true then A H else B H)
  rw [if_pos rfl]
  exact a
section
variable {P : Program} {w : World} {K : PySem.W.Frag} {mg : Str → Option Value} {base : Heap}
theorem ok_init {oc : Value} {od : Option Addr} {kV doc pm cdv ct : Value} {an : Option Addr} {osl : Array (Option Value)} {f fN fW C : Addr} {fdN fdW : FuncData}
    (lk : K.lookup f = some ⟨oc, od, .func (PySem.W.fnOf "__init__" "Polynomial.__init__" (defArgs sInit) (defBody sInit) (defScope sInit) .none kV doc pm an cdv ct), osl⟩) (hcd : PySem.W.codeIn K cdv "Polynomial.__init__" = true)
    (GN : FnOk P w K mg base CX0 2 fN fdN ["value"] (spIsN K)) (kN : PySem.W.keepIn K (.ref fN) = true) (bN : L2.Binds K fdN ["value"] []) (gN : mg "is_natural" = some (.ref fN))
    (GW : FnOk P w K mg base CX0 1 fW fdW ["coefficients"] (spWz K)) (kW : PySem.W.keepIn K (.ref fW) = true) (bW : L2.Binds K fdW ["coefficients"] []) (gW : mg "_without_zeros" = some (.ref fW))
    (B : BltP mg) (T : PolyC K mg C) : FnR P w K mg base CX0 3 f (spInit K C) := by
  refine FnR.imp (StX.fn_star (ps := ["self"]) (pv := "coefficients") (sp := fun vs H Q E => ∃ (x dx a : Addr) (ns : List Int), vs = [.ref x, .ref a] ∧ H a = some (.tup (iv ns)) ∧ H x = some (.ins C dx []) ∧ (∀ c ∈ ns, 0 ≤ c) ∧ ns.length ≤ 1000 ∧
    ∀ (t : Addr) (H' : Hp), H' x = some (.ins C dx [("_coefficients", .ref t)]) → SqT K H' t (iv (cutZ ns)) → But x H H' → Q .non H') lk hcd scInit ?up (fun us rest hl => ?bind) (fun A outer s H vs Q E hr h => ?body)) ?imp
  case up => exact StX.cxUp_none
  case bind =>
    match us, hl with
    | [u], _ =>
      cases rest with
      | nil => with_unfolding_all rfl
      | cons r rs => with_unfolding_all rfl
  case imp =>
    intro vs H Q E h
    obtain ⟨x, dx, ns, rfl, hx, h0, hl, k⟩ := h
    refine ⟨[.ref x], iv ns, rfl, rfl, ?_, fun p hp => ⟨x, dx, p, ns, rfl, upd_same, ?_, h0, hl, fun t H' h1 h2 b => k t H' h1 h2 fun b' o nb e => b b' o nb ?_⟩⟩
    · rw [iv_len, sizeLine_eq]
      omega
    · rw [upd_ne fun c => by rw [c, hp] at hx; cases hx]
      exact hx
    · rw [upd_ne fun c => by rw [c, hp] at e; cases e]
      exact e
  case body =>
    obtain ⟨x, dx, a, ns, rfl, ha, hx, h0, hl, k⟩ := h
    have hr1 := hr.mono (by decide : 1 ≤ 2)
    refine ⟨_, pss_cons (ps_if (pt_not (pt_val (pe_callB (cr_all rfl) (by rfl) B.all (by decide +kernel) (pa_cons (pe_lc (own := [("number", 2)]) (g := gName 2) (tt := tYes) rfl scInit.nd (pi_tup (pv 1)) (blkOk_by (N := initNames) (sc := defScope sInit) (by decide +kernel))
        (fun _ _ _ _ _ => pg_name (i := 2) scInit.nd rfl (.inl rfl)) (fun _ _ _ _ _ => pts_nil) (fun _ _ _ _ _ => pe_call GN hr (by rfl) gN kN bN .nil pass0 (pa_cons (pv 2) pa_nil))) pa_nil)))) (pss_one ps_never) pss_nil)
      (pss_one (ps_fld (pv 0) (pe_call GW hr1 (by rfl) gW kW bW .nil pass0 (pa_cons (pv 1) pa_nil)) rfl)), ?_⟩
    refine ⟨.ref a, rfl, a, rfl, ⟨_, .inl (.inl ha)⟩, fun D hD => ?_⟩
    have nDa : D ≠ a := (fun c => by rw [c, ha] at hD; cases hD)
    refine lc_tup (xs := iv ns) (fun i H' => Same H H' ∧ H' D = some (.lst (List.replicate i (.bl true)))) ⟨same_new hD, upd_same⟩ (fun i H' _ hV => .inl (.inl (hV.1 _ _ ha))) (fun i v H' hv hV => ?_) fun H' hV => ?_
    · obtain ⟨sm, hD'⟩ := hV
      unfold iv at hv
      rw [List.getElem?_map] at hv
      cases hc : ns[i]? with
      | none => rw [hc] at hv; cases hv
      | some c =>
        rw [hc] at hv
        have ev : V.int c = v := Option.some.inj hv
        subst ev
        have hi : i < ns.length := (List.getElem?_eq_some_iff.mp hc).1
        refine ⟨rfl, yes_if ⟨_, rfl, _, true, rfl, numV_nat (h0 c (List.mem_of_getElem? hc)), _, hD', ?_, ?_, ?_⟩⟩
        · rw [List.length_replicate, sizeLine_eq]
          omega
        · intro b o e
          by_cases hb : b = D
          · subst hb
            rw [hD] at e
            cases e
          · rw [upd_ne hb]
            exact sm _ _ e
        · rw [upd_same, ← List.replicate_succ']
    · obtain ⟨sm, hD'⟩ := hV
      rw [iv_len] at hD'
      refine ⟨D, List.replicate ns.length true, rfl, .inl (.inl (by rw [List.map_replicate]; exact hD')), _, rfl, if_no (by simp) ?_⟩
      refine ⟨.ref a, rfl, a, ns, rfl, .inl (.inl (sm _ _ ha)), fun q H2 s2 hq => ⟨_, rfl, x, C, dx, [], rfl, s2 _ _ (sm _ _ hx), T.cls, T.noF, by decide, ?_⟩⟩
      refine k q _ upd_same ?_ fun b o nb e => ?_
      · rcases hq with (hq | ⟨o, hq⟩) | hq
        · exact .inl (.inl (by rw [upd_ne fun c => by rw [c, s2 _ _ (sm _ _ hx)] at hq; cases hq]; exact hq))
        · exact .inl (.inr ⟨o, by rw [upd_ne fun c => by rw [c, s2 _ _ (sm _ _ hx)] at hq; cases hq]; exact hq⟩)
        · exact .inr hq
      · rw [upd_ne nb]
        exact s2 _ _ (sm _ _ e)
end
end Qp

namespace Qp
open PySem PySem.Spec PyProof.Rows L2 QN
def spOf (K : PySem.W.Frag) (C : Addr) : Sp := fun vs H Q _ => ∃ (a : Addr) (ns : List Int), vs = [.ref C, .ref a] ∧ SqT K H a (iv ns) ∧ (∀ c ∈ ns, 0 ≤ c) ∧ ns.length ≤ 1000 ∧ ∀ (p : Addr) (H' : Hp), Same H H' → PolyAt K C H' p (cutZ ns) → Q (.ref p) H'
def spDeg (K : PySem.W.Frag) (C : Addr) : Sp := fun vs H Q _ => ∃ (p : Addr) (ns : List Int), vs = [.ref p] ∧ PolyAt K C H p ns ∧ Q (.int ((ns.length : Int) - 1)) H
/-- behind a new object at x with its dict at dx -/
theorem same_made {H H' : Hp} {x dx C : Addr} (hx : H x = none) (hd : H dx = none) (b : But x (upd (upd H dx (.own x)) x (.ins C dx [])) H') : Same H H' := fun c o e => by
  have n1 : c ≠ x := fun z => by rw [z, hx] at e; cases e
  have n2 : c ≠ dx := fun z => by rw [z, hd] at e; cases e
  exact b c o n1 (by rw [upd_ne n1, upd_ne n2]; exact e)
section
variable {P : Program} {w : World} {K : PySem.W.Frag} {mg : Str → Option Value} {base : Heap}
theorem ok_of {f fI C : Addr} {fd : FuncData} (F : Fun K "of" "Polynomial.of" sOf f fd) (M : Mk K C fI) (GI : FnR P w K mg base CX0 3 fI (spInit K C)) (B : BltP mg) : FnOk P w K mg base CX0 5 f fd ["cls", "coefficients"] (spOf K C) := by
  refine F.ok scOf (fun vs H Q E h => ?_) (fun cdv A outer s H vs Q E hr h => ?_)
  · obtain ⟨a, ns, rfl, _⟩ := h
    rfl
  · obtain ⟨a, ns, rfl, ha, h0, hl, k⟩ := h
    refine ⟨_, pss_cons (ps_if (pt_not (pt_val (pe_callB call_isi (by rfl) B.isi (by decide +kernel) (pa_cons (pv 1) (pa_cons (pe_bltn (v := .ty "tuple") (by rfl) B.tuple (by decide +kernel) rfl) pa_nil))))) (pss_one ps_never) pss_nil)
      (pss_one (ps_ret (pe_makeS (i := 0) M GI hr rfl (.inl rfl) pass0 (pv 1)))), ?_⟩
    refine ⟨_, rfl, _, _, _, _, true, rfl, .ty _, tyx_tup ha, kit_ty (by decide +kernel), _, rfl, if_no (by decide) ?_⟩
    refine ⟨rfl, _, rfl, a, _, rfl, .inl ha, fun x dx hx hd ne => ⟨x, dx, ns, rfl, upd_same, h0, hl, fun t H' h1 h2 b => ⟨rfl, k x H' (same_made hx hd b) ⟨dx, t, h1, h2⟩⟩⟩⟩
theorem ok_deg {f C : Addr} {fd : FuncData} (F : Fun K "degree" "Polynomial.degree" sDeg f fd) (B : BltP mg) (T : PolyC K mg C) : FnOk P w K mg base CX0 1 f fd ["self"] (spDeg K C) := by
  refine F.ok scDeg (fun vs H Q E h => ?_) (fun cdv A outer s H vs Q E hr h => ?_)
  · obtain ⟨p, ns, rfl, _⟩ := h
    rfl
  · obtain ⟨p, ns, rfl, ⟨dx, t, hp, ht⟩, k⟩ := h
    refine ⟨_, pss_one (ps_ret (pe_op op_sub (pe_callB call_len_seq (by rfl) B.len PySem.boot_len (pa_cons (pe_fld (pv 0) rfl) pa_nil)) pe_int)), ?_⟩
    refine ⟨_, rfl, p, C, dx, _, _, rfl, hp, T.cls, T.noF, rfl, t, _, rfl, .inr ht, _, _, rfl, rfl, ?_⟩
    rw [iv_len]
    exact k
end
end Qp

/-! sums of coefficients -/
namespace Qp
open PySem PySem.Spec PyProof.Rows L2 QN
abbrev sSums : Stmt := top 15 -- _sums
theorem scSums : FnScope ["one", "two", "many", "at"] ["one", "two"] (defScope sSums) := ⟨rfl, rfl, rfl, by decide +kernel, rfl, by decide +kernel, by decide +kernel⟩
/-- a list or a tuple -/
def SeqE (K : PySem.W.Frag) (H : Hp) (a : Addr) (xs : List V) : Prop := SqL K H a xs ∨ SqT K H a xs
theorem sqL_same {K : PySem.W.Frag} {H H' : Hp} {q : Addr} {xs : List V} (e : Same H H') (a : SqL K H q xs) : SqL K H' q xs := by
  rcases a with (a | ⟨u, a⟩) | a
  · exact .inl (.inl (e _ _ a))
  · exact .inl (.inr ⟨u, e _ _ a⟩)
  · exact .inr a
theorem seqE_same {K : PySem.W.Frag} {H H' : Hp} {a : Addr} {xs : List V} (s : Same H H') (h : SeqE K H a xs) : SeqE K H' a xs := by
  rcases h with h | h
  · exact .inl (sqL_same s h)
  · exact .inr (sqT_same s h)
def co (ns : List Int) (i : Nat) : Int := ns.getD i 0
def sumZ (as bs : List Int) : List Int := (List.range (max as.length bs.length)).map fun i => co as i + co bs i
theorem co_get {ns : List Int} {i : Nat} (h : i < ns.length) : ns[i]? = some (co ns i) := by
  unfold co
  rw [List.getD_eq_getElem?_getD, List.getElem?_eq_getElem h]
  rfl
theorem co_out {ns : List Int} {i : Nat} (h : ns.length ≤ i) : co ns i = 0 := by
  unfold co
  rw [List.getD_eq_getElem?_getD, List.getElem?_eq_none h]
  rfl
theorem iv_get {ns : List Int} {i : Nat} (h : i < ns.length) : (iv ns)[i]? = some (.int (co ns i)) := by
  unfold iv
  rw [List.getElem?_map, co_get h]
  rfl
def rLenE (K : PySem.W.Frag) : List V → Hp → VK → Prop := fun xs H Q => ∃ p ys, xs = [V.ref p] ∧ (SqL K H p ys ∨ SqT K H p ys) ∧ Q (V.int ys.length) H
/-- xs[at] if at < len(xs) else 0 -/
def tAt (K : PySem.W.Frag) (i j : Nat) : TE := tIf (tTest (tOp (rI0 fun i j => V.bl (decide (i < j))) (tVar j) (tCB (rLenE K) (tCons (tVar i) tNil)))) (tOp (rIx K) (tVar i) (tVar j)) (tC (.int 0))
theorem at_goes {K : PySem.W.Frag} {σ : L2.St} {H : Hp} {Q : VK} {i j : Nat} {a : Addr} {ns : List Int} {k : Nat} (hi : σ[i]? = some (some (.ref a))) (hj : σ[j]? = some (some (.int (k : Int)))) (h : SeqE K H a (iv ns)) (q : Q (.int (co ns k)) H) : tAt K i j σ H Q := by
  refine ⟨_, hj, _, hi, a, _, rfl, h, _, _, rfl, rfl, _, rfl, ?_⟩
  rw [iv_len]
  by_cases c : k < ns.length
  · refine if_yes (decide_eq_true (by omega)) ⟨_, hi, _, hj, ?_⟩
    have e : atI (iv ns) (k : Int) = some (.int (co ns k)) := atI_nat (iv_get c)
    rcases h with h | h
    · exact .inl ⟨a, _, _, _, rfl, rfl, h, e, q⟩
    · exact .inr (.inl ⟨a, _, _, _, rfl, rfl, h, e, q⟩)
  · refine if_no (by simp; omega) ?_
    show Q (.int 0) H
    rw [← co_out (ns := ns) (i := k) (by omega)]
    exact q
def spSums (K : PySem.W.Frag) : Sp := fun vs H Q _ => ∃ (a b : Addr) (as bs : List Int), vs = [.ref a, .ref b] ∧ SeqE K H a (iv as) ∧ SeqE K H b (iv bs) ∧ as.length ≤ 100000 ∧ bs.length ≤ 100000 ∧
  ∀ (q : Addr) (H' : Hp), Same H H' → H' q = some (.lst (iv (sumZ as bs))) → Q (.ref q) H'
structure BltS (mg : Str → Option Value) : Prop where
  max : mg "max" = none
  rg : mg "range" = none
  sum : mg "sum" = none
section
variable {P : Program} {w : World} {K : PySem.W.Frag} {mg : Str → Option Value} {base : Heap}
theorem ok_sums {f : Addr} {fd : FuncData} (F : Fun K "_sums" "_sums" sSums f fd) (B : BltP mg) (BS : BltS mg) : FnOk P w K mg base CX0 1 f fd ["one", "two"] (spSums K) := by
  refine F.ok scSums (fun vs H Q E h => ?_) (fun cdv A outer s H vs Q E hr h => ?_)
  · obtain ⟨a, b, as, bs, rfl, _⟩ := h
    rfl
  · obtain ⟨a, b, as, bs, rfl, ha, hb, la, lb, k⟩ := h
    refine ⟨_, pss_cons (ps_set (i := 2) scSums.nd rfl (.inl rfl) (pe_callB (call_max2 rfl) (by rfl) BS.max (by decide +kernel) (pa_cons (pe_callB call_len_seq (by rfl) B.len PySem.boot_len (pa_cons (pv 0) pa_nil)) (pa_cons (pe_callB call_len_seq (by rfl) B.len PySem.boot_len (pa_cons (pv 1) pa_nil)) pa_nil))))
      (pss_one (ps_ret (pe_lc (own := [("at", 3)]) (g := gName 3) (tt := tYes) (te := tOp (rI0 fun i j => V.int (i + j)) (tAt K 0 3) (tAt K 1 3)) rfl scSums.nd (pi_range1 (by rfl) BS.rg (pa_cons (pv 2) pa_nil))
        (blkOk_by (N := ["one", "two", "many", "at"]) (sc := defScope sSums) (by decide +kernel)) (fun _ _ _ _ _ => pg_name (i := 3) scSums.nd rfl (.inl rfl) (hf := .inr rfl)) (fun _ _ _ _ _ => pts_nil)
        (fun _ _ _ _ _ => pe_op op_add (pe_ifExp (pt_cmpR op_lt (pv 3) (pe_callB call_len_seq (by rfl) B.len PySem.boot_len (pa_cons (pv 0) pa_nil)) (nomark _)) (pe_ix ix_seq (pv 0) (pv 3) (fun _ _ => rfl)) pe_int)
          (pe_ifExp (pt_cmpR op_lt (pv 3) (pe_callB call_len_seq (by rfl) B.len PySem.boot_len (pa_cons (pv 1) pa_nil)) (nomark _)) (pe_ix ix_seq (pv 1) (pv 3) (fun _ _ => rfl)) pe_int))))), ?_⟩
    refine ⟨_, rfl, a, _, rfl, ha, _, rfl, b, _, rfl, hb, _, _, rfl, ?_⟩
    have en : (if (((iv bs).length : Nat) : Int) > (((iv as).length : Nat) : Int) then (((iv bs).length : Nat) : Int) else (((iv as).length : Nat) : Int)) = ((max as.length bs.length : Nat) : Int) := by
      rw [iv_len, iv_len]
      split <;> omega
    have bound : max as.length bs.length ≤ 100000 := by omega
    refine ⟨_, rfl, _, rfl, by rw [en]; omega, by rw [en]; omega, fun D hD => ?_⟩
    have sD := same_new (o := .lst []) hD
    refine lc_range (fun i H' => Same H H' ∧ H' D = some (.lst (iv ((List.range i).map fun i => co as i + co bs i)))) ⟨sD, upd_same⟩ (fun i H' hi hV => ?_) fun H' hV => ?_
    · obtain ⟨s1, hD1⟩ := hV
      rw [en] at hi
      refine ⟨rfl, at_goes (a := a) (ns := as) (k := i) rfl (by rw [Int.zero_add]; rfl) (seqE_same s1 ha) (at_goes (a := b) (ns := bs) (k := i) rfl (by rw [Int.zero_add]; rfl) (seqE_same s1 hb) ?_)⟩
      refine ⟨_, _, rfl, rfl, _, hD1, ?_, ?_, ?_⟩
      · rw [iv_len, List.length_map, List.length_range, sizeLine_eq]
        omega
      · intro x o e
        by_cases c : x = D
        · subst c
          rw [hD] at e
          cases e
        · rw [upd_ne c]
          exact s1 _ _ e
      · rw [upd_same, List.range_succ]
        unfold iv
        rw [List.map_append, List.map_append]
        rfl
    · obtain ⟨s1, hD1⟩ := hV
      rw [en] at hD1
      exact k D H' s1 hD1
end
end Qp

/-! products of coefficients -/
namespace Qp
open PySem PySem.Spec PyProof.Rows L2 QN
abbrev sProds : Stmt := top 16 -- _products
abbrev pNames : List Str := ["one", "two", "many", "place", "at"]
theorem scProds : FnScope pNames ["one", "two"] (defScope sProds) := ⟨rfl, rfl, rfl, by decide +kernel, rfl, by decide +kernel, by decide +kernel⟩
/-- the outer comprehension's scope -/
def scOut : Scope := { kind := .function, names := [(".0", .local), ("place", .cell), ("sum", .globalImplicit), ("range", .globalImplicit), ("len", .globalImplicit), ("one", .cell), ("two", .cell)], isGenerator := false, isCoroutine := false }
def pr (as bs : List Int) (k i : Nat) : List Int := ((List.range i).filter fun i => decide (i ≤ k) && decide (k - i < bs.length)).map fun i => co as i * co bs (k - i)
def prodZ (as bs : List Int) : List Int := (List.range (as.length + bs.length - 1)).map fun k => (pr as bs k as.length).sum
theorem pr_len (as bs : List Int) (k i : Nat) : (pr as bs k i).length ≤ i := by
  unfold pr
  rw [List.length_map]
  exact Nat.le_trans (List.length_filter_le _ _) (by rw [List.length_range]; exact Nat.le_refl i)
theorem pr_succ (as bs : List Int) (k i : Nat) : pr as bs k (i + 1) = if i ≤ k ∧ k - i < bs.length then pr as bs k i ++ [co as i * co bs (k - i)] else pr as bs k i := by
  unfold pr
  rw [List.range_succ, List.filter_append, List.map_append]
  by_cases c : i ≤ k ∧ k - i < bs.length
  · rw [if_pos c]
    congr 1
    rw [List.filter_cons_of_pos (by simp [c.1, c.2])]
    rfl
  · rw [if_neg c]
    rw [List.filter_cons_of_neg (by simp; intro h; exact Nat.not_lt.mp fun z => c ⟨h, z⟩)]
    simp
/-- numbers from 0 to below 2 ^ m -/
def Bd (m : Nat) (ns : List Int) : Prop := ∀ c ∈ ns, 0 ≤ c ∧ c < 2 ^ m
theorem co_bd {m : Nat} {ns : List Int} (h : Bd m ns) (i : Nat) : 0 ≤ co ns i ∧ co ns i < 2 ^ m := by
  by_cases c : i < ns.length
  · exact h _ (List.mem_of_getElem? (co_get c))
  · rw [co_out (by omega)]
    exact ⟨Int.le_refl 0, Int.pow_pos (by decide)⟩
theorem co_mul {m m' : Nat} {as bs : List Int} (ha : Bd m as) (hb : Bd m' bs) (h : m + m' ≤ 1000000) (h1 : 0 < m) (h2 : 0 < m') (i j : Nat) : CMulW (co as i) (co bs j) :=
  wide_mul (abs_lt (co_bd ha i).1 (co_bd ha i).2) (abs_lt (co_bd hb j).1 (co_bd hb j).2) h1 h2 h
theorem ix_goes {K : PySem.W.Frag} {H : Hp} {Q : VK} {a : Addr} {ns : List Int} {j : Int} {k : Nat} (ej : j = (k : Int)) (h : SeqE K H a (iv ns)) (hk : k < ns.length) (q : Q (.int (co ns k)) H) : rIx K (.ref a) (.int j) H Q := by
  subst ej
  have e : atI (iv ns) (k : Int) = some (.int (co ns k)) := atI_nat (iv_get hk)
  rcases h with h | h
  · exact .inl ⟨a, _, _, _, rfl, rfl, h, e, q⟩
  · exact .inr (.inl ⟨a, _, _, _, rfl, rfl, h, e, q⟩)
theorem same_upd {H H' : Hp} {D : Addr} {o : HO} (hD : H D = none) (s : Same H H') : Same H (upd H' D o) := fun x u e => by
  by_cases c : x = D
  · subst c
    rw [hD] at e
    cases e
  · rw [upd_ne c]
    exact s _ _ e
theorem iv_snoc (ns : List Int) (c : Int) : iv ns ++ [.int c] = iv (ns ++ [c]) := by
  unfold iv
  rw [List.map_append]
  rfl
def tPIn (K : PySem.W.Frag) : TE := tLc (iRng1 (tCons (tCB (rLenE K) (tCons (tVar 0) tNil)) tNil)) (gName 4)
  (tTest (tChain (rI0 fun i j => V.bl (decide (i ≤ j))) (rI0 fun i j => V.bl (decide (i < j))) (tC (.int 0)) (tOp (rI0 fun i j => V.int (i - j)) (tVar 3) (tVar 4)) (tCB (rLenE K) (tCons (tVar 1) tNil))))
  (tOp (rI CMulW fun i j => V.int (i * j)) (tOp (rIx K) (tVar 0) (tVar 4)) (tOp (rIx K) (tVar 1) (tOp (rI0 fun i j => V.int (i - j)) (tVar 3) (tVar 4)))) [4]
def spProds (K : PySem.W.Frag) : Sp := fun vs H Q _ => ∃ (a b : Addr) (as bs : List Int) (m m' : Nat), vs = [.ref a, .ref b] ∧ SeqE K H a (iv as) ∧ SeqE K H b (iv bs) ∧ as.length ≤ 100000 ∧ bs.length ≤ 100000 ∧ Bd m as ∧ Bd m' bs ∧ m + m' ≤ 1000000 ∧ 0 < m ∧ 0 < m' ∧
  ∀ (q : Addr) (H' : Hp), Same H H' → H' q = some (.lst (iv (prodZ as bs))) → Q (.ref q) H'
section
variable {P : Program} {w : World} {K : PySem.W.Frag} {mg : Str → Option Value} {base : Heap}
theorem ok_prods {f : Addr} {fd : FuncData} (F : Fun K "_products" "_products" sProds f fd) (B : BltP mg) (BS : BltS mg) : FnOk P w K mg base CX0 1 f fd ["one", "two"] (spProds K) := by
  refine F.ok scProds (fun vs H Q E h => ?_) (fun cdv A outer s H vs Q E hr h => ?_)
  · obtain ⟨a, b, as, bs, m, m', rfl, _⟩ := h
    rfl
  · obtain ⟨a, b, as, bs, m, m', rfl, ha, hb, la, lb, ba, bb, hm, m0, m1, k⟩ := h
    refine ⟨_, pss_cons (ps_set (i := 2) scProds.nd rfl (.inl rfl) (pe_op op_sub (pe_op op_add (pe_callB call_len_seq (by rfl) B.len PySem.boot_len (pa_cons (pv 0) pa_nil)) (pe_callB call_len_seq (by rfl) B.len PySem.boot_len (pa_cons (pv 1) pa_nil))) pe_int))
      (pss_one (ps_ret (pe_lc (own := [("place", 3)]) (g := gName 3) (tt := tYes) (te := tCB (rSum K) (tCons (tPIn K) tNil)) rfl scProds.nd (pi_range1 (by rfl) BS.rg (pa_cons (pv 2) pa_nil))
        (blkOk_by (N := pNames) (sc := defScope sProds) (by decide +kernel)) (fun _ _ _ _ _ => pg_name (i := 3) scProds.nd rfl (.inr rfl) (hf := .inl rfl)) (fun _ _ _ _ _ => pts_nil)
        (fun _ _ _ _ _ => pe_callB (cr_sum rfl) (by rfl) BS.sum (by decide +kernel) (pa_cons (pe_lc (own := [("at", 4)]) (g := gName 4)
          (tt := tTest (tChain (rI0 fun i j => V.bl (decide (i ≤ j))) (rI0 fun i j => V.bl (decide (i < j))) (tC (.int 0)) (tOp (rI0 fun i j => V.int (i - j)) (tVar 3) (tVar 4)) (tCB (rLenE K) (tCons (tVar 1) tNil))))
          (te := tOp (rI CMulW fun i j => V.int (i * j)) (tOp (rIx K) (tVar 0) (tVar 4)) (tOp (rIx K) (tVar 1) (tOp (rI0 fun i j => V.int (i - j)) (tVar 3) (tVar 4))))
          rfl scProds.nd (pi_range1 (by rfl) BS.rg (pa_cons (pe_callB call_len_seq (by rfl) B.len PySem.boot_len (pa_cons (pv 0) pa_nil)) pa_nil))
          (blkOk_by (N := pNames) (sc := scOut) (by decide +kernel)) (fun _ _ _ _ _ => pg_name (i := 4) scProds.nd rfl (.inl rfl) (hf := .inr rfl))
          (fun _ _ _ _ _ => pts_one (pt_chain op_le op_lt pe_int (pe_op op_sub (pv 3) (pv 4)) (pe_callB call_len_seq (by rfl) B.len PySem.boot_len (pa_cons (pv 1) pa_nil))))
          (fun _ _ _ _ _ => pe_op op_mulW (pe_ix ix_seq (pv 0) (pv 4) (fun _ _ => rfl)) (pe_ix ix_seq (pv 1) (pe_op op_sub (pv 3) (pv 4)) (fun _ _ => rfl)))) pa_nil))))), ?_⟩
    have hlen : ((((iv as).length : Nat) : Int) + (((iv bs).length : Nat) : Int) - 1).toNat = as.length + bs.length - 1 := by
      rw [iv_len, iv_len]
      omega
    refine ⟨_, rfl, a, _, rfl, ha, _, rfl, b, _, rfl, hb, _, _, rfl, rfl, _, _, rfl, rfl, _, rfl, _, rfl, by rw [iv_len, iv_len]; omega, by rw [iv_len, iv_len]; omega, fun D hD => ?_⟩
    have sD := same_new (o := .lst []) hD
    refine lc_range (fun i H' => Same H H' ∧ H' D = some (.lst (iv ((List.range i).map fun k => (pr as bs k as.length).sum)))) ⟨sD, upd_same⟩ (fun i H' hi hV => ?_) fun H' hV => ?_
    · obtain ⟨s1, hD1⟩ := hV
      rw [hlen] at hi
      refine ⟨rfl, _, rfl, a, _, rfl, seqE_same s1 ha, _, rfl, by rw [iv_len]; omega, by rw [iv_len]; omega, fun D' hD' => ?_⟩
      have nD : D ≠ D' := fun c => by rw [c, hD'] at hD1; cases hD1
      refine lc_range (fun j H2 => Same H' H2 ∧ H2 D' = some (.lst (iv (pr as bs i j)))) ⟨same_new hD', upd_same⟩ (fun j H2 hj hV => ?_) fun H2 hV => ?_
      · obtain ⟨s2, hD2⟩ := hV
        rw [Int.toNat_natCast, iv_len] at hj
        refine ⟨rfl, _, rfl, _, rfl, _, _, rfl, rfl, _, _, rfl, rfl, _, rfl, ?_⟩
        by_cases c1 : j ≤ i
        · refine if_yes (decide_eq_true (by omega)) ⟨_, rfl, b, _, rfl, seqE_same (s1.trans s2) hb, _, _, rfl, rfl, _, rfl, ?_⟩
          have lb' := iv_len bs
          by_cases c2 : i - j < bs.length
          · refine if_yes (decide_eq_true (by omega)) ⟨_, rfl, _, rfl, ix_goes (k := j) (by omega) (seqE_same (s1.trans s2) ha) hj ⟨_, rfl, _, rfl, _, rfl, _, _, rfl, rfl, ix_goes (k := i - j) (by omega) (seqE_same (s1.trans s2) hb) c2 ⟨_, _, rfl, rfl, co_mul ba bb hm m0 m1 _ _, _, hD2, ?_, ?_, ?_⟩⟩⟩
            · have := pr_len as bs i j
              rw [iv_len, sizeLine_eq]
              omega
            · exact same_upd hD' s2
            · rw [upd_same, pr_succ, if_pos ⟨c1, c2⟩, iv_snoc]
          · refine if_no (by rw [decide_eq_true_eq]; omega) ⟨s2, ?_⟩
            rw [pr_succ, if_neg (fun z => c2 z.2)]
            exact hD2
        · refine if_no (by simp; omega) ⟨_, rfl, if_no (by decide) ⟨s2, ?_⟩⟩
          rw [pr_succ, if_neg (fun z => c1 z.1)]
          exact hD2
      · obtain ⟨s2, hD2⟩ := hV
        rw [Int.toNat_natCast, iv_len] at hD2
        refine ⟨D', pr as bs i as.length, rfl, .inl (.inl hD2), _, s2 _ _ hD1, ?_, same_upd hD (s1.trans s2), ?_⟩
        · rw [iv_len, List.length_map, List.length_range, sizeLine_eq]
          omega
        · rw [upd_same, List.range_succ, List.map_append, iv_snoc]
          rfl
    · obtain ⟨s1, hD1⟩ := hV
      rw [hlen] at hD1
      exact k D H' s1 hD1
end
end Qp

/-! C(*e), C an own class by its global name -/
namespace QN
open PySem PySem.Spec PyProof.Rows L2
section
variable {X : Cx} {CX : CXT} {k i : Nat} {f C : Addr} {sp : Sp} {E : XK} {x : Str} {e : Expr} {te : TE} {p sp_ pos : Pos}
def tMakeSG (K : PySem.W.Frag) (C : Addr) (sp : Sp) (E : XK) (te : TE) : TE := fun σ H Q => te σ H fun y H1 => ∃ a xs, y = V.ref a ∧ (SqT K H1 a xs ∨ SqL K H1 a xs) ∧
  ∀ x dx, H1 x = Option.none → H1 dx = Option.none → dx ≠ x → sp (V.ref x :: xs) (upd (upd H1 dx (.own x)) x (.ins C dx [])) (fun v H2 => v = .non ∧ Q (.ref x) H2) E
theorem pe_makeSG (M : Mk X.K C f) (F : FnR X.prog X.w X.K X.mg X.base CX k f sp) (hr : Room (k + 1) X.A) (hg : Gl X x) (hm : X.mg x = some (.ref C)) (hx : Passes CX X E) (he : PE X e te)
    (hdb : (x == ("__debug__" : Str)) = false := by decide) (hst : starEach [.Starred e sp_] X.env = [(true, eval e X.env)] := by rfl) :
    PE X (.Call (.Name x p) [.Starred e sp_] [] pos) (tMakeSG X.K C sp E te) := by
  refine ⟨fun pins s σ H Q I h => ?_⟩
  refine wpAny_Call_Name_kw (ld_glob I hg hm ?_ hdb)
  refine PySem.W.callWith_S (h₀ := X.base) I.ok.mod.kin M.kp (thn (he.run pins s σ H _ I h) fun v s2 ⟨y, H2, I2, ry, a, xs, ey, hxs, q⟩ => ?_) hst
  subst ey
  obtain rfl : v = Value.ref a := ry
  exact StX.star_any I2 hxs fun us s3 I3 rv => ⟨I3.kIn, StX.run_makeR M F hr hx I3 rv q⟩
end
end QN

/-! what polynomials are reckoned with -/
namespace Qp
open PySem PySem.Spec PyProof.Rows L2 QN
abbrev sCo : Stmt := inClass cPoly 2 -- Polynomial.coefficients
abbrev sFac : Stmt := top 17 -- _factor
theorem scCo : FnScope ["self"] ["self"] (defScope sCo) := ⟨rfl, rfl, rfl, by decide +kernel, rfl, by decide +kernel, by decide +kernel⟩
theorem scFac : FnScope ["value"] ["value"] (defScope sFac) := ⟨rfl, rfl, rfl, by decide +kernel, rfl, by decide +kernel, by decide +kernel⟩
/-- the class as isinstance sees it -/
structure PolyO (K : PySem.W.Frag) (C : Addr) : Prop where
  isC : PySem.W.kitOne K (.ref C) (.ref C) = some true
  isN : PySem.W.kitOne K (.type "int") (.ref C) = some false
  c1 : PySem.W.findIn K (.ref C) "__class__" = some (some (.builtin "object.__class__"))
  c2 : PySem.W.specialIn K (.builtin "object.__class__") "__get__" = some (some (.builtin "getset_descriptor.__get__"))
  c3 : PySem.W.takesIn K (.builtin "object.__class__") = some true
  c4 : PySem.W.mroIn K C (.type "object") = some true
theorem tyx_poly {K : PySem.W.Frag} {mg : Str → Option Value} {C p : Addr} {H : Hp} {ns : List Int} (T : PolyC K mg C) (O : PolyO K C) (h : PolyAt K C H p ns) : TyX K H (.ref p) (.ref C) := by
  obtain ⟨dx, t, hp, _⟩ := h
  exact .base (.ins hp T.cls O.c1 O.c2 O.c3 O.c4)
def spCo (K : PySem.W.Frag) (C : Addr) : Sp := fun vs H Q _ => ∃ (p : Addr) (ns : List Int), vs = [.ref p] ∧ PolyAt K C H p ns ∧ ∀ t, SqT K H t (iv ns) → Q (.ref t) H
/-- a factor or summand, and its coefficients -/
def FacOf (K : PySem.W.Frag) (C : Addr) (H : Hp) (v : V) (fs : List Int) : Prop := (∃ p, v = .ref p ∧ PolyAt K C H p fs) ∨ (∃ n : Int, v = .int n ∧ 0 ≤ n ∧ fs = cutZ [n])
def spFac (K : PySem.W.Frag) (C : Addr) : Sp := fun vs H Q _ => ∃ (v : V) (fs : List Int), vs = [v] ∧ FacOf K C H v fs ∧ ∀ (q : Addr) (H' : Hp), Same H H' → SqT K H' q (iv fs) → Q (.ref q) H'
section
variable {P : Program} {w : World} {K : PySem.W.Frag} {mg : Str → Option Value} {base : Heap}
theorem ok_co {f C : Addr} {fd : FuncData} (F : Fun K "coefficients" "Polynomial.coefficients" sCo f fd) (T : PolyC K mg C) : FnOk P w K mg base CX0 1 f fd ["self"] (spCo K C) := by
  refine F.ok scCo (fun vs H Q E h => ?_) (fun cdv A outer s H vs Q E hr h => ?_)
  · obtain ⟨p, ns, rfl, _⟩ := h
    rfl
  · obtain ⟨p, ns, rfl, ⟨dx, t, hp, ht⟩, k⟩ := h
    refine ⟨_, pss_one (ps_ret (pe_fld (pv 0) rfl)), ?_⟩
    exact ⟨_, rfl, p, C, dx, _, _, rfl, hp, T.cls, T.noF, rfl, k t ht⟩
theorem ok_fac {f fC pC fN fZ C : Addr} {fd fdC fdN fdZ : FuncData} (F : Fun K "_factor" "_factor" sFac f fd) (T : PolyC K mg C) (O : PolyO K C) (B : BltP mg)
    (PC : PropOf K C "coefficients" pC fC) (GC : FnOk P w K mg base CX0 1 fC fdC ["self"] (spCo K C)) (bC : L2.Binds K fdC ["self"] [])
    (GN : FnOk P w K mg base CX0 2 fN fdN ["value"] (spIsN K)) (kN : PySem.W.keepIn K (.ref fN) = true) (bN : L2.Binds K fdN ["value"] []) (gN : mg "is_natural" = some (.ref fN))
    (GZ : FnOk P w K mg base CX0 1 fZ fdZ ["coefficients"] (spWz K)) (kZ : PySem.W.keepIn K (.ref fZ) = true) (bZ : L2.Binds K fdZ ["coefficients"] []) (gZ : mg "_without_zeros" = some (.ref fZ)) :
    FnOk P w K mg base CX0 3 f fd ["value"] (spFac K C) := by
  refine F.ok scFac (fun vs H Q E h => ?_) (fun cdv A outer s H vs Q E hr h => ?_)
  · obtain ⟨v, fs, rfl, _⟩ := h
    rfl
  · obtain ⟨v, fs, rfl, hf, k⟩ := h
    have hr1 := hr.mono (by decide : 1 ≤ 2)
    refine ⟨_, pss_cons (ps_if (pt_val (pe_callB call_isi (by rfl) B.isi (by decide +kernel) (pa_cons (pv 0) (pa_cons (pe_glob (v := .ref C) (by rfl) T.gC rfl) pa_nil)))) (pss_one (ps_ret (pe_prop (pv 0) T.cls PC GC hr bC .nil pass0 rfl))) pss_nil)
      (pss_cons (ps_if (pt_not (pt_val (pe_call GN hr (by rfl) gN kN bN .nil pass0 (pa_cons (pv 0) pa_nil)))) (pss_one ps_never) pss_nil)
      (pss_one (ps_ret (pe_call GZ hr1 (by rfl) gZ kZ bZ .nil pass0 (pa_cons (pe_tup (pa_cons (pv 0) pa_nil)) pa_nil))))), ?_⟩
    rcases hf with ⟨p, rfl, hp⟩ | ⟨n, rfl, n0, rfl⟩
    · obtain ⟨dx, t, h1, h2⟩ := id hp
      exact ⟨_, rfl, _, _, _, _, true, rfl, .own C, tyx_poly T O hp, O.isC, _, rfl, if_yes rfl ⟨_, rfl, p, dx, _, rfl, h1, p, fs, rfl, hp, fun t ht => k t H (Same.refl H) ht⟩⟩
    · refine ⟨_, rfl, _, _, _, _, false, rfl, .own C, .base (.int n), O.isN, _, rfl, if_no (by decide) ?_⟩
      refine ⟨_, rfl, _, true, rfl, numV_nat n0, _, rfl, if_no (by decide) ?_⟩
      refine ⟨_, rfl, (by show 1 ≤ sizeLine; decide), fun t ht => ?_⟩
      exact ⟨t, [n], rfl, .inl (.inl upd_same), fun q H' s' hq => k q H' ((same_new ht).trans s') hq⟩
end
end Qp

/-! + and * of polynomials -/
namespace Qp
open PySem PySem.Spec PyProof.Rows L2 QN
theorem sum_nn {m m' : Nat} {as bs : List Int} (ha : Bd m as) (hb : Bd m' bs) : ∀ c ∈ sumZ as bs, 0 ≤ c := fun c hc => by
  unfold sumZ at hc
  obtain ⟨i, _, rfl⟩ := List.mem_map.mp hc
  have := (co_bd ha i).1
  have := (co_bd hb i).1
  omega
theorem lsum_nn : ∀ {l : List Int}, (∀ c ∈ l, 0 ≤ c) → 0 ≤ l.sum
  | [], _ => Int.le_refl 0
  | c :: l, h => by
    rw [List.sum_cons]
    have := h c List.mem_cons_self
    have := lsum_nn (l := l) fun x hx => h x (List.mem_cons_of_mem _ hx)
    omega
theorem prod_nn {m m' : Nat} {as bs : List Int} (ha : Bd m as) (hb : Bd m' bs) : ∀ c ∈ prodZ as bs, 0 ≤ c := fun c hc => by
  unfold prodZ at hc
  obtain ⟨k, _, rfl⟩ := List.mem_map.mp hc
  refine lsum_nn fun x hx => ?_
  unfold pr at hx
  obtain ⟨i, _, rfl⟩ := List.mem_map.mp hx
  exact Int.mul_nonneg (co_bd ha i).1 (co_bd hb _).1
theorem sum_len (as bs : List Int) : (sumZ as bs).length = max as.length bs.length := by
  unfold sumZ
  rw [List.length_map, List.length_range]
theorem prod_len (as bs : List Int) : (prodZ as bs).length = as.length + bs.length - 1 := by
  unfold prodZ
  rw [List.length_map, List.length_range]
abbrev opNames : List Str := ["self", "other", "coefficients"]
def spBin (op : List Int → List Int → List Int) (K : PySem.W.Frag) (C : Addr) : Sp := fun vs H Q _ => ∃ (p : Addr) (v : V) (ns fs : List Int) (m m' : Nat), vs = [.ref p, v] ∧ PolyAt K C H p ns ∧ FacOf K C H v fs ∧ ns.length ≤ 500 ∧ fs.length ≤ 500 ∧ Bd m ns ∧ Bd m' fs ∧ m + m' ≤ 1000000 ∧ 0 < m ∧ 0 < m' ∧
  ∀ (q : Addr) (H' : Hp), Same H H' → PolyAt K C H' q (cutZ (op ns fs)) → Q (.ref q) H'
section
variable {P : Program} {w : World} {K : PySem.W.Frag} {mg : Str → Option Value} {base : Heap}
abbrev sAdd : Stmt := inClass cPoly 7 -- Polynomial.__add__
theorem scAdd : FnScope opNames ["self", "other"] (defScope sAdd) := ⟨rfl, rfl, rfl, by decide +kernel, rfl, by decide +kernel, by decide +kernel⟩
theorem ok_add {f fS fF fI C : Addr} {fd fdS fdF : FuncData} (F : Fun K "__add__" "Polynomial.__add__" sAdd f fd) (T : PolyC K mg C) (M : Mk K C fI) (GI : FnR P w K mg base CX0 3 fI (spInit K C))
    (GS : FnOk P w K mg base CX0 1 fS fdS ["one", "two"] (spSums K)) (kS : PySem.W.keepIn K (.ref fS) = true) (bS : L2.Binds K fdS ["one", "two"] []) (gS : mg "_sums" = some (.ref fS))
    (GF : FnOk P w K mg base CX0 3 fF fdF ["value"] (spFac K C)) (kF : PySem.W.keepIn K (.ref fF) = true) (bF : L2.Binds K fdF ["value"] []) (gF : mg "_factor" = some (.ref fF)) :
    FnOk P w K mg base CX0 5 f fd ["self", "other"] (spBin sumZ K C) := by
  refine F.ok scAdd (fun vs H Q E h => ?_) (fun cdv A outer s H vs Q E hr h => ?_)
  · obtain ⟨p, v, ns, fs, m, m', rfl, _⟩ := h
    rfl
  · obtain ⟨p, v, ns, fs, m, m', rfl, ⟨dx, t, hp, ht⟩, hf, l1, l2, b1, b2, hm, m0, m1, k⟩ := h
    refine ⟨_, pss_cons (ps_set (i := 2) scAdd.nd rfl (.inl rfl) (pe_call GS (hr.mono (by decide)) (by rfl) gS kS bS .nil pass0 (pa_cons (pe_fld (pv 0) rfl) (pa_cons (pe_call GF (hr.mono (by decide)) (by rfl) gF kF bF .nil pass0 (pa_cons (pv 1) pa_nil)) pa_nil))))
      (pss_one (ps_ret (pe_makeSG M GI hr (by rfl) T.gC pass0 (pv 2)))), ?_⟩
    refine ⟨_, rfl, p, C, dx, _, _, rfl, hp, T.cls, T.noF, rfl, _, rfl, v, fs, rfl, hf, fun u H1 s1 hu => ?_⟩
    refine ⟨t, u, ns, fs, rfl, .inr (sqT_same s1 ht), .inr hu, by omega, by omega, fun q H2 s2 hq => ?_⟩
    refine ⟨_, rfl, q, _, rfl, .inr (.inl (.inl hq)), fun x dx2 hx hd ne => ⟨x, dx2, _, rfl, upd_same, sum_nn b1 b2, by rw [sum_len]; omega, fun t2 H3 h1 h2 b => ⟨rfl, ?_⟩⟩⟩
    exact k x H3 (s1.trans (s2.trans (same_made hx hd b))) ⟨dx2, t2, h1, h2⟩
abbrev sRadd : Stmt := inClass cPoly 8 -- Polynomial.__radd__
theorem scRadd : FnScope opNames ["self", "other"] (defScope sRadd) := ⟨rfl, rfl, rfl, by decide +kernel, rfl, by decide +kernel, by decide +kernel⟩
theorem ok_radd {f fS fF fI C : Addr} {fd fdS fdF : FuncData} (F : Fun K "__radd__" "Polynomial.__radd__" sRadd f fd) (T : PolyC K mg C) (M : Mk K C fI) (GI : FnR P w K mg base CX0 3 fI (spInit K C))
    (GS : FnOk P w K mg base CX0 1 fS fdS ["one", "two"] (spSums K)) (kS : PySem.W.keepIn K (.ref fS) = true) (bS : L2.Binds K fdS ["one", "two"] []) (gS : mg "_sums" = some (.ref fS))
    (GF : FnOk P w K mg base CX0 3 fF fdF ["value"] (spFac K C)) (kF : PySem.W.keepIn K (.ref fF) = true) (bF : L2.Binds K fdF ["value"] []) (gF : mg "_factor" = some (.ref fF)) :
    FnOk P w K mg base CX0 5 f fd ["self", "other"] (spBin sumZ K C) := by
  refine F.ok scRadd (fun vs H Q E h => ?_) (fun cdv A outer s H vs Q E hr h => ?_)
  · obtain ⟨p, v, ns, fs, m, m', rfl, _⟩ := h
    rfl
  · obtain ⟨p, v, ns, fs, m, m', rfl, ⟨dx, t, hp, ht⟩, hf, l1, l2, b1, b2, hm, m0, m1, k⟩ := h
    refine ⟨_, pss_cons (ps_set (i := 2) scRadd.nd rfl (.inl rfl) (pe_call GS (hr.mono (by decide)) (by rfl) gS kS bS .nil pass0 (pa_cons (pe_fld (pv 0) rfl) (pa_cons (pe_call GF (hr.mono (by decide)) (by rfl) gF kF bF .nil pass0 (pa_cons (pv 1) pa_nil)) pa_nil))))
      (pss_one (ps_ret (pe_makeSG M GI hr (by rfl) T.gC pass0 (pv 2)))), ?_⟩
    refine ⟨_, rfl, p, C, dx, _, _, rfl, hp, T.cls, T.noF, rfl, _, rfl, v, fs, rfl, hf, fun u H1 s1 hu => ?_⟩
    refine ⟨t, u, ns, fs, rfl, .inr (sqT_same s1 ht), .inr hu, by omega, by omega, fun q H2 s2 hq => ?_⟩
    refine ⟨_, rfl, q, _, rfl, .inr (.inl (.inl hq)), fun x dx2 hx hd ne => ⟨x, dx2, _, rfl, upd_same, sum_nn b1 b2, by rw [sum_len]; omega, fun t2 H3 h1 h2 b => ⟨rfl, ?_⟩⟩⟩
    exact k x H3 (s1.trans (s2.trans (same_made hx hd b))) ⟨dx2, t2, h1, h2⟩
abbrev sMul : Stmt := inClass cPoly 9 -- Polynomial.__mul__
theorem scMul : FnScope opNames ["self", "other"] (defScope sMul) := ⟨rfl, rfl, rfl, by decide +kernel, rfl, by decide +kernel, by decide +kernel⟩
theorem ok_mul {f fS fF fI C : Addr} {fd fdS fdF : FuncData} (F : Fun K "__mul__" "Polynomial.__mul__" sMul f fd) (T : PolyC K mg C) (M : Mk K C fI) (GI : FnR P w K mg base CX0 3 fI (spInit K C))
    (GS : FnOk P w K mg base CX0 1 fS fdS ["one", "two"] (spProds K)) (kS : PySem.W.keepIn K (.ref fS) = true) (bS : L2.Binds K fdS ["one", "two"] []) (gS : mg "_products" = some (.ref fS))
    (GF : FnOk P w K mg base CX0 3 fF fdF ["value"] (spFac K C)) (kF : PySem.W.keepIn K (.ref fF) = true) (bF : L2.Binds K fdF ["value"] []) (gF : mg "_factor" = some (.ref fF)) :
    FnOk P w K mg base CX0 5 f fd ["self", "other"] (spBin prodZ K C) := by
  refine F.ok scMul (fun vs H Q E h => ?_) (fun cdv A outer s H vs Q E hr h => ?_)
  · obtain ⟨p, v, ns, fs, m, m', rfl, _⟩ := h
    rfl
  · obtain ⟨p, v, ns, fs, m, m', rfl, ⟨dx, t, hp, ht⟩, hf, l1, l2, b1, b2, hm, m0, m1, k⟩ := h
    refine ⟨_, pss_cons (ps_set (i := 2) scMul.nd rfl (.inl rfl) (pe_call GS (hr.mono (by decide)) (by rfl) gS kS bS .nil pass0 (pa_cons (pe_fld (pv 0) rfl) (pa_cons (pe_call GF (hr.mono (by decide)) (by rfl) gF kF bF .nil pass0 (pa_cons (pv 1) pa_nil)) pa_nil))))
      (pss_one (ps_ret (pe_makeSG M GI hr (by rfl) T.gC pass0 (pv 2)))), ?_⟩
    refine ⟨_, rfl, p, C, dx, _, _, rfl, hp, T.cls, T.noF, rfl, _, rfl, v, fs, rfl, hf, fun u H1 s1 hu => ?_⟩
    refine ⟨t, u, ns, fs, m, m', rfl, .inr (sqT_same s1 ht), .inr hu, by omega, by omega, b1, b2, hm, m0, m1, fun q H2 s2 hq => ?_⟩
    refine ⟨_, rfl, q, _, rfl, .inr (.inl (.inl hq)), fun x dx2 hx hd ne => ⟨x, dx2, _, rfl, upd_same, prod_nn b1 b2, by rw [prod_len]; omega, fun t2 H3 h1 h2 b => ⟨rfl, ?_⟩⟩⟩
    exact k x H3 (s1.trans (s2.trans (same_made hx hd b))) ⟨dx2, t2, h1, h2⟩
abbrev sRmul : Stmt := inClass cPoly 10 -- Polynomial.__rmul__
theorem scRmul : FnScope opNames ["self", "other"] (defScope sRmul) := ⟨rfl, rfl, rfl, by decide +kernel, rfl, by decide +kernel, by decide +kernel⟩
theorem ok_rmul {f fS fF fI C : Addr} {fd fdS fdF : FuncData} (F : Fun K "__rmul__" "Polynomial.__rmul__" sRmul f fd) (T : PolyC K mg C) (M : Mk K C fI) (GI : FnR P w K mg base CX0 3 fI (spInit K C))
    (GS : FnOk P w K mg base CX0 1 fS fdS ["one", "two"] (spProds K)) (kS : PySem.W.keepIn K (.ref fS) = true) (bS : L2.Binds K fdS ["one", "two"] []) (gS : mg "_products" = some (.ref fS))
    (GF : FnOk P w K mg base CX0 3 fF fdF ["value"] (spFac K C)) (kF : PySem.W.keepIn K (.ref fF) = true) (bF : L2.Binds K fdF ["value"] []) (gF : mg "_factor" = some (.ref fF)) :
    FnOk P w K mg base CX0 5 f fd ["self", "other"] (spBin prodZ K C) := by
  refine F.ok scRmul (fun vs H Q E h => ?_) (fun cdv A outer s H vs Q E hr h => ?_)
  · obtain ⟨p, v, ns, fs, m, m', rfl, _⟩ := h
    rfl
  · obtain ⟨p, v, ns, fs, m, m', rfl, ⟨dx, t, hp, ht⟩, hf, l1, l2, b1, b2, hm, m0, m1, k⟩ := h
    refine ⟨_, pss_cons (ps_set (i := 2) scRmul.nd rfl (.inl rfl) (pe_call GS (hr.mono (by decide)) (by rfl) gS kS bS .nil pass0 (pa_cons (pe_fld (pv 0) rfl) (pa_cons (pe_call GF (hr.mono (by decide)) (by rfl) gF kF bF .nil pass0 (pa_cons (pv 1) pa_nil)) pa_nil))))
      (pss_one (ps_ret (pe_makeSG M GI hr (by rfl) T.gC pass0 (pv 2)))), ?_⟩
    refine ⟨_, rfl, p, C, dx, _, _, rfl, hp, T.cls, T.noF, rfl, _, rfl, v, fs, rfl, hf, fun u H1 s1 hu => ?_⟩
    refine ⟨t, u, ns, fs, m, m', rfl, .inr (sqT_same s1 ht), .inr hu, by omega, by omega, b1, b2, hm, m0, m1, fun q H2 s2 hq => ?_⟩
    refine ⟨_, rfl, q, _, rfl, .inr (.inl (.inl hq)), fun x dx2 hx hd ne => ⟨x, dx2, _, rfl, upd_same, prod_nn b1 b2, by rw [prod_len]; omega, fun t2 H3 h1 h2 b => ⟨rfl, ?_⟩⟩⟩
    exact k x H3 (s1.trans (s2.trans (same_made hx hd b))) ⟨dx2, t2, h1, h2⟩
end
end Qp

/-! powers, and a polynomial at another one -/
namespace Qp
open PySem PySem.Spec PyProof.Rows L2 QN
theorem lsum_lt {b : Int} (hb : 0 ≤ b) : ∀ {l : List Int}, (∀ c ∈ l, c ≤ b) → l.sum ≤ l.length * b
  | [], _ => by simp
  | c :: l, h => by
    rw [List.sum_cons, List.length_cons]
    have h1 := h c List.mem_cons_self
    have h2 := lsum_lt hb (l := l) fun x hx => h x (List.mem_cons_of_mem _ hx)
    have e : ((l.length + 1 : Nat) : Int) * b = (l.length : Int) * b + b := by
      rw [show ((l.length + 1 : Nat) : Int) = (l.length : Int) + 1 from rfl, Int.add_mul, Int.one_mul]
    omega
theorem bd_prod {m m' : Nat} {as bs : List Int} (ha : Bd m as) (hb : Bd m' bs) (hl : as.length ≤ 1000) : Bd (m + m' + 10) (prodZ as bs) := fun c hc => by
  refine ⟨prod_nn ha hb c hc, ?_⟩
  unfold prodZ at hc
  obtain ⟨k, _, rfl⟩ := List.mem_map.mp hc
  have step : (pr as bs k as.length).sum ≤ ((pr as bs k as.length).length : Int) * 2 ^ (m + m') := by
    refine lsum_lt (Int.le_of_lt (Int.pow_pos (by decide))) fun x hx => ?_
    unfold pr at hx
    obtain ⟨i, _, rfl⟩ := List.mem_map.mp hx
    have h1 := co_bd ha i
    have h2 := co_bd hb (k - i)
    have h3 : co as i * co bs (k - i) ≤ 2 ^ m * 2 ^ m' := Int.mul_le_mul (by omega) (by omega) h2.1 (Int.le_of_lt (Int.pow_pos (by decide)))
    rw [Int.pow_add]
    exact h3
  have hlen : ((pr as bs k as.length).length : Int) ≤ 1000 := by
    have := pr_len as bs k as.length
    omega
  have p0 : (0 : Int) < 2 ^ (m + m') := Int.pow_pos (by decide)
  have h4 : ((pr as bs k as.length).length : Int) * 2 ^ (m + m') ≤ 1000 * 2 ^ (m + m') := Int.mul_le_mul_of_nonneg_right hlen (Int.le_of_lt p0)
  rw [Int.pow_add (2 : Int) (m + m') 10]
  omega
theorem bd_mono {m m' : Nat} {ns : List Int} (h : m ≤ m') (b : Bd m ns) : Bd m' ns := fun c hc => ⟨(b c hc).1, Int.lt_of_lt_of_le (b c hc).2 (pow_mono2 h)⟩
theorem bd_sum {m : Nat} {as bs : List Int} (ha : Bd m as) (hb : Bd m bs) : Bd (m + 1) (sumZ as bs) := fun c hc => by
  refine ⟨sum_nn ha hb c hc, ?_⟩
  unfold sumZ at hc
  obtain ⟨i, _, rfl⟩ := List.mem_map.mp hc
  have h1 := (co_bd ha i).2
  have h2 := (co_bd hb i).2
  rw [Int.pow_succ]
  omega
def powZ (ns : List Int) : Nat → List Int
  | 0 => [1]
  | e + 1 => prodZ (powZ ns e) ns
def atZ (fs : List Int) : List Int → List Int
  | [] => []
  | c :: ns => sumZ (prodZ (atZ fs ns) fs) [c]
theorem pow_len (ns : List Int) (hl : ns.length ≤ 40) : ∀ e, (powZ ns e).length ≤ e * 40 + 1
  | 0 => by
    show ([1] : List Int).length ≤ _
    simp
  | e + 1 => by
    show (prodZ (powZ ns e) ns).length ≤ _
    rw [prod_len]
    have := pow_len ns hl e
    omega
theorem pow_bd {m : Nat} {ns : List Int} (hl : ns.length ≤ 40) (b : Bd m ns) : ∀ e, e ≤ 20 → Bd (1 + e * (m + 10)) (powZ ns e)
  | 0, _ => fun c hc => by
    cases List.mem_singleton.mp hc
    refine ⟨by decide, ?_⟩
    rw [Nat.zero_mul]
    decide
  | e + 1, he => by
    have h1 := bd_prod (pow_bd hl b e (by omega)) b (by have := pow_len ns hl e; omega)
    refine bd_mono ?_ h1
    rw [Nat.add_mul]
    omega
theorem at_len {fs : List Int} (hf : fs.length ≤ 20) : ∀ ns, (atZ fs ns).length ≤ ns.length * 20 + 1
  | [] => by
    show 0 ≤ _
    omega
  | c :: ns => by
    show (sumZ (prodZ (atZ fs ns) fs) [c]).length ≤ _
    rw [sum_len, prod_len]
    have := at_len hf ns
    simp only [List.length_cons, List.length_nil]
    omega
theorem at_bd {m : Nat} {fs : List Int} (hf : fs.length ≤ 20) (b : Bd m fs) : ∀ {ns : List Int}, ns.length ≤ 40 → Bd m ns → Bd (m + ns.length * (m + 11)) (atZ fs ns)
  | [], _, _ => fun c hc => by cases hc
  | c :: ns, hl, h => by
    rw [List.length_cons] at hl
    have h1 := at_bd hf b (ns := ns) (by omega) fun x hx => h x (List.mem_cons_of_mem _ hx)
    have h2 := bd_prod h1 b (by have := at_len hf ns; omega)
    have h3 : Bd (m + ns.length * (m + 11) + m + 10) [c] := bd_mono (m := m) (by omega) fun x hx => by
      cases List.mem_singleton.mp hx
      exact h c List.mem_cons_self
    refine bd_mono ?_ (bd_sum h2 h3)
    rw [List.length_cons, Nat.add_mul]
    omega
abbrev sPow : Stmt := inClass cPoly 11 -- Polynomial.__pow__
abbrev sAt : Stmt := inClass cPoly 12 -- Polynomial.at
abbrev powNames : List Str := ["self", "other", "coefficients", "_"]
abbrev atNames : List Str := ["self", "inner", "coefficients", "number"]
theorem scPow : FnScope powNames ["self", "other"] (defScope sPow) := ⟨rfl, rfl, rfl, by decide +kernel, rfl, by decide +kernel, by decide +kernel⟩
theorem scAt : FnScope atNames ["self", "inner"] (defScope sAt) := ⟨rfl, rfl, rfl, by decide +kernel, rfl, by decide +kernel, by decide +kernel⟩
def spPow (K : PySem.W.Frag) (C : Addr) : Sp := fun vs H Q _ => ∃ (p : Addr) (e : Nat) (ns : List Int) (m : Nat), vs = [.ref p, .int (e : Int)] ∧ PolyAt K C H p ns ∧ e ≤ 20 ∧ ns.length ≤ 40 ∧ Bd m ns ∧ 0 < m ∧ m ≤ 10000 ∧
  ∀ (q : Addr) (H' : Hp), Same H H' → PolyAt K C H' q (cutZ (powZ ns e)) → Q (.ref q) H'
def spAt (K : PySem.W.Frag) (C : Addr) : Sp := fun vs H Q _ => ∃ (p r : Addr) (ns fs : List Int) (m : Nat), vs = [.ref p, .ref r] ∧ PolyAt K C H p ns ∧ PolyAt K C H r fs ∧ ns.length ≤ 40 ∧ fs.length ≤ 20 ∧ Bd m ns ∧ Bd m fs ∧ 0 < m ∧ m ≤ 10000 ∧
  ∀ (q : Addr) (H' : Hp), Same H H' → PolyAt K C H' q (cutZ (atZ fs ns)) → Q (.ref q) H'
section
variable {P : Program} {w : World} {K : PySem.W.Frag} {mg : Str → Option Value} {base : Heap}
theorem ok_pow {f fS fN fI C : Addr} {fd fdS fdN : FuncData} (F : Fun K "__pow__" "Polynomial.__pow__" sPow f fd) (T : PolyC K mg C) (M : Mk K C fI) (GI : FnR P w K mg base CX0 3 fI (spInit K C))
    (GS : FnOk P w K mg base CX0 1 fS fdS ["one", "two"] (spProds K)) (kS : PySem.W.keepIn K (.ref fS) = true) (bS : L2.Binds K fdS ["one", "two"] []) (gS : mg "_products" = some (.ref fS))
    (GN : FnOk P w K mg base CX0 2 fN fdN ["value"] (spIsN K)) (kN : PySem.W.keepIn K (.ref fN) = true) (bN : L2.Binds K fdN ["value"] []) (gN : mg "is_natural" = some (.ref fN))
    (mx : ∃ t, mg "_MAX_EXPONENT" = some (.int 20 t)) (rg : mg "range" = none) : FnOk P w K mg base CX0 5 f fd ["self", "other"] (spPow K C) := by
  refine F.ok scPow (fun vs H Q E h => ?_) (fun cdv A outer s H vs Q E hr h => ?_)
  · obtain ⟨p, e, ns, m, rfl, _⟩ := h
    rfl
  · obtain ⟨p, e, ns, m, rfl, ⟨dx, t, hp, ht⟩, he, hl, b, m0, m1, k⟩ := h
    obtain ⟨tx, mx⟩ := mx
    refine ⟨_, pss_cons (ps_if (PW.pt (pw_or (pt_not (pt_val (pe_call GN (hr.mono (by decide)) (by rfl) gN kN bN .nil pass0 (pa_cons (pv 1) pa_nil)))) (pw_or1 (pt_cmpR op_gt (pv 1) (pe_glob (v := .int 20) (by rfl) mx ⟨_, rfl⟩) (nomark _))))) (pss_one ps_never) pss_nil)
      (pss_cons (ps_set (i := 2) scPow.nd rfl (.inl rfl) (pe_lst (pa_cons pe_int pa_nil)))
      (pss_cons (ps_for PassesOwn.never rfl (pi_range1 (by rfl) rg (pa_cons (pv 1) pa_nil)) (pg_name (i := 3) scPow.nd rfl (.inl rfl))
        (pss_one (ps_set (i := 2) scPow.nd rfl (.inl rfl) (pe_call GS (hr.mono (by decide)) (by rfl) gS kS bS .nil pass0 (pa_cons (pv 2) (pa_cons (pe_fld (pv 0) rfl) pa_nil))))))
      (pss_one (ps_ret (pe_makeSG M GI hr (by rfl) T.gC pass0 (pv 2)))))), ?_⟩
    refine ⟨_, rfl, _, true, rfl, numV_nat (by omega), _, rfl, if_no (by decide) ?_⟩
    refine ⟨_, rfl, _, _, rfl, rfl, _, rfl, if_no (by rw [decide_eq_true_eq]; omega) ?_⟩
    refine ⟨by decide, fun L hL => ?_⟩
    refine ⟨_, rfl, _, rfl, by omega, by omega, for_range (fun i σ H' => ∃ y q, σ = [some (.ref p), some (.int (e : Int)), some (.ref q), y] ∧ Same H H' ∧ H' q = some (.lst (iv (powZ ns i)))) ⟨none, L, rfl, same_new hL, upd_same⟩ ?_ ?_⟩
    · rintro i σ H' hi ⟨y, q, rfl, s1, hq⟩
      rw [Int.toNat_natCast] at hi
      have lp := pow_len ns hl i
      refine ⟨_, rfl, _, rfl, p, C, dx, _, _, rfl, s1 _ _ hp, T.cls, T.noF, rfl, q, t, powZ ns i, ns, 1 + i * (m + 10), m, rfl, .inl (.inl (.inl hq)), .inr (sqT_same s1 ht), by omega, by omega, pow_bd hl b i (by omega), b, ?_, by omega, m0, fun r H2 s2 hr2 => ?_⟩
      · have : i * (m + 10) ≤ 20 * 10010 := Nat.mul_le_mul (by omega) (by omega)
        omega
      · exact ⟨_, _, rfl, s1.trans s2, hr2⟩
    · rintro σ H' ⟨y, q, rfl, s1, hq⟩
      rw [Int.toNat_natCast] at hq
      have lp := pow_len ns hl e
      refine ⟨_, rfl, q, _, rfl, .inr (.inl (.inl hq)), fun x dx2 hx hd ne => ⟨x, dx2, _, rfl, upd_same, fun c hc => (pow_bd hl b e he c hc).1, by omega, fun t2 H3 h1 h2 bb => ⟨rfl, ?_⟩⟩⟩
      exact k x H3 (s1.trans (same_made hx hd bb)) ⟨dx2, t2, h1, h2⟩
theorem ok_at {f fS fQ fC pC fI C : Addr} {fd fdS fdQ fdC : FuncData} (F : Fun K "at" "Polynomial.at" sAt f fd) (T : PolyC K mg C) (O : PolyO K C) (M : Mk K C fI) (GI : FnR P w K mg base CX0 3 fI (spInit K C))
    (GQ : FnOk P w K mg base CX0 1 fQ fdQ ["one", "two"] (spSums K)) (kQ : PySem.W.keepIn K (.ref fQ) = true) (bQ : L2.Binds K fdQ ["one", "two"] []) (gQ : mg "_sums" = some (.ref fQ))
    (GS : FnOk P w K mg base CX0 1 fS fdS ["one", "two"] (spProds K)) (kS : PySem.W.keepIn K (.ref fS) = true) (bS : L2.Binds K fdS ["one", "two"] []) (gS : mg "_products" = some (.ref fS))
    (PC : PropOf K C "coefficients" pC fC) (GC : FnOk P w K mg base CX0 1 fC fdC ["self"] (spCo K C)) (bC : L2.Binds K fdC ["self"] []) (B : BltP mg) : FnOk P w K mg base CX0 5 f fd ["self", "inner"] (spAt K C) := by
  refine F.ok scAt (fun vs H Q E h => ?_) (fun cdv A outer s H vs Q E hr h => ?_)
  · obtain ⟨p, r, ns, fs, m, rfl, _⟩ := h
    rfl
  · obtain ⟨p, r, ns, fs, m, rfl, ⟨dx, a, hp, ha⟩, hpr, hl, hf, b, bf, m0, m1, k⟩ := h
    obtain ⟨dr, ar, hr1, hr2⟩ := id hpr
    refine ⟨_, pss_cons (ps_if (pt_not (pt_val (pe_callB call_isi (by rfl) B.isi (by decide +kernel) (pa_cons (pv 1) (pa_cons (pe_glob (v := .ref C) (by rfl) T.gC rfl) pa_nil))))) (pss_one ps_never) pss_nil)
      (pss_cons (ps_set (i := 2) scAt.nd rfl (.inl rfl) (pe_lst pa_nil))
      (pss_cons (ps_for PassesOwn.never rfl (pi_tup (pe_revT (pe_fld (pv 0) rfl))) (pg_name (i := 3) scAt.nd rfl (.inl rfl))
        (pss_one (ps_set (i := 2) scAt.nd rfl (.inl rfl) (pe_call GQ (hr.mono (by decide)) (by rfl) gQ kQ bQ .nil pass0 (pa_cons (pe_call GS (hr.mono (by decide)) (by rfl) gS kS bS .nil pass0 (pa_cons (pv 2) (pa_cons (pe_prop (pv 1) T.cls PC GC (hr.mono (by decide)) bC .nil pass0 rfl) pa_nil))) (pa_cons (pe_lst (pa_cons (pv 3) pa_nil)) pa_nil))))))
      (pss_one (ps_ret (pe_makeSG M GI hr (by rfl) T.gC pass0 (pv 2)))))), ?_⟩
    refine ⟨_, rfl, _, _, _, _, true, rfl, .own C, tyx_poly T O hpr, O.isC, _, rfl, if_no (by decide) ?_⟩
    refine ⟨by decide, fun L hL => ?_⟩
    have s0 := same_new (o := .lst []) hL
    refine ⟨_, rfl, p, C, dx, _, _, rfl, s0 _ _ hp, T.cls, T.noF, rfl, a, _, rfl, sqT_same s0 ha, fun q hq => ?_⟩
    have sq := same_new (o := .tup (iv ns).reverse) hq
    refine ⟨q, rfl, ⟨_, .inl (.inl upd_same)⟩, for_tup (xs := (iv ns).reverse) (fun i σ H' => ∃ y u, σ = [some (.ref p), some (.ref r), some (.ref u), y] ∧ Same H H' ∧ H' q = some (.tup (iv ns).reverse) ∧ H' u = some (.lst (iv (atZ fs (ns.drop (ns.length - i))))))
      ⟨none, L, rfl, s0.trans sq, upd_same, by rw [Nat.sub_zero, List.drop_length]; exact sq _ _ upd_same⟩ (fun i σ H' _ ⟨y, u, _, _, hq', _⟩ => .inl (.inl hq')) ?_ ?_⟩
    · rintro i x σ H' hx ⟨y, u, rfl, s1, hq', hu⟩
      obtain ⟨c, rfl, hi, e⟩ := rev_at hx
      have hd : (ns.drop (ns.length - i)).length ≤ 40 := by rw [List.length_drop]; omega
      have hal := at_len hf (ns.drop (ns.length - i))
      have hal2 : (ns.drop (ns.length - i)).length * 20 ≤ 40 * 20 := Nat.mul_le_mul_right _ hd
      have hab := at_bd hf bf hd fun x hx => b x (List.mem_of_mem_drop hx)
      have hpl := prod_len (atZ fs (ns.drop (ns.length - i))) fs
      refine ⟨_, rfl, _, rfl, r, dr, _, rfl, s1 _ _ hr1, r, fs, rfl, polyAt_same s1 hpr, fun t ht => ?_⟩
      refine ⟨u, t, _, fs, _, m, rfl, .inl (.inl (.inl hu)), .inr ht, by omega, by omega, hab, bf, ?_, by omega, m0, fun v H2 s2 hv => ?_⟩
      · have : (ns.drop (ns.length - i)).length * (m + 11) ≤ 40 * 10011 := Nat.mul_le_mul hd (by omega)
        omega
      · refine ⟨_, rfl, (by show 1 ≤ sizeLine; decide), fun l hl2 => ?_⟩
        have s3 := same_new (o := .lst [.int c]) hl2
        refine ⟨v, l, _, [c], rfl, .inl (.inl (.inl (s3 _ _ hv))), .inl (.inl (.inl upd_same)), by omega, (by show 1 ≤ 100000; decide), fun z H4 s4 hz => ?_⟩
        refine ⟨some (.int c), z, rfl, s1.trans (s2.trans (s3.trans s4)), (s2.trans (s3.trans s4)) _ _ hq', ?_⟩
        rw [e]
        exact hz
    · rintro σ H' ⟨y, u, rfl, s1, hq', hu⟩
      have e : ns.length - (iv ns).reverse.length = 0 := by
        rw [List.length_reverse, iv_len, Nat.sub_self]
      rw [e] at hu
      have hal := at_len hf ns
      have hal2 : ns.length * 20 ≤ 40 * 20 := Nat.mul_le_mul_right _ hl
      refine ⟨_, rfl, u, _, rfl, .inr (.inl (.inl hu)), fun x dx2 hx hd ne => ⟨x, dx2, _, rfl, upd_same, fun c hc => (at_bd hf bf hl b c hc).1, ?_, fun t2 H3 h1 h2 bb => ⟨rfl, ?_⟩⟩⟩
      · show (atZ fs ns).length ≤ 1000
        omega
      · exact k x H3 (s1.trans (same_made hx hd bb)) ⟨dx2, t2, h1, h2⟩
end
end Qp

/-! values, slopes, and steps by the slope -/
namespace Qp
open PySem PySem.Spec PyProof.Rows L2 QN
/-- no coefficient below 0 -/
def NN (ns : List Int) : Prop := ∀ c ∈ ns, 0 ≤ c
theorem NN.tail {c : Int} {ns : List Int} (h : NN (c :: ns)) : NN ns := fun x hx => h x (List.mem_cons_of_mem _ hx)
theorem NN.head {c : Int} {ns : List Int} (h : NN (c :: ns)) : 0 ≤ c := h c List.mem_cons_self
theorem val_nn0 {x : Int} (hx : 0 ≤ x) : ∀ {ns : List Int}, NN ns → 0 ≤ val ns x
  | [], _ => Int.le_refl 0
  | c :: ns, h => by
    rw [val_cons]
    have h1 := val_nn0 hx h.tail
    have h2 := h.head
    have h3 := Int.mul_nonneg h1 hx
    omega
theorem val_mono0 {a b : Int} (h0 : 0 ≤ a) (h : a ≤ b) : ∀ {ns : List Int}, NN ns → val ns a ≤ val ns b
  | [], _ => Int.le_refl 0
  | c :: ns, hc => by
    rw [val_cons, val_cons]
    have h1 := val_mono0 h0 h hc.tail
    have h2 : val ns a * a ≤ val ns b * b := Int.mul_le_mul h1 h h0 (val_nn0 (by omega) hc.tail)
    omega
/-- the slope -/
def slo : List Int → Int → Int
  | [], _ => 0
  | _ :: ns, x => slo ns x * x + val ns x
theorem slo_nn {x : Int} (hx : 0 ≤ x) : ∀ {ns : List Int}, NN ns → 0 ≤ slo ns x
  | [], _ => Int.le_refl 0
  | c :: ns, h => by
    show 0 ≤ slo ns x * x + val ns x
    have h1 := slo_nn hx h.tail
    have h2 := val_nn0 hx h.tail
    have h3 := Int.mul_nonneg h1 hx
    omega
/-- a polynomial lies above its tangents -/
theorem convex {x y : Int} (hx : 0 ≤ x) (hy : 0 ≤ y) : ∀ {ns : List Int}, NN ns → val ns x + (y - x) * slo ns x ≤ val ns y
  | [], _ => by
    show (0 : Int) + (y - x) * 0 ≤ 0
    omega
  | c :: ns, h => by
    rw [val_cons, val_cons]
    show val ns x * x + c + (y - x) * (slo ns x * x + val ns x) ≤ val ns y * y + c
    have ih := convex hx hy h.tail
    have d := slo_nn hx h.tail
    generalize val ns x = a at *
    generalize val ns y = b at *
    generalize slo ns x = s at *
    have h1 : (a + (y - x) * s) * y ≤ b * y := Int.mul_le_mul_of_nonneg_right ih hy
    have h2 : 0 ≤ (y - x) * (y - x) * s := by
      refine Int.mul_nonneg ?_ d
      rcases Int.le_total 0 (y - x) with z | z
      · exact Int.mul_nonneg z z
      · exact Int.mul_nonneg_of_nonpos_of_nonpos z z
    have e : (a + (y - x) * s) * y = a * x + (y - x) * (s * x + a) + (y - x) * (y - x) * s := by
      simp only [Int.add_mul, Int.sub_mul, Int.mul_add, Int.mul_sub]
      have c1 : y * (y * s) = y * s * y := by rw [Int.mul_comm y s, Int.mul_comm y (s * y)]
      have e1 : y * s * y = y * y * s := by rw [Int.mul_assoc, Int.mul_comm s y, ← Int.mul_assoc]
      have e2 : x * s * y = x * y * s := by rw [Int.mul_assoc, Int.mul_comm s y, ← Int.mul_assoc]
      have e3 : y * (s * x) = x * y * s := by rw [Int.mul_comm s x, ← Int.mul_assoc, Int.mul_comm y x]
      have e4 : x * (s * x) = x * x * s := by rw [Int.mul_comm s x, ← Int.mul_assoc]
      have e5 : y * x * s = x * y * s := by rw [Int.mul_comm y x]
      have e6 : a * y = y * a := Int.mul_comm _ _
      have e7 : a * x = x * a := Int.mul_comm _ _
      omega
    omega
/-- the coefficients of the slope, from the place k on -/
def sloL (k : Int) : List Int → List Int
  | [] => []
  | c :: ns => k * c :: sloL (k + 1) ns
theorem val_sloL (x : Int) : ∀ (ns : List Int) (k : Int), val (sloL k ns) x = k * val ns x + x * slo ns x
  | [], k => by
    show (0 : Int) = k * 0 + x * 0
    omega
  | c :: ns, k => by
    show val (sloL (k + 1) ns) x * x + k * c = k * (val ns x * x + c) + x * (slo ns x * x + val ns x)
    rw [val_sloL x ns (k + 1)]
    generalize val ns x = a
    generalize slo ns x = s
    simp only [Int.add_mul, Int.mul_add, Int.one_mul]
    have e1 : k * a * x = k * (a * x) := Int.mul_assoc _ _ _
    have e2 : x * s * x = x * (s * x) := Int.mul_assoc _ _ _
    have e3 : a * x = x * a := Int.mul_comm _ _
    omega
/-- the coefficients of the slope -/
def slopeZ : List Int → List Int
  | [] => []
  | _ :: ns => sloL 1 ns
theorem val_slopeZ (ns : List Int) (x : Int) : val (slopeZ ns) x = slo ns x := by
  cases ns with
  | nil => rfl
  | cons c ns =>
    show val (sloL 1 ns) x = slo ns x * x + val ns x
    rw [val_sloL, Int.one_mul, Int.mul_comm x]
    omega
theorem sloL_len : ∀ (ns : List Int) (k : Int), (sloL k ns).length = ns.length
  | [], _ => rfl
  | c :: ns, k => by
    show (sloL (k + 1) ns).length + 1 = ns.length + 1
    rw [sloL_len ns]
theorem slopeZ_len (ns : List Int) : (slopeZ ns).length = ns.length - 1 := by
  cases ns with
  | nil => rfl
  | cons c ns => exact sloL_len ns 1
theorem sloL_get : ∀ (ns : List Int) (k : Int) (i : Nat), (sloL k ns).getD i 0 = (k + i) * ns.getD i 0
  | [], k, i => by
    show (0 : Int) = (k + i) * 0
    omega
  | c :: ns, k, 0 => by
    show k * c = (k + (0 : Nat)) * c
    congr 1
    omega
  | c :: ns, k, i + 1 => by
    show (sloL (k + 1) ns).getD i 0 = (k + (i + 1 : Nat)) * ns.getD i 0
    rw [sloL_get ns (k + 1) i]
    congr 1
    omega
theorem slopeZ_get (ns : List Int) (i : Nat) : (slopeZ ns).getD i 0 = ((i + 1 : Nat) : Int) * ns.getD (i + 1) 0 := by
  cases ns with
  | nil =>
    show (0 : Int) = _ * 0
    omega
  | cons c ns =>
    show (sloL 1 ns).getD i 0 = _ * ns.getD i 0
    rw [sloL_get]
    congr 1
    omega
/-- one coefficient is enough -/
theorem val_one {x c : Int} (hx : 1 ≤ x) : ∀ {ns : List Int} {i : Nat}, NN ns → ns[i]? = some c → c * x ^ i ≤ val ns x
  | [], i, _, h => by
    rw [List.getElem?_nil] at h
    cases h
  | d :: ns, 0, hn, h => by
    have e : d = c := Option.some.inj h
    subst e
    rw [val_cons, Int.pow_zero, Int.mul_one]
    have := Int.mul_nonneg (val_nn0 (x := x) (by omega) hn.tail) (by omega : (0 : Int) ≤ x)
    omega
  | d :: ns, i + 1, hn, h => by
    rw [val_cons, Int.pow_succ, ← Int.mul_assoc]
    have ih := val_one hx (ns := ns) (i := i) hn.tail (by simpa using h)
    have h1 := Int.mul_le_mul_of_nonneg_right ih (by omega : (0 : Int) ≤ x)
    have := hn.head
    omega
theorem slo_pos {x c : Int} (hx : 1 ≤ x) {ns : List Int} {i : Nat} (hn : NN ns) (h : ns[i + 1]? = some c) (hc : 1 ≤ c) : 1 ≤ slo ns x := by
  cases ns with
  | nil =>
    rw [List.getElem?_nil] at h
    cases h
  | cons d ns =>
    show 1 ≤ slo ns x * x + val ns x
    have h1 := Int.mul_nonneg (slo_nn (x := x) (by omega) hn.tail) (by omega : (0 : Int) ≤ x)
    have h2 := val_one (x := x) hx (ns := ns) (i := i) hn.tail (by simpa using h)
    have h3 : 0 < x ^ i := Int.pow_pos (by omega)
    have h4 : 1 * 1 ≤ c * x ^ i := Int.mul_le_mul hc (by omega) (by decide) (by omega)
    omega
/-- a step by the slope, from x, where the constant is 0 -/
theorem newton {x g s : Int} {ns : List Int} (hn : NN ns) (z0 : val ns 0 = 0) (hx : 1 ≤ x) (hg : 1 ≤ g) (es : slo ns x = s) (hs : 1 ≤ s) :
    1 ≤ x - (val ns x - g) / s ∧ g ≤ val ns (x - (val ns x - g) / s) ∧ x - (val ns x - g) / s ≤ x + g ∧ (g ≤ val ns x → 0 ≤ (val ns x - g) / s) ∧ val ns x ≤ x * s := by
  subst es
  have c0 := convex (x := x) (y := 0) (by omega) (Int.le_refl 0) hn
  rw [z0, Int.zero_sub, Int.neg_mul] at c0
  have q1 : (val ns x - g) / slo ns x * slo ns x ≤ val ns x - g := Int.ediv_mul_le _ (by omega)
  have q2 : (val ns x - g) / slo ns x < x := by
    apply Int.ediv_lt_of_lt_mul (by omega)
    omega
  have q3 : -g ≤ (val ns x - g) / slo ns x := by
    apply (Int.le_ediv_iff_mul_le (by omega)).mpr
    rw [Int.neg_mul]
    have := Int.mul_le_mul_of_nonneg_left hs (by omega : (0 : Int) ≤ g)
    have := val_nn0 (x := x) (by omega) hn
    omega
  have c1 := convex (x := x) (y := x - (val ns x - g) / slo ns x) (by omega) (by omega) hn
  refine ⟨by omega, ?_, by omega, fun h => Int.ediv_nonneg (by omega) (by omega), by omega⟩
  have e : (x - (val ns x - g) / slo ns x - x) * slo ns x = -((val ns x - g) / slo ns x * slo ns x) := by
    rw [← Int.neg_mul]
    congr 1
    omega
  rw [e] at c1
  omega
end Qp

/-! binary digits -/
namespace Qp
open PySem PySem.Spec PyProof.Rows L2 QN
abbrev BL (x : Int) : Nat := Builtin.Int.intBits x
theorem bl_le {m : Nat} {x : Int} : BL x ≤ m ↔ x.natAbs < 2 ^ m := PySem.intBits_le_iff
theorem natAbs_pow {x : Int} {m : Nat} (h0 : 0 ≤ x) : x.natAbs < 2 ^ m ↔ x < 2 ^ m := by
  obtain ⟨n, rfl⟩ := Int.eq_ofNat_of_zero_le h0
  rw [Int.natAbs_natCast]
  have e : ((2 : Int) ^ m) = ((2 ^ m : Nat) : Int) := by simp
  rw [e]
  exact Int.ofNat_lt.symm
theorem bl_lt {m : Nat} {x : Int} (h0 : 0 ≤ x) : BL x ≤ m ↔ x < 2 ^ m := bl_le.trans (natAbs_pow h0)
theorem bl_ge {m : Nat} {x : Int} (h0 : 0 ≤ x) : m < BL x ↔ 2 ^ m ≤ x := by
  have := bl_lt (m := m) h0
  omega
theorem bl_self {x : Int} (h0 : 0 ≤ x) : x < 2 ^ BL x := (bl_lt h0).mp (Nat.le_refl _)
theorem bl_one {x : Int} (h : 1 ≤ x) : 1 ≤ BL x := (bl_ge (m := 0) (by omega)).mpr h
theorem bl_zero : BL 0 = 0 := rfl
theorem pos_bl {x : Int} (h0 : 0 ≤ x) (h : 1 ≤ BL x) : 1 ≤ x := (bl_ge (m := 0) h0).mp h
theorem nat_eq_of_le {a b : Nat} (h : ∀ m, a ≤ m ↔ b ≤ m) : a = b := Nat.le_antisymm ((h b).mpr (Nat.le_refl b)) ((h a).mp (Nat.le_refl a))
theorem two_pos (k : Nat) : (0 : Int) < 2 ^ k := Int.pow_pos (by decide)
theorem bl_shr {x : Int} (h0 : 0 ≤ x) (k : Nat) : BL (x / 2 ^ k) = BL x - k := by
  refine nat_eq_of_le fun m => ?_
  rw [bl_lt (Int.ediv_nonneg h0 (Int.le_of_lt (two_pos k)))]
  have e : x / 2 ^ k < 2 ^ m ↔ x < 2 ^ (m + k) := by
    rw [Int.pow_add]
    exact ⟨fun z => Int.lt_mul_of_ediv_lt (two_pos k) z, fun z => Int.ediv_lt_of_lt_mul (two_pos k) z⟩
  rw [e, ← bl_lt h0]
  omega
theorem bl_shl {x : Int} (h1 : 1 ≤ x) (k : Nat) : BL (x * 2 ^ k) = BL x + k := by
  have p := two_pos k
  have key : ∀ m, BL (x * 2 ^ k) ≤ m + k ↔ BL x ≤ m := fun m => by
    rw [bl_lt (Int.mul_nonneg (by omega) (Int.le_of_lt p)), bl_lt (by omega), Int.pow_add]
    exact ⟨fun z => Int.lt_of_mul_lt_mul_right z (Int.le_of_lt p), fun z => Int.mul_lt_mul_of_pos_right z p⟩
  have g1 : k < BL (x * 2 ^ k) := by
    apply (bl_ge (Int.mul_nonneg (by omega) (Int.le_of_lt p))).mpr
    have := Int.mul_le_mul_of_nonneg_right h1 (Int.le_of_lt p)
    omega
  have a := (key (BL x)).mpr (Nat.le_refl _)
  have b := (key (BL (x * 2 ^ k) - k)).mp (by omega)
  omega
theorem bl_mono {x y : Int} (h0 : 0 ≤ x) (h : x ≤ y) : BL x ≤ BL y := (bl_lt h0).mpr (Int.lt_of_le_of_lt h (bl_self (by omega)))
/-- a shift to the left, or to the right -/
def shZ (c b : Int) : Int := if 0 < b then c * 2 ^ b.toNat else c / 2 ^ (-b).toNat
theorem shZ_nn {c : Int} (h : 0 ≤ c) (b : Int) : 0 ≤ shZ c b := by
  unfold shZ
  split
  · exact Int.mul_nonneg h (Int.le_of_lt (two_pos _))
  · exact Int.ediv_nonneg h (Int.le_of_lt (two_pos _))
theorem shZ_zero (b : Int) : shZ 0 b = 0 := by
  unfold shZ
  split
  · exact Int.zero_mul _
  · exact Int.zero_ediv _
theorem shZ_bl {c : Int} (h : 1 ≤ c) (a l : Nat) : BL (shZ c ((a : Int) - l)) = BL c + a - l := by
  unfold shZ
  split
  · rw [bl_shl h]
    omega
  · rw [bl_shr (by omega)]
    omega
theorem shZ_le {c : Int} (h : 0 ≤ c) (a l : Nat) : BL (shZ c ((a : Int) - l)) ≤ BL c + a := by
  by_cases z : c = 0
  · subst z
    rw [shZ_zero, bl_zero]
    omega
  · rw [shZ_bl (by omega)]
    omega
def coarse (r : List Int) (cut less : Nat) : List Int := (List.range r.length).map fun i => shZ (r.getD i 0) (((cut * i : Nat) : Int) - less)
theorem coarse_len (r : List Int) (cut less : Nat) : (coarse r cut less).length = r.length := by
  unfold coarse
  rw [List.length_map, List.length_range]
theorem getD_of {r : List Int} {i : Nat} {c : Int} (h : r[i]? = some c) : r.getD i 0 = c := by
  rw [List.getD_eq_getElem?_getD, h]
  rfl
theorem get_of {r : List Int} {i : Nat} (h : i < r.length) : r[i]? = some (r.getD i 0) := by
  rw [List.getD_eq_getElem?_getD, List.getElem?_eq_getElem h]
  rfl
theorem coarse_get {r : List Int} {cut less i : Nat} {c : Int} (h : (coarse r cut less)[i]? = some c) : i < r.length ∧ c = shZ (r.getD i 0) (((cut * i : Nat) : Int) - less) := by
  have hi : i < r.length := by
    have z := (List.getElem?_eq_some_iff.mp h).1
    rw [coarse_len] at z
    exact z
  unfold coarse at h
  rw [List.getElem?_map, List.getElem?_range hi] at h
  exact ⟨hi, (Option.some.inj h).symm⟩
theorem NN.getD {r : List Int} (h : NN r) (i : Nat) : 0 ≤ r.getD i 0 := by
  by_cases z : i < r.length
  · exact h _ (List.mem_of_getElem? (get_of z))
  · rw [List.getD_eq_getElem?_getD, List.getElem?_eq_none (by omega)]
    exact Int.le_refl 0
theorem val_zero (r : List Int) : val r 0 = r.getD 0 0 := by
  cases r with
  | nil => rfl
  | cons c r =>
    rw [val_cons, Int.mul_zero, Int.zero_add]
    rfl
/-- what is asked of a place that is looked for, with so many binary digits -/
structure NearI (r : List Int) (g : Int) (many : Nat) : Prop where
  nn : NN r
  z : r.getD 0 0 = 0
  g1 : 1 ≤ g
  ex : ∃ i c, 1 ≤ i ∧ r[i]? = some c ∧ 1 ≤ c ∧ BL g + 2 ≤ BL c + many * i
/-- how great the coefficients are -/
def NearS (S : Nat) (r : List Int) (many : Nat) : Prop := ∀ k c, r[k]? = some c → BL c + many * k ≤ S
theorem NearI.coarse {r : List Int} {g : Int} {many cut lost d : Nat} (h : NearI r g many) (hd : r.length = d + 1) (h2 : cut < many) :
    NearI (coarse r cut (BL g - ((d + 1) * (many - cut) + lost))) (g / 2 ^ (BL g - ((d + 1) * (many - cut) + lost))) (many - cut) := by
  obtain ⟨i, c, i1, hi, c1, hb⟩ := h.ex
  have il : i < r.length := (List.getElem?_eq_some_iff.mp hi).1
  have gd := getD_of hi
  have G1 := bl_one h.g1
  have C1 := bl_one c1
  have dm : i * (many - cut) + (many - cut) ≤ (d + 1) * (many - cut) := by
    rw [show i * (many - cut) + (many - cut) = (i + 1) * (many - cut) by rw [Nat.add_mul, Nat.one_mul]]
    exact Nat.mul_le_mul_right _ (by omega)
  have mi : many * i = cut * i + i * (many - cut) := by
    rw [Nat.mul_comm i, ← Nat.add_mul]
    congr 1
    omega
  have mi2 : (many - cut) * i = i * (many - cut) := Nat.mul_comm _ _
  generalize i * (many - cut) = u at *
  generalize (d + 1) * (many - cut) = v at *
  generalize hl : BL g - (v + lost) = less at *
  have gb := bl_shr (x := g) (by have := h.g1; omega) less
  have cb := shZ_bl c1 (cut * i) less
  refine ⟨fun x hx => ?_, ?_, ?_, i, shZ c (((cut * i : Nat) : Int) - less), i1, ?_, ?_, ?_⟩
  · obtain ⟨k, hk⟩ := List.getElem?_of_mem hx
    rw [(coarse_get hk).2]
    exact shZ_nn (h.nn.getD k) _
  · rw [List.getD_eq_getElem?_getD]
    cases e : (Qp.coarse r cut less)[0]? with
    | none => rfl
    | some x =>
      obtain ⟨_, e2⟩ := coarse_get e
      show x = 0
      rw [e2, h.z, shZ_zero]
  · exact pos_bl (Int.ediv_nonneg (by have := h.g1; omega) (Int.le_of_lt (two_pos _))) (by omega)
  · unfold Qp.coarse
    rw [List.getElem?_map, List.getElem?_range il, Option.map_some, gd]
  · exact pos_bl (shZ_nn (by omega) _) (by omega)
  · omega
theorem NearS.coarse {S : Nat} {r : List Int} {many cut less : Nat} (h : NearS S r many) (hn : NN r) (h2 : cut ≤ many) : NearS S (coarse r cut less) (many - cut) := fun k c hc => by
  obtain ⟨hk, e⟩ := coarse_get hc
  have a := h k _ (get_of hk)
  have b := shZ_le (hn.getD k) (cut * k) less
  rw [← e] at b
  have m : many * k = cut * k + (many - cut) * k := by
    rw [← Nat.add_mul]
    congr 1
    omega
  omega
theorem NearS.lt {S : Nat} {r : List Int} {many : Nat} (h : NearS S r many) (hn : NN r) {c : Int} (hc : c ∈ r) : c < 2 ^ S := by
  obtain ⟨k, hk⟩ := List.getElem?_of_mem hc
  exact (bl_lt (hn c hc)).mp (Nat.le_trans (Nat.le_add_right _ _) (h k c hk))
/-- with so many binary digits the goal is reached -/
theorem NearI.hit {r : List Int} {g : Int} {many : Nat} (h : NearI r g many) : g < val r (2 ^ many) := by
  obtain ⟨i, c, i1, hi, c1, hb⟩ := h.ex
  have p := two_pos many
  have a := val_one (x := 2 ^ many) (by omega) h.nn hi
  have C1 := bl_one c1
  have b : (2 : Int) ^ (BL c - 1) ≤ c := (bl_ge (by omega)).mp (by omega)
  have e : ((2 : Int) ^ many) ^ i = 2 ^ (many * i) := Int.pow_mul.symm
  rw [e] at a
  have m := Int.mul_le_mul_of_nonneg_right b (Int.le_of_lt (two_pos (many * i)))
  rw [← Int.pow_add] at m
  have s := bl_self (x := g) (by have := h.g1; omega)
  have t := pow_mono2 (a := BL g) (b := BL c - 1 + many * i) (by omega)
  omega
/-- a slope to divide by -/
theorem NearI.slo {r : List Int} {g x : Int} {many : Nat} (h : NearI r g many) (hx : 1 ≤ x) : 1 ≤ slo r x := by
  obtain ⟨i, c, i1, hi, c1, _⟩ := h.ex
  obtain ⟨j, rfl⟩ : ∃ j, i = j + 1 := ⟨i - 1, by omega⟩
  exact slo_pos hx h.nn hi c1
/-- the slopes as the program makes them -/
def sloR (r : List Int) : List Int := (List.range (r.length - 1)).map fun i => ((i + 1 : Nat) : Int) * r.getD (i + 1) 0
theorem sloR_eq (r : List Int) : sloR r = slopeZ r := by
  apply List.ext_getElem?
  intro i
  by_cases h : i < r.length - 1
  · rw [get_of (r := slopeZ r) (by rw [slopeZ_len]; exact h), slopeZ_get]
    unfold sloR
    rw [List.getElem?_map, List.getElem?_range h]
    rfl
  · rw [List.getElem?_eq_none (by unfold sloR; rw [List.length_map, List.length_range]; omega), List.getElem?_eq_none (by rw [slopeZ_len]; omega)]
theorem val_sloR (r : List Int) (x : Int) : val (sloR r) x = slo r x := by rw [sloR_eq, val_slopeZ]
theorem sloR_nn {r : List Int} (h : NN r) : NN (sloR r) := fun c hc => by
  obtain ⟨i, _, rfl⟩ := List.mem_map.mp hc
  exact Int.mul_nonneg (Int.natCast_nonneg _) (h.getD _)
theorem sloR_lt {r : List Int} {S : Nat} (hn : NN r) (h : ∀ c ∈ r, c < 2 ^ S) (hl : r.length ≤ 8) : ∀ c ∈ sloR r, c < 2 ^ (S + 3) := fun c hc => by
  obtain ⟨i, hi, rfl⟩ := List.mem_map.mp hc
  have hi2 := List.mem_range.mp hi
  have a := h _ (List.mem_of_getElem? (get_of (r := r) (i := i + 1) (by omega)))
  have b := hn.getD (i + 1)
  have p := two_pos S
  rw [Int.pow_add, Int.mul_comm]
  refine Int.lt_of_lt_of_le (Int.mul_lt_mul_of_pos_right a (by omega)) (Int.mul_le_mul_of_nonneg_left ?_ (by omega))
  show ((i + 1 : Nat) : Int) ≤ 2 ^ 3
  omega
/-- how many binary digits a near place may have -/
def nearR (d lost G many : Nat) : Nat := if many ≤ 3 * lost then many + 2 else max G ((d + 1) * (many - (many - lost) / 2) + lost + 1 + (many - lost) / 2) + 1
theorem nearR_le {d lost G many : Nat} (hd : 2 ≤ d) (hl : 2 ≤ lost) : nearR d lost G many ≤ max G ((d + 1) * many + lost) + 1 := by
  unfold nearR
  have base : many ≤ (d + 1) * many := Nat.le_mul_of_pos_left _ (by omega)
  split
  · omega
  · rename_i h
    have c : 1 ≤ (many - lost) / 2 := by omega
    generalize hc : (many - lost) / 2 = cut at *
    have e : (d + 1) * many = (d + 1) * (many - cut) + (d + 1) * cut := by
      rw [← Nat.mul_add]
      congr 1
      omega
    have f : 2 * cut ≤ (d + 1) * cut := Nat.mul_le_mul_right _ (by omega)
    omega
/-- the binary digits of the least place -/
theorem digits_ex {G b k m : Nat} (hk : 1 ≤ k) (hm : m = (G + 1 - b) / k + 1) : G + 2 ≤ b + m * k := by
  subst hm
  have a := Nat.div_add_mod (G + 1 - b) k
  have r := Nat.mod_lt (G + 1 - b) (show 0 < k by omega)
  rw [Nat.add_mul, Nat.one_mul, Nat.mul_comm _ k]
  omega
end Qp

/-! values of coefficients, and slopes -/
namespace Qp
open PySem PySem.Spec PyProof.Rows L2 QN
/-- a list, or a tuple -/
def SqK (k : Bool) (K : PySem.W.Frag) (H : Hp) (a : Addr) (xs : List V) : Prop := match k with
  | true => SqL K H a xs
  | false => SqT K H a xs
theorem sqK_or {k : Bool} {K : PySem.W.Frag} {H : Hp} {a : Addr} {xs : List V} (h : SqK k K H a xs) : SqL K H a xs ∨ SqT K H a xs := by
  cases k with
  | true => exact .inl h
  | false => exact .inr h
theorem sqLs {K : PySem.W.Frag} {H H' : Hp} {q : Addr} {xs : List V} (e : Same H H') (a : SqL K H q xs) : SqL K H' q xs := by
  rcases a with (a | ⟨u, a⟩) | a
  · exact .inl (.inl (e _ _ a))
  · exact .inl (.inr ⟨u, e _ _ a⟩)
  · exact .inr a
theorem sqK_same {k : Bool} {K : PySem.W.Frag} {H H' : Hp} {a : Addr} {xs : List V} (s : Same H H') (h : SqK k K H a xs) : SqK k K H' a xs := by
  cases k with
  | true => exact sqLs s h
  | false => exact sqT_same s h
/-- numbers from 0 to below 2 ^ S -/
def Bdd (S : Nat) (ns : List Int) : Prop := ∀ c ∈ ns, 0 ≤ c ∧ c < 2 ^ S
theorem Bdd.nn {S : Nat} {ns : List Int} (h : Bdd S ns) : NN ns := fun c hc => (h c hc).1
theorem valB_lt {n : Int} {m S : Nat} (hn : 0 ≤ n) (hm : n < 2 ^ m) : ∀ {ns : List Int}, Bdd S ns → val ns n < 2 ^ (S + ns.length * (m + 1))
  | [], _ => by
    show (0 : Int) < 2 ^ (S + 0 * (m + 1))
    exact Int.pow_pos (by decide)
  | c :: ns, h => by
    rw [val_cons]
    have hns : Bdd S ns := fun x hx => h x (List.mem_cons_of_mem _ hx)
    have h1 := valB_lt hn hm hns
    have h0 := val_nn0 hn hns.nn
    have h2 := (h c List.mem_cons_self)
    have e : S + (c :: ns).length * (m + 1) = (S + ns.length * (m + 1)) + m + 1 := by
      rw [List.length_cons, Nat.add_mul]
      omega
    rw [e, Int.pow_succ, Int.pow_add]
    have h3 : val ns n * n ≤ 2 ^ (S + ns.length * (m + 1)) * 2 ^ m := Int.mul_le_mul (by omega) (by omega) hn (Int.le_of_lt (Int.pow_pos (by decide)))
    have h4 : (2 : Int) ^ S ≤ 2 ^ (S + ns.length * (m + 1)) * 2 ^ m := by
      rw [← Int.pow_add]
      exact pow_mono2 (by omega)
    omega
/-- these coefficients may be reckoned with at n -/
structure FitV (ns : List Int) (n : Int) : Prop where
  nn : 0 ≤ n
  sz : ∃ S m, Bdd S ns ∧ n < 2 ^ m ∧ 0 < S ∧ 0 < m ∧ S + ns.length * (m + 1) + m ≤ 1000000
theorem FitV.mul {ns : List Int} {n : Int} (F : FitV ns n) (k : Nat) : CMulW (val (ns.drop k) n) n := by
  obtain ⟨S, m, hb, hm, s0, m0, hs⟩ := F.sz
  have okd : Bdd S (ns.drop k) := fun c hc => hb c (List.mem_of_mem_drop hc)
  have l1 : (ns.drop k).length * (m + 1) ≤ ns.length * (m + 1) := Nat.mul_le_mul_right _ (by rw [List.length_drop]; omega)
  exact wide_mul (a := S + (ns.drop k).length * (m + 1)) (b := m) (abs_lt (val_nn0 F.nn okd.nn) (valB_lt F.nn hm okd)) (abs_lt F.nn hm) (by omega) m0 (by omega)
theorem Fit.v {ns : List Int} {n : Int} (F : Fit ns n) : FitV ns n := by
  obtain ⟨m, hm, m0, hs⟩ := F.sz
  exact ⟨F.nn, 70, m, fun c hc => ⟨(F.ok c hc).1, Int.lt_trans (F.ok c hc).2 (by decide)⟩, hm, by decide, m0, hs⟩
abbrev sVal : Stmt := top 19 -- _value
theorem scVal : FnScope ["coefficients", "n", "total", "number"] ["coefficients", "n"] (defScope sVal) := ⟨rfl, rfl, rfl, by decide +kernel, rfl, by decide +kernel, by decide +kernel⟩
def spVal (K : PySem.W.Frag) (k : Bool) : Sp := fun vs H Q _ => ∃ (a : Addr) (ns : List Int) (n : Int), vs = [.ref a, .int n] ∧ SqK k K H a (iv ns) ∧ FitV ns n ∧ ∀ (H' : Hp), Same H H' → Q (.int (val ns n)) H'
section
variable {P : Program} {w : World} {K : PySem.W.Frag} {mg : Str → Option Value} {base : Heap}
theorem ok_val (kk : Bool) {f : Addr} {fd : FuncData} (F : Fun K "_value" "_value" sVal f fd) : FnOk P w K mg base CX0 1 f fd ["coefficients", "n"] (spVal K kk) := by
  refine F.ok scVal (fun vs H Q E h => ?_) (fun cdv A outer s H vs Q E hr h => ?_)
  · obtain ⟨a, ns, n, rfl, _⟩ := h
    rfl
  · obtain ⟨a, ns, n, rfl, ha, fit, k⟩ := h
    cases kk with
    | false =>
      refine ⟨_, pss_cons (ps_set (i := 2) scVal.nd rfl (.inl rfl) pe_int)
        (pss_cons (ps_for PassesOwn.never rfl (pi_tup (pe_revT (pv 0))) (pg_name (i := 3) scVal.nd rfl (.inl rfl))
          (pss_one (ps_set (i := 2) scVal.nd rfl (.inl rfl) (pe_op op_add (pe_op op_mulW (pv 2) (pv 1)) (pv 3)))))
        (pss_one (ps_ret (pv 2)))), ?_⟩
      refine ⟨_, rfl, a, _, rfl, ha, fun q hq => ?_⟩
      have sq := same_new (o := .tup (iv ns).reverse) hq
      refine ⟨q, rfl, ⟨_, .inl (.inl upd_same)⟩, for_tup (xs := (iv ns).reverse) (fun i σ H' => ∃ y, σ = [some (.ref a), some (.int n), some (.int (val (ns.drop (ns.length - i)) n)), y] ∧ Same H H' ∧ H' q = some (.tup (iv ns).reverse))
        ⟨none, by rw [Nat.sub_zero, List.drop_length]; rfl, sq, upd_same⟩ (fun i σ H' _ ⟨y, _, _, hq'⟩ => .inl (.inl hq')) ?_ ?_⟩
      · rintro i x σ H' hx ⟨y, rfl, sm, hq'⟩
        obtain ⟨c, rfl, hi, e⟩ := rev_at hx
        refine ⟨_, rfl, _, rfl, _, _, rfl, rfl, fit.mul _, _, rfl, _, _, rfl, rfl, some (.int c), ?_, sm, hq'⟩
        rw [e, val_cons]
        rfl
      · rintro σ H' ⟨y, rfl, sm, hq'⟩
        refine ⟨_, rfl, ?_⟩
        have e : ns.length - (iv ns).reverse.length = 0 := by
          unfold iv
          rw [List.length_reverse, List.length_map, Nat.sub_self]
        rw [e]
        exact k H' sm
    | true =>
      refine ⟨_, pss_cons (ps_set (i := 2) scVal.nd rfl (.inl rfl) pe_int)
        (pss_cons (ps_for PassesOwn.never rfl (pi_list (L2.pe_revL (pv 0))) (pg_name (i := 3) scVal.nd rfl (.inl rfl))
          (pss_one (ps_set (i := 2) scVal.nd rfl (.inl rfl) (pe_op op_add (pe_op op_mulW (pv 2) (pv 1)) (pv 3)))))
        (pss_one (ps_ret (pv 2)))), ?_⟩
      refine ⟨_, rfl, a, _, rfl, ha, fun q hq => ?_⟩
      have sq := same_new (o := .lst (iv ns).reverse) hq
      refine ⟨q, rfl, ⟨_, .inl (.inl upd_same)⟩, for_list (xs := (iv ns).reverse) (fun i σ H' => ∃ y, σ = [some (.ref a), some (.int n), some (.int (val (ns.drop (ns.length - i)) n)), y] ∧ Same H H' ∧ H' q = some (.lst (iv ns).reverse))
        ⟨none, by rw [Nat.sub_zero, List.drop_length]; rfl, sq, upd_same⟩ (fun i σ H' _ ⟨y, _, _, hq'⟩ => .inl (.inl hq')) ?_ ?_⟩
      · rintro i x σ H' hx ⟨y, rfl, sm, hq'⟩
        obtain ⟨c, rfl, hi, e⟩ := rev_at hx
        refine ⟨_, rfl, _, rfl, _, _, rfl, rfl, fit.mul _, _, rfl, _, _, rfl, rfl, some (.int c), ?_, sm, hq'⟩
        rw [e, val_cons]
        rfl
      · rintro σ H' ⟨y, rfl, sm, hq'⟩
        refine ⟨_, rfl, ?_⟩
        have e : ns.length - (iv ns).reverse.length = 0 := by
          unfold iv
          rw [List.length_reverse, List.length_map, Nat.sub_self]
        rw [e]
        exact k H' sm
/-- // by a positive divisor, where C divides -/
theorem op_fdivP {X : Cx} : OpR X (binaryOp .FloorDiv) (rI CDivP fun i j => .int (i / j)) := opI fun i j _ _ _ _ _ hc q => by
  have h1 : (0 : Int) < j := hc.1
  exact floordiv_int (by omega) (by rw [Int.fdiv_eq_ediv_of_nonneg i (by omega)]; exact q) (.inl hc.2)
end
end Qp

/-! own classes by Python's signs: x in o, o[i], len(o), truth, ==, +, * -/
namespace QN
open PySem PySem.Spec PyProof.Rows L2
section
variable {X : Cx} {pins : List (Addr × Obj)} {σ : L2.St} {H : Hp} {s : Shared} {CX : CXT} {k : Nat} {C g : Addr} {sp : Sp} {E : XK} {Q : VK} {us : List Value} {vs : List V}
theorem rv_ref (a : Addr) : L2.RelV (V.ref a) (Value.ref a) := rfl
/-- a def with its promise, called in a deeper place -/
theorem run_deep {A' : Around} (F : FnR X.prog X.w X.K X.mg X.base CX k g sp) (hr : Room k A') (e0 : Env0 X.prog X.w X.K X.mg X.base A' X.stack s H) (hx : Passes CX X E) (I : Inv X pins σ H s) (r : Vals vs us) (h : sp vs H Q E) :
    wpAny (model X.prog X.w) A' (call (.ref g) us) (EP X pins σ Q) X.xe s := by
  refine wpAny_call (codeAny_mono (F A' X.stack s H us vs Q E hr e0 r h) fun out s' got => ?_)
  match out, got with
  | .error e, got => exact hx pins σ H s e s' I got
  | .ok (.ret u), got => exact I.after got
  | .ok .next, got => exact got.elim
  | .ok .brk, got => exact got.elim
  | .ok .cont, got => exact got.elim
/-- an own method that a sign calls -/
structure OMeth (K : PySem.W.Frag) (C : Addr) (m : Str) (g : Addr) : Prop where
  at_ : PySem.W.findIn K (.ref C) m = some (some (.ref g))
  fn : PySem.W.isFn K (.ref g) = true
/-- an instance of C stands at a -/
def OAt (C : Addr) (H : Hp) (a : Addr) : Prop := ∃ dx fs, H a = some (.ins C dx fs)
theorem OAt.inst {a : Addr} (I : Inv X pins σ H s) (h : OAt C H a) : ∃ ox od, PySem.W.InstAt s.heap a ox C od := by
  obtain ⟨ox, od, J, _⟩ := StX.insC_at I (.inr h)
  exact ⟨ox, od, J⟩
end
section
variable {X : Cx} {CX : CXT} {k : Nat} {C g : Addr} {sp : Sp} {E : XK}
/-- v in o -/
def rInO (C : Addr) (sp : Sp) (E : XK) (yes : Bool) : R2 := fun v o H Q => ∃ a, o = .ref a ∧ OAt C H a ∧ sp [.ref a, v] H (fun u H' => ∃ b, u = .bl b ∧ Q (.bl (if yes then b else !b)) H') E
theorem op_inO (M : OMeth X.K C "__contains__" g) (F : FnR X.prog X.w X.K X.mg X.base CX k g sp) (hr : Room k X.A) (hx : Passes CX X E) : OpR X (compareOp .In) (rInO C sp E true) := by
  intro pins s σ H x y v u Q I rx ry h
  obtain ⟨a, rfl, ha, q⟩ := h
  obtain rfl : u = Value.ref a := ry
  obtain ⟨ox, od, J⟩ := OAt.inst I ha
  obtain ⟨m, fr⟩ := I.fr
  refine PySem.W.in_K fr I.ok.mod.kin J M.at_ M.fn (wpAny_mono (run_deep F hr I.env0 hx I (.cons (rv_ref _) (.cons rx .nil)) q) (fun w1 s1 got => ?_) fun _ _ z => z)
  obtain ⟨v1, H1, I1, r1, b, rfl, q1⟩ := got
  obtain rfl : w1 = Value.bool b := r1
  exact wpAny_truthy_bool ⟨.bl b, H1, I1, rfl, q1⟩
theorem op_notInO (M : OMeth X.K C "__contains__" g) (F : FnR X.prog X.w X.K X.mg X.base CX k g sp) (hr : Room k X.A) (hx : Passes CX X E) : OpR X (compareOp .NotIn) (rInO C sp E false) := by
  intro pins s σ H x y v u Q I rx ry h
  obtain ⟨a, rfl, ha, q⟩ := h
  obtain rfl : u = Value.ref a := ry
  obtain ⟨ox, od, J⟩ := OAt.inst I ha
  obtain ⟨m, fr⟩ := I.fr
  refine PySem.W.notIn_K fr I.ok.mod.kin J M.at_ M.fn (wpAny_mono (run_deep F hr I.env0 hx I (.cons (rv_ref _) (.cons rx .nil)) q) (fun w1 s1 got => ?_) fun _ _ z => z)
  obtain ⟨v1, H1, I1, r1, b, rfl, q1⟩ := got
  obtain rfl : w1 = Value.bool b := r1
  exact wpAny_truthy_bool ⟨.bl !b, H1, I1, rfl, q1⟩
/-- o[e] -/
def tItemO (C : Addr) (sp : Sp) (E : XK) (ta tb : TE) : TE := fun σ H Q => ta σ H fun x H1 => tb σ H1 fun y H2 => ∃ a, x = .ref a ∧ OAt C H2 a ∧ sp [.ref a, y] H2 Q E
theorem pe_itemO {a b : Expr} {ta tb : TE} {pos : Pos} (M : OMeth X.K C "__getitem__" g) (fi : PySem.W.fnIn X.K g = true) (F : FnR X.prog X.w X.K X.mg X.base CX k g sp) (hr : Room (k + 1) X.A) (hx : Passes CX X E) (ha : PE X a ta) (hb : PE X b tb)
    (hsl : ∀ o i, subscripted b true o i = runValue (.builtin "lifetime.subscript" ⟨[o, i], []⟩)) : PE X (.Subscript a b pos) (tItemO C sp E ta tb) := by
  refine ⟨fun pins s σ H Q I h => ?_⟩
  refine Subscript_ (binT ha hb I h fun v u s2 x y H2 I2 rx ry q => ?_)
  obtain ⟨p, rfl, hp, q⟩ := q
  obtain rfl : v = Value.ref p := rx
  obtain ⟨ox, od, J⟩ := OAt.inst I2 hp
  obtain ⟨m, fr⟩ := I2.fr
  exact PySem.W.sub_K fr I2.ok.mod.kin J M.at_ fi M.fn (run_deep F hr.in1 I2.env0.in1 hx I2 (.cons (rv_ref _) (.cons ry .nil)) q) (hsl _ _)
/-- len(o) -/
theorem call_lenO (M : OMeth X.K C "__len__" g) (F : FnR X.prog X.w X.K X.mg X.base CX k g sp) (hr : Room (k + 1) X.A) (hx : Passes CX X E) :
    CallR X (.builtin "len") (fun xs H Q => ∃ a, xs = [.ref a] ∧ OAt C H a ∧ sp [.ref a] H (fun u H' => ∃ n : Nat, u = .int n ∧ n ≤ sizeLine ∧ Q (.int n) H') E) := by
  intro pins s σ H xs us Q I r h
  obtain ⟨a, rfl, ha, q⟩ := h
  obtain ⟨u, rfl, ru⟩ := vals1 r
  obtain rfl : u = Value.ref a := ru
  obtain ⟨ox, od, J⟩ := OAt.inst I ha
  obtain ⟨m, fr⟩ := I.fr
  refine PySem.W.len_K fr I.ok.mod.kin J M.at_ M.fn (wpAny_mono (run_deep F hr.in1 I.env0.in1 hx I (.cons (rv_ref _) .nil) q) (fun w1 s1 got => ?_) fun _ _ z => z)
  obtain ⟨v1, H1, I1, r1, n, rfl, hn, q1⟩ := got
  obtain ⟨t, rfl⟩ := (show ∃ t, w1 = Value.int n t from r1)
  rw [sizeLine_eq] at hn
  exact ⟨⟨by omega, by omega⟩, .int n, H1, I1.tok _, ⟨_, rfl⟩, q1⟩
/-- o's truth -/
theorem tru_O (M : OMeth X.K C "__bool__" g) (F : FnR X.prog X.w X.K X.mg X.base CX k g sp) (hr : Room k X.A) (hx : Passes CX X E) :
    TruR X (fun x H Q => ∃ a, x = .ref a ∧ OAt C H a ∧ sp [.ref a] H (fun u H' => ∃ b, u = .bl b ∧ Q b H') E) := by
  intro pins s σ H x v Q I rx h
  obtain ⟨a, rfl, ha, q⟩ := h
  obtain rfl : v = Value.ref a := rx
  obtain ⟨ox, od, J⟩ := OAt.inst I ha
  obtain ⟨m, fr⟩ := I.fr
  refine PySem.W.truthy_K fr I.ok.mod.kin J M.at_ M.fn (wpAny_mono (run_deep F hr I.env0 hx I (.cons (rv_ref _) .nil) q) (fun w1 s1 got => ?_) fun _ _ z => z)
  obtain ⟨v1, H1, I1, r1, b, rfl, q1⟩ := got
  obtain rfl : w1 = Value.bool b := r1
  exact ⟨H1, I1, q1⟩
end
end QN

/-! bool(x) of what is no number -/
namespace QN
open PySem PySem.Spec PyProof.Rows L2
section
variable {prog : Program} {w : World} {A : Around} {E : Value → Shared → Prop} {s : Shared}
theorem call_bool_at {x : Value} {Q : Value → Shared → Prop} (h : wpAny (model prog w) A.in1.in1 (truthy x) (fun b s' => Q (.bool b) s') E s) : wpAny (model prog w) A (call (.type "bool") [x]) Q E s := by
  refine callType_codes (T := "bool") (Bi := Builtin.«object.__init__») (Q₁ := fun r s₁ => ∃ b, r = .bool b ∧ Q r s₁) PySem.F.called_bool (PySem.F.typeCall_bool_1 _) PySem.F.entry_object_init ?_ ?_
  · refine codeAny_of_tree ?_
    show wpAny _ A.in1.in1 (do checkBuiltinCall "bool.__new__" ⟨[.type "bool", x], []⟩; again (.builtin "bool.__new__" ⟨[.type "bool", x], []⟩)) _ _ s
    refine wpAny_bind (wpAny_of_eq (PySem.F.newCall_bool_1 _) (wpAny_pure ⟨plainId_quiet (by decide +kernel) _, codeAny_builtin PySem.F.entry_bool_new ?_⟩))
    rw [Around.under_plainId (by decide +kernel) _]
    have f1 := PySem.F.conv_sub_bool
    have h' : wpAny (model prog w) A.in1.in1 (truthy x) (fun b s' => ∃ c, Value.bool b = .bool c ∧ Q (.bool b) s') E s := wpAny_mono h (fun b s' q => ⟨b, rfl, q⟩) fun _ _ y => y
    repeat (any_goals (first | assumption | (with_reducible refine wpAny_mono h' ?_ fun _ _ y => y) | wp_step))
    exact fun a s1 hs => wpAny_pure hs
  · rintro obj s₁ ⟨y, rfl, hq⟩
    exact ⟨rfl, PySem.F.args_object_init_2 _ _, object_init_meets PySem.F.called_bool.init.lookup PySem.F.called_bool.made (by decide) prog w A.in1 _ s₁ ⟨rfl, rfl, hq⟩⟩
end
section
variable {X : Cx} {CX : CXT} {k : Nat} {g C : Addr} {sp : Sp} {E : XK}
/-- bool(a tuple) -/
theorem call_boolT : CallR X (.type "bool") (fun xs H Q => ∃ (a : Addr) (zs : List V), xs = [.ref a] ∧ SqT X.K H a zs ∧ Q (.bl (!zs.isEmpty)) H) := by
  intro pins s σ H xs us Q I r h
  obtain ⟨a, zs, rfl, hq, q⟩ := h
  obtain rfl := Vals.ref1 r
  obtain ⟨its, rv, pl, hz⟩ := I.tuple hq
  have hlen := rv.length
  rw [sizeLine_eq] at hz
  refine call_bool_at (truthy_tuple pl (by simp only [List.size_toArray]; omega) ?_)
  exact ⟨.bl (!zs.isEmpty), H, I.tok _, by rw [isEmpty_of rv]; rfl, q⟩
/-- bool(o) -/
theorem call_boolO (M : OMeth X.K C "__bool__" g) (F : FnR X.prog X.w X.K X.mg X.base CX k g sp) (hr : Room (k + 2) X.A) (hx : Passes CX X E) :
    CallR X (.type "bool") (fun xs H Q => ∃ a, xs = [.ref a] ∧ OAt C H a ∧ sp [.ref a] H (fun u H' => ∃ b, u = .bl b ∧ Q (.bl b) H') E) := by
  intro pins s σ H xs us Q I r h
  obtain ⟨a, rfl, ha, q⟩ := h
  obtain rfl := Vals.ref1 r
  obtain ⟨ox, od, J⟩ := OAt.inst I ha
  obtain ⟨m, fr⟩ := I.fr
  refine call_bool_at (PySem.W.truthy_K fr I.ok.mod.kin J M.at_ M.fn (wpAny_mono (run_deep F (hr.in1.in1) I.env0.in1.in1 hx I (.cons (rv_ref _) .nil) q) (fun w1 s1 got => ?_) fun _ _ z => z))
  obtain ⟨v1, H1, I1, r1, b, rfl, q1⟩ := got
  obtain rfl : w1 = Value.bool b := r1
  exact ⟨.bl b, H1, I1, rfl, q1⟩
end
end QN

/-! str(o) of an own class with __str__ -/
namespace QN
open PySem PySem.Spec PyProof.Rows L2
section
variable {X : Cx} {CX : CXT} {k : Nat} {g C : Addr} {sp : Sp} {E : XK}
theorem call_strO (M : OMeth X.K C "__str__" g) (F : FnR X.prog X.w X.K X.mg X.base CX k g sp) (hr : Room (k + 2) X.A) (hx : Passes CX X E) :
    CallR X (.type "str") (fun xs H Q => ∃ a, xs = [.ref a] ∧ OAt C H a ∧ sp [.ref a] H (fun u H' => ∃ z, u = .str z ∧ Q (.str z) H') E) := by
  intro pins s σ H xs us Q I r h
  obtain ⟨a, rfl, ha, q⟩ := h
  obtain rfl := Vals.ref1 r
  obtain ⟨ox, od, J⟩ := OAt.inst I ha
  obtain ⟨m, fr⟩ := I.fr
  refine PySem.W.kso_call (by have := hr.in1.in1.un; omega) I.kIn J M.at_ M.fn (wpAny_mono (run_deep F (hr.in1.in1) I.env0.in1.in1 hx I (.cons (rv_ref _) .nil) q) (fun w1 s1 got => ?_) fun _ _ z => z)
  obtain ⟨v1, H1, I1, r1, z, rfl, q1⟩ := got
  obtain ⟨t, rfl⟩ := (show ∃ t, w1 = Value.str z t from r1)
  exact ⟨.str z, H1, I1, ⟨_, rfl⟩, q1⟩
end
end QN

/-! iter(a tuple) as a value; walks over an own class whose __iter__ returns such a one -/
namespace QN
open PySem PySem.Spec PyProof.Rows L2
def ttObj (t : Addr) : Obj := { cls := .type "tuple_iterator", data := .fields #[.ref t, .int 0 0] }
/-- the iterator at it, at the beginning of the tuple at t -/
def TtO (t it : Addr) : HO := .ext fun h => h.get? it = some (ttObj t)
theorem ttO_ok {P : Program} {w : World} {H : Hp} {h : Heap} {t it : Addr} (e : h.get? it = some (ttObj t)) : ObjOk P w H h it (TtO t it) := ⟨e, ⟨_, e⟩, fun h1 h2 q k => k _ q⟩
section
variable {prog : Program} {w : World} {A : Around} {E : Value → Shared → Prop} {s : Shared} {t : Addr} {items : Array Value}
theorem call_iter_tup {Q : Value → Shared → Prop} (hl : s.heap.IsTuple t items) (h : Q (.ref s.heap.objs.size) { s with heap := s.heap.push (ttObj t) }) : wpAny (model prog w) A (call (.builtin "iter") [.ref t]) Q E s := by
  refine Calls.call_function_entry (by decide +kernel) (by decide +kernel) PySem.W.kdk_entry_iter (PySem.W.kdk_args_iter _) ?_
  unfold Builtin.«iter»
  refine wpAny_bind (m := someArgs "iter" 1 2 _) (wpAny_of_eq (a := [Value.ref t]) (by first | rfl | kernel_rfl!) ?_)
  show wpAny _ _ (pyIter (.ref t) >>= _) _ _ _
  refine wpAny_bind (wpAny_pyIter_tuple hl ?_)
  exact wpAny_pure ⟨_, rfl, h⟩
end
section
variable {X : Cx}
theorem call_iterT : CallR X (.builtin "iter") (fun xs H Q => ∃ (t : Addr) (zs : List V), xs = [.ref t] ∧ SqT X.K H t zs ∧ ∀ it, H it = none → X.s_0.heap.objs.size ≤ it → Q (.ref it) (upd H it (TtO t it))) := by
  intro pins s σ H xs us Q I r h
  obtain ⟨l, zs, rfl, hq, q⟩ := h
  obtain rfl := Vals.ref1 r
  obtain ⟨its, rv, pl, hz⟩ := I.tuple hq
  refine call_iter_tup pl ?_
  exact ⟨.ref s.heap.objs.size, _, I.laid (t' := s.toks) (fun b u e => Heap.get?_push_of_some _ e) (Nat.le_refl _) (ttO_ok (Heap.get?_push_size _ rfl)), rfl, q _ (I.hok.fresh (Nat.le_refl _)) I.sz⟩
end
/-- the promise of a def at f, that knows how many objects there were when it was called -/
structure FnN (P : Program) (w : World) (K : PySem.W.Frag) (mg : Str → Option Value) (base : Heap) (k : Nat) (f : Addr) (fd : FuncData) (ps : List Str) (sp : Nat → Sp) : Prop where
  len : ∀ n vs H Q E, sp n vs H Q E → vs.length = ps.length
  go : ∀ (A : Around) (outer : List Env) (s : Shared) (H : Hp) (args : Args) (us : List Value) (vs : List V) (Q : VK) (E : XK), Room k A → Env0 P w K mg base A outer s H → BindsTo s fd args (ps.zip us) → Vals vs us → sp s.heap.objs.size vs H Q E →
    codeAny (model P w) A (.call (.ref f) args) (CR L2.CX0 outer P w H s Q E) s
theorem Fun_okN {P : Program} {w : World} {K : PySem.W.Frag} {mg : Str → Option Value} {base : Heap} {x qual : Str} {st : Stmt} {f : Addr} {fd : FuncData} {N ps : List Str} {k : Nat} {sp : Nat → Sp}
    (F : Fun K x qual st f fd) (S : FnScope N ps (defScope st)) (len : ∀ n vs H Q E, sp n vs H Q E → vs.length = ps.length)
    (body : ∀ (cdv : Value) (A : Around) (outer : List Env) (s : Shared) (H : Hp) (vs : List V) (Q : VK) (E : XK), Room k (A.deeper (envOfC qual (defScope st) s.heap.objs.size f cdv)) → sp s.heap.objs.size vs H Q E →
      ∃ t, PSs (cxOf L2.CX0 P w K mg base N qual (defScope st) f cdv A outer s H E).nox (defBody st) t ∧ t { nx := fun _ H' => Q .non H', rt := Q } (start N vs) H) :
    FnN P w K mg base (k + 1) f fd ps sp := by
  obtain ⟨oc, od, kV, doc, pm, an, cdv, ct, osl, rfl, lk, hcd⟩ := F.ex
  refine ⟨len, fun A outer s H args us vs Q E room env0 hbind rv hsp => ?_⟩
  have nvs := len _ _ _ _ _ hsp
  have inK : K.In s.heap := env0.mod.kin.keeps fun b o e => (env0.bs b o e).1
  have nolim : s.heap.NoLimit := env0.mod.nolimit.keeps fun b o e => (env0.bs b o e).1
  have kinds : ∀ y ∈ ps.zip us, (defScope st).names.lookup y.1 = some .local ∨ ((defScope st).names.lookup y.1 = some .cell ∧ ((cellsFrom (s.heap.objs.size + 1) (defScope st).names []).lookup y.1).isSome = true) := fun ⟨n, v⟩ hy => by
    rcases S.par n (List.of_mem_zip hy).1 with c | c
    · exact Or.inl c
    · exact Or.inr ⟨c, PySem.W.cellsFrom_some _ _ _ (Or.inl c)⟩
  refine codeAny_call_function room.depth (inK _ _ lk) rfl S.co S.gen rfl (PySem.W.codeRec_of inK hcd) (hbind _ _ _ _ ?_)
  refine wpAny_newFunctionEnv_cells S.kind kinds fun env he s1 entered => ?_
  subst he
  refine ⟨nolim.keeps entered.toInCall.keep, codeAny_func ?_⟩
  obtain ⟨t, ht, hq⟩ := body cdv A outer s H vs Q E (room.deeper _) hsp
  have I0 := inv_start (CX := L2.CX0) (E := E) S room.hd env0 nvs rv entered
  refine wpAny_mono (ht.nox.run [] s1 (start N vs) H _ I0 hq) (fun fl s' hs => ?_) fun e s' hs => hs
  have close : ∀ {σ' : L2.St} {H' : Hp} {v : V} {u : Value}, Inv (cxOf L2.CX0 P w K mg base N qual (defScope st) f cdv A outer s H E) [] σ' H' s' → RelV v u → Q v H' → CE outer P w H s Q u s' :=
    fun {σ' H' v u} J r q => ⟨v, H', J.os, J.bare, J.base, J.hok, r, q⟩
  cases fl with
  | ret u =>
    obtain ⟨v, σ', H', J, r, q⟩ := hs
    exact close J r q
  | next =>
    obtain ⟨σ', H', J, q⟩ := hs
    exact close (v := V.non) (u := Value.none) J rfl q
  | brk => exact False.elim hs.choose_spec.choose_spec.2
  | cont => exact False.elim hs.choose_spec.choose_spec.2
def iOwnT (K : PySem.W.Frag) (C : Addr) (te : TE) (its : Hp → Addr → Addr → Prop) : TI := fun σ H R => te σ H fun x H1 => ∃ a, x = .ref a ∧ OAt C H1 a ∧ ∃ t, its H1 a t ∧ ∀ H2, (∀ b o, H1 b = some o → H2 b = some o) → R (Itt K t) H2
section
variable {X : Cx} {k : Nat} {C g : Addr} {fd : FuncData} {ps : List Str} {tg e : Expr} {te : TE} {its : Hp → Addr → Addr → Prop}
/-- what __iter__ of an own class promises that returns iter(a tuple) -/
def spIterT (its : Hp → Addr → Addr → Prop) : Nat → Sp := fun n vs H Q _ => ∃ a t, vs = [.ref a] ∧ its H a t ∧ ∀ it, H it = none → n ≤ it → Q (.ref it) (upd H it (TtO t it))
theorem pi_ownT (M : OMeth X.K C "__iter__" g) (F : FnN X.prog X.w X.K X.mg X.base k g fd ps (spIterT its)) (hb : L2.Binds X.K fd ps []) (hr : Room k X.A) (he : PE X e te) : PI X tg e (iOwnT X.K C te its) := by
  refine ⟨fun pins s σ H R I h => ?_⟩
  refine thn (he.run pins s σ H _ I h) fun v s1 ⟨x, H1, I1, r1, a, ex, ha, t, hi, q⟩ => ?_
  subst ex
  obtain rfl : v = Value.ref a := r1
  obtain ⟨ox, od, J⟩ := OAt.inst I1 ha
  obtain ⟨m, fr⟩ := I1.fr
  refine PySem.W.owit_iter fr I1.ok.mod.kin J M.at_ M.fn ?_
  have hsp : spIterT its s1.heap.objs.size [.ref a] H1 (fun u H2 => ∃ it, u = .ref it ∧ H1 it = none ∧ s1.heap.objs.size ≤ it ∧ H2 = upd H1 it (TtO t it)) L2.E0 := ⟨a, t, rfl, hi, fun it h1 h2 => ⟨it, rfl, h1, h2, rfl⟩⟩
  have n1 : [Value.ref a].length = ps.length := F.len _ _ _ _ _ hsp
  have bind := hb s1 [.ref a] I1.kIn (by rw [List.append_nil]; exact n1)
  rw [List.append_nil] at bind
  refine wpAny_call (codeAny_mono (F.go X.A X.stack s1 H1 ⟨[.ref a], []⟩ [.ref a] [.ref a] _ L2.E0 hr I1.env0 bind (.cons (rv_ref _) .nil) hsp) fun out s' got => ?_)
  match out, got with
  | .error e, got => exact got.elim
  | .ok .next, got => exact got.elim
  | .ok .brk, got => exact got.elim
  | .ok .cont, got => exact got.elim
  | .ok (.ret u), got =>
    obtain ⟨v, H2, I2, r, it, ev, hn, young, eH⟩ := I1.after got
    subst ev
    subst eH
    obtain rfl : u = Value.ref it := r
    have hit : (upd H1 it (TtO t it)) it = some (TtO t it) := upd_same
    have eo : s'.heap.get? it = some (ttObj t) := (I2.hok it _ hit).1
    have st : s'.heap.IsTupleIter it t 0 := ⟨_, eo, rfl, rfl⟩
    refine wpAny_specialOf (name := Str.ofString "__next__") (show Shared.TypeIs s' (.ref it) "tuple_iterator" from ⟨_, eo, rfl⟩) PySem.F.slot_tuple_iterator_next.lookup ?_
    have hit' := hit
    unfold TtO at hit'
    have eq : ItX.dropH (upd H1 it (TtO t it)) it = H1 := ItX.dropH_upd hn
    refine ⟨it, [it], _, _, ItX.dropH (upd H1 it (TtO t it)) it, rfl, ItX.inv_drop I2 hit', turn_tuple t it, st, fun b hb => ?_, q _ (by rw [eq]; exact fun _ _ e => e)⟩
    have e : b = it := by simpa using hb
    rw [e]
    exact ItX.inv_fp I2 hit (Nat.le_trans I1.sz young)
end
end QN

/-! polynomials by signs -/
namespace Qp
open PySem PySem.Spec PyProof.Rows L2 QN
abbrev sCall : Stmt := inClass cPoly 4 -- Polynomial.__call__
abbrev sGet : Stmt := inClass cPoly 5 -- Polynomial.__getitem__
abbrev sIter : Stmt := inClass cPoly 13 -- Polynomial.__iter__
abbrev sLen : Stmt := inClass cPoly 14 -- Polynomial.__len__
abbrev sBool : Stmt := inClass cPoly 15 -- Polynomial.__bool__
abbrev sEq : Stmt := inClass cPoly 16 -- Polynomial.__eq__
theorem scCall : FnScope ["self", "n"] ["self", "n"] (defScope sCall) := ⟨rfl, rfl, rfl, by decide +kernel, rfl, by decide +kernel, by decide +kernel⟩
theorem scGet : FnScope ["self", "at"] ["self", "at"] (defScope sGet) := ⟨rfl, rfl, rfl, by decide +kernel, rfl, by decide +kernel, by decide +kernel⟩
theorem scIter : FnScope ["self"] ["self"] (defScope sIter) := ⟨rfl, rfl, rfl, by decide +kernel, rfl, by decide +kernel, by decide +kernel⟩
theorem scLen : FnScope ["self"] ["self"] (defScope sLen) := ⟨rfl, rfl, rfl, by decide +kernel, rfl, by decide +kernel, by decide +kernel⟩
theorem scBool : FnScope ["self"] ["self"] (defScope sBool) := ⟨rfl, rfl, rfl, by decide +kernel, rfl, by decide +kernel, by decide +kernel⟩
theorem scEq : FnScope ["self", "other"] ["self", "other"] (defScope sEq) := ⟨rfl, rfl, rfl, by decide +kernel, rfl, by decide +kernel, by decide +kernel⟩
def itsPoly (K : PySem.W.Frag) (C : Addr) (H : Hp) (p t : Addr) : Prop := ∃ (ns : List Int) (dx : Addr), H p = some (.ins C dx [("_coefficients", .ref t)]) ∧ SqT K H t (iv ns)
def spLen (K : PySem.W.Frag) (C : Addr) : Sp := fun vs H Q _ => ∃ (p : Addr) (ns : List Int), vs = [.ref p] ∧ PolyAt K C H p ns ∧ Q (.int (ns.length : Int)) H
def spBool (K : PySem.W.Frag) (C : Addr) : Sp := fun vs H Q _ => ∃ (p : Addr) (ns : List Int), vs = [.ref p] ∧ PolyAt K C H p ns ∧ Q (.bl (!ns.isEmpty)) H
def spGet (K : PySem.W.Frag) (C : Addr) : Sp := fun vs H Q _ => ∃ (p : Addr) (ns : List Int) (i : Nat), vs = [.ref p, .int (i : Int)] ∧ PolyAt K C H p ns ∧ Q (.int (co ns i)) H
def spCl (K : PySem.W.Frag) (C : Addr) : Sp := fun vs H Q _ => ∃ (p : Addr) (ns : List Int) (n : Int), vs = [.ref p, .int n] ∧ PolyAt K C H p ns ∧ FitV ns n ∧ ∀ H', Same H H' → Q (.int (val ns n)) H'
/-- p == other -/
def EqV (K : PySem.W.Frag) (C : Addr) (H : Hp) (ns : List Int) (o : V) (b : Bool) : Prop := (∃ q ms, o = .ref q ∧ PolyAt K C H q ms ∧ b = decide (ns = ms)) ∨ (b = false ∧ ∃ t, TyX K H o t ∧ PySem.W.kitOne K t (.ref C) = some false)
def spEq (K : PySem.W.Frag) (C : Addr) : Sp := fun vs H Q _ => ∃ (p : Addr) (o : V) (ns : List Int) (b : Bool), vs = [.ref p, o] ∧ PolyAt K C H p ns ∧ EqV K C H ns o b ∧ Q (.bl b) H
theorem eqvAll_ds : ∀ ns ms : List Int, PyData.eqvAll (ds ns) (ds ms) = decide (ns = ms)
  | [], [] => rfl
  | [], m :: ms => by simp [PyData.eqvAll, ds]
  | n :: ns, [] => by simp [PyData.eqvAll, ds]
  | n :: ns, m :: ms => by
    have h := eqvAll_ds ns ms
    unfold ds at h ⊢
    simp only [List.map_cons, PyData.eqvAll, h]
    by_cases c : n = m
    · subst c
      simp [PyData.eqv]
    · simp [PyData.eqv, c]
theorem eqv_tup (ns ms : List Int) : PyData.eqv (.tuple (ds ns)) (.tuple (ds ms)) = decide (ns = ms) := eqvAll_ds ns ms
section
variable {P : Program} {w : World} {K : PySem.W.Frag} {mg : Str → Option Value} {base : Heap}
theorem ok_iter {f C : Addr} {fd : FuncData} (F : Fun K "__iter__" "Polynomial.__iter__" sIter f fd) (T : PolyC K mg C) (it : mg "iter" = none) : FnN P w K mg base 1 f fd ["self"] (spIterT (itsPoly K C)) := by
  refine Fun_okN F scIter (fun n vs H Q E h => ?_) (fun cdv A outer s H vs Q E hr h => ?_)
  · obtain ⟨a, t, rfl, _⟩ := h
    rfl
  · obtain ⟨a, t, rfl, ⟨ns, dx, hp, ht⟩, k⟩ := h
    refine ⟨_, pss_one (ps_ret (pe_callB call_iterT (by rfl) it (by decide +kernel) (pa_cons (pe_fld (pv 0) rfl) pa_nil))), ?_⟩
    exact ⟨_, rfl, a, C, dx, _, _, rfl, hp, T.cls, T.noF, rfl, t, _, rfl, ht, fun it h1 h2 => k it h1 h2⟩
theorem ok_len {f C : Addr} {fd : FuncData} (F : Fun K "__len__" "Polynomial.__len__" sLen f fd) (T : PolyC K mg C) (B : BltP mg) : FnOk P w K mg base CX0 1 f fd ["self"] (spLen K C) := by
  refine F.ok scLen (fun vs H Q E h => ?_) (fun cdv A outer s H vs Q E hr h => ?_)
  · obtain ⟨p, ns, rfl, _⟩ := h
    rfl
  · obtain ⟨p, ns, rfl, ⟨dx, t, hp, ht⟩, k⟩ := h
    refine ⟨_, pss_one (ps_ret (pe_callB call_len_seq (by rfl) B.len PySem.boot_len (pa_cons (pe_fld (pv 0) rfl) pa_nil))), ?_⟩
    refine ⟨_, rfl, p, C, dx, _, _, rfl, hp, T.cls, T.noF, rfl, t, _, rfl, .inr ht, ?_⟩
    rw [iv_len]
    exact k
theorem ok_bool {f C : Addr} {fd : FuncData} (F : Fun K "__bool__" "Polynomial.__bool__" sBool f fd) (T : PolyC K mg C) (B : BltP mg) : FnOk P w K mg base CX0 1 f fd ["self"] (spBool K C) := by
  refine F.ok scBool (fun vs H Q E h => ?_) (fun cdv A outer s H vs Q E hr h => ?_)
  · obtain ⟨p, ns, rfl, _⟩ := h
    rfl
  · obtain ⟨p, ns, rfl, ⟨dx, t, hp, ht⟩, k⟩ := h
    refine ⟨_, pss_one (ps_ret (pe_callTy call_boolT (by rfl) B.bool (by decide +kernel) (pa_cons (pe_fld (pv 0) rfl) pa_nil))), ?_⟩
    refine ⟨_, rfl, p, C, dx, _, _, rfl, hp, T.cls, T.noF, rfl, t, _, rfl, ht, ?_⟩
    have e : (iv ns).isEmpty = ns.isEmpty := by cases ns <;> rfl
    rw [e]
    exact k
theorem ok_get {f fN C : Addr} {fd fdN : FuncData} (F : Fun K "__getitem__" "Polynomial.__getitem__" sGet f fd) (T : PolyC K mg C) (B : BltP mg)
    (GN : FnOk P w K mg base CX0 2 fN fdN ["value"] (spIsN K)) (kN : PySem.W.keepIn K (.ref fN) = true) (bN : L2.Binds K fdN ["value"] []) (gN : mg "is_natural" = some (.ref fN)) : FnOk P w K mg base CX0 3 f fd ["self", "at"] (spGet K C) := by
  refine F.ok scGet (fun vs H Q E h => ?_) (fun cdv A outer s H vs Q E hr h => ?_)
  · obtain ⟨p, ns, i, rfl, _⟩ := h
    rfl
  · obtain ⟨p, ns, i, rfl, ⟨dx, t, hp, ht⟩, k⟩ := h
    refine ⟨_, pss_cons (ps_if (pt_not (pt_val (pe_call GN hr (by rfl) gN kN bN .nil pass0 (pa_cons (pv 1) pa_nil)))) (pss_one ps_never) pss_nil)
      (pss_one (ps_ret (pe_ifExp (pt_cmpR op_lt (pv 1) (pe_callB call_len_seq (by rfl) B.len PySem.boot_len (pa_cons (pe_fld (pv 0) rfl) pa_nil)) (nomark _)) (pe_ix ix_tup (pe_fld (pv 0) rfl) (pv 1) (fun _ _ => rfl)) pe_int))), ?_⟩
    refine ⟨_, rfl, _, true, rfl, numV_nat (by omega), _, rfl, if_no (by decide) ?_⟩
    refine ⟨_, rfl, _, rfl, p, C, dx, _, _, rfl, hp, T.cls, T.noF, rfl, t, _, rfl, .inr ht, _, _, rfl, rfl, _, rfl, ?_⟩
    have li := iv_len ns
    by_cases c : i < ns.length
    · exact if_yes (decide_eq_true (by omega)) ⟨_, rfl, p, C, dx, _, _, rfl, hp, T.cls, T.noF, rfl, _, rfl, t, _, _, _, rfl, rfl, ht, atI_nat (iv_get c), k⟩
    · refine if_no (by rw [decide_eq_true_eq]; omega) ?_
      rw [co_out (by omega)] at k
      exact k
theorem ok_call {f fC fV C : Addr} {fd fdC fdV : FuncData} (F : Fun K "__call__" "Polynomial.__call__" sCall f fd) (GC : FnOk P w K mg base CX0 3 fC fdC ["number"] spChk) (kC : PySem.W.keepIn K (.ref fC) = true) (bC : L2.Binds K fdC ["number"] []) (gC : mg "check_number" = some (.ref fC))
    (GV : FnOk P w K mg base CX0 1 fV fdV ["coefficients", "n"] (spVal K false)) (kV : PySem.W.keepIn K (.ref fV) = true) (bV : L2.Binds K fdV ["coefficients", "n"] []) (gV : mg "_value" = some (.ref fV)) (T : PolyC K mg C) : FnOk P w K mg base CX0 4 f fd ["self", "n"] (spCl K C) := by
  refine F.ok scCall (fun vs H Q E h => ?_) (fun cdv A outer s H vs Q E hr h => ?_)
  · obtain ⟨p, ns, n, rfl, _⟩ := h
    rfl
  · obtain ⟨p, ns, n, rfl, hp, fit, k⟩ := h
    obtain ⟨dx, t, h1, h2⟩ := id hp
    refine ⟨_, pss_cons (ps_expr (pe_call GC hr (by rfl) gC kC bC .nil pass0 (pa_cons (pv 1) pa_nil)))
      (pss_one (ps_ret (pe_call GV (hr.mono (by decide)) (by rfl) gV kV bV .nil pass0 (pa_cons (pe_fld (pv 0) rfl) (pa_cons (pv 1) pa_nil))))), ?_⟩
    exact ⟨_, rfl, n, rfl, fit.nn, _, rfl, p, C, dx, _, _, rfl, h1, T.cls, T.noF, rfl, _, rfl, t, ns, n, rfl, h2, fit, k⟩
theorem ok_eq {f C : Addr} {fd : FuncData} (F : Fun K "__eq__" "Polynomial.__eq__" sEq f fd) (T : PolyC K mg C) (O : PolyO K C) (B : BltP mg) : FnOk P w K mg base CX0 1 f fd ["self", "other"] (spEq K C) := by
  refine F.ok scEq (fun vs H Q E h => ?_) (fun cdv A outer s H vs Q E hr h => ?_)
  · obtain ⟨p, o, ns, b, rfl, _⟩ := h
    rfl
  · obtain ⟨p, o, ns, b, rfl, ⟨dx, t, hp, ht⟩, he, k⟩ := h
    have hu : (A.deeper (envOfC "Polynomial.__eq__" (defScope sEq) s.heap.objs.size f cdv)).units + 64 < cLine := by
      have := hr.un
      omega
    refine ⟨_, pss_one (ps_ret (pe_and (pe_callB call_isi (by rfl) B.isi (by decide +kernel) (pa_cons (pv 1) (pa_cons (pe_glob (v := .ref C) (by rfl) T.gC rfl) pa_nil))) (pe_one (pe_cmpR (op_eqD hu) (pe_fld (pv 0) rfl) (pe_fld (pv 1) rfl) (nomark _))))), ?_⟩
    rcases he with ⟨q, ms, rfl, hq, rfl⟩ | ⟨rfl, ty, h1, h2⟩
    · obtain ⟨dq, tq, e1, e2⟩ := id hq
      refine ⟨_, rfl, _, _, _, _, true, rfl, .own C, tyx_poly T O hq, O.isC, _, rfl, if_yes rfl ?_⟩
      refine ⟨_, rfl, p, C, dx, _, _, rfl, hp, T.cls, T.noF, rfl, _, rfl, q, C, dq, _, _, rfl, e1, T.cls, T.noF, rfl, _, _, .tup ht (dps ns), .tup e2 (dps ms), shaped_tup ns, shaped_tup ms, ?_⟩
      rw [eqv_tup]
      exact k
    · exact ⟨_, rfl, _, _, _, _, false, rfl, .own C, h1, h2, _, rfl, if_no (by decide) k⟩
end
end Qp

/-! where values reach -/
namespace Qp
open PySem PySem.Spec PyProof.Rows L2 QN
theorem val_mono {a b : Int} (h0 : 0 ≤ a) (h : a ≤ b) : ∀ {ns : List Int}, (∀ c ∈ ns, okC c) → val ns a ≤ val ns b
  | [], _ => Int.le_refl 0
  | c :: ns, hc => by
    rw [val_cons, val_cons]
    have hns : ∀ x ∈ ns, okC x := fun x hx => hc x (List.mem_cons_of_mem _ hx)
    have h1 := val_mono h0 h hns
    have h2 : val ns a * a ≤ val ns b * b := Int.mul_le_mul h1 h h0 (val_nn (by omega) hns)
    omega
theorem val_pos {m : Int} (hm : 1 ≤ m) {x : Int} (hx : 1 ≤ x) : ∀ {r : List Int}, (∀ c ∈ r, okC c) → 1 ≤ val (r ++ [x]) m
  | [], _ => by
    show 1 ≤ 0 * m + x
    omega
  | c :: r, hc => by
    rw [List.cons_append, val_cons]
    have h1 := val_pos hm hx (r := r) fun y hy => hc y (List.mem_cons_of_mem _ hy)
    have h2 := (hc c List.mem_cons_self).1
    have h3 : 1 * 1 ≤ val (r ++ [x]) m * m := Int.mul_le_mul h1 hm (by decide) (by omega)
    omega
/-- a polynomial of degree at least 1 is at least its argument -/
theorem val_ge {ns : List Int} (hc : ∀ c ∈ ns, okC c) (hcut : cutZ ns = ns) (hl : 2 ≤ ns.length) {m : Int} (hm : 0 ≤ m) : m ≤ val ns m := by
  rcases cut_last ns with e | ⟨r, x, e, nx⟩
  · rw [hcut] at e
    rw [e] at hl
    exact absurd hl (by decide)
  · rw [hcut] at e
    subst e
    have hx : 1 ≤ x := by
      have := (hc x (by simp)).1
      omega
    cases r with
    | nil => exact absurd hl (by simp)
    | cons c r =>
      rw [List.cons_append, val_cons]
      have c0 := (hc c (by simp)).1
      by_cases z : m = 0
      · subst z
        omega
      · have h1 := val_pos (m := m) (by omega) hx (r := r) fun y hy => hc y (by simp [hy])
        have h3 : 1 * m ≤ val (r ++ [x]) m * m := Int.mul_le_mul_of_nonneg_right h1 hm
        omega
/-- what reach of the goal returns -/
def RV (ns : List Int) (g : Int) (v : V) : Prop :=
  (g ≤ val ns 0 ∧ v = .int 0) ∨ (val ns 0 < g ∧ ns.length < 2 ∧ v = .non) ∨ (val ns 0 < g ∧ 2 ≤ ns.length ∧ ∃ n : Int, v = .int n ∧ 1 ≤ n ∧ g ≤ val ns n ∧ val ns (n - 1) < g)
theorem RV.zero {ns : List Int} {g : Int} {v : V} (h : RV ns g v) (z : g ≤ val ns 0) : v = .int 0 := by
  rcases h with h | h | h
  · exact h.2
  · exact absurd z (by omega)
  · exact absurd z (by omega)
theorem RV.none {ns : List Int} {g : Int} {v : V} (h : RV ns g v) (z : val ns 0 < g) (l : ns.length < 2) : v = .non := by
  rcases h with h | h | h
  · exact absurd z (by omega)
  · exact h.2.2
  · exact absurd l (by omega)
theorem RV.at {ns : List Int} {g n0 : Int} {v : V} (h : RV ns g v) (hc : ∀ c ∈ ns, okC c) (z : val ns 0 < g) (l : 2 ≤ ns.length) (h1 : 1 ≤ n0) (a : g ≤ val ns n0) (b : val ns (n0 - 1) < g) : v = .int n0 := by
  rcases h with h | h | h
  · exact absurd z (by omega)
  · exact absurd l (by omega)
  · obtain ⟨_, _, n, rfl, p1, p2, p3⟩ := h
    have c1 : n ≤ n0 := by
      apply Int.not_lt.mp
      intro k
      have := val_mono (a := n0) (b := n - 1) (by omega) (by omega) hc
      omega
    have c2 : n0 ≤ n := by
      apply Int.not_lt.mp
      intro k
      have := val_mono (a := n) (b := n0 - 1) (by omega) (by omega) hc
      omega
    rw [Int.le_antisymm c1 c2]
theorem RV.le {ns : List Int} {g : Int} {n : Int} (hc : ∀ c ∈ ns, okC c) (hcut : cutZ ns = ns) (l : 2 ≤ ns.length) (h1 : 1 ≤ n) (b : val ns (n - 1) < g) : n ≤ g := by
  have := val_ge hc hcut l (m := n - 1) (by omega)
  omega
/-- reach of a drawn polynomial, and of a goal of at most 3000 bits -/
def spReach (K : PySem.W.Frag) (C : Addr) : Sp := fun vs H Q _ => ∃ (p : Addr) (ns : List Int) (g : Int), vs = [.ref p, .int g] ∧ PolyAt K C H p ns ∧ (∀ c ∈ ns, okC c) ∧ cutZ ns = ns ∧ ns.length ≤ 6 ∧ 0 ≤ g ∧ g < 2 ^ 3000 ∧
  ∀ v H', Same H H' → RV ns g v → Q v H'
theorem cut_cut (ns : List Int) : cutZ (cutZ ns) = cutZ ns := by
  rcases cut_last ns with e | ⟨r, x, e, nx⟩
  · rw [e]
    rfl
  · rw [e, cutZ_snoc r nx]
end Qp

/-! whether a reach is right -/
namespace Qp
open PySem PySem.Spec PyProof.Rows L2 QN
theorem fit0 {ns : List Int} (hc : ∀ c ∈ ns, okC c) (hl : ns.length ≤ 6) : Fit ns 0 := ⟨hc, Int.le_refl 0, 1, by decide, by decide, by omega⟩
theorem fitN {ns : List Int} {n : Int} (hc : ∀ c ∈ ns, okC c) (hl : ns.length ≤ 6) (h0 : 0 ≤ n) (h : n < 2 ^ 3000) : Fit ns n := by
  refine ⟨hc, h0, 3000, h, by decide, ?_⟩
  have : ns.length * (3000 + 1) ≤ 6 * 3001 := Nat.mul_le_mul_right _ hl
  omega
def spRR (K : PySem.W.Frag) : Sp := fun vs H Q _ => ∃ (a : Addr) (ns : List Int) (g : Int), vs = [.ref a, .int g] ∧ SqT K H a (iv ns) ∧ (∀ c ∈ ns, okC c) ∧ ns.length ≤ 6 ∧ 0 ≤ g ∧ g < 2 ^ 3000 ∧ ∀ H', Same H H' → Q (.bl true) H'
structure BltR (mg : Str → Option Value) : Prop where
  rp : mg "repr" = none
section
variable {P : Program} {w : World} {K : PySem.W.Frag} {mg : Str → Option Value} {base : Heap}
end
end Qp

/-! what reach calls -/
namespace Qp
open PySem PySem.Spec PyProof.Rows L2 QN
abbrev sSlo : Stmt := top 20 -- _slopes
abbrev sHal : Stmt := top 27 -- _least_by_halves
abbrev sLost : Stmt := top 23 -- _lost_digits
abbrev sFew : Stmt := top 24 -- _few_digits
abbrev sDig : Stmt := top 22 -- _binary_digits
abbrev sShf : Stmt := top 26 -- _shifted
theorem scSlo : FnScope ["coefficients", "at"] ["coefficients"] (defScope sSlo) := ⟨rfl, rfl, rfl, by decide +kernel, rfl, by decide +kernel, by decide +kernel⟩
theorem scHal : FnScope ["coefficients", "goal", "many", "low", "high", "middle"] ["coefficients", "goal", "many"] (defScope sHal) := ⟨rfl, rfl, rfl, by decide +kernel, rfl, by decide +kernel, by decide +kernel⟩
theorem scLost : FnScope ["coefficients"] ["coefficients"] (defScope sLost) := ⟨rfl, rfl, rfl, by decide +kernel, rfl, by decide +kernel, by decide +kernel⟩
theorem scFew : FnScope ["coefficients"] ["coefficients"] (defScope sFew) := ⟨rfl, rfl, rfl, by decide +kernel, rfl, by decide +kernel, by decide +kernel⟩
theorem scDig : FnScope ["coefficients", "goal", "many", "at"] ["coefficients", "goal"] (defScope sDig) := ⟨rfl, rfl, rfl, by decide +kernel, rfl, by decide +kernel, by decide +kernel⟩
theorem scShf : FnScope ["number", "by"] ["number", "by"] (defScope sShf) := ⟨rfl, rfl, rfl, by decide +kernel, rfl, by decide +kernel, by decide +kernel⟩
structure BltN (mg : Str → Option Value) : Prop where
  len : mg "len" = none
  rg : mg "range" = none
  max : mg "max" = none
  min : mg "min" = none
  en : mg "enumerate" = none
def spSlo (K : PySem.W.Frag) (k : Bool) : Sp := fun vs H Q _ => ∃ (a : Addr) (ns : List Int), vs = [.ref a] ∧ SqK k K H a (iv ns) ∧ ns.length ≤ 100000 ∧ ∀ (q : Addr) (H' : Hp), Same H H' → H' q = some (.lst (iv (sloR ns))) → Q (.ref q) H'
def spHal (K : PySem.W.Frag) (k : Bool) : Sp := fun vs H Q _ => ∃ (a : Addr) (ns : List Int) (g : Int) (m S : Nat), vs = [.ref a, .int g, .int (m : Int)] ∧ SqK k K H a (iv ns) ∧ Bdd S ns ∧ 0 < S ∧ S + ns.length * (m + 2) + m + 1 ≤ 1000000 ∧
  ∀ (h : Int) (H' : Hp), Same H H' → 1 ≤ h → h ≤ 2 ^ m → (g ≤ val ns h ∨ h = 2 ^ m) → (val ns (h - 1) < g ∨ h = 1) → Q (.int h) H'
def spLost (K : PySem.W.Frag) : Sp := fun vs H Q _ => ∃ (a : Addr) (xs : List V), vs = [.ref a] ∧ (SqL K H a xs ∨ SqT K H a xs) ∧ Q (.int ((BL (xs.length : Nat) + 2 : Nat) : Int)) H
def spFew (K : PySem.W.Frag) : Sp := fun vs H Q _ => ∃ (a : Addr) (xs : List V), vs = [.ref a] ∧ (SqL K H a xs ∨ SqT K H a xs) ∧ Q (.int ((3 * (BL (xs.length : Nat) + 2) : Nat) : Int)) H
/-- so many binary digits by the coefficient c at the place k -/
def dg (g c : Int) (k : Nat) : Nat := (BL g + 1 - BL c) / k + 1
def spDig (K : PySem.W.Frag) : Sp := fun vs H Q _ => ∃ (a : Addr) (ns : List Int) (g : Int), vs = [.ref a, .int g] ∧ SqT K H a (iv ns) ∧ ns.length ≤ 100000 ∧ (∃ i, 1 ≤ i ∧ i < ns.length ∧ 0 < ns.getD i 0) ∧
  ∀ (m : Nat) (H' : Hp), Same H H' → (∃ i, 1 ≤ i ∧ i < ns.length ∧ 0 < ns.getD i 0 ∧ m = dg g (ns.getD i 0) i) → (∀ i, 1 ≤ i → i < ns.length → 0 < ns.getD i 0 → m ≤ dg g (ns.getD i 0) i) → Q (.int (m : Int)) H'
def spShf : Sp := fun vs H Q _ => ∃ (c b : Int), vs = [.int c, .int b] ∧ (0 < b → CShl c b) ∧ Q (.int (shZ c b)) H
theorem upd_keep {H H' : Hp} {D : Addr} {o : HO} (hD : H D = none) (s : Same H H') : Same H (upd H' D o) := fun x u e => by
  by_cases c : x = D
  · subst c
    rw [hD] at e
    cases e
  · rw [upd_ne c]
    exact s _ _ e
theorem iv_app (ns : List Int) (c : Int) : iv ns ++ [.int c] = iv (ns ++ [c]) := by
  unfold iv
  rw [List.map_append]
  rfl
theorem iv_at {ns : List Int} {i : Nat} (h : i < ns.length) : (iv ns)[i]? = some (.int (ns.getD i 0)) := by
  unfold iv
  rw [List.getElem?_map, get_of h]
  rfl
theorem ix_K {k : Bool} {K : PySem.W.Frag} {H : Hp} {Q : VK} {a : Addr} {ns : List Int} {j : Int} {i : Nat} (ej : j = (i : Int)) (h : SqK k K H a (iv ns)) (hi : i < ns.length) (q : Q (.int (ns.getD i 0)) H) : rIx K (.ref a) (.int j) H Q := by
  subst ej
  have e : atI (iv ns) (i : Int) = some (.int (ns.getD i 0)) := atI_nat (iv_at hi)
  cases k with
  | true => exact .inl ⟨a, _, _, _, rfl, rfl, h, e, q⟩
  | false => exact .inr (.inl ⟨a, _, _, _, rfl, rfl, h, e, q⟩)
theorem small64 {i : Nat} (h : i ≤ 100000) : -(2 ^ 64) < (1 + (i : Int)) ∧ (1 + (i : Int)) < 2 ^ 64 := by omega
section
variable {P : Program} {w : World} {K : PySem.W.Frag} {mg : Str → Option Value} {base : Heap}
theorem ok_slo (kk : Bool) {f : Addr} {fd : FuncData} (F : Fun K "_slopes" "_slopes" sSlo f fd) (B : BltN mg) : FnOk P w K mg base CX0 1 f fd ["coefficients"] (spSlo K kk) := by
  refine F.ok scSlo (fun vs H Q E h => ?_) (fun cdv A outer s H vs Q E hr h => ?_)
  · obtain ⟨a, ns, rfl, _⟩ := h
    rfl
  · obtain ⟨a, ns, rfl, ha, hl, k⟩ := h
    refine ⟨_, pss_one (ps_ret (pe_lc (own := [("at", 1)]) (g := gName 1) (tt := tYes) (te := tOp (rI CMul fun i j => V.int (i * j)) (tVar 1) (tOp (rIx K) (tVar 0) (tVar 1))) rfl scSlo.nd (pi_range2 (by rfl) B.rg (pa_cons pe_int (pa_cons (pe_callB call_len_seq (by rfl) B.len PySem.boot_len (pa_cons (pv 0) pa_nil)) pa_nil)))
        (blkOk_by (N := ["coefficients", "at"]) (sc := defScope sSlo) (by decide +kernel)) (fun _ _ _ _ _ => pg_name (i := 1) scSlo.nd rfl (.inl rfl) (hf := .inr rfl)) (fun _ _ _ _ _ => pts_nil)
        (fun _ _ _ _ _ => pe_op op_mul (pv 1) (pe_ix ix_seq (pv 0) (pv 1) (fun _ _ => rfl))))), ?_⟩
    refine ⟨_, rfl, a, _, rfl, sqK_or ha, _, _, rfl, ⟨by decide, by decide, by rw [iv_len]; omega, by rw [iv_len]; omega⟩, fun D hD => ?_⟩
    have en : ((((iv ns).length : Nat) : Int) - 1).toNat = ns.length - 1 := by
      rw [iv_len]
      omega
    refine lc_range (fun i H' => Same H H' ∧ H' D = some (.lst (iv ((List.range i).map fun i => ((i + 1 : Nat) : Int) * ns.getD (i + 1) 0)))) ⟨same_new hD, upd_same⟩ (fun i H' hi hV => ?_) fun H' hV => ?_
    · obtain ⟨s1, hD1⟩ := hV
      rw [en] at hi
      refine ⟨rfl, _, rfl, _, rfl, _, rfl, ix_K (i := i + 1) (by omega) (sqK_same s1 ha) (by omega) ⟨_, _, rfl, rfl, .inl (small64 (by omega)), _, hD1, ?_, ?_, ?_⟩⟩
      · rw [iv_len, List.length_map, List.length_range, sizeLine_eq]
        omega
      · exact upd_keep hD s1
      · rw [upd_same, List.range_succ, List.map_append, iv_app]
        have e : (1 + (i : Int)) = ((i + 1 : Nat) : Int) := by omega
        rw [e]
        rfl
    · obtain ⟨s1, hD1⟩ := hV
      rw [en] at hD1
      exact k D H' s1 hD1
theorem ok_hal (kk : Bool) {f fV : Addr} {fd fdV : FuncData} (F : Fun K "_least_by_halves" "_least_by_halves" sHal f fd) (GV : FnOk P w K mg base CX0 1 fV fdV ["coefficients", "n"] (spVal K kk)) (kV : PySem.W.keepIn K (.ref fV) = true) (bV : L2.Binds K fdV ["coefficients", "n"] []) (gV : mg "_value" = some (.ref fV)) :
    FnOk P w K mg base CX0 2 f fd ["coefficients", "goal", "many"] (spHal K kk) := by
  refine F.ok scHal (fun vs H Q E h => ?_) (fun cdv A outer s H vs Q E hr h => ?_)
  · obtain ⟨a, ns, g, m, S, rfl, _⟩ := h
    rfl
  · obtain ⟨a, ns, g, m, S, rfl, ha, hb, s0, hs, k⟩ := h
    refine ⟨_, pss_cons (ps_par (i := 3) (j := 4) rfl scHal.nd rfl rfl (by decide) rfl rfl (pa_cons pe_int (pa_cons (pe_op op_oneShl pe_int (pv 2)) pa_nil)) rfl)
      (pss_cons (ps_while PassesOwn.never (pt_cmpR op_gt (pe_op op_sub (pv 4) (pv 3)) pe_int (nomark _))
        (pss_cons (ps_set (i := 5) scHal.nd rfl (.inl rfl) (pe_op op_fdiv (pe_op op_add (pv 3) (pv 4)) pe_int))
        (pss_one (ps_if (pt_cmpR op_ge (pe_call GV hr (by rfl) gV kV bV .nil pass0 (pa_cons (pv 0) (pa_cons (pv 5) pa_nil))) (pv 1) (nomark _))
          (pss_one (ps_set (i := 4) scHal.nd rfl (.inl rfl) (pv 5))) (pss_one (ps_set (i := 3) scHal.nd rfl (.inl rfl) (pv 5)))))))
      (pss_one (ps_ret (pv 4)))), ?_⟩
    have p := two_pos m
    refine ⟨_, rfl, m, rfl, rfl, by omega, _, _, rfl, ?_⟩
    refine ⟨fun t σ H' => ∃ (lo hi : Int) (u : Option V), σ = [some (.ref a), some (.int g), some (.int (m : Int)), some (.int lo), some (.int hi), u] ∧ Same H H' ∧ 0 ≤ lo ∧ lo < hi ∧ hi ≤ 2 ^ m ∧ (g ≤ val ns hi ∨ hi = 2 ^ m) ∧ (val ns lo < g ∨ lo = 0) ∧ t = (hi - lo).toNat,
      ⟨_, 0, 2 ^ m, none, rfl, Same.refl _, Int.le_refl 0, p, Int.le_refl _, .inr rfl, .inr rfl, rfl⟩, ?_⟩
    rintro t σ H' ⟨lo, hi, u, rfl, sm, h0, h1, h2, h3, h4, rfl⟩
    refine ⟨_, rfl, _, rfl, _, _, rfl, rfl, _, _, rfl, rfl, _, rfl, ?_⟩
    by_cases c : hi - lo > 1
    · refine if_yes (decide_eq_true c) ⟨fun σ' H2 => ∃ (lo' hi' : Int) (u : Option V), σ' = [some (.ref a), some (.int g), some (.int (m : Int)), some (.int lo'), some (.int hi'), u] ∧ Same H H2 ∧ 0 ≤ lo' ∧ lo' < hi' ∧ hi' ≤ 2 ^ m ∧ (g ≤ val ns hi' ∨ hi' = 2 ^ m) ∧ (val ns lo' < g ∨ lo' = 0) ∧ hi' - lo' < hi - lo,
        fun σ' H2 ⟨lo', hi', u, e, sm', a1, a2, a3, a4, a5, a6⟩ => ⟨_, ?_, lo', hi', u, e, sm', a1, a2, a3, a4, a5, rfl⟩, ?_⟩
      · omega
      refine ⟨_, rfl, _, rfl, _, _, rfl, rfl, _, _, rfl, rfl, ⟨by decide, by decide⟩, ?_⟩
      have m1 : lo < (lo + hi) / 2 := by omega
      have m2 : (lo + hi) / 2 < hi := by omega
      have fit : FitV ns ((lo + hi) / 2) := ⟨by omega, S, m + 1, hb, Int.lt_of_lt_of_le (by omega : ((lo + hi) / 2) < 2 ^ m) (pow_mono2 (by omega)), s0, by omega, by
        have : ns.length * (m + 1 + 1) = ns.length * (m + 2) := rfl
        omega⟩
      refine ⟨_, rfl, _, rfl, a, ns, ((lo + hi) / 2), rfl, sqK_same sm ha, fit, fun H2 s2 => ⟨_, rfl, _, _, rfl, rfl, _, rfl, ?_⟩⟩
      by_cases d : g ≤ val ns ((lo + hi) / 2)
      · refine if_yes (decide_eq_true d) ⟨_, rfl, lo, ((lo + hi) / 2), some (.int ((lo + hi) / 2)), rfl, sm.trans s2, h0, m1, by omega, .inl d, h4, by omega⟩
      · refine if_no (by simpa using d) ⟨_, rfl, ((lo + hi) / 2), hi, some (.int ((lo + hi) / 2)), rfl, sm.trans s2, by omega, m2, h2, h3, .inl (by omega), by omega⟩
    · refine if_no (by simpa using c) ⟨_, rfl, ?_⟩
      refine k hi H' sm (by omega) h2 h3 ?_
      have e : hi - 1 = lo := by omega
      rw [e]
      rcases h4 with h4 | h4
      · exact .inl h4
      · exact .inr (by omega)
theorem ok_lost {f : Addr} {fd : FuncData} (F : Fun K "_lost_digits" "_lost_digits" sLost f fd) (B : BltN mg) : FnOk P w K mg base CX0 1 f fd ["coefficients"] (spLost K) := by
  refine F.ok scLost (fun vs H Q E h => ?_) (fun cdv A outer s H vs Q E hr h => ?_)
  · obtain ⟨a, xs, rfl, _⟩ := h
    rfl
  · obtain ⟨a, xs, rfl, ha, k⟩ := h
    refine ⟨_, pss_one (ps_ret (pe_op op_add (pe_bits (pe_callB call_len_seq (by rfl) B.len PySem.boot_len (pa_cons (pv 0) pa_nil))) pe_int)), ?_⟩
    exact ⟨_, rfl, a, xs, rfl, ha, _, rfl, _, _, rfl, rfl, k⟩
theorem ok_few {f fL : Addr} {fd fdL : FuncData} (F : Fun K "_few_digits" "_few_digits" sFew f fd) (GL : FnOk P w K mg base CX0 1 fL fdL ["coefficients"] (spLost K)) (kL : PySem.W.keepIn K (.ref fL) = true) (bL : L2.Binds K fdL ["coefficients"] []) (gL : mg "_lost_digits" = some (.ref fL)) : FnOk P w K mg base CX0 2 f fd ["coefficients"] (spFew K) := by
  refine F.ok scFew (fun vs H Q E h => ?_) (fun cdv A outer s H vs Q E hr h => ?_)
  · obtain ⟨a, xs, rfl, _⟩ := h
    rfl
  · obtain ⟨a, xs, rfl, ha, k⟩ := h
    refine ⟨_, pss_one (ps_ret (pe_op op_mul pe_int (pe_call GL hr (by rfl) gL kL bL .nil pass0 (pa_cons (pv 0) pa_nil)))), ?_⟩
    refine ⟨_, rfl, a, xs, rfl, ha, _, _, rfl, rfl, .inl ⟨by decide, by decide⟩, ?_⟩
    have e : (3 : Int) * ((BL (xs.length : Nat) + 2 : Nat) : Int) = ((3 * (BL (xs.length : Nat) + 2) : Nat) : Int) := by omega
    show Q (.int ((3 : Int) * ((BL (xs.length : Nat) + 2 : Nat) : Int))) H
    rw [e]
    exact k
theorem ok_shf {f : Addr} {fd : FuncData} (F : Fun K "_shifted" "_shifted" sShf f fd) : FnOk P w K mg base CX0 1 f fd ["number", "by"] spShf := by
  refine F.ok scShf (fun vs H Q E h => ?_) (fun cdv A outer s H vs Q E hr h => ?_)
  · obtain ⟨c, b, rfl, _⟩ := h
    rfl
  · obtain ⟨c, b, rfl, hc, k⟩ := h
    refine ⟨_, pss_one (ps_ret (pe_ifExp (pt_cmpR op_gt (pv 1) pe_int (nomark _)) (pe_op op_shlW (pv 0) (pv 1)) (pe_op op_shr (pv 0) (pe_un un_neg (pv 1))))), ?_⟩
    refine ⟨_, rfl, _, _, rfl, rfl, _, rfl, ?_⟩
    unfold shZ at k
    by_cases z : 0 < b
    · rw [if_pos z] at k
      exact if_yes (decide_eq_true z) ⟨_, rfl, _, rfl, _, _, rfl, rfl, hc z, k⟩
    · rw [if_neg z] at k
      exact if_no (by simpa using z) ⟨_, rfl, _, rfl, _, rfl, _, _, rfl, rfl, by omega, k⟩
end
end Qp

/-! how many binary digits -/
namespace Qp
open PySem PySem.Spec PyProof.Rows L2 QN
/-- those of the first places behind 0 -/
def dgs (g : Int) (ns : List Int) (i : Nat) : List Int := ((List.range i).filter fun j => decide (0 < ns.getD (j + 1) 0)).map fun j => ((dg g (ns.getD (j + 1) 0) (j + 1) : Nat) : Int)
theorem dgs_succ (g : Int) (ns : List Int) (i : Nat) : dgs g ns (i + 1) = if 0 < ns.getD (i + 1) 0 then dgs g ns i ++ [((dg g (ns.getD (i + 1) 0) (i + 1) : Nat) : Int)] else dgs g ns i := by
  unfold dgs
  rw [List.range_succ, List.filter_append, List.map_append]
  by_cases c : 0 < ns.getD (i + 1) 0
  · rw [if_pos c, List.filter_cons_of_pos (by simpa using c)]
    rfl
  · rw [if_neg c, List.filter_cons_of_neg (by simpa using c)]
    simp
theorem dgs_len (g : Int) (ns : List Int) (i : Nat) : (dgs g ns i).length ≤ i := by
  unfold dgs
  rw [List.length_map]
  exact Nat.le_trans (List.length_filter_le _ _) (by rw [List.length_range]; exact Nat.le_refl i)
theorem dgs_mem {g : Int} {ns : List Int} {i : Nat} {m : Int} : m ∈ dgs g ns i ↔ ∃ j, j < i ∧ 0 < ns.getD (j + 1) 0 ∧ m = ((dg g (ns.getD (j + 1) 0) (j + 1) : Nat) : Int) := by
  unfold dgs
  rw [List.mem_map]
  constructor
  · rintro ⟨j, hj, rfl⟩
    obtain ⟨a, b⟩ := List.mem_filter.mp hj
    exact ⟨j, List.mem_range.mp a, by simpa using b, rfl⟩
  · rintro ⟨j, a, b, rfl⟩
    exact ⟨j, List.mem_filter.mpr ⟨List.mem_range.mpr a, by simpa using b⟩, rfl⟩
def rMax2 : List V → Hp → VK → Prop := fun xs H Q => ∃ i j, xs = [V.int i, V.int j] ∧ Q (V.int (if j > i then j else i)) H
def tDigs (K : PySem.W.Frag) : TE := tOp (rI0 fun i j => V.int (i + j)) (tOp (rI CDiv fun i j => V.int (i / j)) (tCB rMax2 (tCons (tOp (rI0 fun i j => V.int (i - j)) (tVar 2) (tBits (tOp (rIx K) (tVar 0) (tVar 3)))) (tCons (tC (.int 0)) tNil))) (tVar 3)) (tC (.int 1))
section
variable {P : Program} {w : World} {K : PySem.W.Frag} {mg : Str → Option Value} {base : Heap}
theorem ok_dig {f : Addr} {fd : FuncData} (F : Fun K "_binary_digits" "_binary_digits" sDig f fd) (B : BltN mg) : FnOk P w K mg base CX0 1 f fd ["coefficients", "goal"] (spDig K) := by
  refine F.ok scDig (fun vs H Q E h => ?_) (fun cdv A outer s H vs Q E hr h => ?_)
  · obtain ⟨a, ns, g, rfl, _⟩ := h
    rfl
  · obtain ⟨a, ns, g, rfl, ha, hl, ⟨i0, p1, p2, p3⟩, k⟩ := h
    refine ⟨_, pss_cons (ps_set (i := 2) scDig.nd rfl (.inr rfl) (pe_op op_add (pe_bits (pv 1)) pe_int))
      (pss_one (ps_ret (pe_callB (cr_min rfl) (by rfl) B.min (by decide +kernel) (pa_cons (pe_lc (own := [("at", 3)]) (g := gName 3) (tt := tTest (tOp (rI0 fun i j => V.bl (decide (i > j))) (tOp (rIx K) (tVar 0) (tVar 3)) (tC (.int 0)))) (te := tDigs K) rfl scDig.nd (pi_range2 (by rfl) B.rg (pa_cons pe_int (pa_cons (pe_callB call_len_seq (by rfl) B.len PySem.boot_len (pa_cons (pv 0) pa_nil)) pa_nil)))
        (blkOk_by (N := ["coefficients", "goal", "many", "at"]) (sc := defScope sDig) (by decide +kernel)) (fun _ _ _ _ _ => pg_name (i := 3) scDig.nd rfl (.inl rfl) (hf := .inr rfl))
        (fun _ _ _ _ _ => pts_one (pt_cmpR op_gt (pe_ix ix_seq (pv 0) (pv 3) (fun _ _ => rfl)) pe_int (nomark _)))
        (fun _ _ _ _ _ => pe_op op_add (pe_op op_fdiv (pe_callB (call_max2 rfl) (by rfl) B.max (by decide +kernel) (pa_cons (pe_op op_sub (pv 2) (pe_bits (pe_ix ix_seq (pv 0) (pv 3) (fun _ _ => rfl)))) (pa_cons pe_int pa_nil))) (pv 3)) pe_int)) pa_nil)))), ?_⟩
    refine ⟨_, rfl, g, rfl, _, _, rfl, rfl, _, rfl, a, _, rfl, .inr ha, _, _, rfl, ⟨by decide, by decide, by rw [iv_len]; omega, by rw [iv_len]; omega⟩, fun D hD => ?_⟩
    have en : ((((iv ns).length : Nat) : Int) - 1).toNat = ns.length - 1 := by
      rw [iv_len]
      omega
    refine lc_range (fun i H' => Same H H' ∧ H' D = some (.lst (iv (dgs g ns i)))) ⟨same_new hD, upd_same⟩ (fun i H' hi hV => ?_) fun H' hV => ?_
    · obtain ⟨s1, hD1⟩ := hV
      rw [en] at hi
      have at_ : ∀ {Q : VK}, Q (.int (ns.getD (i + 1) 0)) H' → rIx K (.ref a) (.int (1 + i)) H' Q := fun q => ix_K (k := false) (i := i + 1) (by omega) (sqT_same s1 ha) (by omega) q
      refine ⟨rfl, _, rfl, _, rfl, at_ ⟨_, _, rfl, rfl, _, rfl, ?_⟩⟩
      rw [dgs_succ]
      by_cases c : 0 < ns.getD (i + 1) 0
      · refine if_yes (decide_eq_true c) ?_
        rw [if_pos c]
        refine ⟨_, rfl, _, rfl, _, rfl, at_ ⟨_, rfl, _, _, rfl, rfl, _, _, rfl, _, rfl, _, _, rfl, rfl, ⟨by omega, by omega⟩, _, _, rfl, rfl, _, hD1, ?_, ?_, ?_⟩⟩
        · have := dgs_len g ns i
          rw [iv_len, sizeLine_eq]
          omega
        · exact upd_keep hD s1
        · rw [upd_same, iv_app]
          congr 5
          have e1 : (if (0 : Int) > ((BL g : Nat) : Int) + 1 - ((BL (ns.getD (i + 1) 0) : Nat) : Int) then 0 else ((BL g : Nat) : Int) + 1 - ((BL (ns.getD (i + 1) 0) : Nat) : Int)) = ((BL g + 1 - BL (ns.getD (i + 1) 0) : Nat) : Int) := by
            split <;> omega
          have e2 : (1 + (i : Int)) = ((i + 1 : Nat) : Int) := by omega
          show (if (0 : Int) > ((BL g : Nat) : Int) + 1 - ((BL (ns.getD (i + 1) 0) : Nat) : Int) then 0 else ((BL g : Nat) : Int) + 1 - ((BL (ns.getD (i + 1) 0) : Nat) : Int)) / (1 + (i : Int)) + 1 = _
          rw [e1, e2]
          exact congrArg (fun z : Int => z + 1) (Int.natCast_ediv _ _).symm
      · refine if_no (by simpa using c) ?_
        rw [if_neg c]
        exact ⟨s1, hD1⟩
    · obtain ⟨s1, hD1⟩ := hV
      rw [en] at hD1
      have inn : ((dg g (ns.getD i0 0) i0 : Nat) : Int) ∈ dgs g ns (ns.length - 1) := dgs_mem.mpr ⟨i0 - 1, by omega, by rw [Nat.sub_add_cancel p1]; exact p3, by rw [Nat.sub_add_cancel p1]⟩
      refine ⟨D, _, rfl, .inl (.inl hD1), List.length_pos_of_mem inn, fun m hm hmin => ?_⟩
      obtain ⟨j, j1, j2, rfl⟩ := dgs_mem.mp hm
      refine k _ H' s1 ⟨j + 1, by omega, by omega, j2, rfl⟩ fun i q1 q2 q3 => ?_
      have z := hmin _ (dgs_mem.mpr ⟨i - 1, by omega, by rw [Nat.sub_add_cancel q1]; exact q3, rfl⟩)
      rw [Nat.sub_add_cancel q1] at z
      exact Int.ofNat_le.mp z
end
end Qp

/-! enumerate(a tuple) -/
namespace PySem
open Sem (wp)
open AutoSeq1 (wpAny_loadPart')
theorem qn_meets_enumerate_newT (l : Addr) (items : Array Value) :
    Meets (Builtin.«enumerate.__new__» ⟨[.type "enumerate", .ref l], []⟩) (fun _ R s => s.heap.IsTuple l items ∧
      R (.ok (.ret (.ref (s.heap.push { cls := .type "tuple_iterator", data := .fields #[.ref l, .int 0 0] }).objs.size)))
        { s with heap := (s.heap.push { cls := .type "tuple_iterator", data := .fields #[.ref l, .int 0 0] }).push { cls := .type "enumerate", data := .fields #[.none, .bool false, .ref s.heap.objs.size, rawInt 0, .none, .none] } }) :=
  .of_wp fun prog w A R s h => by
    obtain ⟨hp, g, d, tk, os⟩ := s; obtain ⟨hL, h⟩ := h
    have hsub := sub_enumerate
    have q1 : ∀ {A' : Around} {E : Value → Shared → Prop} {Q : Value → Shared → Prop}, Q (.ref hp.objs.size) ⟨hp.push { cls := .type "tuple_iterator", data := .fields #[.ref l, .int 0 0] }, g, d, tk, os⟩ → wpAny (model prog w) A' (pyIter (.ref l)) Q E ⟨hp, g, d, tk, os⟩ :=
      fun q => wpAny_pyIter_tuple hL q
    wp_walk using q1
    refine wpAny_stack_any fun st => wpAny_pure ?_
    split
    · rename_i c _ _ _ _ _
      cases (c == Value.type "enumerate")
      · wp_walk using q1
        exact ⟨_, rfl, h⟩
      · wp_walk using q1
        exact ⟨_, rfl, h⟩
    · wp_walk using q1
      exact ⟨_, rfl, h⟩
theorem qn_call_enumerate_tuple {prog : Program} {w : World} {A : Around} {E : Value → Shared → Prop} {s : Shared} {l : Addr} {items : Array Value} {Q : Value → Shared → Prop} (hL : s.heap.IsTuple l items)
    (h : ∀ h', IsEnum h' (s.heap.objs.size + 1) s.heap.objs.size 0 .none → h'.IsTupleIter s.heap.objs.size l 0 → h'.objs.size = s.heap.objs.size + 2 →
      (∀ b o, s.heap.get? b = some o → h'.get? b = some o) → Q (.ref (s.heap.objs.size + 1)) { s with heap := h' }) :
    wpAny (model prog w) A (call (.type "enumerate") [.ref l]) Q E s := by
  refine callType_new F.called_enumerate (by decide) (F.typeCall_enumerate_1 _) (F.newCall_enumerate_1 _) (fun obj => F.args_object_init_2 obj _) F.entry_enumerate_new
    (qn_meets_enumerate_newT l items) ⟨hL, ?_⟩
  have hz : (s.heap.push { cls := .type "tuple_iterator", data := .fields #[.ref l, .int 0 0] }).objs.size = s.heap.objs.size + 1 := Heap.size_push ..
  show _ ∧ _
  rw [hz]
  have he : IsEnum ((s.heap.push { cls := .type "tuple_iterator", data := .fields #[.ref l, .int 0 0] }).push
      { cls := .type "enumerate", data := .fields #[.none, .bool false, .ref s.heap.objs.size, rawInt 0, .none, .none] }) (s.heap.objs.size + 1) s.heap.objs.size 0 .none := by
    have := Heap.get?_push_size (s.heap.push { cls := .type "tuple_iterator", data := .fields #[.ref l, .int 0 0] })
      (o := { cls := .type "enumerate", data := .fields #[.none, .bool false, .ref s.heap.objs.size, rawInt 0, .none, .none] }) rfl
    rw [hz] at this; exact this
  refine ⟨⟨_, he, rfl⟩, h _ he ⟨_, Heap.get?_push_of_some _ (Heap.get?_push_size _ rfl), rfl, rfl⟩ (by rw [Heap.size_push, hz]) fun b o x => Heap.get?_push_of_some _ (Heap.get?_push_of_some _ x)⟩
theorem qn_pyNext_enum_endT {prog : Program} {w : World} {A : Around} {E : Value → Shared → Prop} {s : Shared} {e it l : Addr} {i : Nat} {items : Array Value} {old : Value} {Q : Option Value → Shared → Prop} (hh : A.handled = none)
    (he : IsEnum s.heap e it i old) (hit : s.heap.IsTupleIter it l i) (hl : s.heap.IsTuple l items) (hx : items[i]? = none)
    (hQ : ∀ h', Heap.ExtBut it s.heap h' → Q none { s with heap := h' }) : wpAny (model prog w) A (pyNext (.ref e)) Q E s := by
  have hT : s.TypeIs (.ref e) "enumerate" := ⟨_, he, rfl⟩
  unfold pyNext
  refine wpAny_bind (wpAny_attempt (wpAny_callSpecial?_slot (name := Str.ofString "__next__") hT F.slot_enumerate_next
    (wpAny_call_entry F.slot_enumerate_next hT F.entry_enumerate_next ?_ (F.args_enumerate_next_1 _))))
  show wpAny _ _ (field (.ref e) 2 >>= _) _ _ _
  refine wpAny_bind (wpAny_field he rfl (x := .ref it) rfl ?_)
  refine wpAny_bind (wpAny_nextOf_tuple_end hh hit hl hx fun h' x he' hx' => ?_)
  obtain ⟨o, ho, hc⟩ := hx'
  refine wpAny_bind (wpAny_isInstance (T := "StopIteration") (b := true) ⟨o, ho, hc⟩ isSubtype_stop ?_)
  exact wpAny_pure (hQ _ he')
end PySem
namespace QN
open PySem PySem.Spec PyProof.Rows L2
/-- the tuple at a, each item in a new pair -/
def IteT (K : PySem.W.Frag) (a : Addr) : It :=
  ⟨fun i H => ∃ (xs : List V) (x : V), SqT K H a xs ∧ xs[i]? = some x, fun i H v H' => ∃ T x, v = .ref T ∧ H T = none ∧ H' = upd H T (.tup [.int (i : Nat), x]) ∧ ∀ xs, SqT K H a xs → xs[i]? = some x, fun i H => ∃ xs : List V, SqT K H a xs ∧ xs.length ≤ i⟩
theorem turn_enumT {P : Program} {w : World} {K : PySem.W.Frag} {elts : List Expr} {kk : Nat} {tpos : Pos} (a e it : Addr) :
    Turn P w K (.Tuple elts kk tpos) (IteT K a) [e, it] e (fun i h => (∃ old, IsEnum h e it ((i : Nat) : Int) old) ∧ h.IsTupleIter it a i ∧ e ≠ it ∧ a ≠ it ∧ e ≠ a) where
  mem := by simp
  obj := fun i h st b hb => by
    obtain ⟨⟨old, he⟩, ⟨o, ho, hc, hd⟩, _⟩ := st
    have e' : b = e ∨ b = it := by simpa using hb
    rcases e' with z | z
    · rw [z]; exact ⟨_, he, fun v q => nomatch q⟩
    · rw [z]; exact ⟨o, ho, fun v q => by rw [hd] at q; cases q⟩
  keep := fun i h h' st k => let ⟨⟨old, he⟩, hi, hne⟩ := st; ⟨⟨old, k e (by simp) _ he⟩, hi.at fun o q => k it (by simp) o q, hne⟩
  item := by
    intro X hP hw hK hc i pins s σ H E I hf st hg
    subst hP hw hK
    obtain ⟨⟨old, he⟩, hit, hne, hai, hea⟩ := st
    obtain ⟨xs, x, hq, hx⟩ := hg
    obtain ⟨its, rv, p, hz⟩ := I.tuple hq
    obtain ⟨u, hu, ru⟩ := rv.get hx
    have hel : e < s.heap.objs.size := Heap.lt_size he
    have hil : it < s.heap.objs.size := by obtain ⟨_, q, _⟩ := hit; exact Heap.lt_size q
    have hlt : i < its.toArray.size := by
      rw [List.size_toArray]
      exact (List.getElem?_eq_some_iff.mp hu).1
    have D := Draws.tuple (prog := X.prog) (w := X.w) (A := X.A.in1) (I.ok.hd hc) it a hai its.toArray
    refine wpAny_pyNext_enum_itemD D he ⟨hit, p⟩ hlt hne (by simp [hne, hea]) fun x' h' tk hx' ho hit' hT hsz hk => ?_
    obtain rfl : x' = u := by
      rw [List.getElem?_toArray, hu] at hx'
      exact (Option.some.inj hx').symm
    refine ⟨_, rfl, wpAny_letOwnedTupleGo_enum (s := { s with heap := h', toks := tk + 1 }) ho fun h'' he' sb => ?_⟩
    have hT2 : h''.get? s.heap.objs.size = some { cls := .type "tuple", data := .seq #[.int i tk, x'] } := (sb.2 _ (Nat.ne_of_gt hel)).trans hT
    have new : ObjOk X.prog X.w (upd H s.heap.objs.size (.tup [.int (i : Nat), x])) h'' s.heap.objs.size (.tup [.int (i : Nat), x]) :=
      ⟨by show 2 ≤ sizeLine; decide, [.int i tk, x'], .cons ⟨_, rfl⟩ (.cons ru .nil), ⟨_, hT2, rfl, _, rfl⟩⟩
    have I1 : Inv X pins σ (upd H s.heap.objs.size (.tup [.int (i : Nat), x])) { s with heap := h'', toks := tk + 1 } :=
      I.turnedNew (ch := [e, it]) (fun b ob hb q => (sb.2 b (fun z => hb (by simp [z]))).trans (hk b ob (fun z => hb (by simp [z])) (fun z => hb (by simp [z])) q)) hf (Nat.le_refl _) new
    refine ⟨.ref s.heap.objs.size, _, I1, rfl, ⟨_, x, rfl, I.hok.fresh (Nat.le_refl _), rfl, fun ys hy => ?_⟩, ⟨⟨x', ?_⟩, hit'.1.at fun o q => (sb.2 it (Ne.symm hne)).trans q, hne, hai, hea⟩, fun b hb => ?_⟩
    · rw [I.tuple_inj hy hq]
      exact hx
    · have e1 : ((i + 1 : Nat) : Int) = (i : Int) + 1 := by omega
      rw [e1]; exact he'
    · have hb' : b < s.heap.objs.size := by
        have e' : b = e ∨ b = it := by simpa using hb
        rcases e' with z | z
        · rw [z]; exact hel
        · rw [z]; exact hil
      rw [upd_ne (Nat.ne_of_lt hb')]
      exact (hf b hb).1
  done := by
    intro X hP hw hK hc i pins s σ H E I hf st hg
    subst hP hw hK
    obtain ⟨⟨old, he⟩, hit, hne, hai, hea⟩ := st
    obtain ⟨xs, hq, hx⟩ := hg
    obtain ⟨its, rv, p, hz⟩ := I.tuple hq
    obtain ⟨f0, f1, f2, f3, f4, f5⟩ := hf it (by simp)
    have hl := rv.length
    exact qn_pyNext_enum_endT (I.ok.hd hc) he hit (show s.heap.IsTuple a its.toArray from p) (by simp; omega) fun h' eb => ⟨rfl, I.turned (t' := s.toks) (fun b o hb q => eb b o hb q) f0 f1 f3 f4 f5⟩
  self := fun A i s Q E st h => let ⟨⟨_, he⟩, _⟩ := st; wpAny_pyIter_enum he h
def iEnumT (K : PySem.W.Frag) (ta : TA) : TI := fun σ H R => ta σ H fun vs H1 => ∃ a xs, vs = [.ref a] ∧ SqT K H1 a xs ∧ R (IteT K a) H1
theorem pi_enumT {X : Cx} {e : Expr} {ta : TA} {p pos tpos : Pos} {elts : List Expr} {kk : Nat} (hg : Gl X "enumerate") (hm : X.mg "enumerate" = none) (ha : PA X [e] ta) (hs : starEach [e] X.env = [(false, eval e X.env)] := by rfl) :
    PI X (.Tuple elts kk tpos) (.Call (.Name "enumerate" p) [e] [] pos) (iEnumT X.K ta) := by
  refine ⟨fun pins s σ H R I h => ?_⟩
  refine Call_ (ld_blt I hg hm boot_enumerate (PyProof.Rows.callWith_type1 (thn (ha.run pos pins s σ H _ I h) fun us s1 ⟨vs, H1, I1, r1, q1⟩ => ?_) hs rfl))
  obtain ⟨a, xs, ex, hq, q⟩ := q1
  subst ex
  cases r1 with
  | cons r rr =>
    cases rr
    cases r
    obtain ⟨its, rv, p', hz⟩ := I1.tuple hq
    have hal : a < s1.heap.objs.size := by obtain ⟨_, q, _⟩ := (show s1.heap.IsTuple a its.toArray from p'); exact Heap.lt_size q
    refine qn_call_enumerate_tuple (show s1.heap.IsTuple a its.toArray from p') fun h' he hit hsz hk => wpAny_pyIter_enum he ?_
    have I2 : Inv X pins σ H1 { s1 with heap := h' } := I1.kept (t' := s1.toks) hk
    refine ⟨s1.heap.objs.size + 1, [s1.heap.objs.size + 1, s1.heap.objs.size], _, _, H1, rfl, I2, turn_enumT a (s1.heap.objs.size + 1) s1.heap.objs.size, ⟨⟨.none, he⟩, hit, Nat.succ_ne_self _, Nat.ne_of_lt hal, Nat.ne_of_gt (Nat.lt_succ_of_lt hal)⟩, fun b hb => ?_, q⟩
    have e' : b = s1.heap.objs.size + 1 ∨ b = s1.heap.objs.size := by simpa using hb
    have hle : s1.heap.objs.size ≤ b := by
      rcases e' with z | z
      · rw [z]; exact Nat.le_add_right _ _
      · rw [z]; exact Nat.le_refl _
    exact I1.fpOk hle (I1.hok.fresh hle)
theorem for_enumT {K : PySem.W.Frag} {a : Addr} {xs : List V} {g : TG} {tb : TS} {D : Ends} {σ : L2.St} {H : Hp} (Pv : Nat → L2.St → Hp → Prop) (h0 : Pv 0 σ H) (hl : ∀ i σ H, i ≤ xs.length → Pv i σ H → SqT K H a xs)
    (hs : ∀ i x T σ H, xs[i]? = some x → Pv i σ H → H T = none → g (.ref T) σ (upd H T (.tup [.int (i : Nat), x])) fun σ2 H2 => tb { D with nx := Pv (i + 1), ct := Pv (i + 1), bk := D.nx } σ2 H2) (hd : ∀ σ H, Pv xs.length σ H → D.nx σ H) :
    ∃ W : Nat → Nat → L2.St → Hp → Prop, (∃ m, W 0 m σ H) ∧ ∀ i m σ H, W i m σ H →
      ((IteT K a).stop i H ∧ D.nx σ H) ∨ ((IteT K a).go i H ∧ ∃ N : L2.St → Hp → Prop, (∀ σ' H', N σ' H' → ∃ m', m' < m ∧ W (i + 1) m' σ' H') ∧ ∀ x H', (IteT K a).yld i H x H' → g x σ H' fun σ2 H2 => tb { D with nx := N, ct := N, bk := D.nx } σ2 H2) := by
  refine ⟨fun i m σ H => m = xs.length - i ∧ i ≤ xs.length ∧ Pv i σ H, ⟨xs.length, by simp, Nat.zero_le _, h0⟩, ?_⟩
  rintro i m σ H ⟨rfl, hi, p⟩
  have q := hl i σ H hi p
  by_cases hlt : i < xs.length
  · refine .inr ⟨⟨xs, xs[i], q, by simp [hlt]⟩, Pv (i + 1), fun σ' H' p' => ⟨xs.length - (i + 1), by omega, rfl, hlt, p'⟩, fun x H' y => ?_⟩
    obtain ⟨T, z, rfl, hT, rfl, y⟩ := y
    exact hs i z T σ _ (y xs q) p hT
  · have e : i = xs.length := by omega
    subst e
    exact .inl ⟨⟨xs, q, Nat.le_refl _⟩, hd σ H p⟩
end QN

/-! a place near the least one -/
namespace Qp
open PySem PySem.Spec PyProof.Rows L2 QN
theorem walk_enumT {K : PySem.W.Frag} {a : Addr} {xs : List V} : Walk (IteT K a) xs.length (fun H => SqT K H a xs) (YPair (fun i => some (.int (i : Nat))) (fun i => xs[i]?)) := by
  refine ⟨fun i _ hi q => ⟨xs, xs[i], q, by simp [hi]⟩, fun _ q => ⟨xs, q, Nat.le_refl _⟩, fun i H v H' _ q y => ?_⟩
  obtain ⟨T, x, h1, h2, h3, h4⟩ := y
  exact ⟨T, .int (i : Nat), x, h1, h2, h3, rfl, h4 xs q⟩
/-- enumerate of a list, or of a tuple -/
def iEnumK (k : Bool) (K : PySem.W.Frag) (ta : TA) : TI := match k with
  | true => iEnum K ta
  | false => iEnumT K ta
theorem pi_enumK (k : Bool) {X : Cx} {e : Expr} {ta : TA} {p pos tpos : Pos} {elts : List Expr} {kk : Nat} (hg : Gl X "enumerate") (hm : X.mg "enumerate" = none) (ha : PA X [e] ta) (hs : starEach [e] X.env = [(false, eval e X.env)] := by rfl) :
    PI X (.Tuple elts kk tpos) (.Call (.Name "enumerate" p) [e] [] pos) (iEnumK k X.K ta) := by
  cases k with
  | true => exact pi_enum hg hm ha hs
  | false => exact pi_enumT hg hm ha hs
theorem enK {k : Bool} {K : PySem.W.Frag} {σ : L2.St} {i : Nat} {H : Hp} {a : Addr} {xs : List V} {R : It → Hp → Prop} (hi : σ[i]? = some (some (.ref a))) (h : SqK k K H a xs)
    (r : ∀ J, Walk J xs.length (fun H => SqK k K H a xs) (YPair (fun i => some (.int (i : Nat))) (fun i => xs[i]?)) → R J H) : iEnumK k K (tCons (tVar i) tNil) σ H R := by
  cases k with
  | true => exact ⟨_, hi, a, xs, rfl, h, r _ walk_enum⟩
  | false => exact ⟨_, hi, a, xs, rfl, h, r _ walk_enumT⟩
theorem nearR_small {d lost G many : Nat} (hd : 2 ≤ d) (hd5 : d ≤ 5) (hl : 2 ≤ lost) (hl5 : lost ≤ 5) (hG : G ≤ 3000) (hm : d * many ≤ 3100) : nearR d lost G many ≤ 3200 ∧ (3 * lost < many → (d + 1) * (many - (many - lost) / 2) + lost + 1 + (many - lost) / 2 ≤ 3199) := by
  have m2 : 2 * many ≤ d * many := Nat.mul_le_mul_right _ hd
  have key : 3 * lost < many → (d + 1) * (many - (many - lost) / 2) + lost + 1 + (many - lost) / 2 ≤ 3199 := fun h => by
    generalize hc : (many - lost) / 2 = cut at *
    have e : (d + 1) * (many - cut) = d * (many - cut) + (many - cut) := by rw [Nat.add_mul, Nat.one_mul]
    have h2 : 2 * (many - cut) ≤ many + 6 := by omega
    have h3 : d * (2 * (many - cut)) ≤ d * (many + 6) := Nat.mul_le_mul_left _ h2
    rw [Nat.mul_add, Nat.mul_left_comm] at h3
    have h4 : d * 6 ≤ 30 := by omega
    omega
  refine ⟨?_, key⟩
  unfold nearR
  split
  · omega
  · have := key (by omega)
    omega
/-- the step by the slope divides well -/
theorem divP {V g x s : Int} (hs : 1 ≤ s) (h0 : 0 ≤ V) (h1 : V ≤ x * s) (hx : 0 ≤ x) (hg : 0 ≤ g) (bx : BL x ≤ 3900) (bg : BL g ≤ 3900) : CDivP (V - g) s := by
  refine divp_ok (by omega) ?_
  have a : BL V ≤ BL x + BL s := by
    apply (bl_lt h0).mpr
    rw [Int.pow_add]
    have p := bl_self hx
    have q := bl_self (x := s) (by omega)
    have r : x * s < 2 ^ BL x * 2 ^ BL s := by
      refine Int.lt_of_lt_of_le (Int.mul_lt_mul_of_pos_right p (by omega)) (Int.mul_le_mul_of_nonneg_left (Int.le_of_lt q) (Int.le_of_lt (two_pos _)))
    omega
  have b : (V - g).natAbs ≤ max V.natAbs g.natAbs := by omega
  have c : BL (V - g) ≤ max (BL V) (BL g) := by
    apply bl_le.mpr
    have p := bl_le.mp (Nat.le_refl (BL V))
    have q := bl_le.mp (Nat.le_refl (BL g))
    have p2 := Nat.pow_le_pow_right (show 2 > 0 by decide) (Nat.le_max_left (BL V) (BL g))
    have q2 := Nat.pow_le_pow_right (show 2 > 0 by decide) (Nat.le_max_right (BL V) (BL g))
    omega
  show BL (V - g) ≤ BL s + 4000
  omega
theorem bl_add {x y : Int} {n : Nat} (hx : 0 ≤ x) (hy : 0 ≤ y) (bx : BL x ≤ n) (by' : BL y ≤ n) : BL (x + y) ≤ n + 1 := by
  apply (bl_lt (by omega)).mpr
  have a := (bl_lt hx).mp bx
  have b := (bl_lt hy).mp by'
  rw [Int.pow_succ]
  omega
/-- values at a place below 2 ^ 3900 -/
theorem fitP {S d : Nat} {r : List Int} {x : Int} (hb : Bdd S r) (s0 : 0 < S) (hS : S ≤ 20003) (hl : r.length ≤ 6) (hx : 0 ≤ x) (bx : BL x ≤ 3900) : FitV r x := by
  refine ⟨hx, S, 3900, hb, (bl_lt hx).mp bx, s0, by decide, ?_⟩
  have : r.length * (3900 + 1) ≤ 6 * 3901 := Nat.mul_le_mul_right _ hl
  omega
theorem slo_bdd {S : Nat} {r : List Int} (hb : Bdd S r) (hl : r.length ≤ 8) : Bdd (S + 3) (sloR r) := fun c hc => ⟨sloR_nn hb.nn c hc, sloR_lt hb.nn (fun x hx => (hb x hx).2) hl c hc⟩
abbrev sNear : Stmt := top 25 -- _near_place
abbrev nearNames : List Str := ["coefficients", "goal", "many", "degree", "lost", "cut", "less", "coarse", "place", "at", "number"]
theorem scNear : FnScope nearNames ["coefficients", "goal", "many"] (defScope sNear) := ⟨rfl, rfl, rfl, by decide +kernel, rfl, by decide +kernel, by decide +kernel⟩
/-- the lost digits -/
def lostD (d : Nat) : Nat := BL ((d + 1 : Nat) : Int) + 2
def nearB (d G many : Nat) : Nat := if d = 1 then 1 else nearR d (lostD d) G many
/-- _near_place, at most n deep -/
def spNear (K : PySem.W.Frag) (k : Bool) : Nat → Sp
  | 0 => fun _ _ _ _ => False
  | n + 1 => fun vs H Q _ => ∃ (a : Addr) (r : List Int) (g : Int) (many S d : Nat), vs = [.ref a, .int g, .int (many : Int)] ∧ SqK k K H a (iv r) ∧ r.length = d + 1 ∧ 1 ≤ d ∧ d ≤ 5 ∧ NearI r g many ∧ NearS S r many ∧ 0 < S ∧ S ≤ 20000 ∧ BL g ≤ 3000 ∧ d * many ≤ 3100 ∧ many ≤ lostD d + 2 ^ n ∧
    ∀ (x : Int) (H' : Hp), Same H H' → 1 ≤ x → BL x ≤ nearB d (BL g) many → Q (.int x) H'
theorem lostD_small {d : Nat} (h1 : 1 ≤ d) (h5 : d ≤ 5) : 4 ≤ lostD d ∧ lostD d ≤ 5 := by
  have e : d = 1 ∨ d = 2 ∨ d = 3 ∨ d = 4 ∨ d = 5 := by omega
  rcases e with rfl | rfl | rfl | rfl | rfl <;> decide +kernel
section
variable {P : Program} {w : World} {K : PySem.W.Frag} {mg : Str → Option Value} {base : Heap}
theorem ok_near0 {kk : Bool} {f : Addr} {fd : FuncData} (F : Fun K "_near_place" "_near_place" sNear f fd) : FnOk P w K mg base CX0 3 f fd ["coefficients", "goal", "many"] (spNear K kk 0) :=
  F.ok scNear (fun vs H Q E h => h.elim) (fun cdv A outer s H vs Q E hr h => h.elim)
theorem ok_near1 {n : Nat} {kk : Bool} {f fV fS fH fL fW fF fN : Addr} {fd fdV fdS fdH fdL fdW fdF fdN : FuncData} (F : Fun K "_near_place" "_near_place" sNear f fd)
    (GV : ∀ kk, FnOk P w K mg base CX0 1 fV fdV ["coefficients", "n"] (spVal K kk)) (kV : PySem.W.keepIn K (.ref fV) = true) (bV : L2.Binds K fdV ["coefficients", "n"] []) (gV : mg "_value" = some (.ref fV))
    (GS : FnOk P w K mg base CX0 1 fS fdS ["coefficients"] (spSlo K kk)) (kS : PySem.W.keepIn K (.ref fS) = true) (bS : L2.Binds K fdS ["coefficients"] []) (gS : mg "_slopes" = some (.ref fS))
    (GH : FnOk P w K mg base CX0 2 fH fdH ["coefficients", "goal", "many"] (spHal K kk)) (kH : PySem.W.keepIn K (.ref fH) = true) (bH : L2.Binds K fdH ["coefficients", "goal", "many"] []) (gH : mg "_least_by_halves" = some (.ref fH))
    (GL : FnOk P w K mg base CX0 1 fL fdL ["coefficients"] (spLost K)) (kL : PySem.W.keepIn K (.ref fL) = true) (bL : L2.Binds K fdL ["coefficients"] []) (gL : mg "_lost_digits" = some (.ref fL))
    (GW : FnOk P w K mg base CX0 2 fW fdW ["coefficients"] (spFew K)) (kW : PySem.W.keepIn K (.ref fW) = true) (bW : L2.Binds K fdW ["coefficients"] []) (gW : mg "_few_digits" = some (.ref fW))
    (GF : FnOk P w K mg base CX0 1 fF fdF ["number", "by"] spShf) (kF : PySem.W.keepIn K (.ref fF) = true) (bF : L2.Binds K fdF ["number", "by"] []) (gF : mg "_shifted" = some (.ref fF))
    (GN : FnOk P w K mg base CX0 (n + 3) fN fdN ["coefficients", "goal", "many"] (spNear K true n)) (kN : PySem.W.keepIn K (.ref fN) = true) (bN : L2.Binds K fdN ["coefficients", "goal", "many"] []) (gN : mg "_near_place" = some (.ref fN)) (B : BltN mg) :
    FnOk P w K mg base CX0 (n + 4) f fd ["coefficients", "goal", "many"] (spNear K kk (n + 1)) := by
  refine F.ok scNear (fun vs H Q E h => ?_) (fun cdv A outer s H vs Q E hr h => ?_)
  · obtain ⟨a, r, g, many, S, d, rfl, _⟩ := h
    rfl
  · obtain ⟨a, r, g, many, S, d, rfl, ha, hd, d1, d5, NI, NS, s0, hS, hG, hm, hn, k⟩ := h
    have r1 := hr.mono (by omega : 1 ≤ n + 3)
    have r2 := hr.mono (by omega : 2 ≤ n + 3)
    refine ⟨_, pss_cons (ps_set (i := 3) scNear.nd rfl (.inl rfl) (pe_op op_sub (pe_callB call_len_seq (by rfl) B.len PySem.boot_len (pa_cons (pv 0) pa_nil)) pe_int))
      (pss_cons (ps_if (pt_cmpR op_eq (pv 3) pe_int (nomark _)) (pss_one (ps_ret pe_int)) pss_nil)
      (pss_cons (ps_if (pt_cmpR op_le (pv 2) (pe_call GW r2 (by rfl) gW kW bW .nil pass0 (pa_cons (pv 0) pa_nil)) (nomark _)) (pss_one (ps_ret (pe_call GH r2 (by rfl) gH kH bH .nil pass0 (pa_cons (pv 0) (pa_cons (pv 1) (pa_cons (pe_op op_add (pv 2) pe_int) pa_nil)))))) pss_nil)
      (pss_cons (ps_set (i := 4) scNear.nd rfl (.inl rfl) (pe_call GL r1 (by rfl) gL kL bL .nil pass0 (pa_cons (pv 0) pa_nil)))
      (pss_cons (ps_set (i := 5) scNear.nd rfl (.inr rfl) (pe_op op_fdiv (pe_op op_sub (pv 2) (pv 4)) pe_int))
      (pss_cons (ps_set (i := 6) scNear.nd rfl (.inr rfl) (pe_callB (call_max2 rfl) (by rfl) B.max (by decide +kernel) (pa_cons (pe_op op_sub (pe_op op_sub (pe_bits (pv 1)) (pe_op op_mul (pe_op op_add (pv 3) pe_int) (pe_op op_sub (pv 2) (pv 5)))) (pv 4)) (pa_cons pe_int pa_nil))))
      (pss_cons (ps_setLc (i := 7) (own := [("at", 9), ("number", 10)]) (g := gTup K 2 (gCons (gName 9) (gCons (gName 10) gNil))) (tt := tYes) rfl scNear.nd rfl rfl (sw_true rfl rfl rfl (by decide +kernel)) (pi_enumK kk (by rfl) B.en (pa_cons (pv 0) pa_nil))
        (blkOk_by (N := nearNames) (sc := defScope sNear) (by decide +kernel)) (fun _ _ _ _ _ => pg_tup rfl (pgs_cons (pg_name (i := 9) scNear.nd rfl (.inl rfl) (hf := .inr rfl)) (pgs_cons (pg_name (i := 10) scNear.nd rfl (.inl rfl) (hf := .inr rfl)) pgs_nil)))
        (fun _ _ _ _ _ => pts_nil) (fun _ _ _ _ _ => pe_call GF r1 (by rfl) gF kF bF .nil pass0 (pa_cons (pv 10) (pa_cons (pe_op op_sub (pe_op op_mul (pv 5) (pv 9)) (pv 6)) pa_nil))))
      (pss_cons (ps_set (i := 8) scNear.nd rfl (.inl rfl) (pe_op op_shlN (pe_call GN hr (by rfl) gN kN bN .nil pass0 (pa_cons (pv 7) (pa_cons (pe_op op_shrN (pv 1) (pv 6)) (pa_cons (pe_op op_sub (pv 2) (pv 5)) pa_nil)))) (pv 5)))
      (pss_one (ps_ret (pe_op op_sub (pv 8) (pe_op op_fdivP (pe_op op_sub (pe_call (GV kk) r1 (by rfl) gV kV bV .nil pass0 (pa_cons (pv 0) (pa_cons (pv 8) pa_nil))) (pv 1)) (pe_call (GV true) r1 (by rfl) gV kV bV .nil pass0 (pa_cons (pe_call GS r1 (by rfl) gS kS bS .nil pass0 (pa_cons (pv 0) pa_nil)) (pa_cons (pv 8) pa_nil)))))))))))))), ?_⟩
    have hlen : (iv r).length = d + 1 := by rw [iv_len]; exact hd
    have L4 := (lostD_small d1 d5).1
    have L5 := (lostD_small d1 d5).2
    have hb : Bdd S r := fun c hc => ⟨NI.nn c hc, NS.lt NI.nn hc⟩
    have g1 := NI.g1
    have e1 : (((iv r).length : Nat) : Int) - 1 = (d : Int) := by rw [hlen]; omega
    -- degree
    refine ⟨_, rfl, a, _, rfl, sqK_or ha, _, _, rfl, rfl, ?_⟩
    dsimp only
    rw [e1]
    refine ⟨_, rfl, rfl, _, rfl, ?_⟩
    by_cases z1 : d = 1
    · refine if_yes (by simp; omega) ?_
      exact k 1 H (Same.refl _) (by decide) (by unfold nearB; rw [if_pos z1]; decide)
    refine if_no (by simp; omega) ?_
    have d2 : 2 ≤ d := by omega
    have hB : ∀ x, x ≤ nearR d (lostD d) (BL g) many → x ≤ nearB d (BL g) many := fun x h => by unfold nearB; rw [if_neg z1]; exact h
    -- few
    have e2 : BL (((iv r).length : Nat) : Int) + 2 = lostD d := by rw [hlen]; rfl
    refine ⟨_, rfl, _, rfl, a, _, rfl, sqK_or ha, _, _, rfl, rfl, _, rfl, ?_⟩
    by_cases z2 : many ≤ 3 * lostD d
    · refine if_yes (decide_eq_true (by omega)) ?_
      refine ⟨_, rfl, _, rfl, _, rfl, _, _, rfl, rfl, a, r, g, many + 1, S, rfl, ha, hb, s0, ?_, fun h H' s1 h1 h2 _ _ => ?_⟩
      · have : r.length * (many + 1 + 2) ≤ 6 * (3 * 5 + 3) := Nat.mul_le_mul (by omega) (by omega)
        omega
      · refine k h H' s1 h1 (hB _ ?_)
        unfold nearR
        rw [if_pos z2]
        apply (bl_lt (by omega)).mpr
        have := two_pos (many + 1)
        rw [show many + 2 = many + 1 + 1 from rfl, Int.pow_succ]
        omega
    refine if_no (by simp; omega) ?_
    -- lost, cut
    obtain ⟨sm1, sm2⟩ := nearR_small d2 d5 (by omega) L5 hG hm
    have nR : nearR d (lostD d) (BL g) many = max (BL g) ((d + 1) * (many - (many - lostD d) / 2) + lostD d + 1 + (many - lostD d) / 2) + 1 := by
      unfold nearR
      rw [if_neg z2]
    have sm2 := sm2 (by omega)
    have sh := NI.coarse (lost := lostD d) (cut := (many - lostD d) / 2) hd (by omega)
    obtain ⟨cut, hcut⟩ : ∃ cut, cut = (many - lostD d) / 2 := ⟨_, rfl⟩
    rw [← hcut] at nR sm2 sh
    obtain ⟨less, hless⟩ : ∃ less, less = BL g - ((d + 1) * (many - cut) + lostD d) := ⟨_, rfl⟩
    rw [← hless] at sh
    have cm : cut < many := by omega
    have c1 : 1 ≤ cut := by omega
    have ecut : ((many : Int) - (lostD d : Nat)) / 2 = (cut : Int) := by omega
    refine ⟨_, rfl, a, _, rfl, sqK_or ha, ?_⟩
    dsimp only
    rw [e2]
    refine ⟨_, rfl, _, rfl, _, _, rfl, rfl, _, _, rfl, rfl, ⟨by decide, by decide⟩, ?_⟩
    dsimp only
    rw [ecut]
    -- less
    refine ⟨_, rfl, g, rfl, _, rfl, _, _, rfl, rfl, _, rfl, _, rfl, _, _, rfl, rfl, _, _, rfl, rfl, .inl ⟨by omega, by omega⟩, _, _, rfl, rfl, _, rfl, _, _, rfl, rfl, _, _, rfl, ?_⟩
    dsimp only
    have eless : (if (0 : Int) > ((BL g : Nat) : Int) - ((d : Int) + 1) * ((many : Int) - (cut : Nat)) - (lostD d : Nat) then 0 else ((BL g : Nat) : Int) - ((d : Int) + 1) * ((many : Int) - (cut : Nat)) - (lostD d : Nat)) = (less : Int) := by
      have e : ((d : Int) + 1) * ((many : Int) - (cut : Nat)) = (((d + 1) * (many - cut) : Nat) : Int) := by
        rw [Int.natCast_mul, Int.ofNat_sub (Nat.le_of_lt cm)]
        rfl
      rw [e]
      split <;> omega
    rw [eless]
    -- coarse
    refine enK rfl ha fun J wJ D hD => ?_
    refine lc_it wJ (fun i H' => Same H H' ∧ H' D = some (.lst (iv ((List.range i).map fun i => shZ (r.getD i 0) (((cut * i : Nat) : Int) - less))))) ⟨same_new hD, upd_same⟩ (fun i H' _ hV => sqK_same hV.1 ha) ?_ ?_
    · rintro i x H1 H2 hi ⟨s1, hD1⟩ ⟨T, u, v, rfl, hT, rfl, eu, ev⟩
      cases eu
      rw [hlen] at hi
      have ev : (iv r)[i]? = some v := ev
      rw [iv_at (by omega)] at ev
      cases ev
      have c0 := NI.nn.getD i
      refine ⟨T, _, rfl, .inl (.inl upd_same), rfl, _, _, rfl, _, _, rfl, rfl, rfl, yes_if ?_⟩
      have em : (cut : Int) * (i : Int) = ((cut * i : Nat) : Int) := (Int.natCast_mul _ _).symm
      refine ⟨_, rfl, _, rfl, _, rfl, _, _, rfl, rfl, .inl ⟨by omega, by omega⟩, _, rfl, _, _, rfl, rfl, r.getD i 0, (cut : Int) * (i : Int) - (less : Int), rfl, fun hp => ⟨by omega, ?_⟩, _, (same_new hT) _ _ hD1, ?_, ?_, ?_⟩
      · have b1 := NS i _ (get_of (by omega))
        have b2 : cut * i ≤ cut * 5 := Nat.mul_le_mul_left _ (by omega)
        have b3 : (2 : Int) ^ 27 = 134217728 := by decide
        show ((BL (r.getD i 0) : Nat) : Int) + _ ≤ _
        omega
      · rw [iv_len, List.length_map, List.length_range, sizeLine_eq]
        omega
      · exact upd_keep hD (s1.trans (same_new hT))
      · rw [upd_same, List.range_succ, List.map_append, iv_app, em]
        rfl
    · rintro H1 ⟨s1, hD1⟩
      rw [hlen] at hD1
      have hD1 : H1 D = some (.lst (iv (coarse r cut less))) := by
        unfold coarse
        rw [hd]
        exact hD1
      have i2 : ((many - cut : Nat) : Int) = (many : Int) - (cut : Int) := Int.ofNat_sub (Nat.le_of_lt cm)
      have GL' := bl_shr (x := g) (by omega) less
      refine ⟨_, rfl, _, rfl, _, rfl, g, less, rfl, rfl, _, rfl, _, rfl, _, _, rfl, rfl, ?_⟩
      cases n with
      | zero => exact absurd hn (by show ¬ many ≤ lostD d + 1; omega)
      | succ n =>
        refine ⟨D, coarse r cut less, g / 2 ^ less, many - cut, S, d, by rw [i2]; rfl, .inl (.inl hD1), by rw [coarse_len]; exact hd, d1, d5, sh, NS.coarse NI.nn (Nat.le_of_lt cm), s0, hS, by omega, ?_, ?_, fun x H2 s2 x1 bx => ?_⟩
        · exact Nat.le_trans (Nat.mul_le_mul_left _ (Nat.sub_le _ _)) hm
        · have : 2 ^ (n + 1) = 2 ^ n * 2 := Nat.pow_succ _ _
          omega
        have bx2 : BL x ≤ nearR d (lostD d) (BL (g / 2 ^ less)) (many - cut) := by
          unfold nearB at bx
          rw [if_neg z1] at bx
          exact bx
        have bx3 := Nat.le_trans bx2 (nearR_le d2 (by omega))
        have bX := bl_shl x1 cut
        have X1 : 1 ≤ x * 2 ^ cut := by
          have := Int.mul_le_mul x1 (show (1 : Int) ≤ 2 ^ cut by have := two_pos cut; omega) (by decide) (by omega)
          omega
        have pl : CShl x (cut : Int) := by
          refine ⟨by omega, ?_⟩
          have b3 : (2 : Int) ^ 27 = 134217728 := by decide
          show ((BL x : Nat) : Int) + _ ≤ _
          omega
        obtain ⟨X, hX⟩ : ∃ X, X = x * 2 ^ cut := ⟨_, rfl⟩
        rw [← hX] at bX X1
        have bX9 : BL X ≤ 3900 := by omega
        have hl6 : r.length ≤ 6 := by omega
        have hb2 := slo_bdd hb (by omega)
        have sl6 : (sloR r).length ≤ 6 := by rw [sloR_eq, slopeZ_len]; omega
        have es := val_sloR r X
        have hs := NI.slo X1
        have nw := newton (g := g) NI.nn (by rw [val_zero]; exact NI.z) X1 g1 es.symm (by rw [es]; exact hs)
        rw [← es] at hs
        refine ⟨_, rfl, x, cut, rfl, rfl, pl, ?_⟩
        dsimp only
        rw [← hX]
        refine ⟨_, rfl, _, rfl, _, rfl, a, r, X, rfl, sqK_same (s1.trans s2) ha, fitP (d := 0) hb s0 (by omega) hl6 (by omega) bX9, fun H3 s3 => ⟨_, rfl, _, _, rfl, rfl, _, rfl, a, r, rfl, sqK_same (s1.trans (s2.trans s3)) ha, by omega, fun q H4 s4 hq => ?_⟩⟩
        refine ⟨_, rfl, q, sloR r, X, rfl, .inl (.inl hq), fitP (d := 0) hb2 (by omega) (by omega) sl6 (by omega) bX9, fun H5 s5 => ?_⟩
        refine ⟨_, _, rfl, rfl, divP hs (val_nn0 (by omega) NI.nn) nw.2.2.2.2 (by omega) (by omega) bX9 (by omega), _, _, rfl, rfl, ?_⟩
        refine k _ H5 (s1.trans (s2.trans (s3.trans (s4.trans s5)))) nw.1 (hB _ ?_)
        rw [nR]
        refine Nat.le_trans (bl_mono (by omega) nw.2.2.1) (bl_add (by omega) (by omega) ?_ (Nat.le_max_left _ _))
        refine Nat.le_trans ?_ (Nat.le_max_right _ _)
        omega
end
end Qp

/-! the least place -/
namespace Qp
open PySem PySem.Spec PyProof.Rows L2 QN
abbrev sLP : Stmt := top 21 -- _least_place
theorem scLP : FnScope ["coefficients", "goal", "raised", "missing", "slopes", "many", "at", "step"] ["coefficients", "goal"] (defScope sLP) := ⟨rfl, rfl, rfl, by decide +kernel, rfl, by decide +kernel, by decide +kernel⟩
def spLP (K : PySem.W.Frag) : Sp := fun vs H Q _ => ∃ (a : Addr) (ns : List Int) (g : Int), vs = [.ref a, .int g] ∧ SqT K H a (iv ns) ∧ (∀ c ∈ ns, okC c) ∧ cutZ ns = ns ∧ ns.length ≤ 6 ∧ 2 ≤ ns.length ∧ val ns 0 < g ∧ g < 2 ^ 3000 ∧
  ∀ (n : Int) (H' : Hp), Same H H' → 1 ≤ n → g ≤ val ns n → val ns (n - 1) < g → Q (.int n) H'
/-- what is asked of the place, without the constant -/
theorem raised_ok {c g : Int} {rest : List Int} (hc : ∀ x ∈ c :: rest, okC x) (hcut : cutZ (c :: rest) = c :: rest) (hl : (c :: rest).length ≤ 6) (h2 : 2 ≤ (c :: rest).length) (h0 : c < g) (hg : g < 2 ^ 3000) :
    1 ≤ g - c ∧ BL (g - c) ≤ 3000 ∧ NN (0 :: rest) ∧ 1 ≤ (0 :: rest).getD ((0 :: rest).length - 1) 0 := by
  have c0 := (hc c List.mem_cons_self).1
  refine ⟨by omega, (bl_lt (by omega)).mpr (by omega), fun x hx => ?_, ?_⟩
  · rcases List.mem_cons.mp hx with rfl | hx
    · exact Int.le_refl 0
    · exact (hc x (List.mem_cons_of_mem _ hx)).1
  · rcases cut_last (c :: rest) with e | ⟨r, x, e, nx⟩
    · rw [hcut] at e
      cases e
    · rw [hcut] at e
      cases r with
      | nil =>
        rw [e] at h2
        exact absurd h2 (by simp)
      | cons y r =>
        have e2 : rest = r ++ [x] := by
          have z := List.tail_eq_of_cons_eq e
          exact z
        subst e2
        have x0 := (hc x (by simp)).1
        show 1 ≤ (0 :: (r ++ [x])).getD ((r ++ [x]).length + 1 - 1) 0
        rw [Nat.add_sub_cancel, List.length_append, List.getD_eq_getElem?_getD]
        have : (0 :: (r ++ [x]))[r.length + [x].length]? = some x := by
          show (0 :: (r ++ [x]))[r.length + 1]? = some x
          rw [List.getElem?_cons_succ, List.getElem?_append_right (Nat.le_refl _), Nat.sub_self]
          rfl
        rw [this]
        show 1 ≤ x
        omega
theorem val_raised (c : Int) (rest : List Int) (n : Int) : val (c :: rest) n = val (0 :: rest) n + c := by
  rw [val_cons, val_cons]
  omega
theorem near_ok {r : List Int} {m : Int} {many : Nat} (nn : NN r) (z : r.getD 0 0 = 0) (m1 : 1 ≤ m) (hm : BL m ≤ 3000) (hl : r.length ≤ 6) (h2 : 2 ≤ r.length) (last : 1 ≤ r.getD (r.length - 1) 0) (lt : ∀ c ∈ r, c < 2 ^ 70)
    (ex : ∃ i, 1 ≤ i ∧ i < r.length ∧ 0 < r.getD i 0 ∧ many = dg m (r.getD i 0) i) (le : ∀ i, 1 ≤ i → i < r.length → 0 < r.getD i 0 → many ≤ dg m (r.getD i 0) i) :
    NearI r m many ∧ NearS 3200 r many ∧ (r.length - 1) * many ≤ 3100 := by
  obtain ⟨i, i1, i2, i3, e⟩ := ex
  have d := le (r.length - 1) (by omega) (by omega) (by omega)
  have b := bl_one last
  have key : (r.length - 1) * many ≤ 3005 := by
    have z1 : (r.length - 1) * many ≤ (r.length - 1) * dg m (r.getD (r.length - 1) 0) (r.length - 1) := Nat.mul_le_mul_left _ d
    unfold dg at z1
    rw [Nat.mul_add, Nat.mul_one] at z1
    have z2 := Nat.mul_div_le (BL m + 1 - BL (r.getD (r.length - 1) 0)) (r.length - 1)
    omega
  refine ⟨⟨nn, z, m1, i, _, i1, get_of i2, by omega, digits_ex i1 e⟩, fun k c hc => ?_, by omega⟩
  have hk := (List.getElem?_eq_some_iff.mp hc).1
  have c0 := nn c (List.mem_of_getElem? hc)
  have b1 : BL c ≤ 70 := (bl_lt c0).mpr (lt c (List.mem_of_getElem? hc))
  have b2 : many * k ≤ (r.length - 1) * many := by
    rw [Nat.mul_comm]
    exact Nat.mul_le_mul_right _ (by omega)
  omega
section
variable {P : Program} {w : World} {K : PySem.W.Frag} {mg : Str → Option Value} {base : Heap}
theorem ok_lp {f fV fS fH fW fD fN : Addr} {fd fdV fdS fdH fdW fdD fdN : FuncData} (F : Fun K "_least_place" "_least_place" sLP f fd)
    (GV : ∀ kk, FnOk P w K mg base CX0 1 fV fdV ["coefficients", "n"] (spVal K kk)) (kV : PySem.W.keepIn K (.ref fV) = true) (bV : L2.Binds K fdV ["coefficients", "n"] []) (gV : mg "_value" = some (.ref fV))
    (GS : FnOk P w K mg base CX0 1 fS fdS ["coefficients"] (spSlo K false)) (kS : PySem.W.keepIn K (.ref fS) = true) (bS : L2.Binds K fdS ["coefficients"] []) (gS : mg "_slopes" = some (.ref fS))
    (GH : FnOk P w K mg base CX0 2 fH fdH ["coefficients", "goal", "many"] (spHal K false)) (kH : PySem.W.keepIn K (.ref fH) = true) (bH : L2.Binds K fdH ["coefficients", "goal", "many"] []) (gH : mg "_least_by_halves" = some (.ref fH))
    (GW : FnOk P w K mg base CX0 2 fW fdW ["coefficients"] (spFew K)) (kW : PySem.W.keepIn K (.ref fW) = true) (bW : L2.Binds K fdW ["coefficients"] []) (gW : mg "_few_digits" = some (.ref fW))
    (GD : FnOk P w K mg base CX0 1 fD fdD ["coefficients", "goal"] (spDig K)) (kD : PySem.W.keepIn K (.ref fD) = true) (bD : L2.Binds K fdD ["coefficients", "goal"] []) (gD : mg "_binary_digits" = some (.ref fD))
    (GN : FnOk P w K mg base CX0 16 fN fdN ["coefficients", "goal", "many"] (spNear K false 13)) (kN : PySem.W.keepIn K (.ref fN) = true) (bN : L2.Binds K fdN ["coefficients", "goal", "many"] []) (gN : mg "_near_place" = some (.ref fN)) :
    FnOk P w K mg base CX0 17 f fd ["coefficients", "goal"] (spLP K) := by
  refine F.ok scLP (fun vs H Q E h => ?_) (fun cdv A outer s H vs Q E hr h => ?_)
  · obtain ⟨a, ns, g, rfl, _⟩ := h
    rfl
  · obtain ⟨a, ns, g, rfl, ha, hc, hcut, hl, h2, h0, hg, k⟩ := h
    have r1 := hr.mono (by decide : 1 ≤ 16)
    have r2 := hr.mono (by decide : 2 ≤ 16)
    refine ⟨_, pss_cons (ps_par (i := 2) (j := 3) rfl scLP.nd rfl rfl (by decide) rfl rfl (pa_cons (pe_op op_catA (pe_tup (pa_cons pe_int pa_nil)) (pe_slice sl_tupA (pv 0) (po_some pe_int) po_none)) (pa_cons (pe_op op_sub (pv 1) (pe_ix ix_tup (pv 0) pe_int (fun _ _ => rfl))) pa_nil)) rfl)
      (pss_cons (ps_set (i := 4) scLP.nd rfl (.inl rfl) (pe_call GS r1 (by rfl) gS kS bS .nil pass0 (pa_cons (pv 2) pa_nil)))
      (pss_cons (ps_set (i := 5) scLP.nd rfl (.inl rfl) (pe_call GD r1 (by rfl) gD kD bD .nil pass0 (pa_cons (pv 2) (pa_cons (pv 3) pa_nil))))
      (pss_cons (ps_if (pt_cmpR op_le (pv 5) (pe_call GW r2 (by rfl) gW kW bW .nil pass0 (pa_cons (pv 2) pa_nil)) (nomark _)) (pss_one (ps_ret (pe_call GH r2 (by rfl) gH kH bH .nil pass0 (pa_cons (pv 2) (pa_cons (pv 3) (pa_cons (pv 5) pa_nil)))))) pss_nil)
      (pss_cons (ps_set (i := 6) scLP.nd rfl (.inl rfl) (pe_call GN hr (by rfl) gN kN bN .nil pass0 (pa_cons (pv 2) (pa_cons (pv 3) (pa_cons (pv 5) pa_nil)))))
      (pss_cons (ps_set (i := 7) scLP.nd rfl (.inl rfl) pe_int)
      (pss_cons (ps_while PassesOwn.never (pt_cmpR op_ne (pv 7) pe_int (nomark _))
        (pss_cons (ps_set (i := 7) scLP.nd rfl (.inl rfl) (pe_op op_fdivP (pe_op op_sub (pe_call (GV false) r1 (by rfl) gV kV bV .nil pass0 (pa_cons (pv 2) (pa_cons (pv 6) pa_nil))) (pv 3)) (pe_call (GV true) r1 (by rfl) gV kV bV .nil pass0 (pa_cons (pv 4) (pa_cons (pv 6) pa_nil)))))
        (pss_one (ps_set (i := 6) scLP.nd rfl (.inl rfl) (pe_op op_sub (pv 6) (pv 7))))))
      (pss_cons (ps_while PassesOwn.never (pt_cmpR op_ge (pe_call (GV false) r1 (by rfl) gV kV bV .nil pass0 (pa_cons (pv 2) (pa_cons (pe_op op_sub (pv 6) pe_int) pa_nil))) (pv 3) (nomark _))
        (pss_one (ps_set (i := 6) scLP.nd rfl (.inl rfl) (pe_op op_sub (pv 6) pe_int))))
      (pss_one (ps_ret (pv 6)))))))))), ?_⟩
    cases ns with
    | nil => exact absurd h2 (by decide)
    | cons c rest =>
    have h0' : c < g := by
      rw [val_zero] at h0
      exact h0
    obtain ⟨m1, hm, nn, last⟩ := raised_ok hc hcut hl h2 h0' hg
    -- raised
    have lc : (iv (c :: rest)).length = rest.length + 1 := by rw [iv_len]; rfl
    have l1 : 1 ≤ rest.length := by
      have : (c :: rest).length = rest.length + 1 := rfl
      omega
    have l5 : rest.length ≤ 5 := by
      have : (c :: rest).length = rest.length + 1 := rfl
      omega
    refine ⟨by decide, fun t ht => ⟨_, rfl, 1, rfl, a, _, rfl, sqT_same (same_new ht) ha, fun z => ?_, fun _ u hu => ?_⟩⟩
    · have z1 := z.1
      rw [show (1 : Int) = ((1 : Nat) : Int) from rfl, HT.sIx_nat] at z1
      omega
    have st := same_new (o := .tup [.int 0]) ht
    have su := same_new (o := .tup (cutV (iv (c :: rest)) (some 1) none)) hu
    have ecut : cutV (iv (c :: rest)) (some 1) none = iv rest := by
      unfold cutV
      rw [show (1 : Int) = ((1 : Nat) : Int) from rfl, HT.sIx_nat, HT.sIx_none, lc, show min 1 (rest.length + 1) = 1 by omega, Nat.add_sub_cancel]
      show ((V.int c :: iv rest).drop 1).take rest.length = iv rest
      rw [List.drop_one, List.tail_cons, ← iv_len rest, List.take_length]
    rw [ecut] at su
    rw [ecut]
    refine ⟨t, u, [.int 0], iv rest, rfl, rfl, .inl (.inl (su _ _ upd_same)), .inl (.inl upd_same), ?_, (fun z => by cases z), fun _ z => ?_, fun _ _ q hq => ?_⟩
    · rw [iv_len, sizeLine_eq]
      show 1 + rest.length ≤ _
      omega
    · have : (iv rest).length = 0 := by rw [z]; rfl
      rw [iv_len] at this
      omega
    have eq0 : [V.int 0] ++ iv rest = iv (0 :: rest) := rfl
    rw [eq0]
    have sq := same_new (o := .tup (iv (0 :: rest))) hq
    have hr0 := upd_same (H := upd (upd H t (.tup [.int 0])) u (.tup (iv rest))) (a := q) (o := .tup (iv (0 :: rest)))
    have S0 := st.trans (su.trans sq)
    generalize upd (upd (upd H t (.tup [.int 0])) u (.tup (iv rest))) q (.tup (iv (0 :: rest))) = H0 at hr0 S0
    -- missing
    refine ⟨_, rfl, _, rfl, a, _, 0, _, rfl, rfl, sqT_same S0 ha, atI_nat (j := 0) (xs := iv (c :: rest)) rfl, _, _, rfl, rfl, _, _, rfl, ?_⟩
    dsimp only
    obtain ⟨m, em⟩ : ∃ m, m = g - c := ⟨_, rfl⟩
    obtain ⟨r, er⟩ : ∃ r, r = 0 :: rest := ⟨_, rfl⟩
    rw [← em] at m1 hm ⊢
    rw [← er] at hr0 nn last
    have lr : r.length = rest.length + 1 := by rw [er]; rfl
    have z0 : r.getD 0 0 = 0 := by rw [er]; rfl
    have v0 : val r 0 = 0 := by rw [val_zero]; exact z0
    have vr : ∀ n, val (c :: rest) n = val r n + c := fun n => by rw [er]; exact val_raised c rest n
    have hb70 : Bdd 70 r := fun x hx => by
      rw [er] at hx
      rcases List.mem_cons.mp hx with rfl | hx
      · exact ⟨Int.le_refl 0, two_pos _⟩
      · exact ⟨(hc x (List.mem_cons_of_mem _ hx)).1, Int.lt_trans (hc x (List.mem_cons_of_mem _ hx)).2 (by decide)⟩
    have hr' : SqT K H0 q (iv r) := .inl (.inl hr0)
    -- slopes, many
    refine ⟨_, rfl, q, r, rfl, hr', by omega, fun u1 H1 s1 hu1 => ?_⟩
    refine ⟨_, rfl, _, rfl, q, r, m, rfl, sqT_same s1 hr', by omega, ⟨r.length - 1, by omega, by omega, by omega⟩, fun many H2 s2 ex le => ?_⟩
    obtain ⟨NI, NS, hd⟩ := near_ok nn z0 m1 hm (by omega) (by omega) last (fun x hx => (hb70 x hx).2) ex le
    have fin : ∀ (n : Int) (H' : Hp), Same H0 H' → 1 ≤ n → m ≤ val r n → val r (n - 1) < m → Q (.int n) H' := fun n H' s' n1 a1 a2 => k n H' (S0.trans s') n1 (by rw [vr]; omega) (by rw [vr]; omega)
    refine ⟨_, rfl, _, rfl, q, _, rfl, .inr (sqT_same (s1.trans s2) hr'), _, _, rfl, rfl, _, rfl, ?_⟩
    have lq : (iv r).length = rest.length + 1 := by rw [iv_len, lr]
    have L5 := (lostD_small l1 l5).2
    have L4 := (lostD_small l1 l5).1
    have e2 : BL (((iv r).length : Nat) : Int) + 2 = lostD rest.length := by rw [lq]; rfl
    by_cases z2 : many ≤ 3 * lostD rest.length
    · refine if_yes (decide_eq_true (by omega)) ?_
      refine ⟨_, rfl, _, rfl, _, rfl, q, r, m, many, 70, rfl, sqT_same (s1.trans s2) hr', hb70, by decide, ?_, fun h H3 s3 h1 h2 h3 h4 => ?_⟩
      · have : r.length * (many + 2) ≤ 6 * (15 + 2) := Nat.mul_le_mul (by omega) (by omega)
        omega
      · refine fin h H3 (s1.trans (s2.trans s3)) h1 ?_ ?_
        · rcases h3 with h3 | h3
          · exact h3
          · rw [h3]
            exact Int.le_of_lt NI.hit
        · rcases h4 with h4 | h4
          · exact h4
          · rw [h4]
            show val r 0 < m
            omega
    refine if_no (by simp; omega) ?_
    refine ⟨_, rfl, _, rfl, _, rfl, q, r, m, many, 3200, rest.length, rfl, sqT_same (s1.trans s2) hr', lr, l1, l5, NI, NS, by decide, by decide, hm, by rw [lr, Nat.add_sub_cancel] at hd; exact hd, ?_, fun x H3 s3 x1 bx => ?_⟩
    · rw [lr, Nat.add_sub_cancel] at hd
      have : 1 * many ≤ rest.length * many := Nat.mul_le_mul_right _ l1
      show many ≤ lostD rest.length + 4096
      omega
    have bx : BL x ≤ 3200 := by
      refine Nat.le_trans bx ?_
      unfold nearB
      by_cases z1 : rest.length = 1
      · rw [if_pos z1]
        decide
      · rw [if_neg z1]
        rw [lr, Nat.add_sub_cancel] at hd
        exact (nearR_small (by omega) l5 (by omega) L5 hm hd).1
    have S3 := s1.trans (s2.trans s3)
    have hb73 := slo_bdd hb70 (by omega)
    have sl6 : (sloR r).length ≤ 6 := by rw [sloR_eq, slopeZ_len]; omega
    refine ⟨fun t σ H' => ∃ at' step : Int, σ = [some (.ref a), some (.int g), some (.ref q), some (.int m), some (.ref u1), some (.int (many : Int)), some (.int at'), some (.int step)] ∧ Same H3 H' ∧ 1 ≤ at' ∧ (BL at' ≤ 3200 ∨ (m ≤ val r at' ∧ BL at' ≤ 3201)) ∧ (step = 0 → m ≤ val r at') ∧
      t = (if step = 0 then 0 else if m ≤ val r at' then at'.toNat + 1 else (at' + m).toNat + 2), ⟨_, x, 1, rfl, Same.refl _, x1, .inl bx, (fun z => by cases z), rfl⟩, ?_⟩
    rintro t σ H' ⟨at', step, rfl, s4, a1, ab, a0, rfl⟩
    refine ⟨_, rfl, rfl, _, rfl, ?_⟩
    by_cases z3 : step = 0
    · refine if_no (by simp; omega) ?_
      have a0 := a0 z3
      refine ⟨fun t σ H' => ∃ at' : Int, σ = [some (.ref a), some (.int g), some (.ref q), some (.int m), some (.ref u1), some (.int (many : Int)), some (.int at'), some (.int step)] ∧ Same H3 H' ∧ 1 ≤ at' ∧ BL at' ≤ 3201 ∧ m ≤ val r at' ∧ t = at'.toNat, ⟨_, at', rfl, s4, a1, by omega, a0, rfl⟩, ?_⟩
      rintro t σ H4 ⟨b', rfl, s5, b1, bb, b0, rfl⟩
      refine ⟨_, rfl, _, rfl, _, _, rfl, rfl, q, r, b' - 1, rfl, sqT_same (S3.trans s5) hr', fitP (d := 0) hb70 (by decide) (by decide) (by omega) (by omega) (Nat.le_trans (bl_mono (by omega) (show b' - 1 ≤ b' by omega)) (by omega)), fun H5 s6 => ?_⟩
      refine ⟨_, rfl, _, _, rfl, rfl, _, rfl, ?_⟩
      by_cases z4 : m ≤ val r (b' - 1)
      · have b2 : 1 ≤ b' - 1 := by
          by_cases y : b' = 1
          · rw [y] at z4
            have z5 : m ≤ val r 0 := z4
            omega
          · omega
        refine if_yes (decide_eq_true z4) ⟨fun σ' H6 => σ' = [some (.ref a), some (.int g), some (.ref q), some (.int m), some (.ref u1), some (.int (many : Int)), some (.int (b' - 1)), some (.int step)] ∧ Same H3 H6,
          fun σ' H6 ⟨e, s7⟩ => ⟨_, ?_, b' - 1, e, s7, b2, Nat.le_trans (bl_mono (by omega) (show b' - 1 ≤ b' by omega)) bb, z4, rfl⟩, _, rfl, _, _, rfl, rfl, rfl, s5.trans s6⟩
        omega
      · refine if_no (by simpa using z4) ⟨_, rfl, ?_⟩
        exact fin b' H5 (S3.trans (s5.trans s6)) b1 b0 (by omega)
    · refine if_yes (by simpa using z3) ?_
      have a9 : BL at' ≤ 3900 := by omega
      have es := val_sloR r at'
      have hs := NI.slo a1
      obtain ⟨w1, w2, w3, w4, w5⟩ := newton (g := m) NI.nn v0 a1 m1 es.symm (by rw [es]; exact hs)
      rw [← es] at hs
      have dv := divP hs (val_nn0 (by omega) NI.nn) w5 (by omega) (by omega) a9 (by omega : BL m ≤ 3900)
      obtain ⟨st, est⟩ : ∃ st, st = (val r at' - m) / val (sloR r) at' := ⟨_, rfl⟩
      rw [← est] at w1 w2 w3 w4
      refine ⟨fun σ' H6 => σ' = [some (.ref a), some (.int g), some (.ref q), some (.int m), some (.ref u1), some (.int (many : Int)), some (.int (at' - st)), some (.int st)] ∧ Same H3 H6,
        fun σ' H6 ⟨e, s7⟩ => ⟨_, ?_, at' - st, st, e, s7, w1, ?_, (fun _ => w2), rfl⟩, ?_⟩
      · rw [if_neg z3, if_pos w2]
        by_cases z5 : m ≤ val r at'
        · rw [if_pos z5]
          have := w4 z5
          split <;> omega
        · rw [if_neg z5]
          split <;> omega
      · refine .inr ⟨w2, ?_⟩
        by_cases z5 : m ≤ val r at'
        · have := w4 z5
          exact Nat.le_trans (bl_mono (by omega) (show at' - st ≤ at' by omega)) (by omega)
        · have b2 : BL at' ≤ 3200 := by
            rcases ab with ab | ab
            · exact ab
            · exact absurd ab.1 z5
          exact Nat.le_trans (bl_mono (by omega) w3) (bl_add (by omega) (by omega) b2 (by omega))
      · refine ⟨_, rfl, _, rfl, q, r, at', rfl, sqT_same (S3.trans s4) hr', fitP (d := 0) hb70 (by decide) (by decide) (by omega) (by omega) a9, fun H5 s5 => ?_⟩
        refine ⟨_, rfl, _, _, rfl, rfl, _, rfl, _, rfl, u1, sloR r, at', rfl, .inl (.inl ((s2.trans (s3.trans (s4.trans s5))) _ _ hu1)), fitP (d := 0) hb73 (by decide) (by decide) sl6 (by omega) a9, fun H6 s6 => ?_⟩
        refine ⟨_, _, rfl, rfl, dv, _, rfl, _, rfl, _, _, rfl, rfl, ?_, s4.trans (s5.trans s6)⟩
        rw [est]
        rfl
end
end Qp

/-! reach itself -/
namespace Qp
open PySem PySem.Spec PyProof.Rows L2 QN
abbrev sReach : Stmt := inClass cPoly 6 -- Polynomial.reach
theorem scReach : FnScope ["self", "goal"] ["self", "goal"] (defScope sReach) := ⟨rfl, rfl, rfl, by decide +kernel, rfl, by decide +kernel, by decide +kernel⟩
section
variable {P : Program} {w : World} {K : PySem.W.Frag} {mg : Str → Option Value} {base : Heap}
theorem ok_reach {f fC fV fL pD fD C : Addr} {fd fdC fdV fdL fdD : FuncData} (F : Fun K "reach" "Polynomial.reach" sReach f fd) (GC : FnOk P w K mg base CX0 3 fC fdC ["number"] spChk) (kC : PySem.W.keepIn K (.ref fC) = true) (bC : L2.Binds K fdC ["number"] []) (gC : mg "check_number" = some (.ref fC))
    (GV : FnOk P w K mg base CX0 1 fV fdV ["coefficients", "n"] (spVal K false)) (kV : PySem.W.keepIn K (.ref fV) = true) (bV : L2.Binds K fdV ["coefficients", "n"] []) (gV : mg "_value" = some (.ref fV))
    (GL : FnOk P w K mg base CX0 17 fL fdL ["coefficients", "goal"] (spLP K)) (kL : PySem.W.keepIn K (.ref fL) = true) (bL : L2.Binds K fdL ["coefficients", "goal"] []) (gL : mg "_least_place" = some (.ref fL))
    (PD : PropOf K C "degree" pD fD) (GD : FnOk P w K mg base CX0 1 fD fdD ["self"] (spDeg K C)) (bD : L2.Binds K fdD ["self"] []) (T : PolyC K mg C) : FnOk P w K mg base CX0 18 f fd ["self", "goal"] (spReach K C) := by
  refine F.ok scReach (fun vs H Q E h => ?_) (fun cdv A outer s H vs Q E hr h => ?_)
  · obtain ⟨a, ns, g, rfl, _⟩ := h
    rfl
  · obtain ⟨p, ns, g, rfl, hp, hc, hcut, hl, g0, g1, k⟩ := h
    have r1 := hr.mono (by decide : 1 ≤ 17)
    have r2 := hr.mono (by decide : 2 ≤ 17)
    have r3 := hr.mono (by decide : 3 ≤ 17)
    refine ⟨_, pss_cons (ps_expr (pe_call GC r3 (by rfl) gC kC bC .nil pass0 (pa_cons (pv 1) pa_nil)))
      (pss_cons (ps_if (pt_cmpR op_ge (pe_call GV r1 (by rfl) gV kV bV .nil pass0 (pa_cons (pe_fld (pv 0) rfl) (pa_cons pe_int pa_nil))) (pv 1) (nomark _)) (pss_one (ps_ret pe_int)) pss_nil)
      (pss_cons (ps_if (pt_cmpR op_lt (pe_prop (pv 0) T.cls PD GD r2 bD .nil pass0 rfl) pe_int (nomark _)) (pss_one (ps_ret pe_non)) pss_nil)
      (pss_one (ps_ret (pe_call GL hr (by rfl) gL kL bL .nil pass0 (pa_cons (pe_fld (pv 0) rfl) (pa_cons (pv 1) pa_nil))))))), ?_⟩
    obtain ⟨dx, t, h1, ht⟩ := id hp
    refine ⟨_, rfl, g, rfl, g0, ?_⟩
    refine ⟨_, rfl, p, C, dx, _, _, rfl, h1, T.cls, T.noF, rfl, t, ns, 0, rfl, ht, (fit0 hc hl).v, fun H1 s1 => ?_⟩
    refine ⟨_, rfl, _, _, rfl, rfl, _, rfl, ?_⟩
    by_cases z : g ≤ val ns 0
    · exact if_yes (decide_eq_true z) (k _ H1 s1 (.inl ⟨z, rfl⟩))
    refine if_no (by simpa using z) ?_
    refine ⟨_, rfl, p, dx, _, rfl, s1 _ _ h1, p, ns, rfl, polyAt_same s1 hp, _, _, rfl, rfl, _, rfl, ?_⟩
    by_cases y : ns.length < 2
    · exact if_yes (decide_eq_true (by omega)) (k _ H1 s1 (.inr (.inl ⟨by omega, y, rfl⟩)))
    refine if_no (by simp; omega) ?_
    refine ⟨_, rfl, p, C, dx, _, _, rfl, s1 _ _ h1, T.cls, T.noF, rfl, _, rfl, t, ns, g, rfl, sqT_same s1 ht, hc, hcut, hl, by omega, by omega, g1, fun n H2 s2 n1 n2 n3 => ?_⟩
    exact k _ H2 (s1.trans s2) (.inr (.inr ⟨by omega, by omega, n, rfl, n1, n2, n3⟩))
end
end Qp

/-! try .. except of which the first clauses alone are wanted; what comes behind them may be of any form -/
namespace QN
open PySem PySem.Spec PyProof.Rows L2
/-- a clause's class with what its suite makes -/
abbrev Clause := Value × (Addr → Value → Option Addr → TS)
/-- one of these clauses takes the exception -/
def wFront (K : PySem.W.Frag) (D : Ends) : List Clause → WX
  | [] => fun _ _ _ _ => False
  | (c, ts) :: r => fun cls d σ H => ∃ b, PySem.W.exmOne K cls c = some b ∧ (b = true → ∀ a, H a = none → ts a cls d D σ H) ∧ (b = false → wFront K D r cls d σ H)
inductive Front (X : Cx) : List ExceptHandler → List Clause → Prop
  | stop {hds : List ExceptHandler} : Front X hds []
  | more {x : Str} {c : Value} {ts : Addr → Value → Option Addr → TS} {st : Stmt} {sts : List Stmt} {p1 p2 : Pos} {hds : List ExceptHandler} {l : List Clause} (named : Names X x c)
      (suite : ∀ (a : Addr) (oe : Obj) (cls : Value) (d : Option Addr) (pn : List (Addr × Obj)), Zc cls d oe → (∃ vs, oe.data = .fields vs) → PSs (X.suite a ((a, oe) :: pn)) (st :: sts) (ts a cls d)) (tail : Front X hds l) :
      Front X (.ExceptHandler (some (.Name x p1)) none (st :: sts) p2 :: hds) ((c, ts) :: l)
section
variable {X : Cx} {body : List Stmt} {h₀ : ExceptHandler} {hds : List ExceptHandler} {l : List Clause} {pos : Pos} {tb : WX → TS}
theorem ps_try_front (stk : X.stack = X.env :: X.outer) (own : X.env.frame = some X.env.locals)
    (main : ∀ (W : WX) (pn : List (Addr × Obj)) (xe : Value → Shared → Prop), Takes (X.tr pn xe) W → PassesOwn (model X.prog X.w) X.A X.env xe → PSs (X.tr pn xe) body (tb W))
    (front : Front X (h₀ :: hds) l) : PS X (.Try body (h₀ :: hds) [] [] pos) (fun D σ H => tb (wFront X.K D l) D σ H) := by
  refine ⟨fun pins s σ H D I h => ?_⟩
  have fine := I.ok
  have frames : X.A.frames = some (X.env :: X.outer) := by rw [fine.frames, stk]
  refine wpAny_Try_except ?_
  have whole := (main (wFront X.K D l) (X.pn ++ pins) (fun e s1 => wpAny (model X.prog X.w) X.A (noteFrame e X.env) (fun _ s2 => wpAny (model X.prog X.w) X.A (setFlight e none) (fun _ s3 =>
    wpAny (model X.prog X.w) X.A (handleBy e X.env (h₀ :: hds)) (SP X pins D) X.xe s3) X.xe s2) X.xe s1) (fun u s' flying => ?_) PassesOwn.looking).run [] s σ H D (I.toTry _) h
  · refine wpAny_mono whole (fun flow s1 done => ?_) fun e s1 raised => raised
    cases flow with
    | next =>
      obtain ⟨σ1, H1, J1, q⟩ := done
      exact wpAny_execs_nil ⟨σ1, H1, J1.ofTry fine, q⟩
    | brk =>
      obtain ⟨σ1, H1, J1, q⟩ := done
      exact ⟨σ1, H1, J1.ofTry fine, q⟩
    | cont =>
      obtain ⟨σ1, H1, J1, q⟩ := done
      exact ⟨σ1, H1, J1.ofTry fine, q⟩
    | ret u =>
      obtain ⟨v, σ1, H1, J1, r, q⟩ := done
      exact ⟨v, σ1, H1, J1.ofTry fine, r, q⟩
  · obtain ⟨x, B, si, pinsi, σi, Hi, C, dc, rfl, Ji, nbi, upi, skyi, nai, osi, agi, wish⟩ := flying
    have Jo : Inv X pins σi Hi si := Ji.ofTry fine
    have skyo : Sky B (X.env :: X.outer) x (Zc C dc) X.env.locals s'.heap := by rw [← stk]; exact skyi
    show wpAny _ X.A (noteFrame (.ref x) X.env) _ _ _
    refine Sky.land Zc.steady frames own skyo fun hA flA upA => ?_
    have JA : Inv X pins σi Hi { s' with heap := hA } := Jo.landed nbi flA.1 (upi.trans upA) osi agi
    obtain ⟨oA, vA, getA, zcA, datA⟩ := flA.there
    have off : ∀ {g : Heap} {o : Obj} {ws : Array Value}, g.FunFrames B (X.env :: X.outer) → g.get? x = some o → o.data = .fields ws → x ∉ frs (X.env :: X.outer) := fun {g o ws} ff eg ed mem => by
      obtain ⟨_, o2, e2, no⟩ := ff.mem mem
      rw [eg] at e2
      cases e2
      exact no _ ed
    have offA := off flA.2.2.1 getA datA
    have notL : x ≠ X.env.locals := fun z => offA (List.mem_filterMap.mpr ⟨X.env, List.mem_cons_self, by rw [own, z]⟩)
    have notF : x ∉ X.fs := fun mem => by
      obtain ⟨e, he, q⟩ := List.mem_filterMap.mp mem
      exact offA (List.mem_filterMap.mpr ⟨e, List.mem_cons_of_mem _ he, q⟩)
    have SA := JA.suite getA datA nai notL notF
    have each : ∀ {hs : List ExceptHandler} {cl : List Clause}, Front X hs cl → wFront X.K D cl C dc σi Hi → wpAny (model X.prog X.w) X.A (handleBy (.ref x) X.env hs) (SP X pins D) X.xe { s' with heap := hA } := by
      intro hs cl fr
      induction fr with
      | stop => exact fun no => no.elim
      | @more n c ts st sts p1 p2 hs2 cl2 named suite tail ih =>
        intro w2
        obtain ⟨b, isb, yes, no⟩ := w2
        refine wpAny_handleBy_cons (codeAny_handlers_test ?_) (by intro z; cases z)
        have kind : PySem.W.Looks (model X.prog X.w) hA (typeOf (.ref x)) C := fun A Q E s k q => wpAny_typeOf_ref (k _ _ getA) (by rw [zcA.1]; exact q)
        have meets := PySem.W.exm_one (M := model X.prog X.w) (JA.kIn) kind isb
        have look : ∀ {Q : Value → Shared → Prop} {E : Value → Shared → Prop}, Q c { s' with heap := hA } → wpAny (model X.prog X.w) (X.A.mark (some (.ref x))) (eval (.Name n p1) X.env) Q E { s' with heap := hA } := fun {Q E} q => by
          obtain ⟨gl, db, m | ⟨m, v, nn⟩⟩ := named
          · exact ld_glob (X := X.suite x ((x, oA) :: (X.pn ++ pins))) SA gl m q db
          · exact ld_blt (X := X.suite x ((x, oA) :: (X.pn ++ pins))) SA gl m v q nn db
        refine look (meets.here ?_)
        cases b with
        | false =>
          show wpAny _ X.A (handleBy (.ref x) X.env hs2) _ _ _
          exact ih (no rfl)
        | true =>
          refine codeAny_handlers_suite ?_
          refine HandSPX.lands_againZ flA fun hB flB upB => ?_
          have JB : Inv X pins σi Hi { s' with heap := hB } := Jo.landed nbi flB.1 ((upi.trans upA).trans upB) osi agi
          obtain ⟨oB, vB, getB, zcB, datB⟩ := flB.there
          have SB := JB.suite getB datB nai notL notF
          refine wpAny_mono ((suite x oB C dc (X.pn ++ pins) zcB ⟨_, datB⟩).run [] _ _ Hi _ SB (yes rfl x nai)) (fun flow s6 done => ?_) (fun _ _ z => False.elim z)
          cases flow with
          | next =>
            obtain ⟨σ6, H6, J6, q6⟩ := done
            exact ⟨_, _, J6.unsuite fine, q6⟩
          | brk =>
            obtain ⟨σ6, H6, J6, q6⟩ := done
            exact ⟨_, _, J6.unsuite fine, q6⟩
          | cont =>
            obtain ⟨σ6, H6, J6, q6⟩ := done
            exact ⟨_, _, J6.unsuite fine, q6⟩
          | ret u =>
            obtain ⟨v6, σ6, H6, J6, r6, q6⟩ := done
            exact ⟨_, _, _, J6.unsuite fine, r6, q6⟩
    exact each front wish
end
end QN

/-! try .. except of which the first clauses alone are wanted, with or without a name; what comes behind them may be of any form -/
namespace QN
open PySem PySem.Spec PyProof.Rows L2
/-- a clause's class, the slot of its name, with what its suite makes -/
abbrev ClauseA := Value × Option Nat × (Addr → Value → Option Addr → TS)
def endsA : Option Nat → Ends → Ends
  | none, D => D
  | some i, D => { nx := fun σ' H' => D.nx (σ'.set i none) H', rt := D.rt, bk := fun σ' H' => D.bk (σ'.set i none) H', ct := fun σ' H' => D.ct (σ'.set i none) H' }
def slotA : Option Nat → L2.St → Addr → L2.St
  | none, σ, _ => σ
  | some i, σ, a => σ.set i (some (.ref a))
/-- one of these clauses takes the exception -/
def wFrontA (K : PySem.W.Frag) (n : Nat) (D : Ends) : List ClauseA → WX
  | [] => fun _ _ _ _ => False
  | (c, j, ts) :: r => fun cls d σ H => ∃ b, PySem.W.exmOne K cls c = some b ∧ (b = true → σ.length = n → ∀ a, H a = none → ts a cls d (endsA j D) (slotA j σ a) H) ∧ (b = false → wFrontA K n D r cls d σ H)
inductive FrontA (X : Cx) : List ExceptHandler → List ClauseA → Prop
  | stop {hds : List ExceptHandler} : FrontA X hds []
  | more {x : Str} {c : Value} {ts : Addr → Value → Option Addr → TS} {st : Stmt} {sts : List Stmt} {p1 p2 : Pos} {hds : List ExceptHandler} {l : List ClauseA} (named : Names X x c)
      (suite : ∀ (a : Addr) (oe : Obj) (cls : Value) (d : Option Addr) (pn : List (Addr × Obj)), Zc cls d oe → (∃ vs, oe.data = .fields vs) → PSs (X.suite a ((a, oe) :: pn)) (st :: sts) (ts a cls d)) (tail : FrontA X hds l) :
      FrontA X (.ExceptHandler (some (.Name x p1)) none (st :: sts) p2 :: hds) ((c, none, ts) :: l)
  | moreAs {x n : Str} {i : Nat} {c : Value} {ts : Addr → Value → Option Addr → TS} {st : Stmt} {sts : List Stmt} {p1 p2 : Pos} {hds : List ExceptHandler} {l : List ClauseA} (named : Names X x c) (hi : X.N[i]? = some n) (hln : X.env.kindOf n = some .local)
      (suite : ∀ (a : Addr) (oe : Obj) (cls : Value) (d : Option Addr) (pn : List (Addr × Obj)), Zc cls d oe → (∃ vs, oe.data = .fields vs) → PSs (X.suite a ((a, oe) :: pn)) (st :: sts) (ts a cls d)) (tail : FrontA X hds l) :
      FrontA X (.ExceptHandler (some (.Name x p1)) (some n) (st :: sts) p2 :: hds) ((c, some i, ts) :: l)
section
variable {X : Cx} {body : List Stmt} {h₀ : ExceptHandler} {hds : List ExceptHandler} {l : List ClauseA} {pos : Pos} {tb : WX → TS}
theorem ps_try_frontA (hN : X.N.Nodup) (stk : X.stack = X.env :: X.outer) (own : X.env.frame = some X.env.locals)
    (main : ∀ (W : WX) (pn : List (Addr × Obj)) (xe : Value → Shared → Prop), Takes (X.tr pn xe) W → PassesOwn (model X.prog X.w) X.A X.env xe → PSs (X.tr pn xe) body (tb W))
    (front : FrontA X (h₀ :: hds) l) : PS X (.Try body (h₀ :: hds) [] [] pos) (fun D σ H => tb (wFrontA X.K X.N.length D l) D σ H) := by
  refine ⟨fun pins s σ H D I h => ?_⟩
  have fine := I.ok
  have frames : X.A.frames = some (X.env :: X.outer) := by rw [fine.frames, stk]
  refine wpAny_Try_except ?_
  have whole := (main (wFrontA X.K X.N.length D l) (X.pn ++ pins) (fun e s1 => wpAny (model X.prog X.w) X.A (noteFrame e X.env) (fun _ s2 => wpAny (model X.prog X.w) X.A (setFlight e none) (fun _ s3 =>
    wpAny (model X.prog X.w) X.A (handleBy e X.env (h₀ :: hds)) (SP X pins D) X.xe s3) X.xe s2) X.xe s1) (fun u s' flying => ?_) PassesOwn.looking).run [] s σ H D (I.toTry _) h
  · refine wpAny_mono whole (fun flow s1 done => ?_) fun e s1 raised => raised
    cases flow with
    | next =>
      obtain ⟨σ1, H1, J1, q⟩ := done
      exact wpAny_execs_nil ⟨σ1, H1, J1.ofTry fine, q⟩
    | brk =>
      obtain ⟨σ1, H1, J1, q⟩ := done
      exact ⟨σ1, H1, J1.ofTry fine, q⟩
    | cont =>
      obtain ⟨σ1, H1, J1, q⟩ := done
      exact ⟨σ1, H1, J1.ofTry fine, q⟩
    | ret u =>
      obtain ⟨v, σ1, H1, J1, r, q⟩ := done
      exact ⟨v, σ1, H1, J1.ofTry fine, r, q⟩
  · obtain ⟨x0, B, si, pinsi, σi, Hi, C, dc, rfl, Ji, nbi, upi, skyi, nai, osi, agi, wish⟩ := flying
    have Jo : Inv X pins σi Hi si := Ji.ofTry fine
    have skyo : Sky B (X.env :: X.outer) x0 (Zc C dc) X.env.locals s'.heap := by rw [← stk]; exact skyi
    show wpAny _ X.A (noteFrame (.ref x0) X.env) _ _ _
    refine Sky.land Zc.steady frames own skyo fun hA flA upA => ?_
    have JA : Inv X pins σi Hi { s' with heap := hA } := Jo.landed nbi flA.1 (upi.trans upA) osi agi
    obtain ⟨oA, vA, getA, zcA, datA⟩ := flA.there
    have off : ∀ {g : Heap} {o : Obj} {ws : Array Value}, g.FunFrames B (X.env :: X.outer) → g.get? x0 = some o → o.data = .fields ws → x0 ∉ frs (X.env :: X.outer) := fun {g o ws} ff eg ed mem => by
      obtain ⟨_, o2, e2, no⟩ := ff.mem mem
      rw [eg] at e2
      cases e2
      exact no _ ed
    have offA := off flA.2.2.1 getA datA
    have notL : x0 ≠ X.env.locals := fun z => offA (List.mem_filterMap.mpr ⟨X.env, List.mem_cons_self, by rw [own, z]⟩)
    have notF : x0 ∉ X.fs := fun mem => by
      obtain ⟨e, he, q⟩ := List.mem_filterMap.mp mem
      exact offA (List.mem_filterMap.mpr ⟨e, List.mem_cons_of_mem _ he, q⟩)
    have SA := JA.suite getA datA nai notL notF
    have each : ∀ {hs : List ExceptHandler} {cl : List ClauseA}, FrontA X hs cl → wFrontA X.K X.N.length D cl C dc σi Hi → wpAny (model X.prog X.w) X.A (handleBy (.ref x0) X.env hs) (SP X pins D) X.xe { s' with heap := hA } := by
      intro hs cl fr
      induction fr with
      | stop => exact fun no => no.elim
      | @more n c ts st sts p1 p2 hs2 cl2 named suite tail ih =>
        intro w2
        obtain ⟨b, isb, yes, no⟩ := w2
        refine wpAny_handleBy_cons (codeAny_handlers_test ?_) (by intro z; cases z)
        have kind : PySem.W.Looks (model X.prog X.w) hA (typeOf (.ref x0)) C := fun A Q E s k q => wpAny_typeOf_ref (k _ _ getA) (by rw [zcA.1]; exact q)
        have meets := PySem.W.exm_one (M := model X.prog X.w) (JA.kIn) kind isb
        have look : ∀ {Q : Value → Shared → Prop} {E : Value → Shared → Prop}, Q c { s' with heap := hA } → wpAny (model X.prog X.w) (X.A.mark (some (.ref x0))) (eval (.Name n p1) X.env) Q E { s' with heap := hA } := fun {Q E} q => by
          obtain ⟨gl, db, m | ⟨m, v, nn⟩⟩ := named
          · exact ld_glob (X := X.suite x0 ((x0, oA) :: (X.pn ++ pins))) SA gl m q db
          · exact ld_blt (X := X.suite x0 ((x0, oA) :: (X.pn ++ pins))) SA gl m v q nn db
        refine look (meets.here ?_)
        cases b with
        | false =>
          show wpAny _ X.A (handleBy (.ref x0) X.env hs2) _ _ _
          exact ih (no rfl)
        | true =>
          refine codeAny_handlers_suite ?_
          refine HandSPX.lands_againZ flA fun hB flB upB => ?_
          have JB : Inv X pins σi Hi { s' with heap := hB } := Jo.landed nbi flB.1 ((upi.trans upA).trans upB) osi agi
          obtain ⟨oB, vB, getB, zcB, datB⟩ := flB.there
          have SB := JB.suite getB datB nai notL notF
          refine wpAny_mono ((suite x0 oB C dc (X.pn ++ pins) zcB ⟨_, datB⟩).run [] _ _ Hi _ SB (yes rfl Jo.len x0 nai)) (fun flow s6 done => ?_) (fun _ _ z => False.elim z)
          cases flow with
          | next =>
            obtain ⟨σ6, H6, J6, q6⟩ := done
            exact ⟨_, _, J6.unsuite fine, q6⟩
          | brk =>
            obtain ⟨σ6, H6, J6, q6⟩ := done
            exact ⟨_, _, J6.unsuite fine, q6⟩
          | cont =>
            obtain ⟨σ6, H6, J6, q6⟩ := done
            exact ⟨_, _, J6.unsuite fine, q6⟩
          | ret u =>
            obtain ⟨v6, σ6, H6, J6, r6, q6⟩ := done
            exact ⟨_, _, _, J6.unsuite fine, r6, q6⟩
      | @moreAs x n i c ts st sts p1 p2 hs2 cl2 named hi hln suite tail ih =>
        intro w2
        obtain ⟨b, isb, yes, no⟩ := w2
        have hloc : Loc X.env.scope n := .inl hln
        refine wpAny_handleBy_cons (codeAny_handlers_test ?_) (by intro z; cases z)
        have kind : PySem.W.Looks (model X.prog X.w) hA (typeOf (.ref x0)) C := fun A Q E s k q => wpAny_typeOf_ref (k _ _ getA) (by rw [zcA.1]; exact q)
        have meets := PySem.W.exm_one (M := model X.prog X.w) (JA.kIn) kind isb
        have look : ∀ {Q : Value → Shared → Prop} {E : Value → Shared → Prop}, Q c { s' with heap := hA } → wpAny (model X.prog X.w) (X.A.mark (some (.ref x0))) (eval (.Name x p1) X.env) Q E { s' with heap := hA } := fun {Q E} q => by
          obtain ⟨gl, db, m | ⟨m, v, nn⟩⟩ := named
          · exact ld_glob (X := X.suite x0 ((x0, oA) :: (X.pn ++ pins))) SA gl m q db
          · exact ld_blt (X := X.suite x0 ((x0, oA) :: (X.pn ++ pins))) SA gl m v q nn db
        refine look (meets.here ?_)
        cases b with
        | false =>
          show wpAny _ X.A (handleBy (.ref x0) X.env hs2) _ _ _
          exact ih (no rfl)
        | true =>
          refine codeAny_handlers_suite_as ?_
          refine HandSPX.lands_againZ flA fun hB flB upB => ?_
          have JB : Inv X pins σi Hi { s' with heap := hB } := Jo.landed nbi flB.1 ((upi.trans upA).trans upB) osi agi
          obtain ⟨oB, vB, getB, zcB, datB⟩ := flB.there
          have SB := JB.suite getB datB nai notL notF
          refine store_ok (X := X.suite x0 ((x0, oB) :: (X.pn ++ pins))) (v := .ref x0) SB hN hi hloc rfl (fun s5 S5 => ?_) (.inr hln)
          refine wpAny_mono ((suite x0 oB C dc (X.pn ++ pins) zcB ⟨_, datB⟩).run [] s5 _ Hi _ S5 (yes rfl Jo.len x0 nai)) (fun flow s6 done => ?_) (fun _ _ z => False.elim z)
          have end_ : ∀ {σ6 : L2.St} {H6 : Hp} {Q : Shared → Prop}, Inv (X.suite x0 ((x0, oB) :: (X.pn ++ pins))) [] σ6 H6 s6 → (∀ s7, Inv X pins (σ6.set i none) H6 s7 → Q s7) →
              wpAny (model X.prog X.w) X.A (do bindName X.env n .none; unbindBehindTheSuite X.env n p2) (fun _ s7 => Q s7) X.xe s6 := fun {σ6 H6 Q} S6 hq => gone_ok (S6.unsuite fine) hN hi hln hq
          cases flow with
          | next =>
            obtain ⟨σ6, H6, S6, q6⟩ := done
            exact end_ S6 fun s7 J7 => ⟨_, _, J7, q6⟩
          | brk =>
            obtain ⟨σ6, H6, S6, q6⟩ := done
            exact end_ S6 fun s7 J7 => ⟨_, _, J7, q6⟩
          | cont =>
            obtain ⟨σ6, H6, S6, q6⟩ := done
            exact end_ S6 fun s7 J7 => ⟨_, _, J7, q6⟩
          | ret u =>
            obtain ⟨v6, σ6, H6, S6, r6, q6⟩ := done
            exact end_ S6 fun s7 J7 => ⟨_, _, _, J7, r6, q6⟩
    exact each front wish
end
end QN

/-! repr of plain values of any kind, where no repr is under way -/
namespace QN
open PySem PySem.Spec PyProof.Rows L2
/-- what repr says of a value -/
inductive Shown (K : PySem.W.Frag) (H : Hp) : V → Str → Prop where
  | int (i : Int) (h : i.natAbs.log2 < 1920) : Shown K H (.int i) (Str.ofString (toString i))
  | bl (b : Bool) : Shown K H (.bl b) (if b then "True" else "False")
  | non : Shown K H .non "None"
  | str (x : Str) (h : (reprText x).length ≤ sizeLine) : Shown K H (.str x) (reprText x)
  | dat {a : Addr} {d : PyData} (h : Dp K H (.ref a) d) (sh : d.showable = true) (nd : d.hasDict = false) (dp : d.depth + 1 ≤ 64) (ln : d.shown.length ≤ sizeLine) : Shown K H (.ref a) d.shown
  | dic {a : Addr} (h : H a = some (.dK [])) : Shown K H (.ref a) (PyData.dict []).shown
section
variable {X : Cx}
theorem reads_nodict {pins : List (Addr × Obj)} {σ : L2.St} {H : Hp} {s : Shared} {a : Addr} (I : Inv X pins σ H s) (h : H a = some (.dK [])) : Reads s.heap (.ref a) (.dict []) [a] ∧ a ≠ sysModules := by
  obtain ⟨z, hs, vs, kv, o, es, ep, ho, hx, hdt, r⟩ := I.hok a _ h
  have l2 : 0 = vs.length := Paired.length kv
  have l1 := r.2.1.length
  have e : es.toList = [] := by
    refine List.length_eq_zero_iff.mp ?_
    exact (l1.trans l2.symm)
  have q : Reads s.heap (.ref a) (.dict []) (a :: [] ++ []) := Reads.dict ho hx.1 hdt (by rw [e]; exact ReadsAll.nil) (by rw [e]; exact ReadsAll.nil)
  exact ⟨q, fun c => by rw [c] at hs; simp at hs⟩
/-- repr(v) -/
theorem call_reprV (hgd : X.A.guards = some []) (hu : X.A.units + 80 < cLine) : CallR X (.builtin "repr") (fun xs H Q => ∃ (v : V) (z : Str), xs = [v] ∧ Shown X.K H v z ∧ Q (.str z) H) := by
  intro pins s σ H xs us Q I r h
  obtain ⟨v, z, rfl, sh, q⟩ := h
  obtain ⟨u, rfl, ru⟩ := vals1 r
  cases sh with
  | int i hi =>
    obtain ⟨t, rfl⟩ := (show ∃ t, u = Value.int i t from ru)
    exact PySem.P.repr_of_int hi ⟨.str _, H, I.tok _, ⟨_, rfl⟩, q⟩
  | bl b =>
    obtain rfl : u = Value.bool b := ru
    exact PySem.P.repr_of_bool ⟨.str _, H, I.tok _, ⟨_, rfl⟩, q⟩
  | non =>
    obtain rfl : u = Value.none := ru
    exact PySem.P.repr_of_none ⟨.str _, H, I.tok _, ⟨_, rfl⟩, q⟩
  | str x hx =>
    obtain ⟨t, rfl⟩ := (show ∃ t, u = Value.str x t from ru)
    exact PySem.P.repr_of_str ⟨.str _, H, I.tok _, ⟨_, rfl⟩, q⟩ hx
  | dat hd hs hn hdp hz =>
    obtain rfl : u = Value.ref _ := ru
    obtain ⟨as, rd⟩ := Dp.reads I _ _ _ hd rfl
    refine repr_of_reads' rd hs (fun z => by rw [hn] at z; cases z) hgd (by omega) (fun _ _ e => e) (fun h' tk t' k => ⟨.str _, H, ?_, ⟨_, rfl⟩, q⟩) hz
    exact I.kept k
  | dic hd =>
    obtain rfl : u = Value.ref _ := ru
    obtain ⟨rd, ns⟩ := reads_nodict I hd
    refine repr_of_reads' rd (by decide) (fun _ z => ns (List.mem_singleton.mp z).symm) hgd ?_ (fun _ _ e => e) (fun h' tk t' k => ⟨.str _, H, ?_, ⟨_, rfl⟩, q⟩) (by decide +kernel)
    · have : (PyData.dict []).depth ≤ 60 := by decide
      omega
    · exact I.kept k
end
end QN

/-! own classes by Python's signs: ==, != -/
namespace QN
open PySem PySem.Spec PyProof.Rows L2
section
variable {prog : Program} {w : World} {A : Around} {E : Value → Shared → Prop} {s : Shared} {K : PySem.W.Frag} {x C f : Addr} {b tb : Value} {ox : Obj} {od : Option Obj}
/-- o != b by the class's own ==: what object's != makes of it -/
theorem ne_road (hu : A.units + 1 < cLine) (KX : K.In s.heap) (I : PySem.W.InstAt s.heap x ox C od) (hb : PySem.W.Looks (model prog w) s.heap (typeOf b) tb) (hn : PySem.W.notFirst K C tb = true) (hm : PySem.W.mroIn K C (.type "object") = some true)
    (hne : PySem.W.findIn K (.ref C) "__ne__" = some (some (.builtin "object.__ne__"))) (heq : PySem.W.findIn K (.ref C) "__eq__" = some (some (.ref f))) (hf : PySem.W.isFn K (.ref f) = true) {Q : Value → Shared → Prop}
    (h : wpAny (model prog w) A.in1 (call (.ref f) [.ref x, b]) (fun v s' => ∃ c, v = .bool c ∧ Q (.bool (!c)) s') E s) : wpAny (model prog w) A (richCompare .NotEq (.ref x) b) Q E s := by
  have inner : wpAny (model prog w) A (call (.builtin "object.__ne__") [.ref x, b]) (fun v s' => ∃ c, v = .bool (!c) ∧ Q (.bool (!c)) s') E s := by
    refine wpAny_call (codeAny_call_builtin PySem.F.cmp_object.ne.plain PySem.F.cmpEntry_ne (PySem.W.check_slot PySem.F.cmpKind_ne PySem.F.cmpSplit_ne (I.type.andThen (PySem.W.looks_mroIn KX hm)) (PySem.F.cmpArgs_ne _ _) ?_))
    unfold Builtin.«object.__ne__»
    repeat (first
      | with_reducible refine wpAny_cRoomFor hu ?_
      | (refine wpAny_bind (m := callSpecialIfBound? (.ref x) (Str.ofString "__eq__") [b]) (PySem.W.ifBound_K KX I heq hf (wpAny_mono h (fun r s' got => ?_) fun _ _ z => z))
         obtain ⟨c, rfl, q⟩ := got)
      | (refine wpAny_bind (m := truthy (.bool _)) (wpAny_truthy_bool ?_))
      | wp_step)
    exact ⟨_, rfl, q⟩
  have bound : wpAny (model prog w) A (callSpecialIfBound? (.ref x) "__ne__" [b]) (fun r s' => ∃ c, r = some (.bool (!c)) ∧ Q (.bool (!c)) s') E s := by
    simp only [callSpecialIfBound?, bindSpecialIfBound?]
    have last : wpAny (model prog w) A (call (.builtin "object.__ne__") ([.ref x] ++ [b]) >>= fun v => pure (some v)) (fun r s' => ∃ c, r = some (.bool (!c)) ∧ Q (.bool (!c)) s') E s :=
      wpAny_bind (wpAny_mono inner (fun v s' ⟨c, e, q⟩ => wpAny_pure ⟨c, by rw [e], q⟩) fun _ _ z => z)
    refine wpAny_holding (wpAny_bind (wpAny_bind (wpAny_bind (I.type.here ((PySem.W.looks_findIn KX hne).here (wpAny_bind (wpAny_askSetting (wpAny_ite ?_))))))))
    split
    · exact wpAny_bind (wpAny_of_eq (PySem.F.cmp_object.ne.bind _) (wpAny_pure (by exact last)))
    · exact wpAny_tryCatch (wpAny_bind (wpAny_of_eq (PySem.F.cmp_object.ne.bind _) (wpAny_pure (by exact last))))
  have tried : wpAny (model prog w) A (tryCompare (.ref x) "__ne__" b) (fun r s' => ∃ v, r = some v ∧ Q v s') E s := by
    unfold tryCompare
    exact wpAny_bind (wpAny_mono bound (fun r s' ⟨c, e, q⟩ => by subst e; exact wpAny_pure ⟨_, rfl, q⟩) fun _ _ z => z)
  unfold richCompare
  simp only [oneThing_ref, cmpInfo_NotEq]
  refine wpAny_holding (wpAny_bind (wpAny_cRoomFor (Nat.lt_of_succ_lt hu) (wpAny_bind (I.type.here (wpAny_bind (hb.here ?_))))))
  split
  · rename_i differ
    have below : PySem.W.subIn K tb (.ref C) = some false := by
      rcases Bool.or_eq_true_iff.mp hn with e | e
      · rw [beq_iff_eq.mp e] at differ
        simp at differ
      · exact beq_iff_eq.mp e
    refine wpAny_bind ((PySem.W.looks_subIn KX below).here ?_)
    simp only [Bool.false_eq_true, if_false]
    exact wpAny_bind (wpAny_mono tried (fun r s' ⟨v, e, q⟩ => by subst e; exact wpAny_pure q) fun _ _ z => z)
  · refine wpAny_bind (wpAny_pure ?_)
    simp only [Bool.false_eq_true, if_false]
    exact wpAny_bind (wpAny_mono tried (fun r s' ⟨v, e, q⟩ => by subst e; exact wpAny_pure q) fun _ _ z => z)
end
section
variable {X : Cx} {CX : CXT} {k : Nat} {C g : Addr} {sp : Sp} {E : XK}
/-- the other side of a sign: a value of another kind, or an instance of C itself -/
def Side (K : PySem.W.Frag) (C : Addr) (H : Hp) (y : V) : Prop := (∃ t, TyX K H y t ∧ PySem.W.subIn K t (.ref C) = some false) ∨ ∃ b, y = .ref b ∧ OAt C H b
theorem Side.looks {pins : List (Addr × Obj)} {σ : L2.St} {H : Hp} {s : Shared} {y : V} {u : Value} (I : Inv X pins σ H s) (ry : L2.RelV y u) (h : Side X.K C H y) :
    ∃ t, PySem.W.Looks (model X.prog X.w) s.heap (typeOf u) t ∧ PySem.W.notFirst X.K C t = true := by
  rcases h with ⟨t, ty, hs⟩ | ⟨b, rfl, hb⟩
  · obtain ⟨P, Z, hP, _⟩ := kit_of I ry ty
    refine ⟨t, Z.ty _ _ I.kIn hP, ?_⟩
    unfold PySem.W.notFirst
    rw [hs]
    simp
  · obtain ⟨ox, od, J⟩ := OAt.inst I hb
    obtain rfl : u = Value.ref b := ry
    exact ⟨.ref C, J.type, by simp [PySem.W.notFirst]⟩
def rEqO (K : PySem.W.Frag) (C : Addr) (sp : Sp) (E : XK) (yes : Bool) : R2 := fun x y H Q => ∃ a, x = .ref a ∧ OAt C H a ∧ Side K C H y ∧ sp [.ref a, y] H (fun u H' => ∃ b, u = .bl b ∧ Q (.bl (if yes then b else !b)) H') E
/-- o == y -/
theorem op_eqO (M : OMeth X.K C "__eq__" g) (F : FnR X.prog X.w X.K X.mg X.base CX k g sp) (hr : Room k X.A) (hx : Passes CX X E) : OpR X (compareOp .Eq) (rEqO X.K C sp E true) := by
  intro pins s σ H x y v u Q I rx ry h
  obtain ⟨a, rfl, ha, hy, q⟩ := h
  obtain rfl : v = Value.ref a := rx
  obtain ⟨ox, od, J⟩ := OAt.inst I ha
  obtain ⟨m, fr⟩ := I.fr
  obtain ⟨t, ht, hn⟩ := Side.looks I ry hy
  refine PySem.W.cmp_K (op := .Eq) hr.units0 fr I.ok.mod.kin J ht hn M.at_ M.fn (wpAny_mono (run_deep F hr I.env0 hx I (.cons (rv_ref _) (.cons ry .nil)) q) (fun w1 s1 got => ?_) fun _ _ z => z)
  obtain ⟨v1, H1, I1, r1, b, rfl, q1⟩ := got
  obtain rfl : w1 = Value.bool b := r1
  exact ⟨.bl b, H1, I1, rfl, q1⟩
/-- o != y -/
theorem op_neO (M : OMeth X.K C "__eq__" g) (hm : PySem.W.mroIn X.K C (.type "object") = some true) (hne : PySem.W.findIn X.K (.ref C) "__ne__" = some (some (.builtin "object.__ne__"))) (F : FnR X.prog X.w X.K X.mg X.base CX k g sp) (hr : Room (k + 1) X.A)
    (hx : Passes CX X E) : OpR X (compareOp .NotEq) (rEqO X.K C sp E false) := by
  intro pins s σ H x y v u Q I rx ry h
  obtain ⟨a, rfl, ha, hy, q⟩ := h
  obtain rfl : v = Value.ref a := rx
  obtain ⟨ox, od, J⟩ := OAt.inst I ha
  obtain ⟨t, ht, hn⟩ := Side.looks I ry hy
  have hu : X.A.units + 1 < cLine := hu_of hr
  refine ne_road hu I.kIn J ht hn hm hne M.at_ M.fn (wpAny_mono (run_deep F hr.in1 I.env0.in1 hx I (.cons (rv_ref _) (.cons ry .nil)) q) (fun w1 s1 got => ?_) fun _ _ z => z)
  obtain ⟨v1, H1, I1, r1, b, rfl, q1⟩ := got
  obtain rfl : w1 = Value.bool b := r1
  exact ⟨b, rfl, .bl !b, H1, I1, rfl, q1⟩
end
end QN

/-! own classes by Python's signs: + and the like -/
namespace QN
open PySem PySem.Spec PyProof.Rows L2
section
variable {prog : Program} {w : World} {A : Around} {E : Value → Shared → Prop} {s : Shared} {K : PySem.W.Frag} {x y C f : Addr} {ox oy : Obj} {od oe : Option Obj}
/-- o op p, both of one own class -/
theorem bin_same {op : Operator} {Q : Value → Shared → Prop} (KX : K.In s.heap) (I : PySem.W.InstAt s.heap x ox C od) (J : PySem.W.InstAt s.heap y oy C oe) (hc : PySem.W.selfFirst K C = true)
    (hs : PySem.W.findIn K (.ref C) (PySem.dunder op.info.2) = some (some (.ref f))) (hf : PySem.W.isFn K (.ref f) = true)
    (h : wpAny (model prog w) A (call (.ref f) [.ref x, .ref y]) (PySem.W.CmpBack Q) E s) : wpAny (model prog w) A (binaryOp op (.ref x) (.ref y)) Q E s := by
  obtain ⟨cd, rest, hcd, hm⟩ := PySem.W.ksp_first hc
  rcases hi : op.info with ⟨sym, nm'⟩
  rw [hi] at hs
  dsimp only at hs
  have tried := PySem.W.ksp_try KX I hs hf h
  have lx : PySem.W.Looks (model prog w) s.heap (typeOf (.ref x)) (.ref C) := I.type
  have ly : PySem.W.Looks (model prog w) s.heap (typeOf (.ref y)) (.ref C) := J.type
  have lf : PySem.W.Looks (model prog w) s.heap (fillsNumberSlot (.ref C) nm') true := PySem.W.fills_K KX hcd hm hs
  simp only [binaryOp, hi]
  refine wpAny_holding (wpAny_bind ?_)
  unfold binaryOp1
  refine wpAny_bind (lx.here (wpAny_bind (ly.here (wpAny_bind (lf.here ?_)))))
  simp only [beq_self_eq_true, if_true]
  refine wpAny_bind (wpAny_pure ?_)
  simp only [Bool.and_false, Bool.false_eq_true, if_false, Bool.false_and, if_true]
  refine wpAny_bind (wpAny_pure ?_)
  simp only [Bool.and_false, Bool.false_eq_true, if_false, Bool.false_and, if_true]
  exact wpAny_bind (wpAny_mono tried (fun r s' ⟨v, e, q⟩ => by subst e; exact wpAny_pure (wpAny_pure q)) fun _ _ z => z)
end
section
variable {X : Cx} {CX : CXT} {k : Nat} {C g : Addr} {sp : Sp} {E : XK}
/-- what a sign gives back: no NotImplemented stands among the values told -/
theorem back_ok {pins : List (Addr × Obj)} {σ : L2.St} {Q : VK} {u : Value} {s' : Shared} (h : EP X pins σ Q u s') : PySem.W.CmpBack (fun w s'' => EP X pins σ Q w s'') u s' := by
  obtain ⟨v, H1, I1, r1, q1⟩ := h
  cases u with
  | notImplemented => cases v <;> first | (obtain ⟨_, z⟩ := r1; cases z; done) | (cases r1; done) | exact r1.elim
  | _ => exact ⟨v, H1, I1, r1, q1⟩
def rBinO (C : Addr) (sp : Sp) (E : XK) : R2 := fun x y H Q => ∃ a b, x = .ref a ∧ y = .ref b ∧ OAt C H a ∧ OAt C H b ∧ sp [.ref a, .ref b] H Q E
/-- o + p and the like, both of one own class -/
theorem op_binO {op : Operator} (hc : PySem.W.selfFirst X.K C = true) (M : OMeth X.K C (PySem.dunder op.info.2) g) (F : FnR X.prog X.w X.K X.mg X.base CX k g sp) (hr : Room k X.A) (hx : Passes CX X E) : OpR X (binaryOp op) (rBinO C sp E) := by
  intro pins s σ H x y v u Q I rx ry h
  obtain ⟨a, b, rfl, rfl, ha, hb, q⟩ := h
  obtain rfl : v = Value.ref a := rx
  obtain rfl : u = Value.ref b := ry
  obtain ⟨ox, od, J⟩ := OAt.inst I ha
  obtain ⟨oy, oe, J2⟩ := OAt.inst I hb
  exact bin_same I.kIn J J2 hc M.at_ M.fn (wpAny_mono (run_deep F hr I.env0 hx I (.cons (rv_ref _) (.cons (rv_ref _) .nil)) q) (fun w1 s1 got => back_ok got) fun _ _ z => z)
end
end QN

/-! own classes by Python's signs: 3 + o and the like -/
namespace QN
open PySem PySem.Spec PyProof.Rows L2
theorem int_add_own (a : Int) (t : Tok) (l : Addr) (c : Value) (dd : Option Addr) (sl : Array (Option Value)) :
    Meets (Builtin.«int.__add__» ⟨[.int a t, .ref l], []⟩) (fun _ R s => s.heap.get? l = some { cls := c, dict := dd, data := .plain, slots := sl } ∧ R (.ok (.ret Value.notImplemented)) s) :=
  .of_wp fun prog w A R s h => by
    obtain ⟨hp, g, d, tk, os⟩ := s
    obtain ⟨there, h⟩ := h
    wp_walk using wpAny_loadPart' there
    exact ⟨_, rfl, h⟩
theorem int_mul_own (a : Int) (t : Tok) (l : Addr) (c : Value) (dd : Option Addr) (sl : Array (Option Value)) :
    Meets (Builtin.«int.__mul__» ⟨[.int a t, .ref l], []⟩) (fun _ R s => s.heap.get? l = some { cls := c, dict := dd, data := .plain, slots := sl } ∧ R (.ok (.ret Value.notImplemented)) s) :=
  .of_wp fun prog w A R s h => by
    obtain ⟨hp, g, d, tk, os⟩ := s
    obtain ⟨there, h⟩ := h
    wp_walk using wpAny_loadPart' there
    exact ⟨_, rfl, h⟩
section
variable {prog : Program} {w : World} {A : Around} {E : Value → Shared → Prop} {s : Shared} {K : PySem.W.Frag} {y C f f0 : Addr} {oy : Obj} {oe : Option Obj}
/-- n op o: the number lets it be, the class's reflected method is asked -/
theorem bin_refl {op : Operator} {n : Int} {t : Tok} {fo ro : Option Value} {Q : Value → Shared → Prop} (KX : K.In s.heap) (J : PySem.W.InstAt s.heap y oy C oe) (hc : PySem.W.selfFirst K C = true)
    (hs : PySem.W.findIn K (.ref C) (PySem.dunder op.info.2) = some (some (.ref f0))) (hr : PySem.W.findIn K (.ref C) (dunderR op.info.2) = some (some (.ref f))) (hf : PySem.W.isFn K (.ref f) = true)
    (h1 : PySem.W.findIn K (.type "int") (PySem.dunder op.info.2) = some fo) (h2 : PySem.W.findIn K (.type "int") (dunderR op.info.2) = some ro) (hl : ((fo.isSome && !isSeqSlot fo) || (ro.isSome && !isSeqSlot ro)) = true)
    (hsub : PySem.W.subIn K (.ref C) (.type "int") = some false) (first_ : wpAny (model prog w) A (tryMethod (.int n t) (PySem.dunder op.info.2) (.ref y)) (fun r s' => r = none ∧ s' = s) E s)
    (h : wpAny (model prog w) A (call (.ref f) [.ref y, .int n t]) (PySem.W.CmpBack Q) E s) : wpAny (model prog w) A (binaryOp op (.int n t) (.ref y)) Q E s := by
  obtain ⟨cd, rest, hcd, hm⟩ := PySem.W.ksp_first hc
  rcases hi : op.info with ⟨sym, nm'⟩
  rw [hi] at hs hr h1 h2 first_
  dsimp only at hs hr h1 h2 first_
  have tried := PySem.W.ksp_try KX J hr hf h
  have lx : PySem.W.Looks (model prog w) s.heap (typeOf (.int n t)) (.type "int") := PySem.W.Looks.of_pure rfl
  have ly : PySem.W.Looks (model prog w) s.heap (typeOf (.ref y)) (.ref C) := J.type
  have lf : PySem.W.Looks (model prog w) s.heap (fillsNumberSlot (.ref C) nm') true := PySem.W.fills_K KX hcd hm hs
  have li : PySem.W.Looks (model prog w) s.heap (fillsNumberSlot (.type "int") nm') true := by
    rw [← hl]
    exact PySem.W.ksp_fillsT KX h1 h2
  have lp : PySem.W.Looks (model prog w) s.heap (numberSlotInPython (.type "int") nm') false := PySem.W.Looks.of_pure rfl
  have ls : PySem.W.Looks (model prog w) s.heap (isSubtype (.ref C) (.type "int")) false := PySem.W.looks_subIn KX hsub
  have diff : (Value.type "int" == Value.ref C) = false := Bool.eq_false_iff.mpr fun q => by cases beq_iff_eq.mp q
  simp only [binaryOp, hi]
  refine wpAny_holding (wpAny_bind ?_)
  unfold binaryOp1
  refine wpAny_bind (lx.here (wpAny_bind (ly.here (wpAny_bind (li.here ?_)))))
  simp only [diff, Bool.false_eq_true, if_false]
  refine wpAny_bind (lf.here ?_)
  simp only [Bool.and_self, if_true, Bool.not_false, Bool.and_true]
  refine wpAny_bind (ls.here ?_)
  simp only [Bool.false_eq_true, if_false]
  refine wpAny_bind (wpAny_pure ?_)
  simp only [Bool.false_eq_true, if_false, Bool.not_false, if_true, Bool.and_true]
  refine wpAny_bind (wpAny_mono first_ (fun r s' ⟨e1, e2⟩ => ?_) fun _ _ z => z)
  subst e1 e2
  exact wpAny_bind (wpAny_mono tried (fun r s' ⟨v, e, q⟩ => by subst e; exact wpAny_bind (wpAny_rule (wpAny_pure (wpAny_pure q)))) fun _ _ z => z)
end
section
variable {X : Cx} {CX : CXT} {k : Nat} {C g f0 : Addr} {sp : Sp} {E : XK}
/-- what is asked of a class beside ints -/
structure BesideInt (K : PySem.W.Frag) (C : Addr) (nm : String) : Prop where
  first : PySem.W.selfFirst K C = true
  below : PySem.W.subIn K (.ref C) (.type "int") = some false
  above : PySem.W.subIn K (.type "int") (.ref C) = some false
  at_ : ∃ fo, PySem.W.findIn K (.type "int") (PySem.dunder nm) = some fo ∧ ∃ ro, PySem.W.findIn K (.type "int") (dunderR nm) = some ro ∧ ((fo.isSome && !isSeqSlot fo) || (ro.isSome && !isSeqSlot ro)) = true
def rReflO (C : Addr) (sp : Sp) (E : XK) : R2 := fun x y H Q => ∃ (n : Int) (b : Addr), x = .int n ∧ y = .ref b ∧ OAt C H b ∧ sp [.ref b, .int n] H Q E
theorem refl_run {op : Operator} {id : String} {B : Builtin} (slot : Slot "int" (PySem.dunder op.info.2) id) (entry : entryFor table id = some B) (args : ∀ a b, argsOk id ⟨[a, b], []⟩)
    (lets : ∀ (a : Int) (t : Tok) (l : Addr) (c : Value) (dd : Option Addr) (sl : Array (Option Value)), Meets (B ⟨[.int a t, .ref l], []⟩) (fun _ R s => s.heap.get? l = some { cls := c, dict := dd, data := .plain, slots := sl } ∧ R (.ok (.ret Value.notImplemented)) s))
    (T : BesideInt X.K C op.info.2) (M0 : OMeth X.K C (PySem.dunder op.info.2) f0) (M : OMeth X.K C (dunderR op.info.2) g) (F : FnR X.prog X.w X.K X.mg X.base CX k g sp) (hr : Room k X.A) (hx : Passes CX X E) : OpR X (binaryOp op) (rReflO C sp E) := by
  intro pins s σ H x y v u Q I rx ry h
  obtain ⟨n, b, rfl, rfl, hb, q⟩ := h
  obtain ⟨t, rfl⟩ := (show ∃ t, v = Value.int n t from rx)
  obtain rfl : u = Value.ref b := ry
  obtain ⟨⟨cls, dd, data, sl⟩, oe, J, hd⟩ := StX.insC_at I (.inr hb)
  simp only at hd
  subst hd
  obtain ⟨fo, h1, ro, h2, hl⟩ := T.at_
  refine bin_refl I.kIn J T.first M0.at_ M.at_ M.fn h1 h2 hl T.below (wpAny_tryMethod_declines (typeIs_int s n t) slot (call_meets slot (typeIs_int s n t) entry (args _ _) (lets n t b cls dd sl) ⟨J.at_, rfl, rfl, rfl⟩)) ?_
  exact wpAny_mono (run_deep F hr I.env0 hx I (.cons (rv_ref _) (.cons (show L2.RelV (.int n) (.int n t) from ⟨_, rfl⟩) .nil)) q) (fun w1 s1 got => back_ok got) fun _ _ z => z
/-- n + o -/
theorem op_raddO (T : BesideInt X.K C "add") (M0 : OMeth X.K C "__add__" f0) (M : OMeth X.K C "__radd__" g) (F : FnR X.prog X.w X.K X.mg X.base CX k g sp) (hr : Room k X.A) (hx : Passes CX X E) : OpR X (binaryOp .Add) (rReflO C sp E) :=
  refl_run (op := .Add) PySem.F.slot_int_add PySem.F.entry_int_add (fun a b => PySem.F.args_int_add_2 a b) int_add_own T M0 M F hr hx
/-- n * o -/
theorem op_rmulO (T : BesideInt X.K C "mul") (M0 : OMeth X.K C "__mul__" f0) (M : OMeth X.K C "__rmul__" g) (F : FnR X.prog X.w X.K X.mg X.base CX k g sp) (hr : Room k X.A) (hx : Passes CX X E) : OpR X (binaryOp .Mult) (rReflO C sp E) :=
  refl_run (op := .Mult) PySem.F.slot_int_mul PySem.F.entry_int_mul (fun a b => PySem.F.args_int_mul_2 a b) int_mul_own T M0 M F hr hx
def rBinI (C : Addr) (sp : Sp) (E : XK) : R2 := fun x y H Q => ∃ (a : Addr) (n : Int), x = .ref a ∧ y = .int n ∧ OAt C H a ∧ sp [.ref a, .int n] H Q E
/-- o + n and the like -/
theorem op_binI {op : Operator} {rc : Option Value} (T : BesideInt X.K C op.info.2) (M : OMeth X.K C (PySem.dunder op.info.2) g) (hr0 : PySem.W.findIn X.K (.ref C) (dunderR op.info.2) = some rc) (hp : rc = none ∨ ∃ g' : Addr, rc = some (.ref g'))
    (F : FnR X.prog X.w X.K X.mg X.base CX k g sp) (hr : Room k X.A) (hx : Passes CX X E) : OpR X (binaryOp op) (rBinI C sp E) := by
  intro pins s σ H x y v u Q I rx ry h
  obtain ⟨a, n, rfl, rfl, ha, q⟩ := h
  obtain rfl : v = Value.ref a := rx
  obtain ⟨t, rfl⟩ := (show ∃ t, u = Value.int n t from ry)
  obtain ⟨ox, od, J⟩ := OAt.inst I ha
  obtain ⟨m, fr⟩ := I.fr
  obtain ⟨fo, h1, ro, h2, _⟩ := T.at_
  exact PySem.W.ksp_binT fr I.ok.mod.kin J (T := "int") rfl T.first M.at_ M.fn hr0 hp h1 h2 T.above (wpAny_mono (run_deep F hr I.env0 hx I (.cons (rv_ref _) (.cons (show L2.RelV (.int n) (.int n t) from ⟨_, rfl⟩) .nil)) q) (fun w1 s1 got => back_ok got) fun _ _ z => z)
end
end QN

/-! own classes by Python's signs: o + x and x + o, x of any built-in kind -/
namespace QN
open PySem PySem.Spec PyProof.Rows L2
section
variable {prog : Program} {w : World} {A : Around} {E : Value → Shared → Prop} {s : Shared} {K : PySem.W.Frag} {x y C f f0 : Addr} {ox oy : Obj} {od oe : Option Obj}
/-- o op b, b's kind known by a look -/
theorem bin_anyT {op : Operator} {b : Value} {T : String} {fo ro rc : Option Value} {Q : Value → Shared → Prop} (KX : K.In s.heap) (I : PySem.W.InstAt s.heap x ox C od) (lb : PySem.W.Looks (model prog w) s.heap (typeOf b) (.type T)) (hc : PySem.W.selfFirst K C = true)
    (hs : PySem.W.findIn K (.ref C) (PySem.dunder op.info.2) = some (some (.ref f))) (hf : PySem.W.isFn K (.ref f) = true) (hr : PySem.W.findIn K (.ref C) (dunderR op.info.2) = some rc) (hp : rc = none ∨ ∃ g : Addr, rc = some (.ref g))
    (h1 : PySem.W.findIn K (.type T) (PySem.dunder op.info.2) = some fo) (h2 : PySem.W.findIn K (.type T) (dunderR op.info.2) = some ro) (hsub : PySem.W.subIn K (.type T) (.ref C) = some false)
    (h : wpAny (model prog w) A (call (.ref f) [.ref x, b]) (PySem.W.CmpBack Q) E s) : wpAny (model prog w) A (binaryOp op (.ref x) b) Q E s := by
  obtain ⟨cd, rest, hcd, hm⟩ := PySem.W.ksp_first hc
  rcases hi : op.info with ⟨sym, nm'⟩
  rw [hi] at hs hr h1 h2
  dsimp only at hs hr h1 h2
  have one := PySem.W.ksp_try KX I hs hf h
  obtain ⟨hh, g, d, tt, os⟩ := s
  have L1 : PySem.W.Looks (model prog w) hh (typeOf (.ref x)) (.ref C) := I.type
  have L3 : PySem.W.Looks (model prog w) hh (fillsNumberSlot (.ref C) nm') true := PySem.W.fills_K KX hcd hm hs
  have L4 : PySem.W.Looks (model prog w) hh (fillsNumberSlot (.type T) nm') ((fo.isSome && !isSeqSlot fo) || (ro.isSome && !isSeqSlot ro)) := PySem.W.ksp_fillsT KX h1 h2
  have L5 : PySem.W.Looks (model prog w) hh (isSubtype (.type T) (.ref C)) false := PySem.W.looks_subIn KX hsub
  have L6 : PySem.W.Looks (model prog w) hh (numberSlotInPython (.ref C) nm') true := PySem.W.ksp_inPy KX hs hr hp
  have L7 : PySem.W.Looks (model prog w) hh (numberSlotInPython (.type T) nm') false := PySem.W.Looks.of_pure rfl
  have L8 : PySem.W.Looks (model prog w) hh (typeLookup (.type T) (dunderR nm')) ro := PySem.W.looks_findIn KX h2
  generalize ((fo.isSome && !isSeqSlot fo) || (ro.isSome && !isSeqSlot ro)) = right at L4
  have hne : (Value.ref C == Value.type T) = false := Bool.eq_false_iff.mpr fun q => by cases beq_iff_eq.mp q
  simp only [binaryOp, hi]
  refine wpAny_holding (wpAny_bind ?_)
  unfold binaryOp1
  refine wpAny_bind (L1.here (wpAny_bind (lb.here (wpAny_bind (L3.here ?_)))))
  simp only [hne, Bool.false_eq_true, if_false]
  cases right with
  | false =>
    refine wpAny_bind (L4.here ?_)
    simp only [Bool.and_false, Bool.false_eq_true, if_false, Bool.false_and, if_true]
    refine wpAny_bind (wpAny_pure ?_)
    simp only [Bool.false_eq_true, if_false, if_true]
    refine wpAny_bind (wpAny_mono one (fun r s' hr' => ?_) fun _ _ e => e)
    obtain ⟨v, rfl, hq⟩ := hr'
    exact wpAny_pure (wpAny_pure hq)
  | true =>
    refine wpAny_bind (L4.here ?_)
    simp only [Bool.and_self, if_true]
    refine wpAny_bind (L5.here ?_)
    simp only [Bool.false_eq_true, if_false, Bool.not_false, Bool.and_self, if_true]
    refine wpAny_bind (L6.here ?_)
    simp only [if_true]
    refine wpAny_bind (L7.here ?_)
    simp only [Bool.not_false, if_true]
    refine wpAny_bind (L8.here ?_)
    refine wpAny_bind (wpAny_mono one (fun r s' hr' => ?_) fun _ _ e => e)
    obtain ⟨v, rfl, hq⟩ := hr'
    exact wpAny_pure (wpAny_pure hq)
/-- b op o, where b's kind fills no number slot -/
theorem bin_reflF {op : Operator} {b : Value} {T : String} {fo ro : Option Value} {Q : Value → Shared → Prop} (KX : K.In s.heap) (J : PySem.W.InstAt s.heap y oy C oe) (lb : PySem.W.Looks (model prog w) s.heap (typeOf b) (.type T)) (hc : PySem.W.selfFirst K C = true)
    (hs : PySem.W.findIn K (.ref C) (PySem.dunder op.info.2) = some (some (.ref f0))) (hr : PySem.W.findIn K (.ref C) (dunderR op.info.2) = some (some (.ref f))) (hf : PySem.W.isFn K (.ref f) = true)
    (h1 : PySem.W.findIn K (.type T) (PySem.dunder op.info.2) = some fo) (h2 : PySem.W.findIn K (.type T) (dunderR op.info.2) = some ro) (hl : ((fo.isSome && !isSeqSlot fo) || (ro.isSome && !isSeqSlot ro)) = false)
    (h : wpAny (model prog w) A (call (.ref f) [.ref y, b]) (PySem.W.CmpBack Q) E s) : wpAny (model prog w) A (binaryOp op b (.ref y)) Q E s := by
  obtain ⟨cd, rest, hcd, hm⟩ := PySem.W.ksp_first hc
  rcases hi : op.info with ⟨sym, nm'⟩
  rw [hi] at hs hr h1 h2
  dsimp only at hs hr h1 h2
  have tried := PySem.W.ksp_try KX J hr hf h
  have ly : PySem.W.Looks (model prog w) s.heap (typeOf (.ref y)) (.ref C) := J.type
  have lf : PySem.W.Looks (model prog w) s.heap (fillsNumberSlot (.ref C) nm') true := PySem.W.fills_K KX hcd hm hs
  have li : PySem.W.Looks (model prog w) s.heap (fillsNumberSlot (.type T) nm') false := by
    rw [← hl]
    exact PySem.W.ksp_fillsT KX h1 h2
  have diff : (Value.type T == Value.ref C) = false := Bool.eq_false_iff.mpr fun q => by cases beq_iff_eq.mp q
  simp only [binaryOp, hi]
  refine wpAny_holding (wpAny_bind ?_)
  unfold binaryOp1
  refine wpAny_bind (lb.here (wpAny_bind (ly.here (wpAny_bind (li.here ?_)))))
  simp only [diff, Bool.false_eq_true, if_false]
  refine wpAny_bind (lf.here ?_)
  simp only [Bool.false_and, Bool.false_eq_true, if_false, Bool.not_false, if_true, Bool.and_true]
  refine wpAny_bind (wpAny_pure ?_)
  simp only [Bool.false_eq_true, if_false, if_true]
  exact wpAny_bind (wpAny_mono tried (fun r s' ⟨v, e, q⟩ => by subst e; exact wpAny_bind (wpAny_rule (wpAny_pure (wpAny_pure q)))) fun _ _ z => z)
end
section
variable {prog : Program} {w : World} {A : Around} {E : Value → Shared → Prop} {s : Shared} {K : PySem.W.Frag} {y C f f0 : Addr} {oy : Obj} {oe : Option Obj}
/-- b op o: b lets it be, the class's reflected method is asked -/
theorem bin_reflL {op : Operator} {b : Value} {T : String} {fo ro : Option Value} {Q : Value → Shared → Prop} (KX : K.In s.heap) (J : PySem.W.InstAt s.heap y oy C oe) (lx : PySem.W.Looks (model prog w) s.heap (typeOf b) (.type T)) (hc : PySem.W.selfFirst K C = true)
    (hs : PySem.W.findIn K (.ref C) (PySem.dunder op.info.2) = some (some (.ref f0))) (hr : PySem.W.findIn K (.ref C) (dunderR op.info.2) = some (some (.ref f))) (hf : PySem.W.isFn K (.ref f) = true)
    (h1 : PySem.W.findIn K (.type T) (PySem.dunder op.info.2) = some fo) (h2 : PySem.W.findIn K (.type T) (dunderR op.info.2) = some ro) (hl : ((fo.isSome && !isSeqSlot fo) || (ro.isSome && !isSeqSlot ro)) = true)
    (hsub : PySem.W.subIn K (.ref C) (.type T) = some false) (first_ : wpAny (model prog w) A (tryMethod b (PySem.dunder op.info.2) (.ref y)) (fun r s' => r = none ∧ s' = s) E s)
    (h : wpAny (model prog w) A (call (.ref f) [.ref y, b]) (PySem.W.CmpBack Q) E s) : wpAny (model prog w) A (binaryOp op b (.ref y)) Q E s := by
  obtain ⟨cd, rest, hcd, hm⟩ := PySem.W.ksp_first hc
  rcases hi : op.info with ⟨sym, nm'⟩
  rw [hi] at hs hr h1 h2 first_
  dsimp only at hs hr h1 h2 first_
  have tried := PySem.W.ksp_try KX J hr hf h
  have ly : PySem.W.Looks (model prog w) s.heap (typeOf (.ref y)) (.ref C) := J.type
  have lf : PySem.W.Looks (model prog w) s.heap (fillsNumberSlot (.ref C) nm') true := PySem.W.fills_K KX hcd hm hs
  have li : PySem.W.Looks (model prog w) s.heap (fillsNumberSlot (.type T) nm') true := by
    rw [← hl]
    exact PySem.W.ksp_fillsT KX h1 h2
  have lp : PySem.W.Looks (model prog w) s.heap (numberSlotInPython (.type T) nm') false := PySem.W.Looks.of_pure rfl
  have ls : PySem.W.Looks (model prog w) s.heap (isSubtype (.ref C) (.type T)) false := PySem.W.looks_subIn KX hsub
  have diff : (Value.type T == Value.ref C) = false := Bool.eq_false_iff.mpr fun q => by cases beq_iff_eq.mp q
  simp only [binaryOp, hi]
  refine wpAny_holding (wpAny_bind ?_)
  unfold binaryOp1
  refine wpAny_bind (lx.here (wpAny_bind (ly.here (wpAny_bind (li.here ?_)))))
  simp only [diff, Bool.false_eq_true, if_false]
  refine wpAny_bind (lf.here ?_)
  simp only [Bool.and_self, if_true, Bool.not_false, Bool.and_true]
  refine wpAny_bind (ls.here ?_)
  simp only [Bool.false_eq_true, if_false]
  refine wpAny_bind (wpAny_pure ?_)
  simp only [Bool.false_eq_true, if_false, Bool.not_false, if_true, Bool.and_true]
  refine wpAny_bind (wpAny_mono first_ (fun r s' ⟨e1, e2⟩ => ?_) fun _ _ z => z)
  subst e1 e2
  exact wpAny_bind (wpAny_mono tried (fun r s' ⟨v, e, q⟩ => by subst e; exact wpAny_bind (wpAny_rule (wpAny_pure (wpAny_pure q)))) fun _ _ z => z)
end
theorem bool_add_own (a : Bool) (l : Addr) (c : Value) (dd : Option Addr) (sl : Array (Option Value)) :
    Meets (Builtin.«int.__add__» ⟨[.bool a, .ref l], []⟩) (fun _ R s => s.heap.get? l = some { cls := c, dict := dd, data := .plain, slots := sl } ∧ R (.ok (.ret Value.notImplemented)) s) :=
  .of_wp fun prog w A R s h => by
    obtain ⟨hp, g, d, tk, os⟩ := s
    obtain ⟨there, h⟩ := h
    wp_walk using wpAny_loadPart' there
    exact ⟨_, rfl, h⟩
theorem bool_mul_own (a : Bool) (l : Addr) (c : Value) (dd : Option Addr) (sl : Array (Option Value)) :
    Meets (Builtin.«int.__mul__» ⟨[.bool a, .ref l], []⟩) (fun _ R s => s.heap.get? l = some { cls := c, dict := dd, data := .plain, slots := sl } ∧ R (.ok (.ret Value.notImplemented)) s) :=
  .of_wp fun prog w A R s h => by
    obtain ⟨hp, g, d, tk, os⟩ := s
    obtain ⟨there, h⟩ := h
    wp_walk using wpAny_loadPart' there
    exact ⟨_, rfl, h⟩
section
variable {X : Cx} {CX : CXT} {k : Nat} {C g f0 : Addr} {sp : Sp} {E : XK}
/-- what is asked of a class beside a built-in kind -/
structure KindB (K : PySem.W.Frag) (C : Addr) (nm T : String) (full : Bool) : Prop where
  at_ : ∃ fo, PySem.W.findIn K (.type T) (PySem.dunder nm) = some fo ∧ ∃ ro, PySem.W.findIn K (.type T) (dunderR nm) = some ro ∧ ((fo.isSome && !isSeqSlot fo) || (ro.isSome && !isSeqSlot ro)) = full
  sub : PySem.W.subIn K (.type T) (.ref C) = some false
  below : PySem.W.subIn K (.ref C) (.type T) = some false
def rBinT (K : PySem.W.Frag) (C : Addr) (nm : String) (sp : Sp) (E : XK) : R2 := fun x y H Q => ∃ (a : Addr) (T : String) (full : Bool), x = .ref a ∧ OAt C H a ∧ TyX K H y (.type T) ∧ KindB K C nm T full ∧ sp [.ref a, y] H Q E
/-- o + x, x of a built-in kind -/
theorem op_binT {op : Operator} {rc : Option Value} (hc : PySem.W.selfFirst X.K C = true) (M : OMeth X.K C (PySem.dunder op.info.2) g) (hr0 : PySem.W.findIn X.K (.ref C) (dunderR op.info.2) = some rc) (hp : rc = none ∨ ∃ g' : Addr, rc = some (.ref g'))
    (F : FnR X.prog X.w X.K X.mg X.base CX k g sp) (hr : Room k X.A) (hx : Passes CX X E) : OpR X (binaryOp op) (rBinT X.K C op.info.2 sp E) := by
  intro pins s σ H x y v u Q I rx ry h
  obtain ⟨a, T, full, rfl, ha, ty, kd, q⟩ := h
  obtain rfl : v = Value.ref a := rx
  obtain ⟨ox, od, J⟩ := OAt.inst I ha
  obtain ⟨P, Z, hP, _⟩ := kit_of I ry ty
  obtain ⟨fo, h1, ro, h2, _⟩ := kd.at_
  exact bin_anyT I.kIn J (Z.ty _ _ I.kIn hP) hc M.at_ M.fn hr0 hp h1 h2 kd.sub (wpAny_mono (run_deep F hr I.env0 hx I (.cons (rv_ref _) (.cons ry .nil)) q) (fun w1 s1 got => back_ok got) fun _ _ z => z)
def rReflT (K : PySem.W.Frag) (C : Addr) (nm : String) (sp : Sp) (E : XK) : R2 := fun x y H Q => ∃ (b : Addr), y = .ref b ∧ OAt C H b ∧ sp [.ref b, x] H Q E ∧ ((∃ T, TyX K H x (.type T) ∧ KindB K C nm T false) ∨ ((∃ n, x = .int n) ∧ KindB K C nm "int" true) ∨ ((∃ c, x = .bl c) ∧ KindB K C nm "bool" true))
theorem reflT_run {op : Operator} {id : String} {B : Builtin} (slot : Slot "int" (PySem.dunder op.info.2) id) (slotB : Slot "bool" (PySem.dunder op.info.2) id) (entry : entryFor table id = some B) (args : ∀ a b, argsOk id ⟨[a, b], []⟩)
    (lets : ∀ (a : Int) (t : Tok) (l : Addr) (c : Value) (dd : Option Addr) (sl : Array (Option Value)), Meets (B ⟨[.int a t, .ref l], []⟩) (fun _ R s => s.heap.get? l = some { cls := c, dict := dd, data := .plain, slots := sl } ∧ R (.ok (.ret Value.notImplemented)) s))
    (letsB : ∀ (a : Bool) (l : Addr) (c : Value) (dd : Option Addr) (sl : Array (Option Value)), Meets (B ⟨[.bool a, .ref l], []⟩) (fun _ R s => s.heap.get? l = some { cls := c, dict := dd, data := .plain, slots := sl } ∧ R (.ok (.ret Value.notImplemented)) s))
    (hc : PySem.W.selfFirst X.K C = true) (M0 : OMeth X.K C (PySem.dunder op.info.2) f0) (M : OMeth X.K C (dunderR op.info.2) g) (F : FnR X.prog X.w X.K X.mg X.base CX k g sp) (hr : Room k X.A) (hx : Passes CX X E) : OpR X (binaryOp op) (rReflT X.K C op.info.2 sp E) := by
  intro pins s σ H x y v u Q I rx ry h
  obtain ⟨b, rfl, hb, q, kinds⟩ := h
  obtain rfl : u = Value.ref b := ry
  have run := wpAny_mono (run_deep F hr I.env0 hx I (.cons (rv_ref _) (.cons rx .nil)) q) (fun w1 s1 got => back_ok got) fun _ _ z => z
  rcases kinds with ⟨T, ty, kd⟩ | ⟨⟨n, rfl⟩, kd⟩ | ⟨⟨c, rfl⟩, kd⟩
  · obtain ⟨fo, h1, ro, h2, hl⟩ := kd.at_
    obtain ⟨oy, oe, J⟩ := OAt.inst I hb
    obtain ⟨P, Z, hP, _⟩ := kit_of I rx ty
    exact bin_reflF I.kIn J (Z.ty _ _ I.kIn hP) hc M0.at_ M.at_ M.fn h1 h2 hl run
  · obtain ⟨fo, h1, ro, h2, hl⟩ := kd.at_
    obtain ⟨t, rfl⟩ := (show ∃ t, v = Value.int n t from rx)
    obtain ⟨⟨cls, dd, data, sl⟩, oe, J, hd⟩ := StX.insC_at I (.inr hb)
    simp only at hd
    subst hd
    exact bin_reflL I.kIn J (PySem.W.Looks.of_pure rfl) hc M0.at_ M.at_ M.fn h1 h2 hl kd.below (wpAny_tryMethod_declines (typeIs_int s n t) slot (call_meets slot (typeIs_int s n t) entry (args _ _) (lets n t b cls dd sl) ⟨J.at_, rfl, rfl, rfl⟩)) run
  · obtain ⟨fo, h1, ro, h2, hl⟩ := kd.at_
    obtain rfl : v = Value.bool c := rx
    obtain ⟨⟨cls, dd, data, sl⟩, oe, J, hd⟩ := StX.insC_at I (.inr hb)
    simp only at hd
    subst hd
    exact bin_reflL I.kIn J (PySem.W.Looks.of_pure rfl) hc M0.at_ M.at_ M.fn h1 h2 hl kd.below (wpAny_tryMethod_declines (PySem.typeIs_bool s c) slotB (call_meets slotB (PySem.typeIs_bool s c) entry (args _ _) (letsB c b cls dd sl) ⟨J.at_, rfl, rfl, rfl⟩)) run
/-- x + o -/
theorem op_raddT (hc : PySem.W.selfFirst X.K C = true) (M0 : OMeth X.K C "__add__" f0) (M : OMeth X.K C "__radd__" g) (F : FnR X.prog X.w X.K X.mg X.base CX k g sp) (hr : Room k X.A) (hx : Passes CX X E) : OpR X (binaryOp .Add) (rReflT X.K C "add" sp E) :=
  reflT_run (op := .Add) PySem.F.slot_int_add PySem.F.slot_bool_add PySem.F.entry_int_add (fun a b => PySem.F.args_int_add_2 a b) int_add_own bool_add_own hc M0 M F hr hx
/-- x * o -/
theorem op_rmulT (hc : PySem.W.selfFirst X.K C = true) (M0 : OMeth X.K C "__mul__" f0) (M : OMeth X.K C "__rmul__" g) (F : FnR X.prog X.w X.K X.mg X.base CX k g sp) (hr : Room k X.A) (hx : Passes CX X E) : OpR X (binaryOp .Mult) (rReflT X.K C "mul" sp E) :=
  reflT_run (op := .Mult) PySem.F.slot_int_mul PySem.F.slot_bool_mul PySem.F.entry_int_mul (fun a b => PySem.F.args_int_mul_2 a b) int_mul_own bool_mul_own hc M0 M F hr hx
end
end QN

/-! An own error whose __init__ calls super().__init__ and keeps one value, made as a value; over any built-in base, KeyError too. -/
namespace Q0
open PySem PySem.W PySem.Calls PyProof.Rows
/-! ### 1. KeyError's own facts (its __new__ is LookupError's) -/
theorem keyInitSlot : Slot "KeyError" "__init__" "KeyError.__init__" :=
  Slot.of (owner := "KeyError") (n := "__init__") (by rw [typeLookup_type, builtinLookup_eq_fast]; kernel_rfl)
    (by decide +kernel) (by decide +kernel) (by decide +kernel)
    (by first | exact Or.inl (by decide +kernel) | exact Or.inr (by decide +kernel)) (by rw [isSubtype_type]; kernel_rfl)
theorem keyInitEntry : entryFor table "KeyError.__init__" = some Builtin.«BaseException.__init__» :=
  entryFor_alias (id' := "BaseException.__init__") (by rw [fastTable_eq_tree]; kernel_rfl)
    (by first | rfl | decide +kernel) (by decide +kernel) (by rw [fastTable_eq_tree]; kernel_rfl)
theorem keySuper : KxsFacts "KeyError" "KeyError.__init__" := by
  constructor
  · show builtinType _ = _
    rw [builtinType_eq_fast]; kernel_rfl
  · first | kernel_rfl | rfl
theorem keyStore : StoreFacts "KeyError" [.type "KeyError", .type "LookupError", .type "Exception", .type "BaseException", .type "object"] "object.__setattr__" "object" := by
  refine { mro := ?_, slot := ?_, entry := F.entry_object_sa, kind := ?_, split := ?_, hasOwner := ?_, args := ?_, passes := ?_ }
  · kernel_rfl
  · exact Slot.of (owner := "object") (n := "__setattr__") (by rw [typeLookup_type, builtinLookup_eq_fast]; kernel_rfl)
      (by decide +kernel) (by decide +kernel) (by decide +kernel)
      (by first | exact Or.inl (by decide +kernel) | exact Or.inr (by decide +kernel)) (by rw [isSubtype_type]; kernel_rfl)
  · decide +kernel
  · decide +kernel
  · decide +kernel
  · intro a b c; unfold argsOk; kernel_rfl
  · intro me; kernel_rfl
/-- what the built-in __init__ that super() finds must say: its base's name, its signature -/
structure Ini (B i : String) : Prop where
  kx : KxsFacts B i
  slot : Slot B "__init__" i
  entry : entryFor table i = some Builtin.«BaseException.__init__»
  split : splitId i = some (B, "__init__")
  kind : builtinKind i = some .slot
  row : Manifest.signature? i = some ⟨.positional, "*", B, .self, [⟨"args", .varPos, false⟩]⟩
  star : (B != "*") = true
theorem Ini.of {B n i : String} (c : ExcCallFacts B n i) (k : KxsFacts B i) : Ini B i := ⟨k, c.init, c.initEntry, c.initSplit, c.initKind, c.initRow, c.noStar⟩
theorem iniKey : Ini "KeyError" "KeyError.__init__" := ⟨keySuper, keyInitSlot, keyInitEntry, by kernel_rfl, by kernel_rfl, by kernel_rfl, by decide +kernel⟩
/-! ### 2. C(v, ..) where C has an own __init__: the object, its arguments, then __init__ -/
section
variable {prog : Program} {w : World} {M : Model} {A : Around} {E : Value → Shared → Prop} {R : Result → Shared → Prop} {hp : Heap} {gs : Array GenState} {dr : Drawn} {tk : Nat} {os : OsState}
variable {nm qn : Str} {C nsA : Addr} {bases tail bmF : List Value} {hasD : Bool} {sns : List Str} {subs : List Value} {abst : Bool} {coll : Option Bool} {dcl : Option Addr} {s0 s1 s2 s3 s5 : Option Value} {Bn newId iF : String}
/-- what of the class's tail is asked: it has Bn (whose __new__ makes it), and is neither an AttributeError nor a NameError -/
structure Tail (tail : List Value) (Bn : String) : Prop where
  has : tail.contains (.type Bn) = true
  noA : tail.contains (.type "AttributeError") = false
  noN : tail.contains (.type "NameError") = false
theorem new_checked (F : ExcBaseFacts Bn newId iF bmF) (T : Tail tail Bn) {more : List Value} {Q : Unit → Shared → Prop}
    (hC : hp.get? C = some (excClassObj nm qn C nsA bases tail hasD sns subs abst coll dcl s0 s1 s2 s3 s5 newId)) (hq : Q () ⟨hp, gs, dr, tk, os⟩) :
    wpAny M A (checkBuiltinCall newId ⟨.ref C :: more, []⟩) Q E ⟨hp, gs, dr, tk, os⟩ := by
  have inB : (Value.ref C :: tail).contains (.type Bn) = true := by
    rw [List.contains_cons, T.has, Bool.or_true]
  have st := F.noStar
  simp only [checkBuiltinCall, F.newKind, F.newSplit, F.newRow]
  repeat (first
    | refine wpAny_loadPart_at hC ?_
    | (refine wpAny_isSubtype_exc hC ?_; rw [inB])
    | refine wpAny_staticBase_exc hC ?_
    | refine wpAny_madeBy_exc hC ?_
    | simp only [bne_self_eq_false, Bool.false_eq_true, if_false]
    | wp_step)
  exact hq
theorem new_done (F : ExcBaseFacts Bn newId iF bmF) (T : Tail tail Bn) {more : List Value}
    (hC : hp.get? C = some (excClassObj nm qn C nsA bases tail hasD sns subs abst coll dcl s0 s1 s2 s3 s5 newId)) (hz : more.length ≤ sizeLine)
    (hq : R (.ok (.ret (.ref (hp.objs.size + 1)))) ⟨(hp.push (kdv_tup more)).push (HandSPX.excO C hp.objs.size), gs, dr, tk, os⟩) :
    codeAny (model prog w) A (.builtin newId ⟨.ref C :: more, []⟩) R ⟨hp, gs, dr, tk, os⟩ := by
  have ends := F.ends
  have inB : (Value.ref C :: tail).contains (.type Bn) = true := by
    rw [List.contains_cons, T.has, Bool.or_true]
  have inA : (Value.ref C :: tail).contains (.type "AttributeError") = false := by
    rw [List.contains_cons, T.noA]; rfl
  have inN : (Value.ref C :: tail).contains (.type "NameError") = false := by
    rw [List.contains_cons, T.noN]; rfl
  refine codeAny_builtinAt F.entry ?_
  unfold Builtin.«BaseException.__new__»
  refine _root_.PySem.wpAt_bind ?_
  show _root_.PySem.wpAt _ _ _ (stack >>= _) _ _ _
  refine _root_.PySem.wpAt_bind (_root_.PySem.wpAt_stack fun _ _ => _root_.PySem.wpAt_of_wpAny ?_)
  wp_walk
  refine _root_.PySem.wpAt_of_wpAny ?_
  rw [F.owner]
  repeat (first
    | with_reducible refine wpAny_madeHere_exc F.canon hC ?_
    | with_reducible refine wpAny_loadPart_at hC ?_
    | (with_reducible refine wpAny_isSubtype_exc hC ?_; first | rw [inB] | rw [inA] | rw [inN])
    | wp_step)
  show R _ _
  rw [Heap.size_push]
  exact hq
theorem type_done (F : ExcBaseFacts Bn newId iF bmF) (T : Tail tail Bn) {more : List Value} {fI : Addr} {Q : Fin → Shared → Prop}
    (hC : hp.get? C = some (excClassObj nm qn C nsA bases tail hasD sns subs abst coll dcl s0 s1 s2 s3 s5 newId)) (hz : more.length ≤ sizeLine)
    (hi : Looks (model prog w) hp (typeLookup (.ref C) "__init__") (some (.ref fI)))
    (hb : ∀ me, Looks (model prog w) hp (bindSpecial (.ref fI) me) (.ref fI, [me]))
    (hq : codeAny (model prog w) A (.call (.ref fI) ⟨.ref (hp.objs.size + 1) :: more, []⟩)
      (fun r s' => match r with | .ok (.ret v) => v = .none ∧ Q (.done (.ret (.ref (hp.objs.size + 1)))) s' | .ok _ => False | .error e => E e s')
      ⟨(hp.push (kdv_tup more)).push (HandSPX.excO C hp.objs.size), gs, dr, tk, os⟩) :
    wpAny (model prog w) A (Builtin.«type.__call__» ⟨.ref C :: more, []⟩) Q E ⟨hp, gs, dr, tk, os⟩ := by
  repeat (first
    | with_reducible refine wpAny_loadPart_at hC ?_
    | with_reducible refine wpAny_madeBy_exc hC ?_
    | wp_step)
  refine codeAny_call_builtin_code (Code.quiet_builtin _ F.quiet) (new_checked F T hC ?_)
  refine new_done F T hC hz ?_
  show wpAny _ _ _ _ _ _
  have up : ∀ b o, hp.get? b = some o → ((hp.push (kdv_tup more)).push (HandSPX.excO C hp.objs.size)).get? b = some o :=
    fun b o e => Heap.get?_push_of_some _ (Heap.get?_push_of_some _ e)
  have hC' := up _ _ hC
  have hme : ((hp.push (kdv_tup more)).push (HandSPX.excO C hp.objs.size)).get? (hp.objs.size + 1) = some (HandSPX.excO C hp.objs.size) := by heap_get
  have inC : (Value.ref C :: tail).contains (.ref C) = true := by simp
  have li := hi.keeps up
  have lb := (hb (.ref (hp.objs.size + 1))).keeps up
  unfold isInstance
  repeat (first
    | with_reducible refine wpAny_loadPart_at hme ?_
    | (with_reducible refine wpAny_isSubtype_exc hC' ?_; rw [inC])
    | wp_step)
  show wpAny _ _ (typeLookup (.ref C) _) _ _ _
  refine li.at ?_
  refine wpAny_holding (wpAny_bind (lb.at ?_))
  refine wpAny_bind (wpAny_call (codeAny_mono hq fun r s' z => ?_))
  rcases r with e | (v | _ | _ | _) <;> first | exact z | exact z.elim | skip
  obtain ⟨rfl, z⟩ := z
  first
    | exact wpAny_pure (wpAny_pure z)
    | (wp_walk; exact z)
theorem call_done (F : ExcBaseFacts Bn newId iF bmF) (T : Tail tail Bn) {more : List Value} {fI : Addr}
    (hC : hp.get? C = some (excClassObj nm qn C nsA bases tail hasD sns subs abst coll dcl s0 s1 s2 s3 s5 newId)) (hz : more.length ≤ sizeLine)
    (hi : Looks (model prog w) hp (typeLookup (.ref C) "__init__") (some (.ref fI)))
    (hb : ∀ me, Looks (model prog w) hp (bindSpecial (.ref fI) me) (.ref fI, [me]))
    (hq : codeAny (model prog w) (A.under (.builtin "type.__call__" ⟨.ref C :: more, []⟩)) (.call (.ref fI) ⟨.ref (hp.objs.size + 1) :: more, []⟩) (InitBack (hp.objs.size + 1) R)
      ⟨(hp.push (kdv_tup more)).push (HandSPX.excO C hp.objs.size), gs, dr, tk, os⟩) :
    codeAny (model prog w) A (.call (.ref C) ⟨more, []⟩) R ⟨hp, gs, dr, tk, os⟩ := by
  have l1 := tc_lookup
  have l2 := tc_bind (.ref C)
  have ty : (⟨hp, gs, dr, tk, os⟩ : Shared).TypeIs (.ref C) "type" := ⟨_, hC, rfl⟩
  refine codeAny_of_tree ?_
  show wpAny _ _ (callAny (.ref C) _) _ _ _
  repeat (any_goals (first
    | assumption
    | with_reducible refine wpAny_loadPart_at hC ?_
    | wp_step))
  refine ⟨rfl, ?_⟩
  refine codeAny_call_builtin_at (Code.quiet_builtin _ (by decide +kernel)) entry_typeCall
    (wpAny_check_type_call_sub hC (type_done F T hC hz hi hb ?_))
  refine codeAny_mono hq fun r s' z => ?_
  rcases r with e | (v | _ | _ | _) <;> exact z
end
end Q0

/-! ### 3. def __init__(self, f): super().__init__('..'); self.f = f -/
namespace Q0
open PySem PySem.W PySem.Calls Builtin.ObjectAttr
def iA (f : Str) (p1 p2 : Pos) : Arguments :=
  { posonlyargs := [], args := [{ arg := "self", annotation := none, pos := p1 }, { arg := f, annotation := none, pos := p2 }], vararg := none, kwonlyargs := [], kw_defaults := [], kwarg := none, defaults := [] }
def iB (f msg : Str) (q : Nat → Pos) : List Stmt :=
  [.Expr (.Call (.Attribute (.Call (.Name "super" (q 0)) [] [] (q 1)) "__init__" (q 2)) [.Constant (.str msg) 0 (q 3)] [] (q 4)) (q 5),
   .Assign [.Attribute (.Name "self" (q 6)) f (q 7)] (.Name f (q 8)) (q 9)]
def iS (f : Str) : Scope :=
  { kind := .function, names := [(PySem.Str.ofString "self", .local), (f, .local), (PySem.Str.ofString "__class__", .free), (PySem.Str.ofString "super", .globalImplicit)], isGenerator := false, isCoroutine := false, more := [] }
/-- how its first line is evaluated -/
def LineOk (msg : Str) (q : Nat → Pos) : Prop := ∃ pl : Sem Bool, ∀ env : Env,
  eval (.Call (.Attribute (.Call (.Name "super" (q 0)) [] [] (q 1)) "__init__" (q 2)) [.Constant (.str msg) 0 (q 3)] [] (q 4)) env = (do
    let o ← attributeBase (.Call (.Name "super" (q 0)) [] [] (q 1)) "__init__" env (eval (.Call (.Name "super" (q 0)) [] [] (q 1)) env)
    standAt (q 2).atName
    let (m, first) ← holding [o] (getMethod o "__init__" pl)
    callWith (q 4) m first (backTo (q 4) (starEach [.Constant (.str msg) 0 (q 3)] env)) [])
/-- how its arguments are bound -/
def BindOk (f : Str) : Prop := ∀ (qual msg : Str) (p1 p2 : Pos) (q : Nat → Pos) (kV doc pm cdv ct me u : Value) (an : Option Addr) (cc : Addr),
  bindArgs (ksFn "__init__" qual (iA f p1 p2) (iB f msg q) (iS f) .none kV doc pm an cdv ct cc) ⟨[me, u], []⟩ = pure [(("self" : Str), me), (f, u)]
/-- the names of such a def mean what they should -/
structure NameOk (f : Str) : Prop where
  self : (iS f).names.lookup ("self" : Str) = some .local
  own : (iS f).names.lookup f = some .local
  cls : (iS f).names.lookup ("__class__" : Str) = some .free
  sup : (iS f).names.lookup ("super" : Str) = some .globalImplicit
  dbg : (f == ("__debug__" : Str)) = false
  ne : ("self" : Str) ≠ f
  bind : BindOk f
/-- what the top has written of the class at C (its base Bi, whose __init__ is ii; the base whose __new__ makes it Bn), of its __init__ at fI, the code's record at cd, the cell of the class at cc -/
structure ValT (P : Program) (K : Frag) (mg : Str → Option Value) (Bi ii Bn newId iF : String) (bmB bmF : List Value) (C fI cd cc : Addr) (f : Str) : Prop where
  base : ExcBaseFacts Bn newId iF bmF
  ini : Ini Bi ii
  st : StoreFacts Bi bmB "object.__setattr__" "object"
  ok : NameOk f
  q : excInitIn K C bmB newId = true
  ov : excOver K C bmB = true
  has : bmB.contains (.type Bn) = true
  noA : bmB.contains (.type "AttributeError") = false
  noN : bmB.contains (.type "NameError") = false
  hi : findIn K (.ref C) "__init__" = some (some (.ref fI))
  hf : isFn K (.ref fI) = true
  sa : findIn K (.ref C) "__setattr__" = some (some (.builtin "object.__setattr__"))
  tk : takerIn K C f = some none
  hd : hasDictIn K C = true
  sB : subIn K (.ref C) (.type Bi) = some true
  me : mroIn K C (.ref C) = some true
  kp : keepIn K (.ref C) = true
  fn : ∃ (qual msg : Str) (p1 p2 : Pos) (q : Nat → Pos) (oc doc pm ct kV : Value) (od an : Option Addr) (osl : Array (Option Value)),
    K.lookup fI = some ⟨oc, od, .func (ksFn "__init__" qual (iA f p1 p2) (iB f msg q) (iS f) .none kV doc pm an (.ref cd) ct cc), osl⟩ ∧ codeIn K (.ref cd) qual = true ∧ LineOk msg q
  code : ∃ (c : Value) (d : Option Addr) (vs : Array Value) (sl : Array (Option Value)) (file : Str) (tf : Tok), K.lookup cd = some ⟨c, d, .fields vs, sl⟩ ∧ vs[2]? = some (.str file tf) ∧ ((P.main.file : Str) == file) = true
  cell : ∃ (c : Value) (d : Option Addr) (sl : Array (Option Value)), K.lookup cc = some ⟨c, d, .cell (some (.ref C)), sl⟩
  sup : ks_superIn K C C "__init__" = some (some (.builtin ii))
  nos : nsIn K mainGlobals "super" = some none
  tp : nsIn K cStatics "thirdparty.any" = some none
  top : (P.main.scope.names.lookup ("super" : Str)).isSome = false
abbrev excD (C t : Addr) (d : Option Addr) : Obj := { cls := .ref C, dict := d, data := .fields #[.ref t, .none, .none, .none, .bool false, .none] }
/-- what an __init__ leaves of a fresh error at x -/
structure Filled (h h' : Heap) (x C d : Addr) (f : Str) (v : Value) : Prop where
  keep : ∀ b o, b ≠ x → h.get? b = some o → h'.get? b = some o
  obj : ∃ t, h'.get? x = some (excD C t (some d))
  big : h.objs.size ≤ d
  ne : d ≠ x
  ns : h'.Ns1 d (fun y => if y = f then some v else none)
section
variable {P : Program} {w : World} {A : Around} {E : Value → Shared → Prop} {R : Result → Shared → Prop} {hp : Heap} {gs : Array GenState} {dr : Drawn} {tk : Nat} {os : OsState}
variable {K : Frag} {mg mb : Str → Option Value} {Bi ii Bn newId iF : String} {bmB bmF : List Value} {C fI cd cc : Addr} {f : Str}
theorem clsObj_of {K : Frag} {D : Addr} {c : ClassData} {h : Heap} (X : K.In h) (e : clsIn K D = some c) : ∃ o, h.get? D = some o ∧ o.data = .cls c := by
  unfold clsIn at e
  split at e
  · rename_i lk
    cases e
    exact ⟨_, X _ _ lk, rfl⟩
  · cases e
/-- the super object: its class, the object, the object's class -/
theorem sup_made (T : ValT P K mg Bi ii Bn newId iF bmB bmF C fI cd cc f) {L x t0 : Addr} {u : Value} {body : List Stmt} {qual attr : Str} {p0 p1 : Pos} {whole : Sem Value} {Q : Value → Shared → Prop}
    (X : K.In hp) (hg : hp.Ns mainGlobals mg) (hb : hp.Ns builtinsNs mb) (hbb : ∀ y : Str, y ≠ "__name__" → mb y = bootBuiltins y)
    (hl : hp.Ns L (fun y => [(f, u), (("self" : Str), Value.ref x)].lookup y)) (hx : hp.get? x = some (excD C t0 none)) (hat : (attr == ("__class__" : Str)) = false)
    (hq : ∀ so h', h'.get? so = some (ks_superObj C x C) → (∀ b o, hp.get? b = some o → h'.get? b = some o) → Q (.ref so) ⟨h', gs, dr, tk, os⟩) :
    _root_.PySem.wpAt (model P w) A (.func body (ksEnv qual (iS f) L fI (.ref cd) cc)) (attributeBase (.Call (.Name "super" p0) [] [] p1) attr (ksEnv qual (iS f) L fI (.ref cd) cc) whole) Q E ⟨hp, gs, dr, tk, os⟩ := by
  obtain ⟨qu, msg, a1, a2, qs, oc, doc, pm, ct, kV, od, an, osl, lf, _, _⟩ := T.fn
  obtain ⟨c1, d1, vs, sl1, file, tf, lc, hv2, hfile⟩ := T.code
  obtain ⟨c2, d2, sl2, lcell⟩ := T.cell
  obtain ⟨cdat, hcd⟩ := Option.isSome_iff_exists.mp (show (clsIn K C).isSome = true by
    obtain ⟨c, e, _⟩ := any_some T.hd
    rw [e]; rfl)
  obtain ⟨oC, hC1, hC2⟩ := clsObj_of X hcd
  refine ks_wpAt_super_base (env := ksEnv qual (iS f) L fI (.ref cd) cc) T.ok.sup T.ok.cls hat rfl (X _ _ lf) rfl (ar := { arg := "self", annotation := none, pos := a1 }) rfl rfl (X _ _ lc) rfl hv2 hfile T.top ?_
  refine ks_loadName_global rfl T.ok.sup (loadGlobal_builtin (env := ksEnv qual (iS f) L fI (.ref cd) cc) hg (mg_none_of X hg T.nos) hb ((hbb _ (by decide +kernel)).trans (by first | boot_by_name | rfl | kernel_rfl)) ⟨rfl, ?_⟩)
  refine wpAny_loadName_free rfl T.ok.cls rfl ⟨_, X _ _ lcell, rfl⟩ ?_
  refine wpAny_loadName_local rfl T.ok.self hl (v := .ref x) ?_ ?_
  · have n1 : ((("self" : Str)) == f) = false := by simpa using T.ok.ne
    simp [List.lookup, n1]
  refine ks_wpAny_isType_cls hC1 hC2 ⟨rfl, ?_⟩
  exact ks_wpAny_call_super hC1 hC2 hx rfl (fun c e => by cases e) (looks_mroIn X T.me) fun h' e k => hq _ h' e k
/-- the bound built-in __init__, called: new arguments are laid -/
theorem bound_called (I : Ini Bi ii) {qc nmC : Str} {nsA : Addr} {bases tail : List Value} {hasD : Bool} {sns : List Str} {subs : List Value} {abst : Bool} {coll : Option Bool} {dcl : Option Addr} {s0 s1 s2 s3 s5 : Option Value}
    (hC : hp.get? C = some (excClassObj nmC qc C nsA bases tail hasD sns subs abst coll dcl s0 s1 s2 s3 s5 newId))
    {m x t0 : Addr} {more : List Value} {Q : Value → Shared → Prop} (hx : hp.get? x = some (excD C t0 none)) (hm : hp.get? m = some (kxs_mw ii x)) (hz : more.length ≤ sizeLine)
    (hq : ∀ h' t1, (∀ b o, b ≠ x → hp.get? b = some o → h'.get? b = some o) → h'.get? x = some (excD C t1 none) → Q .none ⟨h', gs, dr, tk, os⟩) :
    wpAny (model P w) A (call (.ref m) more) Q E ⟨hp, gs, dr, tk, os⟩ := by
  refine wpAny_call (codeAny_of_tree ?_)
  show wpAny _ A.in1 (callAny (.ref m) ⟨more, []⟩) _ _ _
  simp only [callAny]
  refine wpAny_bind (wpAny_load hm ?_)
  simp only [kxs_mw, show (Value.type "method-wrapper" == Value.type "method" || Value.type "method-wrapper" == Value.type "builtin_function_or_method" || Value.type "method-wrapper" == Value.type "method-wrapper") = true by decide, if_true]
  refine KFB.if_so (by decide) ?_
  have star := I.star
  refine wpAny_bind ?_
  · simp only [checkBoundCall, I.kind, I.row]
    repeat (first
      | (with_reducible refine wpAny_loadPart_at hx ?_; try dsimp only)
      | with_reducible refine wpAny_loadPart_at hC ?_
      | wp_step)
    refine wpAny_onRaise ?_
    rw [show ∀ (a b : String) (n : Nat), Bind.check ⟨.positional, "*", Bi, .self, [⟨"args", .varPos, false⟩]⟩ a b n (List.map (fun z => z.fst) ({ pos := Value.ref x :: more } : Args).kw) = pure () from
      fun _ _ _ => check_star_args _ _ _ _ _ _]
    refine wpAny_pure ?_
    refine wpAny_bind (wpAny_pure (wpAny_pure ?_))
    refine ⟨plainId_quiet I.slot.plain _, codeAny_builtin I.entry ?_⟩
    exact exc_init_tree (cls := .ref C) (t0 := t0) (dv := none) (c2 := .none) (c3 := .none) (b4 := .bool false) hx hz fun h' k e _ => hq h' _ k e
/-- self.f = v, the object's first attribute: its dict is laid -/
theorem first_store (T : ValT P K mg Bi ii Bn newId iF bmB bmF C fI cd cc f) (X : K.In hp) {x t0 : Addr} {v : Value} (hx : hp.get? x = some (excD C t0 none)) {Q : Unit → Shared → Prop}
    (hq : ∀ h' tk' d, Filled hp h' x C d f v → Q () ⟨h', gs, dr, tk', os⟩) : wpAny (model P w) A (setAttr (.ref x) f v) Q E ⟨hp, gs, dr, tk, os⟩ := by
  refine set_plain X (ox := excD C t0 none) (od := none) ⟨hx, rfl, rfl, trivial⟩ T.sa ?_
  refine osa_openX (s := ⟨hp, gs, dr, tk + 1, os⟩) (od := none) T.st X ⟨hx, rfl, rfl, trivial⟩ T.ov T.tk fun b => ?_
  obtain ⟨c, hc, hh⟩ := any_some T.hd
  have looks : Looks (model P w) hp (classData C) c := looks_clsIn X hc
  have far : x ≠ hp.objs.size := Nat.ne_of_lt (Heap.lt_size hx)
  obtain ⟨nm, bs, mro, ns, qn, hd, sn, sb, ab, col, del⟩ := c
  dsimp only at hh
  subst hh
  show wpAny _ _ (storeInOwnDict (.ref x) (.ref C) _ f v b) _ _ _
  unfold storeInOwnDict ownDictForStores
  repeat (first
    | with_reducible refine HandSPX.store_in_new ?_ ?_
    | with_reducible refine wpAny_loadPart_at hx ?_
    | with_reducible refine looks.at ?_
    | wp_step)
  · exact ⟨_, #[], _, (Heap.get?_update_ne _ _ _ _ far.symm).trans (Heap.get?_push_at rfl rfl), rfl, fun e he => absurd he (by simp), fun _ => rfl⟩
  · intro h' tk' hn sb
    have hx1 : (hp.push { cls := .type "dict", data := .dict #[] }).get? x = some (excD C t0 none) := Heap.get?_push_of_some _ hx
    refine hq h' tk' hp.objs.size ⟨fun b o hb ho => ?_, ⟨t0, ?_⟩, Nat.le_refl _, far.symm, hn⟩
    · exact (sb.2 b (Nat.ne_of_lt (Heap.lt_size ho))).trans ((Heap.get?_update_ne _ _ _ _ hb).trans (Heap.get?_push_of_some _ ho))
    · exact (sb.2 x far).trans (Heap.get?_update_self _ hx1 rfl)
/-- the whole __init__ -/
theorem init_run (T : ValT P K mg Bi ii Bn newId iF bmB bmF C fI cd cc f) {x t0 : Addr} {u : Value}
    (X : K.In hp) (hg : hp.Ns mainGlobals mg) (hb : hp.Ns builtinsNs mb) (hbb : ∀ y : Str, y ≠ "__name__" → mb y = bootBuiltins y) (hlim : hp.NoLimit) (hx : hp.get? x = some (excD C t0 none)) (hnx : K.lookup x = none) (hroom : A.depth < recursionLimit)
    (hq : ∀ h' tk' d, Filled hp h' x C d f u → R (.ok (.ret .none)) ⟨h', gs, dr, tk', os⟩) :
    codeAny (model P w) A (.call (.ref fI) ⟨[.ref x, u], []⟩) R ⟨hp, gs, dr, tk, os⟩ := by
  obtain ⟨qual, msg, a1, a2, qs, oc, doc, pm, ct, kV, od, an, osl, lf, hcd, ⟨pl, hline⟩⟩ := T.fn
  obtain ⟨nm, nsA, qn, bs, bm, hdct, sn, sub, ab, col, dd, k0, k1, k2, k3, k5, hC, hT⟩ := excInit_of X T.q
  refine ks_codeAny_call_defAt (fd := ksFn "__init__" qual (iA f a1 a2) (iB f msg qs) (iS f) .none kV doc pm an (.ref cd) ct cc) (body := iB f msg qs) (binds := [(("self" : Str), .ref x), (f, u)]) hroom (X _ _ lf) rfl hlim (codeRec_of X hcd) rfl
    (BindsTo.of_eq (T.ok.bind _ _ _ _ _ _ _ _ _ _ _ _ _ _)) ?_ ?_ (fun h1 hns1 up1 => ?_) rfl rfl rfl
  · intro z hz
    simp only [iS, List.mem_cons, List.not_mem_nil, or_false] at hz
    rcases hz with rfl | rfl | rfl | rfl <;> simp
  · intro z hz
    simp only [List.mem_cons, List.not_mem_nil, or_false] at hz
    rcases hz with rfl | rfl
    · exact T.ok.self
    · exact T.ok.own
  have X1 : K.In h1 := X.keeps up1
  have hx1 := up1 _ _ hx
  have xL : x ≠ hp.objs.size := Nat.ne_of_lt (Heap.lt_size hx)
  have frame : h1.Ns hp.objs.size (fun y => [(f, u), (("self" : Str), Value.ref x)].lookup y) := hns1
  show _root_.PySem.wpAt _ _ (.func (iB f msg qs) (ksEnv qual (iS f) hp.objs.size fI (.ref cd) cc)) (execs (iB f msg qs) (ksEnv qual (iS f) hp.objs.size fI (.ref cd) cc)) _ _ _
  refine ks_wpAt_execs_cons (ks_wpAt_Expr_any (ks_wpAt_MethodCall (pl := pl) ?_ (hline _)))
  refine sup_made T X1 (hg.keeps up1) (hb.keeps up1) hbb frame hx1 (by decide) fun so h2 hso up2 => ?_
  -- the method of the super object
  obtain ⟨c, hc, hm⟩ := Option.bind_eq_some_iff.mp (show (clsIn K C).bind (fun c => alongIn K "__init__" ((c.mro.dropWhile (· != .ref C)).drop 1)) = some (some (.builtin ii)) from T.sup)
  have X2 : K.In h2 := X1.keeps up2
  have hx2 := up2 _ _ hx1
  have I2 : InstAt h2 x (excD C t0 none) C none := ⟨hx2, rfl, rfl, trivial⟩
  refine kxs_getMethod T.ini.kx hso (looks_opaque X2 T.tp) (l₀ := c.mro) (fun A' Q' E' s' k z => wpAny_bind ((looks_clsIn X2 hc) A' _ E' s' k (wpAny_pure z))) rfl X2 hm (I2.type.andThen (looks_subIn X2 T.sB)) (ks_ne X2 I2 hc) (by decide) ?_
  -- its call with the message
  have up3 : ∀ b o, h2.get? b = some o → (h2.push (kxs_mw ii x)).get? b = some o := fun b o e => Heap.get?_push_of_some _ e
  have hm3 : (h2.push (kxs_mw ii x)).get? h2.objs.size = some (kxs_mw ii x) := Heap.get?_push_at rfl rfl
  show wpAny _ _ (callWith (qs 4) (.ref h2.objs.size) [] (backTo (qs 4) (starEach [.Constant (.str msg) 0 (qs 3)] (ksEnv qual (iS f) hp.objs.size fI (.ref cd) cc))) []) _ _ _
  refine kxs_callWith (i := ii) (x := x) rfl (evalArgs_plain (spliced_cons (Calls.Constant_str (k := 0) (pos := qs 3) (spliced_nil ⟨hm3, ?_⟩))))
  have kU : ∀ {b : Addr} {o : Obj}, hp.get? b = some o → h2.get? b = some o := fun {b o} e => up2 _ _ (up1 _ _ e)
  refine bound_called T.ini (up3 _ _ (kU hC)) (up3 _ _ hx2) hm3 (by rw [sizeLine_eq]; exact (by decide : 1 ≤ 16777216)) fun h4 t1 k4 hx4 => ?_
  -- self.f = f
  refine ks_wpAt_execs_cons (ks_wpAt_Assign_Attr ?_ (by first | rfl | with_unfolding_all rfl))
  have X4 : K.In h4 := fun b o e => k4 b o (fun z => by rw [z, hnx] at e; cases e) (up3 _ _ (X2 b o e))
  obtain ⟨oL, es, ep, hL, rL⟩ := frame
  have frame4 : h4.Ns hp.objs.size (fun y => [(f, u), (("self" : Str), Value.ref x)].lookup y) := ⟨oL, es, ep, k4 _ _ xL.symm (up3 _ _ (up2 _ _ hL)), rL⟩
  have more : hp.objs.size < h4.objs.size := Heap.lt_size (k4 _ _ xL.symm (up3 _ _ (up2 _ _ hL)))
  refine _root_.PySem.wpAt_of_wpAny (wpAny_Name (wpAny_loadName_local rfl T.ok.own frame4 (v := u) ?_ ?_) T.ok.dbg)
  · simp [List.lookup]
  refine wpAny_Name (wpAny_loadName_local rfl T.ok.self frame4 (v := .ref x) ?_ ?_) (by decide)
  · have n1 : (("self" : Str) == f) = false := by simpa using T.ok.ne
    simp [List.lookup, n1]
  refine first_store T X4 hx4 fun h5 tk5 d S => ?_
  refine _root_.PySem.wpAt_of_wpAny (wpAny_execs_nil (hq h5 tk5 d ⟨fun b o hb e => S.keep b o hb (k4 b o hb (up3 _ _ (kU e))), S.obj, Nat.le_of_lt (Nat.lt_of_lt_of_le more S.big), S.ne, S.ns⟩))
/-- a made error -/
structure MadeV (h h' : Heap) (C e d : Addr) (f : Str) (v : Value) : Prop where
  keep : ∀ b o, h.get? b = some o → h'.get? b = some o
  new : h.objs.size ≤ e
  obj : ∃ t, h'.get? e = some (excD C t (some d))
  dnew : h.objs.size ≤ d
  ne : d ≠ e
  ns : h'.Ns1 d (fun y => if y = f then some v else none)
/-- C(v) -/
theorem val_made (T : ValT P K mg Bi ii Bn newId iF bmB bmF C fI cd cc f) {u : Value} {Q : Value → Shared → Prop}
    (X : K.In hp) (hg : hp.Ns mainGlobals mg) (hb : hp.Ns builtinsNs mb) (hbb : ∀ y : Str, y ≠ "__name__" → mb y = bootBuiltins y) (hlim : hp.NoLimit) (hroom : A.depth + 1 < recursionLimit)
    (hq : ∀ h' tk' e d, MadeV hp h' C e d f u → Q (.ref e) ⟨h', gs, dr, tk', os⟩) : wpAny (model P w) A (call (.ref C) [u]) Q E ⟨hp, gs, dr, tk, os⟩ := by
  obtain ⟨nm, nsA, qn, bs, bm, hdct, sn, sub, ab, col, dd, k0, k1, k2, k3, k5, hC, hT⟩ := excInit_of X T.q
  have tail : Tail bm Bn := ⟨by rw [hT]; exact T.has, by rw [hT]; exact T.noA, by rw [hT]; exact T.noN⟩
  obtain ⟨oI, hoI, hcI⟩ : ∃ o, hp.get? fI = some o ∧ o.cls = .type "function" := by
    obtain ⟨o, ho, hc⟩ := Option.map_eq_some_iff.mp (show (K.lookup fI).map (·.cls) = some (.type "function") from beq_iff_eq.mp T.hf)
    exact ⟨o, X _ _ ho, hc⟩
  refine wpAny_call (call_done T.base tail hC (by rw [sizeLine_eq]; exact (by decide : 1 ≤ 16777216)) (looks_findIn X T.hi) (fun me => exc_bind hoI hcI me) ?_)
  have up : ∀ b o, hp.get? b = some o → ((hp.push (kdv_tup [u])).push (HandSPX.excO C hp.objs.size)).get? b = some o := fun b o e => Heap.get?_push_of_some _ (Heap.get?_push_of_some _ e)
  have hx : ((hp.push (kdv_tup [u])).push (HandSPX.excO C hp.objs.size)).get? (hp.objs.size + 1) = some (excD C hp.objs.size none) := by heap_get
  have far : hp.get? (hp.objs.size + 1) = none := by
    cases e : hp.get? (hp.objs.size + 1) with
    | none => rfl
    | some o => exact absurd (Nat.lt_of_succ_lt (Heap.lt_size e)) (Nat.lt_irrefl _)
  have hnx : K.lookup (hp.objs.size + 1) = none := by
    cases e : K.lookup (hp.objs.size + 1) with
    | none => rfl
    | some o =>
      have z := X _ _ e
      rw [far] at z
      cases z
  refine init_run T (X.keeps up) (hg.keeps up) (hb.keeps up) hbb (hlim.keeps up) hx hnx ?_ fun h' tk' d S => ?_
  · show A.depth + 1 < recursionLimit
    exact hroom
  · refine ⟨rfl, hq h' tk' _ d ⟨fun b o e => S.keep b o (fun z => by rw [z, far] at e; cases e) (up b o e), Nat.le_succ _, S.obj, ?_, S.ne, S.ns⟩⟩
    have z := S.big
    rw [Heap.size_push, Heap.size_push] at z
    exact Nat.le_trans (Nat.le_trans (Nat.le_succ _) (Nat.le_succ _)) z
end
end Q0

/-! ### 4. The same as rules of the hand layer -/
namespace Q0
open PySem PySem.Spec PyProof.Rows L2
section
variable {X : Cx} {pins : List (Addr × Obj)} {σ : L2.St} {H : Hp} {s : Shared}
/-- two new objects at once -/
theorem two_laid {h' : Heap} {a d : Addr} {o u : HO} {t' : Nat} (I : Inv X pins σ H s) (k : ∀ b z, s.heap.get? b = some z → h'.get? b = some z) (ha : s.heap.objs.size ≤ a) (hd : s.heap.objs.size ≤ d) (ne : d ≠ a)
    (na : ObjOk X.prog X.w (upd (upd H d u) a o) h' a o) (nd : ObjOk X.prog X.w (upd (upd H d u) a o) h' d u) : Inv X pins σ (upd (upd H d u) a o) { s with heap := h', toks := t' } := by
  have fa : H a = none := I.hok.fresh ha
  have fd : H d = none := I.hok.fresh hd
  have old : ∀ {b : Addr} {z : HO}, H b = some z → (upd (upd H d u) a o) b = some z := fun {b z} e => by
    rw [upd_ne (ne_of_none e fa), upd_ne (ne_of_none e fd)]
    exact e
  refine I.un (t' := t') { keep := fun b z q _ _ _ => k b z q, slot := fun b z q _ _ _ => ⟨z.slots, k b z q⟩, free := fun b z q n _ => ?_, there := fun b z q _ => ⟨z, k b z q⟩, tups := fun b xs q => old q, frzs := fun b z v q => old q, tbls := fun b ps q => ⟨#[], by rw [old q]; simp⟩ } fun b z q => ?_
  · rw [upd_ne (Nat.ne_of_lt (Nat.lt_of_lt_of_le (Heap.lt_size q) ha)), upd_ne (Nat.ne_of_lt (Nat.lt_of_lt_of_le (Heap.lt_size q) hd))]
    exact n
  · by_cases e1 : b = a
    · subst e1
      rw [upd_same] at q
      cases q
      exact na
    · rw [upd_ne e1] at q
      by_cases e2 : b = d
      · subst e2
        rw [upd_same] at q
        cases q
        exact nd
      · rw [upd_ne e2] at q
        exact (I.hok b z q).stay (fun c v _ y => k c v y) (fun c y => old y) fun c xs y => old y
/-- C(e), C an own error class whose __init__ calls super().__init__ and keeps its argument as f: the error at a, its dict at d -/
theorem pe_val {Bi ii Bn newId iF : String} {bmB bmF : List Value} {C fI cd cc : Addr} {f x : Str} {e : Expr} {te : TE} {p pos : Pos} {k : Nat} (T : ValT X.prog X.K X.mg Bi ii Bn newId iF bmB bmF C fI cd cc f) (gC : X.mg x = some (.ref C)) (hr : Room k X.A) (hg : Gl X x)
    (he : PE X e te) (hs : starEach [e] X.env = (false, eval e X.env) :: starEach [] X.env := by rfl) (hdb : (x == ("__debug__" : Str)) = false := by decide) :
    PE X (.Call (.Name x p) [e] [] pos) (fun σ H Q => te σ H fun v H1 => ∀ a d, H1 a = none → H1 d = none → d ≠ a → Q (.ref a) (upd (upd H1 d (exd d [(f, v)])) a (exo a C (some d)))) := by
  refine ⟨fun pins s σ H Q I h => wpAny_Call_Name_kw (ld_glob I hg gC ?_ hdb)⟩
  refine PySem.W.callWith_K (h₀ := X.base) I.ok.mod.kin T.kp ?_ hs (by rfl)
  rw [hs]
  show wpAny _ _ (spliced ((false, eval e X.env) :: backTo pos (starEach [] X.env))) _ _ s
  refine Calls.spliced_cons (thn (he.run pins s σ H _ I h) fun u s1 ⟨v, H1, J, rv, q⟩ => Calls.spliced_nil ⟨J.kIn, ?_⟩)
  show wpAny _ _ (call (.ref C) [u]) _ _ _
  have lim := J.nolimit
  obtain ⟨mb, hb, hbb⟩ := J.mod.blt
  have gl := J.mod.glob.keeps J.bk
  have bl := hb.keeps J.bk
  have room : X.A.depth + 1 < recursionLimit := by
    have z := hr.dp
    omega
  obtain ⟨hp, gs, dr, tk, os⟩ := s1
  refine val_made T J.kIn gl bl hbb lim room fun h' tk' a d M => ?_
  obtain ⟨t, hob⟩ := M.obj
  refine ⟨.ref a, _, two_laid J M.keep M.new M.dnew M.ne (exo_ok hob) (exd_ok M.ns fun g => ?_), rfl, q a d (J.hok.fresh M.new) (J.hok.fresh M.dnew) M.ne⟩
  exact relO_put (fs := []) (mA := fun _ => none) rv (fun _ => True.intro) g
/-- what isinstance asks of an error's class -/
structure IsC (K : PySem.W.Frag) (C : Addr) : Prop where
  hd : PySem.W.hasDictIn K C = true
  ga : PySem.W.findIn K (.ref C) "__getattribute__" = some (some (.builtin "BaseException.__getattribute__"))
  gt : PySem.W.findIn K (.ref C) "__getattr__" = some none
  sB : PySem.W.subIn K (.ref C) (.type "BaseException") = some true
  ca : PySem.W.findIn K (.ref C) "__class__" = some (some (.builtin "object.__class__"))
  cg : PySem.W.specialIn K (.builtin "object.__class__") "__get__" = some (some (.builtin "getset_descriptor.__get__"))
  tk : PySem.W.takesIn K (.builtin "object.__class__") = some true
  mo : PySem.W.mroIn K C (.type "object") = some true
/-- an error of the class at C stands at a -/
def ErrAt (H : Hp) (a C : Addr) : Prop := H a = some (ExO (.ref C) a) ∨ ∃ d fs, H a = some (exo a C (some d)) ∧ H d = some (exd d fs)
theorem errAt_inst {a C : Addr} (I : Inv X pins σ H s) (h : ErrAt H a C) : ∃ oe od, PySem.W.InstAt s.heap a oe C od := by
  rcases h with h | ⟨d, fs, h1, h2⟩
  · obtain ⟨⟨oe, vs, g, ⟨z1, z2⟩, dt, _⟩, _, _⟩ := I.hok a _ h
    refine ⟨oe, none, g, z1, ?_, ?_⟩
    · unfold PySem.W.notCls
      rw [dt] <;> rfl
    · rw [z2]
      trivial
  · obtain ⟨t, g⟩ := exo_at I.hok h1
    obtain ⟨mA, ⟨od, _, _, g2, _⟩, _⟩ := exd_at I.hok h2
    exact ⟨_, some od, g, rfl, rfl, g2⟩
theorem call_isX : CallR X (.builtin "isinstance") (fun xs H Q => ∃ (a C : Addr) (c : V) (cv : Value) (b : Bool), xs = [.ref a, c] ∧ ErrAt H a C ∧ IsC X.K C ∧ (∀ u, RelV c u → u = cv) ∧ PySem.W.kitOne X.K (.ref C) cv = some b ∧ Q (.bl b) H) := by
  intro pins s σ H xs us Q I r h
  obtain ⟨a, C, c, cv, b, rfl, he, T, hc, hk, q⟩ := h
  obtain ⟨u1, u2, rfl, r1, r2⟩ := vals2 r
  cases (show u1 = Value.ref a from r1)
  have e2 := hc _ r2
  subst e2
  obtain ⟨oe, od, J⟩ := errAt_inst I he
  have isC : (PySem.W.clsIn X.K C).isSome = true := by
    obtain ⟨cd, e, _⟩ := PySem.W.any_some T.hd
    rw [e]; rfl
  exact PySem.W.kia_one (PySem.W.kitx_exc isC T.ga T.gt T.sB T.ca T.cg T.tk T.mo) I.kIn J hk (fun z => nomatch z) fun tk => ⟨.bl b, H, I.tok tk, rfl, q⟩
/-- a.f of such an error -/
theorem pe_exf {e : Expr} {te : TE} {f : Str} {pos : Pos} (he : PE X e te) (hbse : attributeBase e f X.env (eval e X.env) = eval e X.env := by rfl) :
    PE X (.Attribute e f pos) (fun σ H Q => te σ H fun x H1 => ∃ (a C d : Addr) (v : V), x = .ref a ∧ H1 a = some (exo a C (some d)) ∧ H1 d = some (exd d [(f, v)]) ∧ IsC X.K C ∧ PySem.W.findIn X.K (.ref C) f = some none ∧ Q v H1) := by
  refine ⟨fun pins s σ H Q I h => attr_of hbse (thn (he.run pins s σ H _ I h) fun u s1 hh => ?_)⟩
  obtain ⟨x, H1, J, rx, a, C, d, v, rfl, h1, h2, T, hn, q⟩ := hh
  cases (show u = Value.ref a from rx)
  obtain ⟨t, g⟩ := exo_at J.hok h1
  obtain ⟨mA, hns, rel⟩ := exd_at J.hok h2
  obtain ⟨od, ho, hl⟩ := lookIn_ns hns
  have lk : List.lookup f [(f, v)] = some v := by simp [List.lookup]
  obtain ⟨w', hw, rw'⟩ := RelO.some_of (v := v) (o := mA f) (by rw [← lk]; exact rel f)
  have N : PySem.W.InstAt s1.heap a _ C (some od) := ⟨g, rfl, rfl, ho⟩
  exact HandSPX.exc_get J.kIn N T.ga T.gt T.sB (PySem.W.findObj_own T.hd hn rfl (by rw [hl, hw])) (handed_of rw') ⟨v, H1, J.tok _, rw', q⟩
/-- repr of a list or a tuple of plain data, where no repr is under way -/
theorem call_reprD (hgd : X.A.guards = some []) (hu : X.A.units + 64 < cLine) : CallR X (.builtin "repr") (fun xs H Q => ∃ (a : Addr) (dat : PyData), xs = [.ref a] ∧ Dp X.K H (.ref a) dat ∧ dat.showable = true ∧ dat.hasDict = false ∧ dat.depth + 1 ≤ 64 ∧ dat.shown.length ≤ sizeLine ∧ Q (.str dat.shown) H) := by
  intro pins s σ H xs us Q I r h
  obtain ⟨a, dat, rfl, hd, hs, hn, hdp, hz, q⟩ := h
  obtain ⟨u, rfl, r1⟩ := vals1 r
  cases (show u = Value.ref a from r1)
  obtain ⟨as, rd⟩ := Dp.reads I dat (.ref a) (.ref a) hd rfl
  refine repr_of_reads' rd hs (fun z => by rw [hn] at z; cases z) hgd (by omega) (fun _ _ e => e) (fun h' tk t' k => ⟨.str dat.shown, H, ?_, ⟨_, rfl⟩, q⟩) hz
  exact I.kept k
end
end Q0

/-! raise C(e), C an own error class whose __init__ says super().__init__('..') and keeps its argument -/
namespace QN
open PySem PySem.Spec PyProof.Rows L2 Q0
section
variable {X : Cx}
theorem pmk_val {Bi ii Bn newId iF : String} {bmB bmF : List Value} {C fI cd cc : Addr} {f x : Str} {e : Expr} {te : TE} {p pos : Pos} {k : Nat} (T : ValT X.prog X.K X.mg Bi ii Bn newId iF bmB bmF C fI cd cc f) (gC : X.mg x = some (.ref C)) (hr : Room k X.A) (hg : Gl X x) (r : Raises X (.ref C))
    (he : PE X e te) (hs : starEach [e] X.env = (false, eval e X.env) :: starEach [] X.env := by rfl) (hdb : (x == ("__debug__" : Str)) = false := by decide) :
    PMk X (.Call (.Name x p) [e] [] pos) (fun σ H Q => te σ H fun v H1 => ∀ d, H1 d = none → Q (.ref C) (some d) (upd H1 d (.xd [(f, v)]))) := by
  intro pins s σ H Q I h
  refine wpAny_Call_Name_kw (ld_glob I hg gC ?_ hdb)
  refine PySem.W.callWith_K (h₀ := X.base) I.ok.mod.kin T.kp ?_ hs (by rfl)
  rw [hs]
  show wpAny _ _ (spliced ((false, eval e X.env) :: backTo pos (starEach [] X.env))) _ _ s
  refine Calls.spliced_cons (thn (he.run pins s σ H _ I h) fun u s1 ⟨v, H1, J, rv, q⟩ => Calls.spliced_nil ⟨J.kIn, ?_⟩)
  show wpAny _ _ (call (.ref C) [u]) _ _ _
  have lim := J.nolimit
  obtain ⟨mb, hb, hbb⟩ := J.mod.blt
  have gl := J.mod.glob.keeps J.bk
  have bl := hb.keeps J.bk
  have room : X.A.depth + 1 < recursionLimit := by
    have z := hr.dp
    omega
  obtain ⟨hp, gs, dr, tk, os⟩ := s1
  refine val_made T J.kIn gl bl hbb lim room fun h' tk' a d M => ?_
  obtain ⟨t, hob⟩ := M.obj
  obtain ⟨G, g1', g2'⟩ := restrict h' fun b => decide (b ≠ a)
  have gk : ∀ b, b ≠ a → G.get? b = h'.get? b := fun b hb => g1' b (decide_eq_true hb)
  have ge : G.get? a = none := g2' a (by simp)
  have na := J.hok.fresh M.new
  have nd := J.hok.fresh M.dnew
  have J2 : Inv X pins σ (upd H1 d (.xd [(f, v)])) ⟨G, gs, dr, tk', os⟩ := by
    refine J.laid (a := d) (o := .xd [(f, v)]) (t' := tk') (h' := G) (fun b o z => ?_) M.dnew ?_
    · rw [gk b (Nat.ne_of_lt (Nat.lt_of_lt_of_le (Heap.lt_size z) M.new))]
      exact M.keep b o z
    · show ∃ mA, G.Ns1 d mA ∧ _
      exact ⟨_, M.ns.at (fun o z => by rw [gk d M.ne]; exact z), fun g => relO_put (fs := []) (mA := fun _ => none) rv (fun _ => True.intro) g⟩
  refine ⟨a, _, _, ⟨G, gs, dr, tk', os⟩, _, _, some d, rfl, J2, fun b o z => ?_, ge, hob, ⟨rfl, rfl⟩, rfl, rfl, by rw [upd_ne M.ne.symm]; exact na, rfl, J2.bare, r, q d nd⟩
  by_cases c : b = a
  · rw [c, ge] at z
    cases z
  · rw [← gk b c]
    exact z
end
end QN

/-! what a call is told to end in -/
namespace Qp
open PySem PySem.Spec PyProof.Rows L2 QN
abbrev sTold : Stmt := top 35 -- _law_told
abbrev toNames : List Str := ["_law_call", "error"]
theorem scTold : FnScope toNames ["_law_call"] (defScope sTold) := ⟨rfl, rfl, rfl, by decide +kernel, rfl, by decide +kernel, by decide +kernel⟩
/-- what _law_told makes of a lambda's reading -/
def TTold (K : PySem.W.Frag) (CO CN : Addr) : (XK → Hp → VK → Prop) → Hp → VK → Prop := fun tl H Q =>
  tl (fun cls d H' => (cls = .ref CO ∧ Q (.str "operation") H') ∨ (cls = .ref CN ∧ ∃ (dd : Addr) (v : V) (z : Str), d = some dd ∧ H' dd = some (.xd [("value", v)]) ∧ Shown K H' v z ∧ z.length ≤ 1000 ∧ Q (.str (Str.ofString "number " ++ z)) H')) H (fun _ H' => Q (.str "returned") H')
/-- the classes of errors among one another -/
structure ErrC (K : PySem.W.Frag) (mg : Str → Option Value) (CO CN : Addr) : Prop where
  mO : mg "InvalidOperation" = some (.ref CO)
  mN : mg "InvalidNumber" = some (.ref CN)
  eO : PySem.W.exmOne K (.ref CO) (.ref CO) = some true
  eN : PySem.W.exmOne K (.ref CN) (.ref CO) = some false
  eNN : PySem.W.exmOne K (.ref CN) (.ref CN) = some true
  xf : XfC K CN
  nv : PySem.W.findIn K (.ref CN) "value" = some none
  rp : mg "repr" = none
theorem told_gives {X : Cx} {g CO CN : Addr} {cdg : Value} {q : Str} (C : ErrC X.K X.mg CO CN) (hng : NoRepr X.A) (hu : X.A.units + 100 < cLine) : LamX.GivesTo X toNames "_law_told" (defScope sTold) g cdg (defBody sTold) "_law_call" q (TTold X.K CO CN) := by
  intro f c' s H Q tl act hc h
  refine ⟨_, pss_one (ps_try_frontA (X := (cxOf C8.CX0 X.prog X.w X.K X.mg X.base toNames "_law_told" (defScope sTold) g cdg X.A X.stack s H C8.E0).nox)
      (l := [(.ref CO, none, fun _ _ _ => tRet (tC (.str "operation"))), (.ref CN, some 1, fun a cls d => tRet (tOp (fun x y H Q => ∃ i j, x = .str i ∧ y = .str j ∧ i.length + j.length ≤ sizeLine ∧ Q (.str (i ++ j)) H) (tC (.str "number "))
        (tCB (fun xs H Q => ∃ (v : V) (z : Str), xs = [v] ∧ Shown X.K H v z ∧ Q (.str z) H) (tCons (tXf a cls d CN "value" (tVar 1)) tNil))))])
      (tb := fun W D σ H => ∃ Ech : XK, (∀ cls d σ' H', Ech cls d H' → W cls d σ' H') ∧ σ[0]? = some (some (.ref f)) ∧ H c' = some (LamX.CodeO c' q) ∧ tl Ech H (fun _ H' => D.rt (.str "returned") H'))
      scTold.nd rfl rfl (fun W pn xe tk _ => ?_) (.more ⟨by rfl, by decide, .inl C.mO⟩ (fun a oe cls d pn _ _ => pss_one (ps_ret pe_str))
        (.moreAs ⟨by rfl, by decide, .inl C.mN⟩ rfl (by rfl) (fun a oe cls d pn hz hf => pss_one (ps_ret (pe_op op_add_str pe_str (pe_callB (call_reprV ?_ ?_) (by rfl) C.rp (by decide +kernel) (pa_cons (pe_xf C.xf C.nv hz hf (pv 1)) pa_nil))))) .stop))), ?_⟩
  · refine ⟨fun pins s' σ H' D I h' => ?_⟩
    obtain ⟨Ech, hW, h1, h2, h3⟩ := h'
    exact (pss_cons (ps_expr (act W pn xe Ech _ _ tk hW)) (pss_one (ps_ret pe_str))).run pins s' σ H' D I ⟨h1, h2, h3⟩
  · exact noRepr_deeper (A := X.A) (e := envOfC "_law_told" (defScope sTold) s.heap.objs.size g cdg) hng
  · show X.A.units + 3 + 80 < cLine
    omega
  · refine ⟨fun cls d H' => (cls = .ref CO ∧ Q (.str "operation") H') ∨ (cls = .ref CN ∧ ∃ (dd : Addr) (v : V) (z : Str), d = some dd ∧ H' dd = some (.xd [("value", v)]) ∧ Shown X.K H' v z ∧ z.length ≤ 1000 ∧ Q (.str (Str.ofString "number " ++ z)) H'), fun cls d σ' H' e => ?_, rfl, hc, h⟩
    rcases e with ⟨rfl, e2⟩ | ⟨rfl, dd, v, z, rfl, e1, e2, e3, e4⟩
    · exact ⟨true, C.eO, (fun _ _ a _ => e2), (fun z => by cases z)⟩
    · refine ⟨false, C.eN, (fun z => by cases z), fun _ => ⟨true, C.eNN, (fun _ hl a na => ?_), (fun z => by cases z)⟩⟩
      refine ⟨.ref a, slot_set (by rw [hl]; show 1 < 2; decide), rfl, rfl, dd, _, v, rfl, e1, rfl, v, z, rfl, e2, _, z, rfl, rfl, ?_, e4⟩
      rw [sizeLine_eq]
      have : (Str.ofString "number ").length = 7 := by decide +kernel
      omega
end Qp

/-! what is refused -/
namespace Qp
open PySem PySem.Spec PyProof.Rows L2 QN Q0
/-- the class InvalidOperation -/
structure OpC (K : PySem.W.Frag) (mg : Str → Option Value) (CO : Addr) : Prop where
  g : mg "InvalidOperation" = some (.ref CO)
  x : PySem.W.excIn K CO [.type "ValueError", .type "Exception", .type "BaseException", .type "object"] "ValueError.__new__" = true
  k : PySem.W.keepIn K (.ref CO) = true
  b : PySem.W.subIn K (.ref CO) (.type "BaseException") = some true
  t : PySem.W.typeIn K (.ref CO) = some (.type "type")
abbrev ixBases : List Value := [.type "IndexError", .type "LookupError", .type "Exception", .type "BaseException", .type "object"]
/-- the class InvalidNumber -/
structure NuC (P : Program) (K : PySem.W.Frag) (mg : Str → Option Value) (CN : Addr) : Prop where
  g : mg "InvalidNumber" = some (.ref CN)
  v : ∃ fI cd cc, ValT P K mg "IndexError" "IndexError.__init__" "IndexError" "IndexError.__new__" "IndexError.__init__" ixBases ixBases CN fI cd cc "value"
  b : PySem.W.subIn K (.ref CN) (.type "BaseException") = some true
  t : PySem.W.typeIn K (.ref CN) = some (.type "type")
/-- no coefficient, and no polynomial -/
def BadV (K : PySem.W.Frag) (C : Addr) (H : Hp) (v : V) : Prop := NumV K H v false ∧ ∃ t, TyX K H v t ∧ PySem.W.kitOne K t (.ref C) = some false
def spFacR (K : PySem.W.Frag) (C CO : Addr) : Sp := fun vs H Q E => ∃ v, vs = [v] ∧ BadV K C H v ∧ ∀ H', Same H H' → E (.ref CO) none H'
def spBinR (K : PySem.W.Frag) (C CO : Addr) : Sp := fun vs H Q E => ∃ (p : Addr) (v : V) (ns : List Int), vs = [.ref p, v] ∧ PolyAt K C H p ns ∧ BadV K C H v ∧ ∀ H', Same H H' → E (.ref CO) none H'
def spAtR (K : PySem.W.Frag) (C CO : Addr) : Sp := fun vs H Q E => ∃ (p : Addr) (v : V), vs = [.ref p, v] ∧ (∃ t, TyX K H v t ∧ PySem.W.kitOne K t (.ref C) = some false) ∧ ∀ H', Same H H' → E (.ref CO) none H'
def spChkR (K : PySem.W.Frag) (CN : Addr) : Sp := fun vs H Q E => ∃ v, vs = [v] ∧ NumV K H v false ∧ ∀ H' dd, Same H H' → H' dd = some (.xd [("value", v)]) → E (.ref CN) (some dd) H'
def spNumR (K : PySem.W.Frag) (CN : Addr) : Sp := fun vs H Q E => ∃ (p : Addr) (v : V), vs = [.ref p, v] ∧ NumV K H v false ∧ ∀ H' dd, Same H H' → H' dd = some (.xd [("value", v)]) → E (.ref CN) (some dd) H'
def spPowR (CO : Addr) : Sp := fun vs H Q E => ∃ (p : Addr) (e : Int), vs = [.ref p, .int e] ∧ 20 < e ∧ ∀ H', Same H H' → E (.ref CO) none H'
theorem passE {P : Program} {w : World} {K : PySem.W.Frag} {mg : Str → Option Value} {base : Heap} {N : List Str} {q : Str} {sc : Scope} {f : Addr} {cdv : Value} {A : Around} {outer : List Env} {s : Shared} {H : Hp} {E : XK} :
    Passes (L2.CX P w) (cxOf (L2.CX P w) P w K mg base N q sc f cdv A outer s H E) E := passes_call (X := cxOf (L2.CX P w) P w K mg base N q sc f cdv A outer s H E) (takes_of rfl rfl rfl rfl) (fun _ _ _ _ h => h)
section
variable {P : Program} {w : World} {K : PySem.W.Frag} {mg : Str → Option Value} {base : Heap}
theorem ok_facR {f fN C CO : Addr} {fd fdN : FuncData} (F : Fun K "_factor" "_factor" sFac f fd) (T : PolyC K mg C) (B : BltP mg) (O : OpC K mg CO)
    (GN : FnOk P w K mg base CX0 2 fN fdN ["value"] (spIsN K)) (kN : PySem.W.keepIn K (.ref fN) = true) (bN : L2.Binds K fdN ["value"] []) (gN : mg "is_natural" = some (.ref fN)) :
    FnOk P w K mg base (L2.CX P w) 3 f fd ["value"] (spFacR K C CO) := by
  refine F.okX scFac (fun vs H Q E h => ?_) (fun cdv A outer s H vs Q E hr h => ?_)
  · obtain ⟨v, rfl, _⟩ := h
    rfl
  · obtain ⟨v, rfl, ⟨nv, t, ty, kt⟩, k⟩ := h
    refine ⟨_, pss_cons (ps_if (pt_val (pe_callB call_isi (by rfl) B.isi (by decide +kernel) (pa_cons (pv 0) (pa_cons (pe_glob (v := .ref C) (by rfl) T.gC rfl) pa_nil)))) (pss_one ps_never) pss_nil)
      (pss_cons (ps_if (pt_not (pt_val (pe_call GN hr (by rfl) gN kN bN .nil pass0 (pa_cons (pv 0) pa_nil)))) (pss_one (ps_raise rfl (takes_of rfl rfl rfl rfl) (pmk_own PySem.F.excBase_ValueError O.x O.g O.k (raises_own O.b O.t) rfl))) pss_nil)
      (pss_one ps_never)), ?_⟩
    refine ⟨_, rfl, _, _, _, _, false, rfl, .own C, ty, kt, _, rfl, if_no (by decide) ?_⟩
    exact ⟨_, rfl, _, false, rfl, nv, _, rfl, if_yes rfl (k H (Same.refl H))⟩
theorem ok_addR {f fS fF C CO : Addr} {fd fdS fdF : FuncData} (F : Fun K "__add__" "Polynomial.__add__" sAdd f fd) (T : PolyC K mg C)
    (GS : FnOk P w K mg base CX0 1 fS fdS ["one", "two"] (spSums K)) (kS : PySem.W.keepIn K (.ref fS) = true) (bS : L2.Binds K fdS ["one", "two"] []) (gS : mg "_sums" = some (.ref fS))
    (GF : FnOk P w K mg base (L2.CX P w) 3 fF fdF ["value"] (spFacR K C CO)) (kF : PySem.W.keepIn K (.ref fF) = true) (bF : L2.Binds K fdF ["value"] []) (gF : mg "_factor" = some (.ref fF)) :
    FnOk P w K mg base (L2.CX P w) 4 f fd ["self", "other"] (spBinR K C CO) := by
  refine F.okX scAdd (fun vs H Q E h => ?_) (fun cdv A outer s H vs Q E hr h => ?_)
  · obtain ⟨p, v, ns, rfl, _⟩ := h
    rfl
  · obtain ⟨p, v, ns, rfl, ⟨dx, t, hp, ht⟩, bad, k⟩ := h
    refine ⟨_, pss_cons (ps_set (i := 2) scAdd.nd rfl (.inl rfl) (pe_call GS (hr.mono (by decide)) (by rfl) gS kS bS .nil pass0 (pa_cons (pe_fld (pv 0) rfl) (pa_cons (pe_call GF hr (by rfl) gF kF bF .nil passE (pa_cons (pv 1) pa_nil)) pa_nil)))) (pss_one ps_never), ?_⟩
    exact ⟨_, rfl, p, C, dx, _, _, rfl, hp, T.cls, T.noF, rfl, _, rfl, v, rfl, bad, k⟩
theorem ok_raddR {f fS fF C CO : Addr} {fd fdS fdF : FuncData} (F : Fun K "__radd__" "Polynomial.__radd__" sRadd f fd) (T : PolyC K mg C)
    (GS : FnOk P w K mg base CX0 1 fS fdS ["one", "two"] (spSums K)) (kS : PySem.W.keepIn K (.ref fS) = true) (bS : L2.Binds K fdS ["one", "two"] []) (gS : mg "_sums" = some (.ref fS))
    (GF : FnOk P w K mg base (L2.CX P w) 3 fF fdF ["value"] (spFacR K C CO)) (kF : PySem.W.keepIn K (.ref fF) = true) (bF : L2.Binds K fdF ["value"] []) (gF : mg "_factor" = some (.ref fF)) :
    FnOk P w K mg base (L2.CX P w) 4 f fd ["self", "other"] (spBinR K C CO) := by
  refine F.okX scRadd (fun vs H Q E h => ?_) (fun cdv A outer s H vs Q E hr h => ?_)
  · obtain ⟨p, v, ns, rfl, _⟩ := h
    rfl
  · obtain ⟨p, v, ns, rfl, ⟨dx, t, hp, ht⟩, bad, k⟩ := h
    refine ⟨_, pss_cons (ps_set (i := 2) scRadd.nd rfl (.inl rfl) (pe_call GS (hr.mono (by decide)) (by rfl) gS kS bS .nil pass0 (pa_cons (pe_fld (pv 0) rfl) (pa_cons (pe_call GF hr (by rfl) gF kF bF .nil passE (pa_cons (pv 1) pa_nil)) pa_nil)))) (pss_one ps_never), ?_⟩
    exact ⟨_, rfl, p, C, dx, _, _, rfl, hp, T.cls, T.noF, rfl, _, rfl, v, rfl, bad, k⟩
theorem ok_mulR {f fS fF C CO : Addr} {fd fdS fdF : FuncData} (F : Fun K "__mul__" "Polynomial.__mul__" sMul f fd) (T : PolyC K mg C)
    (GS : FnOk P w K mg base CX0 1 fS fdS ["one", "two"] (spProds K)) (kS : PySem.W.keepIn K (.ref fS) = true) (bS : L2.Binds K fdS ["one", "two"] []) (gS : mg "_products" = some (.ref fS))
    (GF : FnOk P w K mg base (L2.CX P w) 3 fF fdF ["value"] (spFacR K C CO)) (kF : PySem.W.keepIn K (.ref fF) = true) (bF : L2.Binds K fdF ["value"] []) (gF : mg "_factor" = some (.ref fF)) :
    FnOk P w K mg base (L2.CX P w) 4 f fd ["self", "other"] (spBinR K C CO) := by
  refine F.okX scMul (fun vs H Q E h => ?_) (fun cdv A outer s H vs Q E hr h => ?_)
  · obtain ⟨p, v, ns, rfl, _⟩ := h
    rfl
  · obtain ⟨p, v, ns, rfl, ⟨dx, t, hp, ht⟩, bad, k⟩ := h
    refine ⟨_, pss_cons (ps_set (i := 2) scMul.nd rfl (.inl rfl) (pe_call GS (hr.mono (by decide)) (by rfl) gS kS bS .nil pass0 (pa_cons (pe_fld (pv 0) rfl) (pa_cons (pe_call GF hr (by rfl) gF kF bF .nil passE (pa_cons (pv 1) pa_nil)) pa_nil)))) (pss_one ps_never), ?_⟩
    exact ⟨_, rfl, p, C, dx, _, _, rfl, hp, T.cls, T.noF, rfl, _, rfl, v, rfl, bad, k⟩
theorem ok_rmulR {f fS fF C CO : Addr} {fd fdS fdF : FuncData} (F : Fun K "__rmul__" "Polynomial.__rmul__" sRmul f fd) (T : PolyC K mg C)
    (GS : FnOk P w K mg base CX0 1 fS fdS ["one", "two"] (spProds K)) (kS : PySem.W.keepIn K (.ref fS) = true) (bS : L2.Binds K fdS ["one", "two"] []) (gS : mg "_products" = some (.ref fS))
    (GF : FnOk P w K mg base (L2.CX P w) 3 fF fdF ["value"] (spFacR K C CO)) (kF : PySem.W.keepIn K (.ref fF) = true) (bF : L2.Binds K fdF ["value"] []) (gF : mg "_factor" = some (.ref fF)) :
    FnOk P w K mg base (L2.CX P w) 4 f fd ["self", "other"] (spBinR K C CO) := by
  refine F.okX scRmul (fun vs H Q E h => ?_) (fun cdv A outer s H vs Q E hr h => ?_)
  · obtain ⟨p, v, ns, rfl, _⟩ := h
    rfl
  · obtain ⟨p, v, ns, rfl, ⟨dx, t, hp, ht⟩, bad, k⟩ := h
    refine ⟨_, pss_cons (ps_set (i := 2) scRmul.nd rfl (.inl rfl) (pe_call GS (hr.mono (by decide)) (by rfl) gS kS bS .nil pass0 (pa_cons (pe_fld (pv 0) rfl) (pa_cons (pe_call GF hr (by rfl) gF kF bF .nil passE (pa_cons (pv 1) pa_nil)) pa_nil)))) (pss_one ps_never), ?_⟩
    exact ⟨_, rfl, p, C, dx, _, _, rfl, hp, T.cls, T.noF, rfl, _, rfl, v, rfl, bad, k⟩
theorem ok_atR {f C CO : Addr} {fd : FuncData} (F : Fun K "at" "Polynomial.at" sAt f fd) (T : PolyC K mg C) (B : BltP mg) (O : OpC K mg CO) : FnOk P w K mg base (L2.CX P w) 1 f fd ["self", "inner"] (spAtR K C CO) := by
  refine F.okX scAt (fun vs H Q E h => ?_) (fun cdv A outer s H vs Q E hr h => ?_)
  · obtain ⟨p, v, rfl, _⟩ := h
    rfl
  · obtain ⟨p, v, rfl, ⟨t, ty, kt⟩, k⟩ := h
    refine ⟨_, pss_cons (ps_if (pt_not (pt_val (pe_callB call_isi (by rfl) B.isi (by decide +kernel) (pa_cons (pv 1) (pa_cons (pe_glob (v := .ref C) (by rfl) T.gC rfl) pa_nil))))) (pss_one (ps_raise rfl (takes_of rfl rfl rfl rfl) (pmk_own PySem.F.excBase_ValueError O.x O.g O.k (raises_own O.b O.t) rfl))) pss_nil)
      (pss_cons ps_never (pss_cons ps_never (pss_one ps_never))), ?_⟩
    exact ⟨_, rfl, _, _, _, _, false, rfl, .own C, ty, kt, _, rfl, if_yes rfl (k H (Same.refl H))⟩
theorem ok_chkR {f fN CN : Addr} {fd fdN : FuncData} (F : Fun K "check_number" "check_number" sChk f fd) (U : NuC P K mg CN) (GN : FnOk P w K mg base CX0 2 fN fdN ["value"] (spIsN K)) (kN : PySem.W.keepIn K (.ref fN) = true) (bN : L2.Binds K fdN ["value"] []) (gN : mg "is_natural" = some (.ref fN)) :
    FnOk P w K mg base (L2.CX P w) 3 f fd ["number"] (spChkR K CN) := by
  refine F.okX scChk (fun vs H Q E h => ?_) (fun cdv A outer s H vs Q E hr h => ?_)
  · obtain ⟨v, rfl, _⟩ := h
    rfl
  · obtain ⟨v, rfl, nv, k⟩ := h
    obtain ⟨fI, cd, cc, VT⟩ := U.v
    refine ⟨_, pss_one (ps_if (pt_not (pt_val (pe_call GN hr (by rfl) gN kN bN .nil pass0 (pa_cons (pv 0) pa_nil)))) (pss_one (ps_raise rfl (takes_of rfl rfl rfl rfl) (pmk_val VT U.g hr (by rfl) (raises_own U.b U.t) (pv 0)))) pss_nil), ?_⟩
    exact ⟨_, rfl, _, false, rfl, nv, _, rfl, if_yes rfl ⟨_, rfl, fun d nd => k _ d (same_new nd) upd_same⟩⟩
theorem ok_callR {f fC C CN : Addr} {fd fdC : FuncData} (F : Fun K "__call__" "Polynomial.__call__" sCall f fd) (GC : FnOk P w K mg base (L2.CX P w) 3 fC fdC ["number"] (spChkR K CN)) (kC : PySem.W.keepIn K (.ref fC) = true) (bC : L2.Binds K fdC ["number"] []) (gC : mg "check_number" = some (.ref fC)) :
    FnOk P w K mg base (L2.CX P w) 4 f fd ["self", "n"] (spNumR K CN) := by
  refine F.okX scCall (fun vs H Q E h => ?_) (fun cdv A outer s H vs Q E hr h => ?_)
  · obtain ⟨p, v, rfl, _⟩ := h
    rfl
  · obtain ⟨p, v, rfl, nv, k⟩ := h
    refine ⟨_, pss_cons (ps_expr (pe_call GC hr (by rfl) gC kC bC .nil passE (pa_cons (pv 1) pa_nil))) (pss_one ps_never), ?_⟩
    exact ⟨_, rfl, v, rfl, nv, k⟩
theorem ok_reachR {f fC C CN : Addr} {fd fdC : FuncData} (F : Fun K "reach" "Polynomial.reach" sReach f fd) (GC : FnOk P w K mg base (L2.CX P w) 3 fC fdC ["number"] (spChkR K CN)) (kC : PySem.W.keepIn K (.ref fC) = true) (bC : L2.Binds K fdC ["number"] []) (gC : mg "check_number" = some (.ref fC)) :
    FnOk P w K mg base (L2.CX P w) 4 f fd ["self", "goal"] (spNumR K CN) := by
  refine F.okX scReach (fun vs H Q E h => ?_) (fun cdv A outer s H vs Q E hr h => ?_)
  · obtain ⟨p, v, rfl, _⟩ := h
    rfl
  · obtain ⟨p, v, rfl, nv, k⟩ := h
    refine ⟨_, pss_cons (ps_expr (pe_call GC hr (by rfl) gC kC bC .nil passE (pa_cons (pv 1) pa_nil))) (pss_cons ps_never (pss_cons ps_never (pss_one ps_never))), ?_⟩
    exact ⟨_, rfl, v, rfl, nv, k⟩
theorem ok_getR {f fN CN : Addr} {fd fdN : FuncData} (F : Fun K "__getitem__" "Polynomial.__getitem__" sGet f fd) (U : NuC P K mg CN)
    (GN : FnOk P w K mg base CX0 2 fN fdN ["value"] (spIsN K)) (kN : PySem.W.keepIn K (.ref fN) = true) (bN : L2.Binds K fdN ["value"] []) (gN : mg "is_natural" = some (.ref fN)) :
    FnOk P w K mg base (L2.CX P w) 3 f fd ["self", "at"] (spNumR K CN) := by
  refine F.okX scGet (fun vs H Q E h => ?_) (fun cdv A outer s H vs Q E hr h => ?_)
  · obtain ⟨p, v, rfl, _⟩ := h
    rfl
  · obtain ⟨p, v, rfl, nv, k⟩ := h
    obtain ⟨fI, cd, cc, VT⟩ := U.v
    refine ⟨_, pss_cons (ps_if (pt_not (pt_val (pe_call GN hr (by rfl) gN kN bN .nil pass0 (pa_cons (pv 1) pa_nil)))) (pss_one (ps_raise rfl (takes_of rfl rfl rfl rfl) (pmk_val VT U.g hr (by rfl) (raises_own U.b U.t) (pv 1)))) pss_nil) (pss_one ps_never), ?_⟩
    exact ⟨_, rfl, _, false, rfl, nv, _, rfl, if_yes rfl ⟨_, rfl, fun d nd => k _ d (same_new nd) upd_same⟩⟩
theorem ok_powR {f fN CO : Addr} {fd fdN : FuncData} (F : Fun K "__pow__" "Polynomial.__pow__" sPow f fd) (O : OpC K mg CO) (hm : ∃ t, mg "_MAX_EXPONENT" = some (.int 20 t))
    (GN : FnOk P w K mg base CX0 2 fN fdN ["value"] (spIsN K)) (kN : PySem.W.keepIn K (.ref fN) = true) (bN : L2.Binds K fdN ["value"] []) (gN : mg "is_natural" = some (.ref fN)) :
    FnOk P w K mg base (L2.CX P w) 3 f fd ["self", "other"] (spPowR CO) := by
  refine F.okX scPow (fun vs H Q E h => ?_) (fun cdv A outer s H vs Q E hr h => ?_)
  · obtain ⟨p, v, rfl, _⟩ := h
    rfl
  · obtain ⟨p, e, rfl, he, k⟩ := h
    obtain ⟨tm, hm⟩ := hm
    refine ⟨_, pss_cons (ps_if (PW.pt (pw_or (pt_not (pt_val (pe_call GN hr (by rfl) gN kN bN .nil pass0 (pa_cons (pv 1) pa_nil)))) (pw_or1 (pt_cmpR op_gt (pv 1) (pe_glob (v := .int 20) (by rfl) hm ⟨_, rfl⟩) (nomark _))))) (pss_one (ps_raise rfl (takes_of rfl rfl rfl rfl) (pmk_own PySem.F.excBase_ValueError O.x O.g O.k (raises_own O.b O.t) rfl))) pss_nil)
      (pss_cons ps_never (pss_cons ps_never (pss_one ps_never))), ?_⟩
    refine ⟨_, rfl, _, true, rfl, numV_nat (by omega), _, rfl, if_no (by decide) ?_⟩
    exact ⟨_, rfl, _, _, rfl, rfl, _, rfl, if_yes (decide_eq_true he) (k H (Same.refl H))⟩
end
end Qp

/-! polynomials that are not made -/
namespace Qp
open PySem PySem.Spec PyProof.Rows L2 QN Q0
/-- what stands in H is told of H' too, code objects' tables aside -/
theorem tyx_ext {K : PySem.W.Frag} {H H' : Hp} {v : V} {t : Value} (s : LamX.ExtN H H') (h : TyX K H v t) : TyX K H' v t := by
  cases h with
  | base b =>
    refine .base ?_
    cases b with
    | lst e => exact .lst (s _ _ e fun ps z => by cases z)
    | frz e => exact .frz (s _ _ e fun ps z => by cases z)
    | tup e => exact .tup (s _ _ e fun ps z => by cases z)
    | dK e => exact .dK (s _ _ e fun ps z => by cases z)
    | dT e => exact .dT (s _ _ e fun ps z => by cases z)
    | ins e a b c d f => exact .ins (s _ _ e fun ps z => by cases z) a b c d f
    | non => exact .non
    | bl => exact .bl _
    | int => exact .int _
    | str => exact .str _
    | flt => exact .flt _
  | byt => exact .byt _
  | set e => exact .set (s _ _ e fun ps z => by cases z)
  | kList e c => exact .kList e c
  | kTuple e c => exact .kTuple e c
  | kDict e c => exact .kDict e c
  | fTuple e => exact .fTuple (s _ _ e fun ps z => by cases z)
  | fDict e => exact .fDict (s _ _ e fun ps z => by cases z)
theorem tyx_same {K : PySem.W.Frag} {H H' : Hp} {v : V} {t : Value} (s : Same H H') (h : TyX K H v t) : TyX K H' v t := tyx_ext (LamX.ExtN.of s) h
theorem numV_ext {K : PySem.W.Frag} {H H' : Hp} {v : V} {b : Bool} (s : LamX.ExtN H H') (h : NumV K H v b) : NumV K H' v b := by
  rcases h with h | ⟨e, t, bi, h1, h2⟩
  · exact .inl h
  · exact .inr ⟨e, t, bi, tyx_ext s h1, h2⟩
theorem numV_same {K : PySem.W.Frag} {H H' : Hp} {v : V} {b : Bool} (s : Same H H') (h : NumV K H v b) : NumV K H' v b := numV_ext (LamX.ExtN.of s) h
/-- values of which some is no coefficient -/
def BadL (K : PySem.W.Frag) (H : Hp) (us : List V) : Prop := ∃ bs : List Bool, bs.length = us.length ∧ (∀ (i : Nat) (u : V) (b : Bool), us[i]? = some u → bs[i]? = some b → NumV K H u b) ∧ false ∈ bs ∧ us.length ≤ 1000
theorem badL_ext {K : PySem.W.Frag} {H H' : Hp} {us : List V} (s : LamX.ExtN H H') (h : BadL K H us) : BadL K H' us := by
  obtain ⟨bs, h1, h2, h3⟩ := h
  exact ⟨bs, h1, fun i u b e1 e2 => numV_ext s (h2 i u b e1 e2), h3⟩
def spInitR (K : PySem.W.Frag) (C CO : Addr) : Sp := fun vs H Q E => ∃ (x dx : Addr) (us : List V), vs = .ref x :: us ∧ H x = some (.ins C dx []) ∧ BadL K H us ∧ ∀ H', Same H H' → E (.ref CO) none H'
def spOfR (K : PySem.W.Frag) (C CO : Addr) : Sp := fun vs H Q E => ∃ v, vs = [.ref C, v] ∧ ((∃ t, TyX K H v t ∧ PySem.W.kitOne K t (.type "tuple") = some false) ∨ ∃ a us, v = .ref a ∧ SqT K H a us ∧ BadL K H us) ∧ ∀ H', Same H H' → E (.ref CO) none H'
section
variable {P : Program} {w : World} {K : PySem.W.Frag} {mg : Str → Option Value} {base : Heap}
theorem ok_initR {oc : Value} {od : Option Addr} {kV doc pm cdv ct : Value} {an : Option Addr} {osl : Array (Option Value)} {f fN C CO : Addr} {fdN : FuncData}
    (lk : K.lookup f = some ⟨oc, od, .func (PySem.W.fnOf "__init__" "Polynomial.__init__" (defArgs sInit) (defBody sInit) (defScope sInit) .none kV doc pm an cdv ct), osl⟩) (hcd : PySem.W.codeIn K cdv "Polynomial.__init__" = true)
    (GN : FnOk P w K mg base CX0 2 fN fdN ["value"] (spIsN K)) (kN : PySem.W.keepIn K (.ref fN) = true) (bN : L2.Binds K fdN ["value"] []) (gN : mg "is_natural" = some (.ref fN))
    (B : BltP mg) (O : OpC K mg CO) : FnR P w K mg base (L2.CX P w) 3 f (spInitR K C CO) := by
  refine FnR.imp (StX.fn_star (ps := ["self"]) (pv := "coefficients") (sp := fun vs H Q E => ∃ (x a : Addr) (us : List V), vs = [.ref x, .ref a] ∧ H a = some (.tup us) ∧ BadL K H us ∧ ∀ H', Same H H' → E (.ref CO) none H') lk hcd scInit ?up (fun us rest hl => ?bind) (fun A outer s H vs Q E hr h => ?body)) ?imp
  case up => exact StX.cxUp
  case bind =>
    match us, hl with
    | [u], _ =>
      cases rest with
      | nil => with_unfolding_all rfl
      | cons r rs => with_unfolding_all rfl
  case imp =>
    intro vs H Q E h
    obtain ⟨x, dx, us, rfl, hx, hb, k⟩ := h
    refine ⟨[.ref x], us, rfl, rfl, ?_, fun p hp => ⟨x, p, us, rfl, upd_same, badL_ext (LamX.ExtN.of (same_new hp)) hb, fun H' s => k H' ((same_new hp).trans s)⟩⟩
    obtain ⟨_, _, _, _, hl⟩ := hb
    rw [sizeLine_eq]
    omega
  case body =>
    obtain ⟨x, a, us, rfl, ha, ⟨bs, hl, hb, hf, hz⟩, k⟩ := h
    refine ⟨_, pss_cons (ps_if (pt_not (pt_val (pe_callB (cr_all rfl) (by rfl) B.all (by decide +kernel) (pa_cons (pe_lc (own := [("number", 2)]) (g := gName 2) (tt := tYes) rfl scInit.nd (pi_tup (pv 1)) (blkOk_by (N := initNames) (sc := defScope sInit) (by decide +kernel))
        (fun _ _ _ _ _ => pg_name (i := 2) scInit.nd rfl (.inl rfl)) (fun _ _ _ _ _ => pts_nil) (fun _ _ _ _ _ => pe_call GN hr (by rfl) gN kN bN .nil pass0 (pa_cons (pv 2) pa_nil))) pa_nil)))) (pss_one (ps_raise rfl (takes_of rfl rfl rfl rfl) (pmk_own PySem.F.excBase_ValueError O.x O.g O.k (raises_own O.b O.t) rfl))) pss_nil)
      (pss_one ps_never), ?_⟩
    refine ⟨.ref a, rfl, a, rfl, ⟨_, .inl (.inl ha)⟩, fun D hD => ?_⟩
    refine lc_tup (xs := us) (fun i H' => Same H H' ∧ H' D = some (.lst ((bs.take i).map V.bl))) ⟨same_new hD, upd_same⟩ (fun i H' _ hV => .inl (.inl (hV.1 _ _ ha))) (fun i v H' hv hV => ?_) fun H' hV => ?_
    · obtain ⟨sm, hD'⟩ := hV
      have hi : i < us.length := (List.getElem?_eq_some_iff.mp hv).1
      have hbi : bs[i]? = some (bs[i]'(by omega)) := List.getElem?_eq_getElem (by omega)
      refine ⟨rfl, yes_if ⟨_, rfl, _, _, rfl, numV_same sm (hb i v _ hv hbi), _, hD', ?_, same_upd hD sm, ?_⟩⟩
      · rw [List.length_map, List.length_take, sizeLine_eq]
        omega
      · rw [upd_same, List.take_add_one, hbi, List.map_append]
        rfl
    · obtain ⟨sm, hD'⟩ := hV
      rw [← hl, List.take_length] at hD'
      refine ⟨D, bs, rfl, .inl (.inl hD'), _, rfl, if_yes ?_ (k H' sm)⟩
      simp only [Bool.not_eq_true']
      exact Bool.eq_false_iff.mpr fun z => by
        have := List.all_eq_true.mp z _ hf
        exact absurd this (by decide)
theorem ok_ofR {f fI C CO : Addr} {fd : FuncData} (F : Fun K "of" "Polynomial.of" sOf f fd) (M : Mk K C fI) (GI : FnR P w K mg base (L2.CX P w) 3 fI (spInitR K C CO)) (B : BltP mg) (O : OpC K mg CO) : FnOk P w K mg base (L2.CX P w) 5 f fd ["cls", "coefficients"] (spOfR K C CO) := by
  refine F.okX scOf (fun vs H Q E h => ?_) (fun cdv A outer s H vs Q E hr h => ?_)
  · obtain ⟨v, rfl, _⟩ := h
    rfl
  · obtain ⟨v, rfl, h, k⟩ := h
    refine ⟨_, pss_cons (ps_if (pt_not (pt_val (pe_callB call_isi (by rfl) B.isi (by decide +kernel) (pa_cons (pv 1) (pa_cons (pe_bltn (v := .ty "tuple") (by rfl) B.tuple (by decide +kernel) rfl) pa_nil))))) (pss_one (ps_raise rfl (takes_of rfl rfl rfl rfl) (pmk_own PySem.F.excBase_ValueError O.x O.g O.k (raises_own O.b O.t) rfl))) pss_nil)
      (pss_one (ps_ret (pe_makeS (i := 0) M GI hr rfl (.inl rfl) passE (pv 1)))), ?_⟩
    rcases h with ⟨t, ty, kt⟩ | ⟨a, us, rfl, ha, hb⟩
    · exact ⟨_, rfl, _, _, _, _, false, rfl, .ty _, ty, kt, _, rfl, if_yes rfl (k H (Same.refl H))⟩
    · refine ⟨_, rfl, _, _, _, _, true, rfl, .ty _, tyx_tup ha, kit_ty (by decide +kernel), _, rfl, if_no (by decide) ?_⟩
      refine ⟨rfl, _, rfl, a, _, rfl, .inl ha, fun x dx hx hd ne => ?_⟩
      have s1 : Same H (upd (upd H dx (.own x)) x (.ins C dx [])) := (same_new hd).trans (same_new (by rw [upd_ne (fun c => ne c.symm)]; exact hx))
      exact ⟨x, dx, us, rfl, upd_same, badL_ext (LamX.ExtN.of s1) hb, fun H' s => k H' (s1.trans s)⟩
end
end Qp

/-! calls of defs by positional promises; a lambda's body lets out what its caller wishes -/
namespace QN
open PySem PySem.Spec PyProof.Rows L2
section
variable {X : Cx} {CX : CXT} {k : Nat} {f : Addr} {sp : Sp} {E : XK} {x : Str} {p pos : Pos} {e : Expr} {es : List Expr} {t : TA}
/-- f(e, ..) of a def with a positional promise -/
theorem pe_callR (F : FnR X.prog X.w X.K X.mg X.base CX k f sp) (hr : Room k X.A) (hg : Gl X x) (hm : X.mg x = some (.ref f)) (hk : PySem.W.keepIn X.K (.ref f) = true) (hx : Passes CX X E) (ha : PA X (e :: es) t)
    (hdb : (x == ("__debug__" : Str)) = false := by decide) (he : starEach (e :: es) X.env = (false, eval e X.env) :: starEach es X.env := by rfl) (hpl : (backTo pos (starEach es X.env)).any (·.1) = false := by rfl) :
    PE X (.Call (.Name x p) (e :: es) [] pos) (tCall sp [] E t) := by
  refine ⟨fun pins s σ H Q I h => wpAny_Call_Name_kw (ld_glob I hg hm ?_ hdb)⟩
  refine PySem.W.callWith_K (h₀ := X.base) I.ok.mod.kin hk (thn (ha.run pos pins s σ H _ I h) fun us s1 ⟨vs, H1, J, rv, q⟩ => ⟨J.kIn, ?_⟩) he hpl
  exact wpAny_call (run_fnR F hr hx J rv (by rw [← List.append_nil vs]; exact q))
/-- f() -/
theorem pe_callR0 (F : FnR X.prog X.w X.K X.mg X.base CX k f sp) (hr : Room k X.A) (hg : Gl X x) (hm : X.mg x = some (.ref f)) (hk : PySem.W.keepIn X.K (.ref f) = true) (hx : Passes CX X E)
    (hdb : (x == ("__debug__" : Str)) = false := by decide) : PE X (.Call (.Name x p) [] [] pos) (tCall sp [] E tNil) := by
  refine ⟨fun pins s σ H Q I h => wpAny_Call_Name_kw (ld_glob I hg hm ?_ hdb)⟩
  exact PySem.W.callWith_K0 I.kIn hk (wpAny_call (run_fnR F hr hx I .nil h))
theorem pass_lam {A : Around} {outer : List Env} {s : Shared} {H : Hp} {scope : Scope} {c' : Addr} : Passes (L2.CX X.prog X.w) (LamX.lamCx X A outer s H E scope f c') E :=
  passes_call (X := LamX.lamCx X A outer s H E scope f c') (takes_of rfl rfl rfl rfl) (fun _ _ _ _ h => h)
end
end QN

/-! all that is known of the class where it refuses -/
namespace Qp
open PySem PySem.Spec PyProof.Rows L2 QN Q0
theorem polyAt_O {K : PySem.W.Frag} {C : Addr} {H : Hp} {p : Addr} {ns : List Int} (h : PolyAt K C H p ns) : OAt C H p := by
  obtain ⟨dx, t, h1, _⟩ := h
  exact ⟨dx, _, h1⟩
theorem polyAt_ne {K : PySem.W.Frag} {C : Addr} {H : Hp} {p q : Addr} {ns : List Int} {l : List V} (h : PolyAt K C H p ns) (hq : H q = some (.lst l)) : p ≠ q := fun c => by
  obtain ⟨dx, t, h1, _⟩ := h
  rw [c, hq] at h1
  cases h1
theorem polyAt_but {K : PySem.W.Frag} {C : Addr} {H H' : Hp} {p q : Addr} {ns : List Int} {l : List V} (b : But q H H') (hq : H q = some (.lst l)) (h : PolyAt K C H p ns) : PolyAt K C H' p ns := by
  have ne := polyAt_ne h hq
  obtain ⟨dx, t, h1, h2⟩ := h
  refine ⟨dx, t, b _ _ ne h1, ?_⟩
  rcases h2 with (h2 | ⟨o, h2⟩) | h2
  · exact .inl (.inl (b _ _ (fun c => by rw [c, hq] at h2; cases h2) h2))
  · exact .inl (.inr ⟨o, b _ _ (fun c => by rw [c, hq] at h2; cases h2) h2⟩)
  · exact .inr h2
def lowT : List String := ["NoneType", "str", "tuple", "list", "dict"]
structure Kr (P : Program) (w : World) (K : PySem.W.Frag) (mg : Str → Option Value) (base : Heap) (C CO CN : Addr) where
  T : PolyC K mg C
  O : PolyO K C
  fI : Addr
  M : Mk K C fI
  GI : FnR P w K mg base CX0 3 fI (spInit K C)
  GIR : FnR P w K mg base (L2.CX P w) 3 fI (spInitR K C CO)
  CR : ClX.CRead K C (.type "type")
  pO : Addr
  fO : Addr
  CM : ClX.CMet K C (.type "type") "of" pO fO
  GO : FnR P w K mg base CX0 5 fO (spOf K C)
  GOR : FnR P w K mg base (L2.CX P w) 5 fO (spOfR K C CO)
  pC : Addr
  fC : Addr
  PC : PropOf K C "coefficients" pC fC
  fdC : FuncData
  GC : FnOk P w K mg base CX0 1 fC fdC ["self"] (spCo K C)
  bC : L2.Binds K fdC ["self"] []
  fCl : Addr
  CO_ : StX.CallO K C fCl
  GClR : FnR P w K mg base (L2.CX P w) 4 fCl (spNumR K CN)
  fG : Addr
  MG : OMeth K C "__getitem__" fG
  iG : PySem.W.fnIn K fG = true
  GGR : FnR P w K mg base (L2.CX P w) 3 fG (spNumR K CN)
  fRe : Addr
  MRe : Meth K C "reach" fRe
  GReR : FnR P w K mg base (L2.CX P w) 4 fRe (spNumR K CN)
  fA : Addr
  MA : OMeth K C "__add__" fA
  GAR : FnR P w K mg base (L2.CX P w) 4 fA (spBinR K C CO)
  fRA : Addr
  MRA : OMeth K C "__radd__" fRA
  GRAR : FnR P w K mg base (L2.CX P w) 4 fRA (spBinR K C CO)
  fM : Addr
  MM : OMeth K C "__mul__" fM
  GMR : FnR P w K mg base (L2.CX P w) 4 fM (spBinR K C CO)
  fRM : Addr
  MRM : OMeth K C "__rmul__" fRM
  GRMR : FnR P w K mg base (L2.CX P w) 4 fRM (spBinR K C CO)
  fP : Addr
  MP : OMeth K C "__pow__" fP
  GP : FnR P w K mg base CX0 5 fP (spPow K C)
  GPR : FnR P w K mg base (L2.CX P w) 3 fP (spPowR CO)
  fAt : Addr
  MAt : Meth K C "at" fAt
  GAtR : FnR P w K mg base (L2.CX P w) 1 fAt (spAtR K C CO)
  sf : PySem.W.selfFirst K C = true
  BP : BesideInt K C "pow"
  noRP : PySem.W.findIn K (.ref C) "__rpow__" = some none
  lowA : ∀ T ∈ lowT, KindB K C "add" T false
  lowM : ∀ T ∈ lowT, KindB K C "mul" T false
  intA : KindB K C "add" "int" true
  intM : KindB K C "mul" "int" true
  blA : KindB K C "add" "bool" true
  blM : KindB K C "mul" "bool" true
  kt : ∀ T ∈ ["int", "bool", "NoneType", "str", "tuple", "list", "dict"], PySem.W.kitOne K (.type T) (.ref C) = some false
  ktup : PySem.W.kitOne K (.ref C) (.type "tuple") = some false
mutual
theorem dp_ext {K : PySem.W.Frag} {H H' : Hp} (s : LamX.ExtN H H') : ∀ (d : PyData) (v : V), Dp K H v d → Dp K H' v d
  | .none, _, h => by cases h; exact .non
  | .bool b, _, h => by cases h; exact .bl b
  | .int i, _, h => by cases h; exact .int i
  | .str x, _, h => by cases h; exact .str x
  | .list ds, _, h => by
    cases h with
    | lst a b =>
      refine .lst ?_ (dpAll_ext s ds _ b)
      rcases a with (a | ⟨u, a⟩) | a
      · exact .inl (.inl (s _ _ a fun ps z => by cases z))
      · exact .inl (.inr ⟨u, s _ _ a fun ps z => by cases z⟩)
      · exact .inr a
  | .tuple ds, _, h => by
    cases h with
    | tup a b =>
      refine .tup ?_ (dpAll_ext s ds _ b)
      rcases a with (a | ⟨u, a⟩) | a
      · exact .inl (.inl (s _ _ a fun ps z => by cases z))
      · exact .inl (.inr ⟨u, s _ _ a fun ps z => by cases z⟩)
      · exact .inr a
  | .dict _, _, h => by cases h
theorem dpAll_ext {K : PySem.W.Frag} {H H' : Hp} (s : LamX.ExtN H H') : ∀ (ds : List PyData) (vs : List V), DpAll K H vs ds → DpAll K H' vs ds
  | [], _, h => by cases h; exact .nil
  | d :: ds, _, h => by
    cases h with
    | cons a b => exact .cons (dp_ext s d _ a) (dpAll_ext s ds _ b)
end
theorem shown_ext {K : PySem.W.Frag} {H H' : Hp} {v : V} {z : Str} (s : LamX.ExtN H H') (h : Shown K H v z) : Shown K H' v z := by
  cases h with
  | int i h => exact .int i h
  | bl b => exact .bl b
  | non => exact .non
  | str x h => exact .str x h
  | dat h a b c d => exact .dat (dp_ext s _ _ h) a b c d
  | dic h => exact .dic (s _ _ h fun ps z => by cases z)
theorem polyAt_ext {K : PySem.W.Frag} {C : Addr} {H H' : Hp} {p : Addr} {ns : List Int} (s : LamX.ExtN H H') (h : PolyAt K C H p ns) : PolyAt K C H' p ns := by
  obtain ⟨dx, t, h1, h2⟩ := h
  refine ⟨dx, t, s _ _ h1 (fun ps z => by cases z), ?_⟩
  rcases h2 with (h2 | ⟨u, h2⟩) | h2
  · exact .inl (.inl (s _ _ h2 fun ps z => by cases z))
  · exact .inl (.inr ⟨u, s _ _ h2 fun ps z => by cases z⟩)
  · exact .inr h2
/-- a wrong value -/
structure Bad (K : PySem.W.Frag) (H : Hp) (v : V) (z : Str) : Prop where
  nv : NumV K H v false
  ty : (∃ T ∈ lowT, TyX K H v (.type T)) ∨ (∃ n, v = .int n) ∨ ∃ b, v = .bl b
  sh : Shown K H v z
  len : z.length ≤ 1000
theorem Bad.ext {K : PySem.W.Frag} {H H' : Hp} {v : V} {z : Str} (h : Bad K H v z) (s : LamX.ExtN H H') : Bad K H' v z := by
  refine ⟨numV_ext s h.nv, ?_, shown_ext s h.sh, h.len⟩
  rcases h.ty with ⟨T, hT, ty⟩ | r
  · exact .inl ⟨T, hT, tyx_ext s ty⟩
  · exact .inr r
section
variable {P : Program} {w : World} {K : PySem.W.Frag} {mg : Str → Option Value} {base : Heap} {C CO CN : Addr}
theorem Kr.bad (Z : Kr P w K mg base C CO CN) {H : Hp} {v : V} {z : Str} (h : Bad K H v z) : BadV K C H v := by
  refine ⟨h.nv, ?_⟩
  rcases h.ty with ⟨T, hT, ty⟩ | ⟨n, rfl⟩ | ⟨b, rfl⟩
  · exact ⟨_, ty, Z.kt T (by simp only [lowT, List.mem_cons, List.not_mem_nil, or_false] at hT ⊢; rcases hT with rfl | rfl | rfl | rfl | rfl <;> simp)⟩
  · exact ⟨_, .base (.int n), Z.kt "int" (by simp)⟩
  · exact ⟨_, .base (.bl b), Z.kt "bool" (by simp)⟩
theorem Kr.add_goes (Z : Kr P w K mg base C CO CN) {H : Hp} {v : V} {z : Str} {p : Addr} {ns : List Int} {Q : VK} {E : XK} (h : Bad K H v z) (hp : PolyAt K C H p ns) (k : ∀ H', Same H H' → E (.ref CO) none H') : rBinT K C "add" (spBinR K C CO) E (.ref p) v H Q := by
  have bv := Z.bad h
  rcases h.ty with ⟨T, hT, ty⟩ | ⟨n, rfl⟩ | ⟨b, rfl⟩
  · exact ⟨p, T, false, rfl, polyAt_O hp, ty, Z.lowA T hT, p, v, ns, rfl, hp, bv, k⟩
  · exact ⟨p, "int", true, rfl, polyAt_O hp, .base (.int n), Z.intA, p, _, ns, rfl, hp, bv, k⟩
  · exact ⟨p, "bool", true, rfl, polyAt_O hp, .base (.bl b), Z.blA, p, _, ns, rfl, hp, bv, k⟩
theorem Kr.mul_goes (Z : Kr P w K mg base C CO CN) {H : Hp} {v : V} {z : Str} {p : Addr} {ns : List Int} {Q : VK} {E : XK} (h : Bad K H v z) (hp : PolyAt K C H p ns) (k : ∀ H', Same H H' → E (.ref CO) none H') : rBinT K C "mul" (spBinR K C CO) E (.ref p) v H Q := by
  have bv := Z.bad h
  rcases h.ty with ⟨T, hT, ty⟩ | ⟨n, rfl⟩ | ⟨b, rfl⟩
  · exact ⟨p, T, false, rfl, polyAt_O hp, ty, Z.lowM T hT, p, v, ns, rfl, hp, bv, k⟩
  · exact ⟨p, "int", true, rfl, polyAt_O hp, .base (.int n), Z.intM, p, _, ns, rfl, hp, bv, k⟩
  · exact ⟨p, "bool", true, rfl, polyAt_O hp, .base (.bl b), Z.blM, p, _, ns, rfl, hp, bv, k⟩
theorem Kr.radd_goes (Z : Kr P w K mg base C CO CN) {H : Hp} {v : V} {z : Str} {p : Addr} {ns : List Int} {Q : VK} {E : XK} (h : Bad K H v z) (hp : PolyAt K C H p ns) (k : ∀ H', Same H H' → E (.ref CO) none H') : rReflT K C "add" (spBinR K C CO) E v (.ref p) H Q := by
  refine ⟨p, rfl, polyAt_O hp, ⟨p, v, ns, rfl, hp, Z.bad h, k⟩, ?_⟩
  rcases h.ty with ⟨T, hT, ty⟩ | ⟨n, rfl⟩ | ⟨b, rfl⟩
  · exact .inl ⟨T, ty, Z.lowA T hT⟩
  · exact .inr (.inl ⟨⟨n, rfl⟩, Z.intA⟩)
  · exact .inr (.inr ⟨⟨b, rfl⟩, Z.blA⟩)
theorem Kr.rmul_goes (Z : Kr P w K mg base C CO CN) {H : Hp} {v : V} {z : Str} {p : Addr} {ns : List Int} {Q : VK} {E : XK} (h : Bad K H v z) (hp : PolyAt K C H p ns) (k : ∀ H', Same H H' → E (.ref CO) none H') : rReflT K C "mul" (spBinR K C CO) E v (.ref p) H Q := by
  refine ⟨p, rfl, polyAt_O hp, ⟨p, v, ns, rfl, hp, Z.bad h, k⟩, ?_⟩
  rcases h.ty with ⟨T, hT, ty⟩ | ⟨n, rfl⟩ | ⟨b, rfl⟩
  · exact .inl ⟨T, ty, Z.lowM T hT⟩
  · exact .inr (.inl ⟨⟨n, rfl⟩, Z.intM⟩)
  · exact .inr (.inr ⟨⟨b, rfl⟩, Z.blM⟩)
end
theorem tabs_but {T : List (Addr × Str)} {H H' : Hp} {p : Addr} {xs : List V} (b : But p H H') (hp : H p = some (.lst xs)) (t : LamX.Tabs T H) : LamX.Tabs T H' := fun a ha => by
  obtain ⟨ps, h1, h2, h3⟩ := t a ha
  refine ⟨ps, b _ _ (fun e => by rw [e, hp] at h1; cases h1) h1, h2, fun pos cv hc => ?_⟩
  obtain ⟨c, e1, e2⟩ := h3 pos cv hc
  refine ⟨c, e1, b _ _ (fun e => ?_) e2⟩
  rw [e, hp] at e2
  unfold LamX.CodeO at e2
  cases e2
/-- what is told is added at the end -/
theorem found_step {T : List (Addr × Str)} {H H1 H2 : Hp} {l : Addr} {xs : List V} (y : V) (n : ∀ o, H l = some o → (∀ ps, o ≠ .tbl ps) → False) (x0 : LamX.ExtN H H1) (hl : H1 l = some (.lst xs)) (e : LamX.ExtN H1 H2) (T2 : LamX.Tabs T H2) :
    H2 l = some (.lst xs) ∧ LamX.ExtN H (upd H2 l (.lst (xs ++ [y]))) ∧ LamX.Tabs T (upd H2 l (.lst (xs ++ [y]))) ∧ (upd H2 l (.lst (xs ++ [y]))) l = some (.lst (xs ++ [y])) := by
  have h2 : H2 l = some (.lst xs) := e _ _ hl fun ps z => by cases z
  refine ⟨h2, fun b o h nt => ?_, tabs_but but_upd h2 T2, upd_same⟩
  have nb : b ≠ l := fun z => n o (by rw [← z]; exact h) nt
  rw [upd_ne nb]
  exact e b o (x0 b o h nt) nt
theorem found_first {T : List (Addr × Str)} {H H2 : Hp} {l : Addr} {xs : List V} (n : H2 l = none) (e : LamX.ExtN H H2) (T2 : LamX.Tabs T H2) :
    (∀ o, H l = some o → (∀ ps, o ≠ .tbl ps) → False) ∧ LamX.ExtN H (upd H2 l (.lst xs)) ∧ LamX.Tabs T (upd H2 l (.lst xs)) ∧ (upd H2 l (.lst xs)) l = some (.lst xs) :=
  ⟨(fun o h nt => by have := e _ _ h nt; rw [n] at this; cases this), e.trans (LamX.ExtN.of (same_new n)), T2.ext (same_new n), upd_same⟩
end Qp

/-! sums that are refused -/
namespace Qp
open PySem PySem.Spec PyProof.Rows L2 QN Q0
abbrev sSu : Stmt := top 36 -- _law_sums_refused
abbrev nmSu : List Str := ["_law_thing", "_law_odd", "_law_found"]
theorem scSu : FnScope nmSu ["_law_thing", "_law_odd"] (defScope sSu) := ⟨rfl, rfl, rfl, by decide +kernel, rfl, by decide +kernel, by decide +kernel⟩
def suQ : Str := "_law_sums_refused.<locals>." ++ "<lambda>"
def ops5 : List V := List.replicate 5 (.str "operation")
def spSu (K : PySem.W.Frag) (C : Addr) (T : List (Addr × Str)) : Sp := fun vs H Q _ => ∃ (p : Addr) (v : V) (ns : List Int) (z : Str), vs = [.ref p, v] ∧ PolyAt K C H p ns ∧ Bad K H v z ∧ LamX.Tabs T H ∧
  ∀ l H', LamX.ExtN H H' → LamX.Tabs T H' → H' l = some (.lst ops5) → Q (.ref l) H'
section
variable {P : Program} {w : World} {K : PySem.W.Frag} {mg : Str → Option Value} {base : Heap} {C CO CN : Addr}
theorem ok_su {f fTo c Pt : Addr} {fd fdTo : FuncData} (F : Fun K "_law_sums_refused" "_law_sums_refused" sSu f fd) (Z : Kr P w K mg base C CO CN) (code : fd.code = .ref c) (TB : LamX.TabB base mg c Pt) {T : List (Addr × Str)} (hmT : (Pt, suQ) ∈ T) (huT : ∀ p ∈ T, p.1 = Pt → p.2 = suQ) (ec : ErrC K mg CO CN)
    (FTo : Fun K "_law_told" "_law_told" sTold fTo fdTo) (bTo : L2.Binds K fdTo ["_law_call"] []) (gTo : mg "_law_told" = some (.ref fTo)) :
    FnG P w K mg base 26 f fd ["_law_thing", "_law_odd"] (spSu K C T) := by
  refine Fun_okC F scSu (fun vs H Q E h => ?_) (fun cdv A outer s H vs Q E hcd hr hng h => ?_)
  · obtain ⟨p, v, ns, z, rfl, _⟩ := h
    rfl
  · obtain ⟨p, v, ns, z, rfl, hp, bad, tabs, k⟩ := h
    have ecd : cdv = .ref c := hcd.symm.trans code
    subst ecd
    obtain ⟨oc, od, kV, doc, pm, an, cdE, ctE, osl, rfl, lkTo, hcTo⟩ := FTo.ex
    have hng' : NoRepr (A.deeper (envOfC "_law_sums_refused" (defScope sSu) s.heap.objs.size f (.ref c))) := noRepr_deeper hng
    have hu : (A.deeper (envOfC "_law_sums_refused" (defScope sSu) s.heap.objs.size f (.ref c))).units + 100 < cLine := by
      have := hr.un
      omega
    refine ⟨_, pss_cons (ps_set (i := 2) scSu.nd rfl (.inl rfl) (pe_lst (pa_cons (LamX.pe_lamcall (T := T) (c := c) (P := Pt) (k := 20) (t := fun E => tOp (rBinT K C "add" (spBinR K C CO) E) (tVar 0) (tVar 1)) (by rfl) gTo FTo.kp lkTo hcTo bTo scTold rfl (.inl rfl) (told_gives ec hng' hu) TB rfl hmT huT (hr.mono (by omega)) (LamX.lamS_by (by show LamX.lamSB (defScope sSu) _ = true; decide +kernel)) rfl (fun _ _ _ _ _ => rfl)
          (fun A outer s H E f c' hr2 => pe_op (op_binT (op := .Add) Z.sf Z.MA Z.MRA.at_ (.inr ⟨_, rfl⟩) Z.GAR (hr2.mono (by decide)) pass_lam) (pv 0) (pv 1))) pa_nil)))
      (pss_cons (ps_expr (pe_bm PySem.F.plainAttrs_list PySem.F.slot_list_append PySem.F.type_list_append mt_append (pv 2) (pa_cons (LamX.pe_lamcall (T := T) (c := c) (P := Pt) (k := 20) (t := fun E => tOp (rReflT K C "add" (spBinR K C CO) E) (tVar 1) (tVar 0)) (by rfl) gTo FTo.kp lkTo hcTo bTo scTold rfl (.inl rfl) (told_gives ec hng' hu) TB rfl hmT huT (hr.mono (by omega)) (LamX.lamS_by (by show LamX.lamSB (defScope sSu) _ = true; decide +kernel)) rfl (fun _ _ _ _ _ => rfl)
          (fun A outer s H E f c' hr2 => pe_op (op_raddT Z.sf Z.MA Z.MRA Z.GRAR (hr2.mono (by decide)) pass_lam) (pv 1) (pv 0))) pa_nil)))
      (pss_cons (ps_expr (pe_bm PySem.F.plainAttrs_list PySem.F.slot_list_append PySem.F.type_list_append mt_append (pv 2) (pa_cons (LamX.pe_lamcall (T := T) (c := c) (P := Pt) (k := 20) (t := fun E => tOp (rBinT K C "mul" (spBinR K C CO) E) (tVar 0) (tVar 1)) (by rfl) gTo FTo.kp lkTo hcTo bTo scTold rfl (.inl rfl) (told_gives ec hng' hu) TB rfl hmT huT (hr.mono (by omega)) (LamX.lamS_by (by show LamX.lamSB (defScope sSu) _ = true; decide +kernel)) rfl (fun _ _ _ _ _ => rfl)
          (fun A outer s H E f c' hr2 => pe_op (op_binT (op := .Mult) Z.sf Z.MM Z.MRM.at_ (.inr ⟨_, rfl⟩) Z.GMR (hr2.mono (by decide)) pass_lam) (pv 0) (pv 1))) pa_nil)))
      (pss_cons (ps_expr (pe_bm PySem.F.plainAttrs_list PySem.F.slot_list_append PySem.F.type_list_append mt_append (pv 2) (pa_cons (LamX.pe_lamcall (T := T) (c := c) (P := Pt) (k := 20) (t := fun E => tOp (rReflT K C "mul" (spBinR K C CO) E) (tVar 1) (tVar 0)) (by rfl) gTo FTo.kp lkTo hcTo bTo scTold rfl (.inl rfl) (told_gives ec hng' hu) TB rfl hmT huT (hr.mono (by omega)) (LamX.lamS_by (by show LamX.lamSB (defScope sSu) _ = true; decide +kernel)) rfl (fun _ _ _ _ _ => rfl)
          (fun A outer s H E f c' hr2 => pe_op (op_rmulT Z.sf Z.MM Z.MRM Z.GRMR (hr2.mono (by decide)) pass_lam) (pv 1) (pv 0))) pa_nil)))
      (pss_cons (ps_expr (pe_bm PySem.F.plainAttrs_list PySem.F.slot_list_append PySem.F.type_list_append mt_append (pv 2) (pa_cons (LamX.pe_lamcall (T := T) (c := c) (P := Pt) (k := 20) (t := fun E => tMethR C "at" (spAtR K C CO) E (tVar 0) (tCons (tVar 1) tNil)) (by rfl) gTo FTo.kp lkTo hcTo bTo scTold rfl (.inl rfl) (told_gives ec hng' hu) TB rfl hmT huT (hr.mono (by omega)) (LamX.lamS_by (by show LamX.lamSB (defScope sSu) _ = true; decide +kernel)) rfl (fun _ _ _ _ _ => rfl)
          (fun A outer s H E f c' hr2 => pe_methR (pv 0) Z.T.cls Z.MAt Z.GAtR (hr2.mono (by decide)) pass_lam (pa_cons (pv 1) pa_nil))) pa_nil)))
      (pss_one (ps_ret (pv 2))))))), ?_⟩
    have up : ∀ {H1 H2 : Hp}, Same H1 H2 → LamX.ExtN H1 H2 := fun s => LamX.ExtN.of s
    refine ⟨tabs, fun H1 e1 T1 => ⟨_, rfl, _, rfl, Z.add_goes (bad.ext e1) (polyAt_ext e1 hp) fun H2 s2 => .inl ⟨rfl, (by show 1 ≤ sizeLine; decide), fun l nl => ?_⟩⟩⟩
    obtain ⟨nl0, x2, T2, e2⟩ := found_first (xs := [.str "operation"]) nl (e1.trans (up s2)) (T1.ext s2)
    generalize upd H2 l (.lst [.str "operation"]) = Ha at x2 T2 e2
    refine ⟨.ref l, rfl, .inl ⟨rfl, _, .inl (.inl e2)⟩, T2, fun H3 e3 T3 => ⟨_, rfl, _, rfl, Z.radd_goes (bad.ext (x2.trans e3)) (polyAt_ext (x2.trans e3) hp) fun H4 s4 => .inl ⟨rfl, ?_⟩⟩⟩
    obtain ⟨g4, x4, T4, e4⟩ := found_step (.str "operation") nl0 x2 e2 (e3.trans (up s4)) (T3.ext s4)
    refine ⟨l, _, _, rfl, rfl, g4, (by show 1 < sizeLine; decide), ?_⟩
    generalize upd H4 l _ = Hb at x4 T4 e4
    refine ⟨.ref l, rfl, .inl ⟨rfl, _, .inl (.inl e4)⟩, T4, fun H5 e5 T5 => ⟨_, rfl, _, rfl, Z.mul_goes (bad.ext (x4.trans e5)) (polyAt_ext (x4.trans e5) hp) fun H6 s6 => .inl ⟨rfl, ?_⟩⟩⟩
    obtain ⟨g6, x6, T6, e6⟩ := found_step (.str "operation") nl0 x4 e4 (e5.trans (up s6)) (T5.ext s6)
    refine ⟨l, _, _, rfl, rfl, g6, (by show 2 < sizeLine; decide), ?_⟩
    generalize upd H6 l _ = Hc at x6 T6 e6
    refine ⟨.ref l, rfl, .inl ⟨rfl, _, .inl (.inl e6)⟩, T6, fun H7 e7 T7 => ⟨_, rfl, _, rfl, Z.rmul_goes (bad.ext (x6.trans e7)) (polyAt_ext (x6.trans e7) hp) fun H8 s8 => .inl ⟨rfl, ?_⟩⟩⟩
    obtain ⟨g8, x8, T8, e8⟩ := found_step (.str "operation") nl0 x6 e6 (e7.trans (up s8)) (T7.ext s8)
    refine ⟨l, _, _, rfl, rfl, g8, (by show 3 < sizeLine; decide), ?_⟩
    generalize upd H8 l _ = Hd at x8 T8 e8
    refine ⟨.ref l, rfl, .inl ⟨rfl, _, .inl (.inl e8)⟩, T8, fun H9 e9 T9 => ?_⟩
    have hp9 := polyAt_ext (x8.trans e9) hp
    obtain ⟨dx, t, p1, p2⟩ := id hp9
    refine ⟨_, rfl, p, dx, _, rfl, p1, rfl, _, rfl, p, v, rfl, (Z.bad (bad.ext (x8.trans e9))).2, fun Hx sx => .inl ⟨rfl, ?_⟩⟩
    obtain ⟨ga, xa, Ta, ea⟩ := found_step (.str "operation") nl0 x8 e8 (e9.trans (up sx)) (T9.ext sx)
    refine ⟨l, _, _, rfl, rfl, ga, (by show 4 < sizeLine; decide), ?_⟩
    generalize upd Hx l _ = He at xa Ta ea
    exact ⟨_, rfl, k l He xa Ta ea⟩
end
end Qp

/-! numbers that are refused -/
namespace Qp
open PySem PySem.Spec PyProof.Rows L2 QN Q0
abbrev sNu : Stmt := top 37 -- _law_numbers_refused
abbrev nmNu : List Str := ["_law_thing", "_law_odd", "_law_found"]
theorem scNu : FnScope nmNu ["_law_thing", "_law_odd"] (defScope sNu) := ⟨rfl, rfl, rfl, by decide +kernel, rfl, by decide +kernel, by decide +kernel⟩
def nuQ : Str := "_law_numbers_refused.<locals>." ++ "<lambda>"
def nums3 (z : Str) : List V := List.replicate 3 (.str (Str.ofString "number " ++ z))
def spNu (K : PySem.W.Frag) (C : Addr) (T : List (Addr × Str)) : Sp := fun vs H Q _ => ∃ (p : Addr) (v : V) (ns : List Int) (z : Str), vs = [.ref p, v] ∧ PolyAt K C H p ns ∧ Bad K H v z ∧ LamX.Tabs T H ∧
  ∀ l H', LamX.ExtN H H' → LamX.Tabs T H' → H' l = some (.lst (nums3 z)) → Q (.ref l) H'
section
variable {P : Program} {w : World} {K : PySem.W.Frag} {mg : Str → Option Value} {base : Heap} {C CO CN : Addr}
theorem ok_nu {f fTo c Pt : Addr} {fd fdTo : FuncData} (F : Fun K "_law_numbers_refused" "_law_numbers_refused" sNu f fd) (Z : Kr P w K mg base C CO CN) (code : fd.code = .ref c) (TB : LamX.TabB base mg c Pt) {T : List (Addr × Str)} (hmT : (Pt, nuQ) ∈ T) (huT : ∀ p ∈ T, p.1 = Pt → p.2 = nuQ) (ec : ErrC K mg CO CN)
    (FTo : Fun K "_law_told" "_law_told" sTold fTo fdTo) (bTo : L2.Binds K fdTo ["_law_call"] []) (gTo : mg "_law_told" = some (.ref fTo)) :
    FnG P w K mg base 26 f fd ["_law_thing", "_law_odd"] (spNu K C T) := by
  refine Fun_okC F scNu (fun vs H Q E h => ?_) (fun cdv A outer s H vs Q E hcd hr hng h => ?_)
  · obtain ⟨p, v, ns, z, rfl, _⟩ := h
    rfl
  · obtain ⟨p, v, ns, z, rfl, hp, bad, tabs, k⟩ := h
    have ecd : cdv = .ref c := hcd.symm.trans code
    subst ecd
    obtain ⟨oc, od, kV, doc, pm, an, cdE, ctE, osl, rfl, lkTo, hcTo⟩ := FTo.ex
    have hng' : NoRepr (A.deeper (envOfC "_law_numbers_refused" (defScope sNu) s.heap.objs.size f (.ref c))) := noRepr_deeper hng
    have hu : (A.deeper (envOfC "_law_numbers_refused" (defScope sNu) s.heap.objs.size f (.ref c))).units + 100 < cLine := by
      have := hr.un
      omega
    refine ⟨_, pss_cons (ps_set (i := 2) scNu.nd rfl (.inl rfl) (pe_lst (pa_cons (LamX.pe_lamcall (T := T) (c := c) (P := Pt) (k := 20) (t := fun E => (fun σ H Q => (tVar 0) σ H fun y H1 => ∃ a, y = V.ref a ∧ (tCons (tVar 1) tNil) σ H1 fun vs H2 => ((∃ dx vs, SlX.Slt H2 a C dx vs) ∨ ∃ dx fs, H2 a = some (.ins C dx fs)) ∧ spNumR K CN (V.ref a :: vs) H2 Q E)) (by rfl) gTo FTo.kp lkTo hcTo bTo scTold rfl (.inl rfl) (told_gives ec hng' hu) TB rfl hmT huT (hr.mono (by omega)) (LamX.lamS_by (by show LamX.lamSB (defScope sNu) _ = true; decide +kernel)) rfl (fun _ _ _ _ _ => rfl)
          (fun A outer s H E f c' hr2 => StX.pe_callO (pv 0) Z.CO_ Z.GClR (hr2.mono (by decide)) pass_lam (pa_cons (pv 1) pa_nil))) pa_nil)))
      (pss_cons (ps_expr (pe_bm PySem.F.plainAttrs_list PySem.F.slot_list_append PySem.F.type_list_append mt_append (pv 2) (pa_cons (LamX.pe_lamcall (T := T) (c := c) (P := Pt) (k := 20) (t := fun E => tItemO C (spNumR K CN) E (tVar 0) (tVar 1)) (by rfl) gTo FTo.kp lkTo hcTo bTo scTold rfl (.inl rfl) (told_gives ec hng' hu) TB rfl hmT huT (hr.mono (by omega)) (LamX.lamS_by (by show LamX.lamSB (defScope sNu) _ = true; decide +kernel)) rfl (fun _ _ _ _ _ => rfl)
          (fun A outer s H E f c' hr2 => pe_itemO Z.MG Z.iG Z.GGR (hr2.mono (by decide)) pass_lam (pv 0) (pv 1) (fun _ _ => rfl))) pa_nil)))
      (pss_cons (ps_expr (pe_bm PySem.F.plainAttrs_list PySem.F.slot_list_append PySem.F.type_list_append mt_append (pv 2) (pa_cons (LamX.pe_lamcall (T := T) (c := c) (P := Pt) (k := 20) (t := fun E => tMethR C "reach" (spNumR K CN) E (tVar 0) (tCons (tVar 1) tNil)) (by rfl) gTo FTo.kp lkTo hcTo bTo scTold rfl (.inl rfl) (told_gives ec hng' hu) TB rfl hmT huT (hr.mono (by omega)) (LamX.lamS_by (by show LamX.lamSB (defScope sNu) _ = true; decide +kernel)) rfl (fun _ _ _ _ _ => rfl)
          (fun A outer s H E f c' hr2 => pe_methR (pv 0) Z.T.cls Z.MRe Z.GReR (hr2.mono (by decide)) pass_lam (pa_cons (pv 1) pa_nil))) pa_nil)))
      (pss_one (ps_ret (pv 2))))), ?_⟩
    have up : ∀ {H1 H2 : Hp}, Same H1 H2 → LamX.ExtN H1 H2 := fun s => LamX.ExtN.of s
    refine ⟨tabs, fun H1 e1 T1 => ⟨_, rfl, p, rfl, _, rfl, .inr (polyAt_O (polyAt_ext e1 hp)), p, v, rfl, (bad.ext e1).nv, fun H2 dd s2 hd => .inr ⟨rfl, dd, v, z, rfl, hd, ((bad.ext e1).ext (up s2)).sh, bad.len, (by show 1 ≤ sizeLine; decide), fun l nl => ?_⟩⟩⟩
    obtain ⟨nl0, x2, T2, e2⟩ := found_first (xs := [.str (Str.ofString "number " ++ z)]) nl (e1.trans (up s2)) (T1.ext s2)
    generalize upd H2 l (.lst [.str (Str.ofString "number " ++ z)]) = Ha at x2 T2 e2
    refine ⟨.ref l, rfl, .inl ⟨rfl, _, .inl (.inl e2)⟩, T2, fun H3 e3 T3 => ?_⟩
    refine ⟨_, rfl, _, rfl, p, rfl, polyAt_O (polyAt_ext (x2.trans e3) hp), p, v, rfl, (bad.ext (x2.trans e3)).nv, fun H4 dd s4 hd => .inr ⟨rfl, dd, v, z, rfl, hd, (bad.ext ((x2.trans e3).trans (up s4))).sh, bad.len, ?_⟩⟩
    obtain ⟨g4, x4, T4, e4⟩ := found_step (.str (Str.ofString "number " ++ z)) nl0 x2 e2 (e3.trans (up s4)) (T3.ext s4)
    refine ⟨l, _, _, rfl, rfl, g4, (by show 1 < sizeLine; decide), ?_⟩
    generalize upd H4 l _ = Hb at x4 T4 e4
    refine ⟨.ref l, rfl, .inl ⟨rfl, _, .inl (.inl e4)⟩, T4, fun H5 e5 T5 => ?_⟩
    obtain ⟨dx, t, p1, p2⟩ := polyAt_ext (x4.trans e5) hp
    refine ⟨_, rfl, p, dx, _, rfl, p1, rfl, _, rfl, p, v, rfl, (bad.ext (x4.trans e5)).nv, fun H6 dd s6 hd => .inr ⟨rfl, dd, v, z, rfl, hd, (bad.ext ((x4.trans e5).trans (up s6))).sh, bad.len, ?_⟩⟩
    obtain ⟨g6, x6, T6, e6⟩ := found_step (.str (Str.ofString "number " ++ z)) nl0 x4 e4 (e5.trans (up s6)) (T5.ext s6)
    refine ⟨l, _, _, rfl, rfl, g6, (by show 2 < sizeLine; decide), ?_⟩
    generalize upd H6 l _ = Hc at x6 T6 e6
    exact ⟨_, rfl, k l Hc x6 T6 e6⟩
end
end Qp

/-! wrong values -/
namespace Qp
open PySem PySem.Spec PyProof.Rows L2 QN Q0
theorem sl_take {K : PySem.W.Frag} {q : Addr} {H : Hp} {Q : VK} {xs : List V} {j : Nat} (h : SqT K H q xs) (hj : j ≤ xs.length) (k : ∀ r H', Same H H' → SqT K H' r (xs.take j) → Q (.ref r) H') : rSlA K (.ref q) none (some (j : Int)) H Q := by
  refine ⟨q, xs, rfl, h, fun w => k q H (Same.refl _) ?_, fun w r hr => k r _ (same_new hr) (.inl (.inl ?_))⟩
  · have z := w.2
    rw [HT.sIx_nat] at z
    rw [List.take_of_length_le (by omega)]
    exact h
  · rw [upd_same]
    unfold cutV
    rw [HT.sIx_none, HT.sIx_nat, List.drop_zero, Nat.sub_zero, Nat.min_eq_left hj]
theorem sl_drop {K : PySem.W.Frag} {q : Addr} {H : Hp} {Q : VK} {xs : List V} {j : Nat} (h : SqT K H q xs) (hj : j ≤ xs.length) (k : ∀ r H', Same H H' → SqT K H' r (xs.drop j) → Q (.ref r) H') : rSlA K (.ref q) (some (j : Int)) none H Q := by
  refine ⟨q, xs, rfl, h, fun w => k q H (Same.refl _) ?_, fun w r hr => k r _ (same_new hr) (.inl (.inl ?_))⟩
  · have z := w.1
    rw [HT.sIx_nat] at z
    have e : j = 0 := by omega
    rw [e]
    exact h
  · rw [upd_same]
    unfold cutV
    rw [HT.sIx_none, HT.sIx_nat, Nat.min_eq_left hj]
    rw [List.take_of_length_le (by rw [List.length_drop]; exact Nat.le_refl _)]
theorem catV {K : PySem.W.Frag} {H : Hp} {Q : VK} {a b : Addr} {xs ys : List V} (ha : SqT K H a xs) (hb : SqT K H b ys) (h : xs.length + ys.length ≤ sizeLine) (k : ∀ r H', Same H H' → SqT K H' r (xs ++ ys) → Q (.ref r) H') : rCatA K (.ref a) (.ref b) H Q := by
  refine ⟨a, b, _, _, rfl, rfl, ha, hb, h, fun e => k b H (Same.refl H) ?_, fun _ e => k a H (Same.refl H) ?_, fun _ _ w hw => k w _ (same_new hw) (.inl (.inl upd_same))⟩
  · rw [e]
    exact hb
  · rw [e, List.append_nil]
    exact ha
theorem notNum_lst {K : PySem.W.Frag} {H : Hp} {a : Addr} {xs : List V} (h : H a = some (.lst xs)) : NotNum K H (.ref a) := ⟨_, false, .base (.lst h), kit_ty (by decide +kernel), fun z => by cases z⟩
theorem notNum_dK {K : PySem.W.Frag} {H : Hp} {a : Addr} {xs : List (Key × V)} (h : H a = some (.dK xs)) : NotNum K H (.ref a) := ⟨_, false, .base (.dK h), kit_ty (by decide +kernel), fun z => by cases z⟩
/-- the values of which one is drawn -/
def wrongs (t0 l1 d1 : Addr) : List V := [.int (-1), .bl true, .non, .str "1", .ref t0, .ref l1, .ref d1, .int (0 - (10 : Int) ^ (30 : Int).toNat), .str "n"]
theorem wrong_bad {K : PySem.W.Frag} {H : Hp} {t0 l1 d1 : Addr} (h0 : H t0 = some (.tup [])) (h1 : H l1 = some (.lst [.int 1])) (h2 : H d1 = some (.dK [])) : ∀ v ∈ wrongs t0 l1 d1, ∃ z, Bad K H v z ∧ PyData.strOk (Str.ofString "number " ++ z) = true := fun v hv => by
  simp only [wrongs, List.mem_cons, List.not_mem_nil, or_false] at hv
  rcases hv with rfl | rfl | rfl | rfl | rfl | rfl | rfl | rfl | rfl
  · exact ⟨_, ⟨.inl ⟨_, rfl, rfl⟩, .inr (.inl ⟨_, rfl⟩), .int _ (by decide +kernel), by decide +kernel⟩, by decide +kernel⟩
  · exact ⟨_, ⟨.inr ⟨rfl, notNum_bl true⟩, .inr (.inr ⟨_, rfl⟩), .bl true, by decide +kernel⟩, by decide +kernel⟩
  · exact ⟨_, ⟨.inr ⟨rfl, notNum_non⟩, .inl ⟨"NoneType", by simp [lowT], .base .non⟩, .non, by decide +kernel⟩, by decide +kernel⟩
  · exact ⟨_, ⟨.inr ⟨rfl, notNum_str _⟩, .inl ⟨"str", by simp [lowT], .base (.str _)⟩, .str _ (by decide +kernel), by decide +kernel⟩, by decide +kernel⟩
  · exact ⟨_, ⟨.inr ⟨rfl, notNum_tup (.inl (.inl h0))⟩, .inl ⟨"tuple", by simp [lowT], .base (.tup h0)⟩, .dat (.tup (.inl (.inl h0)) .nil) (by decide +kernel) (by decide +kernel) (by decide +kernel) (by decide +kernel), by decide +kernel⟩, by decide +kernel⟩
  · exact ⟨_, ⟨.inr ⟨rfl, notNum_lst h1⟩, .inl ⟨"list", by simp [lowT], .base (.lst h1)⟩, .dat (.lst (.inl (.inl h1)) (.cons (.int 1) .nil)) (by decide +kernel) (by decide +kernel) (by decide +kernel) (by decide +kernel), by decide +kernel⟩, by decide +kernel⟩
  · exact ⟨_, ⟨.inr ⟨rfl, notNum_dK h2⟩, .inl ⟨"dict", by simp [lowT], .base (.dK h2)⟩, .dic h2, by decide +kernel⟩, by decide +kernel⟩
  · exact ⟨_, ⟨.inl ⟨_, rfl, rfl⟩, .inr (.inl ⟨_, rfl⟩), .int _ (by decide +kernel), by decide +kernel⟩, by decide +kernel⟩
  · exact ⟨_, ⟨.inr ⟨rfl, notNum_str _⟩, .inl ⟨"str", by simp [lowT], .base (.str _)⟩, .str _ (by decide +kernel), by decide +kernel⟩, by decide +kernel⟩
/-- no tuple of coefficients -/
def OfBad (K : PySem.W.Frag) (H : Hp) (v : V) : Prop := (∃ t, TyX K H v t ∧ PySem.W.kitOne K t (.type "tuple") = some false) ∨ ∃ a us, v = .ref a ∧ SqT K H a us ∧ BadL K H us
theorem sqT_ext {K : PySem.W.Frag} {H H' : Hp} {q : Addr} {xs : List V} (s : LamX.ExtN H H') (h : SqT K H q xs) : SqT K H' q xs := by
  rcases h with (h | ⟨u, h⟩) | h
  · exact .inl (.inl (s _ _ h fun ps z => by cases z))
  · exact .inl (.inr ⟨u, s _ _ h fun ps z => by cases z⟩)
  · exact .inr h
theorem ofBad_ext {K : PySem.W.Frag} {H H' : Hp} {v : V} (s : LamX.ExtN H H') (h : OfBad K H v) : OfBad K H' v := by
  rcases h with ⟨t, h1, h2⟩ | ⟨a, us, e, h1, h2⟩
  · exact .inl ⟨t, tyx_ext s h1, h2⟩
  · exact .inr ⟨a, us, e, sqT_ext s h1, badL_ext s h2⟩
theorem badL_mid {K : PySem.W.Frag} {H : Hp} {v : V} {z : Str} {ns : List Int} (hn : ∀ c ∈ ns, 0 ≤ c) (hl : ns.length ≤ 900) (h : Bad K H v z) (j : Nat) (hj : j ≤ ns.length) : BadL K H ((iv ns).take j ++ [v] ++ (iv ns).drop j) := by
  refine ⟨List.replicate j true ++ [false] ++ List.replicate (ns.length - j) true, ?_, fun i u b e1 e2 => ?_, by simp, ?_⟩
  · simp only [List.length_append, List.length_replicate, List.length_take, List.length_drop, iv_len, List.length_singleton]
    omega
  · have nat : ∀ (k : Nat) (u : V), (iv ns)[k]? = some u → NumV K H u true := fun k u e => by
      unfold iv at e
      rw [List.getElem?_map] at e
      cases hc : ns[k]? with
      | none => rw [hc] at e; cases e
      | some c =>
        rw [hc] at e
        have ev : V.int c = u := Option.some.inj e
        rw [← ev]
        exact numV_nat (hn c (List.mem_of_getElem? hc))
    by_cases c1 : i < j
    · rw [List.append_assoc, List.getElem?_append_left (by rw [List.length_take, iv_len]; omega), List.getElem?_take_of_lt c1] at e1
      rw [List.append_assoc, List.getElem?_append_left (by rw [List.length_replicate]; exact c1), List.getElem?_replicate, if_pos c1] at e2
      cases e2
      exact nat _ _ e1
    · by_cases c2 : i = j
      · subst c2
        rw [List.append_assoc, List.getElem?_append_right (by rw [List.length_take, iv_len]; omega)] at e1
        rw [List.append_assoc, List.getElem?_append_right (by rw [List.length_replicate]; omega)] at e2
        have i1 : i - ((iv ns).take i).length = 0 := by rw [List.length_take, iv_len]; omega
        have i2 : i - (List.replicate i true).length = 0 := by rw [List.length_replicate]; omega
        rw [i1] at e1
        rw [i2] at e2
        cases e1
        cases e2
        exact h.nv
      · rw [List.getElem?_append_right (by rw [List.length_append, List.length_take, iv_len, List.length_singleton]; omega), List.getElem?_drop] at e1
        rw [List.getElem?_append_right (by rw [List.length_append, List.length_replicate, List.length_singleton]; omega), List.getElem?_replicate] at e2
        split at e2
        · cases e2
          exact nat _ _ e1
        · cases e2
  · simp only [List.length_append, List.length_take, List.length_drop, iv_len, List.length_singleton]
    omega
end Qp

/-! questions opened one construct at a time -/
namespace QN
open PySem PySem.Spec PyProof.Rows L2
section
variable {σ : L2.St} {H : Hp} {D : Ends} {t u : TS} {te ta tb : TE} {tl tr : TA} {g : TG} {r : R2} {rc : List V → Hp → VK → Prop} {K : PySem.W.Frag} {T : String} {rm : V → List V → Hp → VK → Prop} {Q : VK} {QA : List V → Hp → Prop} {sp : Sp} {dvs : List V} {E : XK}
theorem q_seq (h : t { D with nx := u D } σ H) : tSeq t u D σ H := h
theorem q_asg (h : te σ H fun x H1 => g x σ H1 D.nx) : tAsg te g D σ H := h
theorem q_drop (h : te σ H fun _ H1 => D.nx σ H1) : tDrop te D σ H := h
theorem q_ret (h : te σ H D.rt) : tRet te D σ H := h
theorem q_lst (h : tl σ H fun xs H1 => xs.length ≤ sizeLine ∧ ∀ p, H1 p = none → Q (.ref p) (upd H1 p (.lst xs))) : tLst tl σ H Q := h
theorem q_tup (h : tl σ H fun xs H1 => xs.length ≤ sizeLine ∧ ∀ p, H1 p = none → Q (.ref p) (upd H1 p (.tup xs))) : tTup tl σ H Q := h
theorem q_cons (h : ta σ H fun x H1 => tr σ H1 fun xs H2 => QA (x :: xs) H2) : tCons ta tr σ H QA := h
theorem q_nil (h : QA [] H) : tNil σ H QA := h
theorem q_op (h : ta σ H fun x H1 => tb σ H1 fun y H2 => r x y H2 Q) : tOp r ta tb σ H Q := h
theorem q_cb (h : tl σ H fun vs H1 => rc vs H1 Q) : tCB rc tl σ H Q := h
theorem q_call (h : tl σ H fun vs H1 => sp (vs ++ dvs) H1 Q E) : tCall sp dvs E tl σ H Q := h
theorem q_bm (h : te σ H fun x H1 => tyV K T x H1 ∧ tl σ H1 fun xs H2 => rm x xs H2 Q) : tBM K T rm te tl σ H Q := h
end
section
variable {σ : L2.St} {H : Hp} {D : Ends} {t u : TS} {c d : TT} {te : TE} {QT : Bool → Hp → Prop}
theorem q_np {QO : Option Int → Hp → Prop} (h : QO none H) : tNoPart σ H QO := h
theorem q_ifs (h : c σ H fun b H1 => if b = true then t D σ H1 else u D σ H1) : tIfS c t u D σ H := h
theorem q_or (h : c σ H fun b H1 => if b = true then QT true H1 else d σ H1 QT) : tOr c d σ H QT := h
theorem q_and (h : c σ H fun b H1 => if b = true then d σ H1 QT else QT false H1) : tAnd c d σ H QT := h
theorem q_not (h : c σ H fun b H1 => QT (!b) H1) : tNot c σ H QT := h
theorem q_tb (h : te σ H fun x H1 => ∃ b, x = .bl b ∧ QT b H1) : tB te σ H QT := h
theorem q_test (h : te σ H fun x H1 => ∃ k, x = .bl k ∧ QT k H1) : tTest te σ H QT := h
end
end QN



/-! whether what is wrong is refused -/
namespace Qp
open PySem PySem.Spec PyProof.Rows L2 QN Q0
abbrev sRi : Stmt := top 38 -- _law_right
abbrev nmRi : List Str := ["_law_dice_here", "_law_some", "_law_thing", "_law_bad", "_law_spot", "_law_odd", "_law_one"]
theorem scRi : FnScope nmRi ["_law_dice_here"] (defScope sRi) := ⟨rfl, rfl, rfl, by decide +kernel, rfl, by decide +kernel, by decide +kernel⟩
def scIn : Scope := { kind := .function, names := [(".0", .local), ("_law_one", .cell), ("_law_told", .globalImplicit)], isGenerator := false, isCoroutine := false }
theorem q_c {σ : L2.St} {H : Hp} {x : V} {Q : VK} (h : Q x H) : tC x σ H Q := h
theorem sh3 (z : Str) (h : PyData.strOk z = true) : SeqAt.shaped (.list [.str z, .str z, .str z]) = true := by
  simp [SeqAt.shaped, PyData.canLay0, PyData.canLayAll0, PyData.depth, PyData.depthAll, h]
theorem eq3 (z : Str) : PyData.eqv (.list [.str z, .str z, .str z]) (.list [.str z, .str z, .str z]) = true := by
  simp [PyData.eqv, PyData.eqvAll]
def riQ : Str := "_law_right.<locals>." ++ "<lambda>"
theorem sqT_but2 {K : PySem.W.Frag} {H H' : Hp} {p q : Addr} {l : List V} {xs : List V} (b : But p H H') (hp : H p = some (.lst l)) (h : SqT K H q xs) : SqT K H' q xs := by
  rcases h with (h | ⟨o, h⟩) | h
  · exact .inl (.inl (b _ _ (fun c => by rw [c, hp] at h; cases h) h))
  · exact .inl (.inr ⟨o, b _ _ (fun c => by rw [c, hp] at h; cases h) h⟩)
  · exact .inr h
/-- all but p and the tables of code objects as it was -/
def ButN (p : Addr) (H H' : Hp) : Prop := ∀ b o, b ≠ p → H b = some o → (∀ ps, o ≠ .tbl ps) → H' b = some o
def spRi (T : List (Addr × Str)) : Sp := fun vs H Q _ => ∃ (p : Addr) (x y z : Int), vs = [.ref p] ∧ H p = some (.lst (hand x y z)) ∧ LamX.Tabs T H ∧
  ∀ (x' y' z' : Int) (H' : Hp), H' p = some (.lst (hand x' y' z')) → LamX.Tabs T H' → ButN p H H' → Q (.bl true) H'
section
variable {P : Program} {w : World} {K : PySem.W.Frag} {mg : Str → Option Value} {base : Heap} {C CO CN : Addr}
theorem ok_ri {f fTo fCf fOn fRo fSu fNu fCu c Pt : Addr} {fd fdTo fdCf fdOn fdRo fdSu fdNu fdCu : FuncData} (F : Fun K "_law_right" "_law_right" sRi f fd) (Z : Kr P w K mg base C CO CN) (code : fd.code = .ref c) (TB : LamX.TabB base mg c Pt) {T : List (Addr × Str)} (hmT : (Pt, riQ) ∈ T) (huT : ∀ p ∈ T, p.1 = Pt → p.2 = riQ) (ec : ErrC K mg CO CN)
    (FTo : Fun K "_law_told" "_law_told" sTold fTo fdTo) (bTo : L2.Binds K fdTo ["_law_call"] []) (gTo : mg "_law_told" = some (.ref fTo))
    (GCf : FnOk P w K mg base CX0 3 fCf fdCf ["_law_dice_here"] (spCoef K)) (kCf : PySem.W.keepIn K (.ref fCf) = true) (bCf : L2.Binds K fdCf ["_law_dice_here"] []) (gCf : mg "_law_coefficients" = some (.ref fCf))
    (GOn : FnOk P w K mg base CX0 2 fOn fdOn ["_law_dice_here", "_law_items"] spOne) (kOn : PySem.W.keepIn K (.ref fOn) = true) (bOn : L2.Binds K fdOn ["_law_dice_here", "_law_items"] []) (gOn : mg "_law_one_of" = some (.ref fOn))
    (GRo : FnOk P w K mg base CX0 1 fRo fdRo ["_law_dice_here", "_law_total"] spRoll) (kRo : PySem.W.keepIn K (.ref fRo) = true) (bRo : L2.Binds K fdRo ["_law_dice_here", "_law_total"] []) (gRo : mg "_law_roll" = some (.ref fRo))
    (GSu : FnG P w K mg base 26 fSu fdSu ["_law_thing", "_law_odd"] (spSu K C T)) (kSu : PySem.W.keepIn K (.ref fSu) = true) (bSu : L2.Binds K fdSu ["_law_thing", "_law_odd"] []) (gSu : mg "_law_sums_refused" = some (.ref fSu))
    (GNu : FnG P w K mg base 26 fNu fdNu ["_law_thing", "_law_odd"] (spNu K C T)) (kNu : PySem.W.keepIn K (.ref fNu) = true) (bNu : L2.Binds K fdNu ["_law_thing", "_law_odd"] []) (gNu : mg "_law_numbers_refused" = some (.ref fNu))
    (GCu : FnOk P w K mg base CX0 1 fCu fdCu ["_law_some"] (spCut K)) (kCu : PySem.W.keepIn K (.ref fCu) = true) (bCu : L2.Binds K fdCu ["_law_some"] []) (gCu : mg "_law_cut" = some (.ref fCu)) (B : Blt mg) (B2 : Blt2 mg) :
    FnG P w K mg base 30 f fd ["_law_dice_here"] (spRi T) := by
  refine Fun_okC F scRi (fun vs H Q E h => ?_) (fun cdv A outer s H vs Q E hcd hr hng h => ?_)
  · obtain ⟨p, x, y, z, rfl, _⟩ := h
    rfl
  · obtain ⟨p, x, y, z, rfl, hp, tabs, fin⟩ := h
    have ecd : cdv = .ref c := hcd.symm.trans code
    subst ecd
    obtain ⟨oc, od, kV, doc, pm, an, cdE, ctE, osl, rfl, lkTo, hcTo⟩ := FTo.ex
    have hng' : NoRepr (A.deeper (envOfC "_law_right" (defScope sRi) s.heap.objs.size f (.ref c))) := noRepr_deeper hng
    have hu : (A.deeper (envOfC "_law_right" (defScope sRi) s.heap.objs.size f (.ref c))).units + 100 < cLine := by
      have := hr.un
      omega
    have hu80 : (A.deeper (envOfC "_law_right" (defScope sRi) s.heap.objs.size f (.ref c))).units + 80 < cLine := by omega
    have hu64 : (A.deeper (envOfC "_law_right" (defScope sRi) s.heap.objs.size f (.ref c))).units + 64 < cLine := by omega
    have r1 := hr.mono (by decide : 1 ≤ 29)
    have r2 := hr.mono (by decide : 1 + 1 ≤ 29)
    have r3 := hr.mono (by decide : 3 ≤ 29)
    have r5 := hr.mono (by decide : 5 ≤ 29)
    have r26 := hr.mono (by decide : 26 ≤ 29)
    refine ⟨_, (pss_cons (ps_set (i := 1) scRi.nd rfl (.inl rfl) (pe_call GCf r3 (by rfl) gCf kCf bCf .nil pass0 (pa_cons (pv 0) pa_nil)))
      (pss_cons (ps_asg (pe_tup (pa_cons (ClX.pe_cmeth (pe_glob (v := .ref C) (by rfl) Z.T.gC rfl) Z.CR Z.CM Z.GO r5 pass0 (pa_cons (pv 1) pa_nil)) (pa_cons (pe_call GOn r2 (by rfl) gOn kOn bOn .nil pass0 (pa_cons (pv 0) (pa_cons (pe_lst (pa_cons (pe_un un_neg pe_int) (pa_cons pe_bl (pa_cons pe_non (pa_cons pe_str (pa_cons (pe_tup pa_nil) (pa_cons (pe_lst (pa_cons pe_int pa_nil)) (pa_cons pe_dnewK (pa_cons (pe_op op_sub pe_int (pe_op op_pow pe_int pe_int)) (pa_cons pe_str pa_nil)))))))))) pa_nil))) pa_nil))) (pg_tup rfl (pgs_cons (pg_name (i := 2) scRi.nd rfl (.inr rfl)) (pgs_cons (pg_name (i := 3) scRi.nd rfl (.inl rfl)) pgs_nil))))
      (pss_cons (ps_set (i := 4) scRi.nd rfl (.inl rfl) (pe_call GRo r1 (by rfl) gRo kRo bRo .nil pass0 (pa_cons (pv 0) (pa_cons (pe_op op_add (pe_callB call_len_seq (by rfl) B.len PySem.boot_len (pa_cons (pv 1) pa_nil)) pe_int) pa_nil))))
      (pss_cons (ps_set (i := 5) scRi.nd rfl (.inl rfl) (pe_lst (pa_cons (pe_op op_catA (pe_op op_catA (pe_slice sl_tupA (pv 1) po_none (po_some (pv 4))) (pe_tup (pa_cons (pv 3) pa_nil))) (pe_slice sl_tupA (pv 1) (po_some (pv 4)) po_none)) (pa_cons (pe_callTy call_list_of (by rfl) B2.li (by decide +kernel) (pa_cons (pv 1) pa_nil)) (pa_cons pe_non (pa_cons pe_int (pa_cons pe_str (pa_cons pe_dnewK (pa_cons (pe_disp (pps_cons pe_int pe_int pps_nil) rfl rfl (by decide) (by decide)) (pa_cons (pe_tup (pa_cons (pv 1) pa_nil)) (pa_cons (pv 2) pa_nil)))))))))))
      (pss_cons (ps_if (pt_cmpR (op_neD hu64) (pe_lc (own := [("_law_one", 6)]) (g := gName 6) (tt := tTest (tOp rNe (LamX.tLam T (TTold K CO CN) fun E => ClX.tCMeth C (spOfR K C CO) E (tC (.ref C)) (tCons (tVar 6) tNil)) (tC (.str "operation")))) (te := tVar 6) rfl scRi.nd (pi_list (pv 5)) (blkOk_by (N := nmRi) (sc := defScope sRi) (by decide +kernel)) (fun _ _ _ _ _ => pg_name (i := 6) scRi.nd rfl (.inr rfl) (hf := .inl rfl)) (fun _ _ _ _ _ => pts_one (pt_cmpR op_ne (LamX.pe_lamcall (T := T) (c := c) (P := Pt) (k := 20) (t := fun E => ClX.tCMeth C (spOfR K C CO) E (tC (.ref C)) (tCons (tVar 6) tNil)) (by rfl) gTo FTo.kp lkTo hcTo bTo scTold rfl (.inl rfl) (told_gives ec hng' hu) TB rfl hmT huT (hr.mono (by omega)) (LamX.lamS_by (by show LamX.lamSB (scIn) _ = true; decide +kernel)) rfl (fun _ _ _ _ _ => rfl)
          (fun A outer s H E f c' hr2 => ClX.pe_cmeth (pe_glob (v := .ref C) (by rfl) Z.T.gC rfl) Z.CR Z.CM Z.GOR (hr2.mono (by decide)) pass_lam (pa_cons (pv 6) pa_nil))) pe_str (nomark _))) (fun _ _ _ _ _ => pv 6)) (pe_lst pa_nil) (nomark _)) (pss_one (ps_ret pe_bl)) pss_nil)
      (pss_cons (ps_if (PW.pt (pw_or (pt_cmpR (op_neD hu64) (pe_callG GSu hng' r26 (by rfl) gSu kSu bSu (pa_cons (pv 2) (pa_cons (pv 3) pa_nil))) (pe_op op_rep (pe_lst (pa_cons pe_str pa_nil)) pe_int) (nomark _)) (pw_or1 (pt_cmpR op_ne (LamX.pe_lamcall (T := T) (c := c) (P := Pt) (k := 20) (t := fun E => tMethR C "at" (spAtR K C CO) E (tVar 2) (tCons (tC (.int 3)) tNil)) (by rfl) gTo FTo.kp lkTo hcTo bTo scTold rfl (.inl rfl) (told_gives ec hng' hu) TB rfl hmT huT (hr.mono (by omega)) (LamX.lamS_by (by show LamX.lamSB (defScope sRi) _ = true; decide +kernel)) rfl (fun _ _ _ _ _ => rfl)
          (fun A outer s H E f c' hr2 => pe_methR (pv 2) Z.T.cls Z.MAt Z.GAtR (hr2.mono (by decide)) pass_lam (pa_cons pe_int pa_nil))) pe_str (nomark _))))) (pss_one (ps_ret pe_bl)) pss_nil)
      (pss_cons (ps_if (pt_cmpR (op_neD hu64) (pe_callG GNu hng' r26 (by rfl) gNu kNu bNu (pa_cons (pv 2) (pa_cons (pv 3) pa_nil))) (pe_op op_rep (pe_lst (pa_cons (pe_op op_add_str pe_str (pe_callB (call_reprV hng' hu80) (by rfl) ec.rp (by decide +kernel) (pa_cons (pv 3) pa_nil))) pa_nil)) pe_int) (nomark _)) (pss_one (ps_ret pe_bl)) pss_nil)
      (pss_cons (ps_if (pt_cmpR op_ne (LamX.pe_lamcall (T := T) (c := c) (P := Pt) (k := 20) (t := fun E => tOp (rBinI C (spPowR CO) E) (tVar 2) (tC (.int 21))) (by rfl) gTo FTo.kp lkTo hcTo bTo scTold rfl (.inl rfl) (told_gives ec hng' hu) TB rfl hmT huT (hr.mono (by omega)) (LamX.lamS_by (by show LamX.lamSB (defScope sRi) _ = true; decide +kernel)) rfl (fun _ _ _ _ _ => rfl)
          (fun A outer s H E f c' hr2 => pe_op (op_binI (op := .Pow) Z.BP Z.MP Z.noRP (.inl rfl) Z.GPR (hr2.mono (by decide)) pass_lam) (pv 2) pe_int)) pe_str (nomark _)) (pss_one (ps_ret pe_bl)) pss_nil)
      (pss_cons (ps_if (pt_cmpR op_ne (LamX.pe_lamcall (T := T) (c := c) (P := Pt) (k := 20) (t := fun E => tOp (rBinI C (spPowR CO) E) (tVar 2) (tC (.int 64))) (by rfl) gTo FTo.kp lkTo hcTo bTo scTold rfl (.inl rfl) (told_gives ec hng' hu) TB rfl hmT huT (hr.mono (by omega)) (LamX.lamS_by (by show LamX.lamSB (defScope sRi) _ = true; decide +kernel)) rfl (fun _ _ _ _ _ => rfl)
          (fun A outer s H E f c' hr2 => pe_op (op_binI (op := .Pow) Z.BP Z.MP Z.noRP (.inl rfl) Z.GPR (hr2.mono (by decide)) pass_lam) (pv 2) pe_int)) pe_str (nomark _)) (pss_one (ps_ret pe_bl)) pss_nil)
      (pss_cons (ps_if (pt_cmpR op_ne (LamX.pe_lamcall (T := T) (c := c) (P := Pt) (k := 20) (t := fun E => tOp (rBinI C (spPow K C) L2.E0) (tVar 2) (tC (.int 20))) (by rfl) gTo FTo.kp lkTo hcTo bTo scTold rfl (.inl rfl) (told_gives ec hng' hu) TB rfl hmT huT (hr.mono (by omega)) (LamX.lamS_by (by show LamX.lamSB (defScope sRi) _ = true; decide +kernel)) rfl (fun _ _ _ _ _ => rfl)
          (fun A outer s H E f c' hr2 => pe_op (op_binI (op := .Pow) Z.BP Z.MP Z.noRP (.inl rfl) Z.GP (hr2.mono (by decide)) pass0) (pv 2) pe_int)) pe_str (nomark _)) (pss_one (ps_ret pe_bl)) pss_nil)
      (pss_one (ps_ret (pe_cmpR (op_eqD hu64) (pe_prop (pv 2) Z.T.cls Z.PC Z.GC r2 Z.bC .nil pass0 rfl) (pe_call GCu r1 (by rfl) gCu kCu bCu .nil pass0 (pa_cons (pv 1) pa_nil)) (nomark _)))))))))))))), ?_⟩
    have up : ∀ {H1 H2 : Hp}, Same H1 H2 → LamX.ExtN H1 H2 := fun s => LamX.ExtN.of s
    -- some = coefficients(dice)
    refine ⟨.ref p, rfl, p, x, y, z, rfl, hp, fun q ns x1 y1 z1 H1 hok hlen hq hp1 b1 => ?_⟩
    -- thing, bad = Polynomial.of(some), one_of(dice, [..])
    refine ⟨rfl, _, rfl, q, ns, rfl, hq, (fun c hc => (hok c hc).1), by omega, fun a H2 s2 ha => ?_⟩
    refine ⟨_, rfl, 1, rfl, (by show 0 ≤ sizeLine; decide), fun t0 h0 => ⟨(by show 1 ≤ sizeLine; decide), fun l1 h1 => fun d1 hd1 => ⟨_, _, rfl, rfl, ⟨by decide, by decide, by decide⟩, _, _, rfl, rfl, (by show 9 ≤ sizeLine; decide), fun Lb hLb => ?_⟩⟩⟩
    have n1 : p ≠ Lb := fun c => by
      have e1 := s2 _ _ hp1
      rw [c] at e1
      have e2 := (same_new (o := .dK []) hd1) _ _ ((same_new (o := .lst [.int 1]) h1) _ _ ((same_new (o := .tup []) h0) _ _ e1))
      rw [e2] at hLb
      cases hLb
    have sA : Same H2 (upd (upd (upd H2 t0 (.tup [])) l1 (.lst [.int 1])) d1 (.dK [])) := (same_new h0).trans ((same_new h1).trans (same_new hd1))
    have a0 : (upd (upd (upd H2 t0 (.tup [])) l1 (.lst [.int 1])) d1 (.dK [])) t0 = some (.tup []) := (same_new hd1) _ _ ((same_new h1) _ _ upd_same)
    have a1 : (upd (upd (upd H2 t0 (.tup [])) l1 (.lst [.int 1])) d1 (.dK [])) l1 = some (.lst [.int 1]) := (same_new hd1) _ _ upd_same
    have a2 : (upd (upd (upd H2 t0 (.tup [])) l1 (.lst [.int 1])) d1 (.dK [])) d1 = some (.dK []) := upd_same
    have n2 : l1 ≠ p := fun c => by
      rw [c] at h1
      rw [(same_new (o := .tup []) h0) _ _ (s2 _ _ hp1)] at h1
      cases h1
    generalize upd (upd (upd H2 t0 (.tup [])) l1 (.lst [.int 1])) d1 (.dK []) = H3 at sA a0 a1 a2 hLb
    have sB := same_new (o := .lst (wrongs t0 l1 d1)) hLb
    have nLp := n1
    show spOne ([V.ref p, V.ref Lb] ++ []) (upd H3 Lb (.lst (wrongs t0 l1 d1))) _ L2.E0
    refine ⟨p, Lb, x1, y1, z1, wrongs t0 l1 d1, rfl, sB _ _ (sA _ _ (s2 _ _ hp1)), upd_same, nLp.symm, (by show 0 < 9; decide), (by show 9 < 1073741824; decide), fun v x4 y4 z4 H4 hv hp4 b4 => ⟨(by show 2 ≤ sizeLine; decide), fun tt htt => ⟨tt, _, rfl, .inl (.inl upd_same), rfl, _, _, rfl, _, _, rfl, rfl, ?_⟩⟩⟩
    have hpB := sB _ _ (sA _ _ (s2 _ _ hp1))
    have sC := same_new (o := .tup [.ref a, v]) htt
    have tabs1 := tabs_but b1 hp tabs
    have T4 := (tabs_but b4 hpB (((tabs1.ext s2).ext sA).ext sB)).ext sC
    have n0 : t0 ≠ p := fun c => by rw [← c, sB _ _ a0] at hpB; cases hpB
    have n3 : d1 ≠ p := fun c => by rw [← c, sB _ _ a2] at hpB; cases hpB
    have a0' := sC _ _ (b4 _ _ n0 (sB _ _ a0))
    have a1' := sC _ _ (b4 _ _ n2 (sB _ _ a1))
    have a2' := sC _ _ (b4 _ _ n3 (sB _ _ a2))
    have hq4 := sqT_same sC (sqT_but2 b4 hpB (sqT_same (s2.trans (sA.trans sB)) hq))
    have ha4 := polyAt_same sC (polyAt_but b4 hpB (polyAt_same (sA.trans sB) ha))
    have hp5 := sC _ _ hp4
    have b05 : But p H (upd H4 tt (.tup [.ref a, v])) := but_trans b1 (but_trans (same_but (s2.trans (sA.trans sB))) (but_trans b4 (same_but sC)))
    dsimp only
    obtain ⟨H5, hh⟩ : ∃ H5, upd H4 tt (HO.tup [V.ref a, v]) = H5 := ⟨_, rfl⟩
    rw [hh] at T4 a0' a1' a2' hq4 ha4 hp5 b05
    rw [hh]
    clear a0 a1 a2 sA sB sC hpB b4 hp4 hLb htt n1 nLp h0 h1 hd1 ha hq s2 b1 hp1 tabs1 hh
    -- spot = roll(dice, len(some) + 1)
    have lq : (iv ns).length = ns.length := iv_len ns
    refine ⟨.ref p, rfl, .ref q, rfl, q, _, rfl, .inr hq4, _, _, rfl, rfl, p, x4, y4, z4, _, rfl, hp5, by omega, by omega, fun r x6 y6 z6 H6 r0 r1' hp6 b6 => ?_⟩
    obtain ⟨j, rfl⟩ := Int.eq_ofNat_of_zero_le r0
    have hj : j ≤ ns.length := by omega
    have T6 := tabs_but b6 hp5 T4
    obtain ⟨zz, bad, zok⟩ := wrong_bad (K := K) (b6 _ _ n0 a0') (b6 _ _ n2 a1') (b6 _ _ n3 a2') v hv
    clear a0' a1' a2' n0 n2 n3
    have b06 := but_trans b05 b6
    have hq6 := sqT_but2 b6 hp5 hq4
    have ha6 := polyAt_but b6 hp5 ha4
    dsimp only [gName]
    have nn : ∀ c ∈ ns, 0 ≤ c := fun c hc => (hok c hc).1
    have lt6 : ((iv ns).take j).length ≤ 6 := by rw [List.length_take]; omega
    have ld6 : ((iv ns).drop j).length ≤ 6 := by rw [List.length_drop]; omega
    have z6 : 20 ≤ sizeLine := by decide
    refine q_seq (q_asg (q_lst (q_cons (q_op (q_op ?_)))))
    refine ⟨_, rfl, _, rfl, _, rfl, ?_⟩
    show rSlA K (.ref q) none (some (j : Int)) H6 _
    refine sl_take hq6 (by omega) fun u1 H7 s7 hu1 => ⟨_, rfl, (by show 1 ≤ sizeLine; decide), fun u2 hu2 => ?_⟩
    have s7' := same_new (o := .tup [v]) hu2
    show rCatA K (.ref u1) (.ref u2) _ _
    refine catV (sqT_same s7' hu1) (.inl (.inl upd_same)) (by show _ + 1 ≤ sizeLine; omega) fun u3 H8 s8 hu3 => ⟨_, rfl, _, rfl, _, rfl, ?_⟩
    have s68 := s7.trans (s7'.trans s8)
    refine q_np ?_
    show rSlA K (.ref q) (some (j : Int)) none H8 _
    refine sl_drop (sqT_same s68 hq6) (by omega) fun u4 H9 s9 hu4 => ?_
    show rCatA K (.ref u3) (.ref u4) _ _
    refine catV (sqT_same s9 hu3) hu4 (by rw [List.length_append]; show _ + 1 + _ ≤ sizeLine; omega) fun u5 H10 s10 hu5 => q_cons ?_
    have s60 := s68.trans (s9.trans s10)
    refine ⟨_, rfl, q, _, rfl, .inr (sqT_same s60 hq6), fun l2 hl2 => fun d2 hd2 => fun d3 hd3 => ⟨upd_same, [(.inl 0, .int 1)], rfl, (by decide), ⟨_, rfl, (by show 1 ≤ sizeLine; decide), fun t2 ht2 => ⟨_, rfl, (by show 9 ≤ sizeLine; decide), fun Lo hLo => ?_⟩⟩⟩⟩
    have sl := same_new (o := .lst (iv ns)) hl2
    have sd := same_new (o := .dK []) hd2
    have sd3 : Same (upd (upd H10 l2 (.lst (iv ns))) d2 (.dK [])) (upd (upd (upd (upd H10 l2 (.lst (iv ns))) d2 (.dK [])) d3 (.dK [])) d3 (.dK (mergeK [] [(.inl 0, .int 1)]))) := same_upd hd3 (same_new hd3)
    have st2 := same_new (o := .tup [.ref q]) ht2
    have sLo := same_new (o := .lst [.ref u5, .ref l2, .non, .int 7, .str "12", .ref d2, .ref d3, .ref t2, .ref a]) hLo
    have c1 := (sd.trans (sd3.trans (st2.trans sLo))) _ _ (upd_same (a := l2) (o := .lst (iv ns)))
    have c2 := (sd3.trans (st2.trans sLo)) _ _ (upd_same (a := d2) (o := .dK []))
    have c3 := (st2.trans sLo) _ _ (upd_same (a := d3) (o := .dK (mergeK [] [(.inl 0, .int 1)])))
    have c4 := sLo _ _ (upd_same (a := t2) (o := .tup [.ref q]))
    have sall := s60.trans (sl.trans (sd.trans (sd3.trans (st2.trans sLo))))
    have c5 := (sl.trans (sd.trans (sd3.trans (st2.trans sLo))))
    have c6 := sqT_same c5 hu5
    have cq := sqT_same sall hq6
    have ca := polyAt_same sall ha6
    have cL := (upd_same (a := Lo) (o := .lst [.ref u5, .ref l2, .non, .int 7, .str "12", .ref d2, .ref d3, .ref t2, .ref a]) (H := upd (upd (upd (upd (upd H10 l2 (.lst (iv ns))) d2 (.dK [])) d3 (.dK [])) d3 (.dK (mergeK [] [(.inl 0, .int 1)]))) t2 (.tup [.ref q])))
    have cb := bad.ext (LamX.ExtN.of (sall))
    have cp := sall _ _ hp6
    have cT := T6.ext sall
    have cB : But p H (upd (upd (upd (upd (upd (upd H10 l2 (.lst (iv ns))) d2 (.dK [])) d3 (.dK [])) d3 (.dK (mergeK [] [(.inl 0, .int 1)]))) t2 (.tup [.ref q])) Lo (.lst [.ref u5, .ref l2, .non, .int 7, .str "12", .ref d2, .ref d3, .ref t2, .ref a])) := but_trans b06 (same_but sall)
    have odd : ∀ v ∈ [V.ref u5, .ref l2, .non, .int 7, .str "12", .ref d2, .ref d3, .ref t2, .ref a], OfBad K (upd (upd (upd (upd (upd (upd H10 l2 (.lst (iv ns))) d2 (.dK [])) d3 (.dK [])) d3 (.dK (mergeK [] [(.inl 0, .int 1)]))) t2 (.tup [.ref q])) Lo (.lst [.ref u5, .ref l2, .non, .int 7, .str "12", .ref d2, .ref d3, .ref t2, .ref a])) v := fun v hv => by
      simp only [List.mem_cons, List.not_mem_nil, or_false] at hv
      rcases hv with rfl | rfl | rfl | rfl | rfl | rfl | rfl | rfl | rfl
      · exact .inr ⟨_, _, rfl, c6, badL_mid nn (by omega) cb j hj⟩
      · exact .inl ⟨_, .base (.lst c1), kit_ty (by decide +kernel)⟩
      · exact .inl ⟨_, .base .non, kit_ty (by decide +kernel)⟩
      · exact .inl ⟨_, .base (.int _), kit_ty (by decide +kernel)⟩
      · exact .inl ⟨_, .base (.str _), kit_ty (by decide +kernel)⟩
      · exact .inl ⟨_, .base (.dK c2), kit_ty (by decide +kernel)⟩
      · exact .inl ⟨_, .base (.dK c3), kit_ty (by decide +kernel)⟩
      · exact .inr ⟨_, _, rfl, .inl (.inl c4), [false], rfl, fun i u b e1 e2 => by
          match i, e1, e2 with
          | 0, e1, e2 =>
            cases e1
            cases e2
            exact .inr ⟨rfl, notNum_tup cq⟩, by simp, by show 1 ≤ 1000; decide⟩
      · exact .inl ⟨_, tyx_poly Z.T Z.O ca, Z.ktup⟩
    obtain ⟨H12, hh⟩ : ∃ H12, (upd (upd (upd (upd (upd (upd H10 l2 (.lst (iv ns))) d2 (.dK [])) d3 (.dK [])) d3 (.dK (mergeK [] [(.inl 0, .int 1)]))) t2 (.tup [.ref q])) Lo (.lst [.ref u5, .ref l2, .non, .int 7, .str "12", .ref d2, .ref d3, .ref t2, .ref a])) = H12 := ⟨_, rfl⟩
    dsimp only [gName]
    rw [hh] at odd cB cT cp cb cL ca cq
    rw [hh]
    clear hh c1 c2 c3 c4 c5 c6 sl sd sd3 st2 sLo sall hLo ht2 hd3 hd2 hl2 s60 hu5 s10 hu4 s9 s68 hu3 s8 s7' hu2 hu1 s7 hp6 b6 ha6 hq6 bad T6 b06 T4 b05 hp5 ha4 hq4
    -- [one for one in odd if told(lambda: Polynomial.of(one)) != 'operation'] != []
    refine ⟨_, rfl, Lo, rfl, ⟨_, .inl (.inl cL)⟩, fun D hD => ?_⟩
    refine lc_list (xs := [V.ref u5, .ref l2, .non, .int 7, .str "12", .ref d2, .ref d3, .ref t2, .ref a]) (fun i H' => LamX.ExtN H12 H' ∧ LamX.Tabs T H' ∧ H' D = some (.lst [])) ⟨up (same_new hD), cT.ext (same_new hD), upd_same⟩ (fun i H' _ hV => .inl (.inl (hV.1 _ _ cL fun ps z => by cases z))) (fun i v' H' hv' hV => ?_) fun H' hV => ?_
    · obtain ⟨e1, T1, hD1⟩ := hV
      have ob := odd v' (List.mem_of_getElem? hv')
      refine ⟨rfl, T1, fun H2 e2 T2 => ⟨rfl, _, rfl, v', rfl, ofBad_ext (e1.trans e2) ob, fun H3 s3 => .inl ⟨rfl, rfl, _, rfl, if_no (by decide) ⟨e1.trans (e2.trans (up s3)), T2.ext s3, s3 _ _ (e2 _ _ hD1 fun ps z => by cases z)⟩⟩⟩⟩
    obtain ⟨e1, T1, hD1⟩ := hV
    refine ⟨by decide, fun G hG => ⟨_, _, .lst (.inl (.inl (same_new hG _ _ hD1))) .nil, .lst (.inl (.inl upd_same)) .nil, by decide, by decide, _, rfl, if_no (by decide) ?_⟩⟩
    have x2 := e1.trans (up (same_new (o := .lst []) hG))
    have T2 := T1.ext (same_new (o := .lst []) hG)
    obtain ⟨H13, hh⟩ : ∃ H13, upd H' G (.lst []) = H13 := ⟨_, rfl⟩
    dsimp only [tNext]
    rw [hh] at x2 T2
    rw [hh]
    clear hh hD1 hG e1 T1
    -- if sums_refused(thing, bad) != ['operation'] * 5
    refine ⟨_, rfl, _, rfl, a, v, _, zz, rfl, polyAt_ext x2 ca, cb.ext x2, T2, fun l Ha ea Ta hl => ?_⟩
    refine ⟨(by show 1 ≤ sizeLine; decide), fun m hm => ⟨m, 5, _, rfl, rfl, upd_same, by decide, by decide, (by show 5 ≤ sizeLine; decide), fun m2 hm2 => ?_⟩⟩
    have sm := (same_new (o := .lst [.str "operation"]) hm).trans (same_new (o := .lst (List.replicate (5 : Int).toNat [.str "operation"]).flatten) hm2)
    have d5 : ∀ (H : Hp) (q : Addr), H q = some (.lst [.str "operation", .str "operation", .str "operation", .str "operation", .str "operation"]) → Dp K H (.ref q) (.list [.str "operation", .str "operation", .str "operation", .str "operation", .str "operation"]) := fun H q e =>
      .lst (.inl (.inl e)) (.cons (.str _) (.cons (.str _) (.cons (.str _) (.cons (.str _) (.cons (.str _) .nil)))))
    refine ⟨_, _, d5 _ l (sm _ _ hl), d5 _ m2 upd_same, by decide +kernel, by decide +kernel, _, rfl, if_no (by decide +kernel) ?_⟩
    have x3 := x2.trans (ea.trans (up sm))
    have T3 := Ta.ext sm
    obtain ⟨Hb, hh⟩ : ∃ Hb, upd (upd Ha m (.lst [.str "operation"])) m2 (.lst (List.replicate (5 : Int).toNat [V.str "operation"]).flatten) = Hb := ⟨_, rfl⟩
    dsimp only
    rw [hh] at x3 T3
    rw [hh]
    clear hh sm hm2 hm hl
    -- or told(lambda: thing.at(3)) != 'operation'
    obtain ⟨dx3, tx3, q3, _⟩ := polyAt_ext x3 ca
    refine ⟨T3, fun H4 e4 T4 => ?_⟩
    obtain ⟨dx4, tx4, q4, q4'⟩ := polyAt_ext (x3.trans e4) ca
    refine ⟨_, rfl, a, dx4, _, rfl, q4, rfl, a, _, rfl, ⟨_, .base (.int 3), Z.kt "int" (by simp)⟩, fun H5 s5 => .inl ⟨rfl, rfl, _, rfl, if_no (by decide) ?_⟩⟩
    have x5 := x3.trans (e4.trans (up s5))
    have T5 := T4.ext s5
    -- if numbers_refused(thing, bad) != ['number ' + repr(bad)] * 3
    refine ⟨_, rfl, _, rfl, a, v, _, zz, rfl, polyAt_ext x5 ca, cb.ext x5, T5, fun l6 H6 e6 T6 hl6 => ?_⟩
    have x6 := x5.trans e6
    dsimp only
    refine q_op (q_lst (q_cons (q_op (q_c (q_cb (q_cons ⟨v, rfl, v, zz, rfl, (cb.ext x6).sh, _, _, rfl, rfl, (by have := cb.len; show 7 + zz.length ≤ sizeLine; have z2 : 2000 ≤ sizeLine := (by decide); omega), ?_⟩))))))
    refine ⟨(by show 1 ≤ sizeLine; decide), fun m6 hm6 => ⟨m6, 3, _, rfl, rfl, upd_same, by decide, by decide, (by show 3 ≤ sizeLine; decide), fun m7 hm7 => ?_⟩⟩
    have sm6 := (same_new (o := .lst [.str (Str.ofString "number " ++ zz)]) hm6).trans (same_new (o := .lst (List.replicate (3 : Int).toNat [.str (Str.ofString "number " ++ zz)]).flatten) hm7)
    have d6 : ∀ (H : Hp) (q : Addr), H q = some (.lst (nums3 zz)) → Dp K H (.ref q) (.list [.str (Str.ofString "number " ++ zz), .str (Str.ofString "number " ++ zz), .str (Str.ofString "number " ++ zz)]) := fun H q e =>
      .lst (.inl (.inl e)) (.cons (.str _) (.cons (.str _) (.cons (.str _) .nil)))
    have k6 := sh3 (Str.ofString "number " ++ zz) zok
    refine ⟨_, _, d6 _ l6 (sm6 _ _ hl6), d6 _ m7 upd_same, k6, k6, _, rfl, if_no (by rw [eq3]; decide) ?_⟩
    have x7 := x6.trans (up sm6)
    have T7 := T6.ext sm6
    obtain ⟨H7, hh⟩ : ∃ H7, upd (upd H6 m6 (.lst [.str (Str.ofString "number " ++ zz)])) m7 (.lst (List.replicate (3 : Int).toNat [V.str (Str.ofString "number " ++ zz)]).flatten) = H7 := ⟨_, rfl⟩
    rw [hh] at x7 T7
    rw [hh]
    clear hh sm6 hm6 hm7 hl6
    -- if told(lambda: thing ** 21) != 'operation'
    refine ⟨T7, fun H8 e8 T8 => ?_⟩
    obtain ⟨dx8, tx8, q8, _⟩ := polyAt_ext (x7.trans e8) ca
    refine ⟨_, rfl, a, 21, rfl, rfl, ⟨_, _, q8⟩, a, 21, rfl, (by decide), fun H9 s9 => .inl ⟨rfl, rfl, _, rfl, if_no (by decide) ?_⟩⟩
    have x9 := x7.trans (e8.trans (up s9))
    have T9 := T8.ext s9
    -- if told(lambda: thing ** 64) != 'operation'
    refine ⟨T9, fun H10 e10 T10 => ?_⟩
    obtain ⟨dx10, tx10, q10, _⟩ := polyAt_ext (x9.trans e10) ca
    refine ⟨_, rfl, a, 64, rfl, rfl, ⟨_, _, q10⟩, a, 64, rfl, (by decide), fun H11 s11 => .inl ⟨rfl, rfl, _, rfl, if_no (by decide) ?_⟩⟩
    have xB := x9.trans (e10.trans (up s11))
    have TB' := T10.ext s11
    -- if told(lambda: thing ** 20) != 'returned'
    refine ⟨TB', fun H20 e20 T20 => ?_⟩
    obtain ⟨dx20, tx20, q20, _⟩ := polyAt_ext (xB.trans e20) ca
    have Bn : Bd 70 (cutZ ns) := fun c hc => ⟨(hok c (cut_mem hc)).1, Int.lt_of_lt_of_le (hok c (cut_mem hc)).2 (by decide +kernel)⟩
    refine ⟨_, rfl, a, 20, rfl, rfl, ⟨_, _, q20⟩, a, 20, _, 70, rfl, polyAt_ext (xB.trans e20) ca, by decide, Nat.le_trans (cut_len ns) (by omega), Bn, by decide, by decide, fun w20 H21 s21 hw21 => ⟨rfl, _, rfl, if_no (by decide) ?_⟩⟩
    have xC := xB.trans (e20.trans (up s21))
    have TC := T20.ext s21
    -- return thing.coefficients == cut(some)
    obtain ⟨dx21, tx21, q21, _⟩ := polyAt_ext xC ca
    refine ⟨_, rfl, a, dx21, _, rfl, q21, a, _, rfl, polyAt_ext xC ca, fun ct hct => ⟨_, rfl, q, ns, rfl, .inr (sqT_ext xC cq), fun qq Hq sq hqq => ⟨_, _, .tup (sqT_same sq hct) (dps _), .tup hqq (dps _), shaped_tup _, shaped_tup _, ?_⟩⟩⟩
    rw [eqv_tup]
    simp only [decide_true]
    have xD := xC.trans (up sq)
    exact fin _ _ _ _ (xD _ _ cp fun ps z => by cases z) (TC.ext sq) fun b o nb hb nt => xD _ _ (cB _ _ nb hb) nt
end
end Qp


/-! the law -/
namespace Qp
open PySem PySem.Spec PyProof.Rows L2 QN Q0
abbrev sLaw : Stmt := top 39 -- law
abbrev lNames : List Str := ["_law_script", "_law_at", "_law_dice_here", "_law_turn", "_law_found"]
theorem scLaw : FnScope lNames ["_law_script"] (defScope sLaw) := ⟨rfl, rfl, rfl, by decide +kernel, rfl, by decide +kernel, by decide +kernel⟩
def lawQ : Str := "law.<locals>." ++ "<lambda>"
def spLaw (K : PySem.W.Frag) (T : List (Addr × Str)) : Sp := fun vs H Q _ => ∃ (a : Addr) (ns : List Int), vs = [.ref a] ∧ SqL K H a (ns.map V.int) ∧ LamX.Tabs T H ∧ ∀ H', Q (.bl true) H'
theorem sqL_ext {K : PySem.W.Frag} {H H' : Hp} {q : Addr} {xs : List V} (e : LamX.ExtN H H') (a : SqL K H q xs) : SqL K H' q xs := by
  rcases a with a | a
  · rcases a with a | ⟨u, a⟩
    · exact .inl (.inl (e _ _ a fun ps z => by cases z))
    · exact .inl (.inr ⟨u, e _ _ a fun ps z => by cases z⟩)
  · exact .inr a
section
variable {P : Program} {w : World} {K : PySem.W.Frag} {mg : Str → Option Value} {base : Heap} {C CO CN : Addr}
theorem ok_law {f fTo fD fV c Pt : Addr} {fd fdTo fdD fdV : FuncData} (F : Fun K "law" "law" sLaw f fd) (Z : Kr P w K mg base C CO CN) (code : fd.code = .ref c) (TB : LamX.TabB base mg c Pt) {T : List (Addr × Str)} (hmT : (Pt, lawQ) ∈ T) (huT : ∀ p ∈ T, p.1 = Pt → p.2 = lawQ) (ec : ErrC K mg CO CN)
    (FTo : Fun K "_law_told" "_law_told" sTold fTo fdTo) (bTo : L2.Binds K fdTo ["_law_call"] []) (gTo : mg "_law_told" = some (.ref fTo))
    (GD : FnOk P w K mg base CX0 1 fD fdD ["_law_script", "_law_at"] (spDice K)) (kD : PySem.W.keepIn K (.ref fD) = true) (bD : L2.Binds K fdD ["_law_script", "_law_at"] []) (gD : mg "_law_dice" = some (.ref fD))
    (GV : FnG P w K mg base 30 fV fdV ["_law_dice_here"] (spRi T)) (kV : PySem.W.keepIn K (.ref fV) = true) (bV : L2.Binds K fdV ["_law_dice_here"] []) (gV : mg "_law_right" = some (.ref fV)) (B : Blt mg) (B2 : Blt2 mg) (mn : mg "min" = none) :
    FnG P w K mg base 31 f fd ["_law_script"] (spLaw K T) := by
  refine Fun_okC F scLaw (fun vs H Q E h => ?_) (fun cdv A outer s H vs Q E hcd hr hng h => ?_)
  · obtain ⟨a, ns, rfl, _⟩ := h
    rfl
  · obtain ⟨a, ns, rfl, hS, tabs, fin⟩ := h
    have ecd : cdv = .ref c := hcd.symm.trans code
    subst ecd
    obtain ⟨oc, od, kV', doc, pm, an, cdE, ctE, osl, rfl, lkTo, hcTo⟩ := FTo.ex
    have hng' : NoRepr (A.deeper (envOfC "law" (defScope sLaw) s.heap.objs.size f (.ref c))) := noRepr_deeper hng
    have hu : (A.deeper (envOfC "law" (defScope sLaw) s.heap.objs.size f (.ref c))).units + 100 < cLine := by
      have := hr.un
      omega
    have hu64 : (A.deeper (envOfC "law" (defScope sLaw) s.heap.objs.size f (.ref c))).units + 64 < cLine := by omega
    have r1 := hr.mono (by decide : 1 ≤ 30)
    have r30 := hr.mono (by decide : 30 ≤ 30)
    refine ⟨_, (pss_cons (ps_for PassesOwn.never rfl (pi_range1 (by rfl) B2.rg (pa_cons (pe_callB (call_max2 rfl) (by rfl) B.max (by decide +kernel) (pa_cons pe_int (pa_cons (pe_callB (call_min2 rfl) (by rfl) mn (by decide +kernel) (pa_cons pe_int (pa_cons (pe_callB call_len_seq (by rfl) B.len PySem.boot_len (pa_cons (pv 0) pa_nil)) pa_nil))) pa_nil))) pa_nil)) (pg_name (i := 1) scLaw.nd rfl (.inl rfl))
      (pss_cons (ps_set (i := 2) scLaw.nd rfl (.inl rfl) (pe_call GD r1 (by rfl) gD kD bD .nil pass0 (pa_cons (pv 0) (pa_cons (pv 1) pa_nil))))
      (pss_one (ps_for PassesOwn.never rfl (pi_range1 (by rfl) B2.rg (pa_cons pe_int pa_nil)) (pg_name (i := 3) scLaw.nd rfl (.inl rfl))
      (pss_one (ps_if (pt_not (pt_val (pe_callG GV hng' r30 (by rfl) gV kV bV (pa_cons (pv 2) pa_nil)))) (pss_one (ps_ret pe_bl)) pss_nil))))))
      (pss_cons (ps_set (i := 4) scLaw.nd rfl (.inl rfl) (pe_lst (pa_cons (LamX.pe_lamcall (T := T) (c := c) (P := Pt) (k := 20) (t := fun E => StX.tMakeR C (spInitR K C CO) E (tCons (tC (.int 1)) (tCons (tUn (rU fun i => .int (-i)) (tC (.int 1))) tNil))) (by rfl) gTo FTo.kp lkTo hcTo bTo scTold rfl (.inl rfl) (told_gives ec hng' hu) TB rfl hmT huT (hr.mono (by omega)) (LamX.lamS_by (by show LamX.lamSB (defScope sLaw) _ = true; decide +kernel)) rfl (fun _ _ _ _ _ => rfl)
          (fun A outer s H E f c' hr2 => StX.pe_makeR Z.M Z.GIR (hr2.mono (by decide)) (by rfl) Z.T.gC pass_lam (pa_cons pe_int (pa_cons (pe_un un_neg pe_int) pa_nil)))) pa_nil)))
      (pss_cons (ps_expr (pe_bm PySem.F.plainAttrs_list PySem.F.slot_list_append PySem.F.type_list_append mt_append (pv 4) (pa_cons (LamX.pe_lamcall (T := T) (c := c) (P := Pt) (k := 20) (t := fun E => StX.tMakeR C (spInitR K C CO) E (tCons (tTup (tCons (tC (.int 1)) (tCons (tC (.int 2)) tNil))) tNil)) (by rfl) gTo FTo.kp lkTo hcTo bTo scTold rfl (.inl rfl) (told_gives ec hng' hu) TB rfl hmT huT (hr.mono (by omega)) (LamX.lamS_by (by show LamX.lamSB (defScope sLaw) _ = true; decide +kernel)) rfl (fun _ _ _ _ _ => rfl)
          (fun A outer s H E f c' hr2 => StX.pe_makeR Z.M Z.GIR (hr2.mono (by decide)) (by rfl) Z.T.gC pass_lam (pa_cons (pe_tup (pa_cons pe_int (pa_cons pe_int pa_nil))) pa_nil))) pa_nil)))
      (pss_cons (ps_expr (pe_bm PySem.F.plainAttrs_list PySem.F.slot_list_append PySem.F.type_list_append mt_append (pv 4) (pa_cons (LamX.pe_lamcall (T := T) (c := c) (P := Pt) (k := 20) (t := fun E => StX.tMakeR C (spInitR K C CO) E (tCons (tC (.bl false)) tNil)) (by rfl) gTo FTo.kp lkTo hcTo bTo scTold rfl (.inl rfl) (told_gives ec hng' hu) TB rfl hmT huT (hr.mono (by omega)) (LamX.lamS_by (by show LamX.lamSB (defScope sLaw) _ = true; decide +kernel)) rfl (fun _ _ _ _ _ => rfl)
          (fun A outer s H E f c' hr2 => StX.pe_makeR Z.M Z.GIR (hr2.mono (by decide)) (by rfl) Z.T.gC pass_lam (pa_cons pe_bl pa_nil))) pa_nil)))
      (pss_one (ps_ret (pe_cmpR (op_eqD hu64) (pv 4) (pe_op op_rep (pe_lst (pa_cons pe_str pa_nil)) pe_int) (nomark _)))))))), ?_⟩
    have up : ∀ {H1 H2 : Hp}, Same H1 H2 → LamX.ExtN H1 H2 := fun s => LamX.ExtN.of s
    refine ⟨_, rfl, a, _, rfl, .inl hS, _, _, rfl, _, _, rfl, _, rfl, ?_, ?_, ?_⟩
    · split <;> split <;> omega
    · split <;> split <;> omega
    refine for_range (fun i σ H' => ∃ y1 y2 y3 y4, σ = [some (.ref a), y1, y2, y3, y4] ∧ LamX.ExtN H H' ∧ LamX.Tabs T H') ⟨none, none, none, none, rfl, LamX.ExtN.refl _, tabs⟩ ?_ ?_
    · rintro i σ H' hi ⟨y1, y2, y3, y4, rfl, sm, T1⟩
      refine ⟨_, rfl, _, rfl, a, ns, i, by rw [Int.zero_add]; rfl, sqL_ext sm hS, fun p x y z np => ?_⟩
      refine ⟨3, rfl, by decide, by decide, for_range (n := 3) (fun j σ H2 => ∃ z1 z3 z4, σ = [some (.ref a), z1, some (.ref p), z3, z4] ∧ LamX.ExtN H H2 ∧ (∃ x y z : Int, H2 p = some (.lst (hand x y z))) ∧ LamX.Tabs T H2) ⟨_, _, _, rfl, sm.trans (LamX.ExtN.of (same_new np)), ⟨x, y, z, upd_same⟩, T1.ext (same_new np)⟩ ?_ ?_⟩
      · rintro j σ H2 hj ⟨z1, z3, z4, rfl, sm2, ⟨x2, y2', z2, hp2⟩, T2⟩
        refine ⟨.ref p, rfl, p, x2, y2', z2, rfl, hp2, T2, fun x3 y3' z3' H3 hp3 T3 bn => ⟨true, rfl, iteF ?_⟩⟩
        refine ⟨_, _, _, rfl, fun b o h nt => bn b o (fun e => ?_) (sm2 b o h nt) nt, ⟨x3, y3', z3', hp3⟩, T3⟩
        have y := sm b o h nt
        rw [e, np] at y
        cases y
      · rintro σ H2 ⟨z1, z3, z4, rfl, sm2, _, T2⟩
        exact ⟨_, _, _, _, rfl, sm2, T2⟩
    · rintro σ H' ⟨y1, y2, y3, y4, rfl, sm, T1⟩
      refine ⟨T1, fun H1 e1 T2 => ⟨1, rfl, fun x dx hx hdx ne => ⟨x, dx, _, rfl, upd_same, ?_, fun H2 s2 => .inl ⟨rfl, ?_⟩⟩⟩⟩
      · exact ⟨[true, false], rfl, fun i u b h1 h2 => by
          match i, h1, h2 with
          | 0, h1, h2 =>
            cases h1
            cases h2
            exact numV_nat (by decide)
          | 1, h1, h2 =>
            cases h1
            cases h2
            exact .inl ⟨_, rfl, rfl⟩, by simp, by show 2 ≤ 1000; decide⟩
      have sx := (same_new (o := .own x) hdx).trans (same_new (o := .ins C dx []) (by rw [upd_ne (fun c => ne c.symm)]; exact hx))
      have x2 := e1.trans (up (sx.trans s2))
      have T3 := (T2.ext sx).ext s2
      generalize upd (upd H1 dx (.own x)) x (.ins C dx []) = Hx at *
      refine ⟨(by show 1 ≤ sizeLine; decide), fun l nl => ?_⟩
      obtain ⟨nl0, x3, T4, e2⟩ := found_first (xs := [.str "operation"]) nl x2 T3
      generalize upd H2 l (.lst [.str "operation"]) = Ha at x3 T4 e2
      -- found.append(told(lambda: Polynomial((1, 2))))
      refine ⟨.ref l, rfl, .inl ⟨rfl, _, .inl (.inl e2)⟩, T4, fun H3 e3 T5 => ⟨(by show 2 ≤ sizeLine; decide), fun tt htt x dx hx hdx ne => ⟨x, dx, _, rfl, upd_same, ?_, fun H4 s4 => .inl ⟨rfl, ?_⟩⟩⟩⟩
      · have ht : (upd (upd (upd H3 tt (.tup [.int 1, .int 2])) dx (.own x)) x (.ins C dx [])) tt = some (.tup [.int 1, .int 2]) := by
          have c1 : tt ≠ dx := fun c => by rw [← c, upd_same] at hdx; cases hdx
          have c2 : tt ≠ x := fun c => by rw [← c, upd_same] at hx; cases hx
          rw [upd_ne c2, upd_ne c1, upd_same]
        exact ⟨[false], rfl, fun i u b h1 h2 => by
          match i, h1, h2 with
          | 0, h1, h2 =>
            cases h1
            cases h2
            exact .inr ⟨rfl, notNum_tup (.inl (.inl ht))⟩, by simp, by show 1 ≤ 1000; decide⟩
      have sy := (same_new (o := .tup [.int 1, .int 2]) htt).trans ((same_new (o := .own x) hdx).trans (same_new (o := .ins C dx []) (by rw [upd_ne (fun c => ne c.symm)]; exact hx)))
      obtain ⟨g4, x4, T6, e4⟩ := found_step (.str "operation") nl0 x3 e2 (e3.trans (up (sy.trans s4))) ((T5.ext sy).ext s4)
      refine ⟨l, _, _, rfl, rfl, g4, (by show 1 < sizeLine; decide), ?_⟩
      generalize upd H4 l _ = Hb at x4 T6 e4
      -- found.append(told(lambda: Polynomial(False)))
      refine ⟨.ref l, rfl, .inl ⟨rfl, _, .inl (.inl e4)⟩, T6, fun H5 e5 T7 x dx hx hdx ne => ⟨x, dx, _, rfl, upd_same, ?_, fun H6 s6 => .inl ⟨rfl, ?_⟩⟩⟩
      · exact ⟨[false], rfl, fun i u b h1 h2 => by
          match i, h1, h2 with
          | 0, h1, h2 =>
            cases h1
            cases h2
            exact .inr ⟨rfl, notNum_bl false⟩, by simp, by show 1 ≤ 1000; decide⟩
      have sz := (same_new (o := .own x) hdx).trans (same_new (o := .ins C dx []) (by rw [upd_ne (fun c => ne c.symm)]; exact hx))
      obtain ⟨g6, x6, T8, e6⟩ := found_step (.str "operation") nl0 x4 e4 (e5.trans (up (sz.trans s6))) ((T7.ext sz).ext s6)
      refine ⟨l, _, _, rfl, rfl, g6, (by show 2 < sizeLine; decide), ?_⟩
      generalize upd H6 l _ = Hc at x6 T8 e6
      -- return found == ['operation'] * 3
      refine ⟨_, rfl, (by show 1 ≤ sizeLine; decide), fun m hm => ⟨m, 3, _, rfl, rfl, upd_same, by decide, by decide, (by show 3 ≤ sizeLine; decide), fun m2 hm2 => ?_⟩⟩
      have sm' := (same_new (o := .lst [.str "operation"]) hm).trans (same_new (o := .lst (List.replicate (3 : Int).toNat [.str "operation"]).flatten) hm2)
      have d3 : ∀ (H : Hp) (q : Addr), H q = some (.lst [.str "operation", .str "operation", .str "operation"]) → Dp K H (.ref q) (.list [.str "operation", .str "operation", .str "operation"]) := fun H q e =>
        .lst (.inl (.inl e)) (.cons (.str _) (.cons (.str _) (.cons (.str _) .nil)))
      refine ⟨_, _, d3 _ l (sm' _ _ e6), d3 _ m2 upd_same, by decide +kernel, by decide +kernel, ?_⟩
      have ee : PyData.eqv (.list [.str "operation", .str "operation", .str "operation"]) (.list [.str "operation", .str "operation", .str "operation"]) = true := by decide +kernel
      rw [ee]
      exact fin _
end
end Qp

/-! what the top has written -/
namespace Qp
open PySem PySem.Spec PySem.W PyProof.Rows L2 QN Q0
theorem tabIn_of {K : Frag} {x : Str} {f c P : Addr} {oc od fd osl cc co vs sl} (h1 : nsIn K mainGlobals x = some (some (.ref f))) (h2 : K.lookup f = some ⟨oc, od, .func fd, osl⟩) (h3 : fd.code = .ref c) (h4 : K.lookup c = some ⟨cc, co, .fields vs, sl⟩) (h5 : vs[11]? = some (.ref P)) :
    tabIn K x = some (c, P) := by
  unfold tabIn
  simp only [h1, h2, h3, h4, h5]
def freeNames : List Str := ["len", "int", "abs", "max", "min", "isinstance", "bool", "tuple", "list", "range", "all", "sum", "repr", "super"]
def freeLook (K : Frag) : Bool := freeNames.all fun x => nsIn K mainGlobals x == some none
theorem free_of {K : Frag} {h : Heap} {mg : Str → Option Value} (X : K.In h) (G : h.Ns mainGlobals mg) (e : freeLook K = true) {x : Str} (hx : x ∈ freeNames) : mg x = none := by
  have z := List.all_eq_true.mp e x hx
  exact mg_none_of X G (beq_iff_eq.mp z)
def besLook (K : Frag) (nm T : String) (full : Bool) : Bool := match findIn K (.type T) (dunder nm), findIn K (.type T) (dunderR nm) with
  | some fo, some ro => (fo.isSome && !isSeqSlot fo || ro.isSome && !isSeqSlot ro) == full
  | _, _ => false
theorem bes_of {K : Frag} {nm T : String} {full : Bool} (h : besLook K nm T full = true) : ∃ fo, findIn K (.type T) (dunder nm) = some fo ∧ ∃ ro, findIn K (.type T) (dunderR nm) = some ro ∧ (fo.isSome && !isSeqSlot fo || ro.isSome && !isSeqSlot ro) = full := by
  unfold besLook at h
  split at h
  · rename_i fo ro e1 e2
    exact ⟨fo, e1, ro, e2, beq_iff_eq.mp h⟩
  · cases h
def kindLook (K : Frag) (C : Addr) (nm T : String) (full : Bool) : Bool := besLook K nm T full && subIn K (.type T) (.ref C) == some false && subIn K (.ref C) (.type T) == some false
theorem kind_of {K : Frag} {C : Addr} {nm T : String} {full : Bool} (h : kindLook K C nm T full = true) : KindB K C nm T full := by
  unfold kindLook at h
  simp only [Bool.and_eq_true, beq_iff_eq] at h
  exact ⟨bes_of h.1.1, h.1.2, h.2⟩
def clsLook (K : Frag) (C : Addr) : Bool :=
  plainGet K C Str.empty && hasDictIn K C && plainOver K C && findIn K (.ref C) "__setattr__" == some (some (.builtin "object.__setattr__")) && findIn K (.ref C) "_coefficients" == some none &&
  makesIn K C && keepIn K (.ref C) && readsIn K C (.type "type") && specialIn K (.ref C) "__getattribute__" == some (some (.builtin "type.__getattribute__"))
def objLook (K : Frag) (C : Addr) : Bool :=
  kitOne K (.ref C) (.ref C) == some true && kitOne K (.type "int") (.ref C) == some false && findIn K (.ref C) "__class__" == some (some (.builtin "object.__class__")) &&
  specialIn K (.builtin "object.__class__") "__get__" == some (some (.builtin "getset_descriptor.__get__")) && takesIn K (.builtin "object.__class__") == some true && mroIn K C (.type "object") == some true
def binLook (K : Frag) (C : Addr) : Bool :=
  selfFirst K C && subIn K (.ref C) (.type "int") == some false && subIn K (.type "int") (.ref C) == some false && besLook K "pow" "int" true && findIn K (.ref C) "__rpow__" == some none &&
  (lowT.all fun T => kindLook K C "add" T false) && (lowT.all fun T => kindLook K C "mul" T false) && kindLook K C "add" "int" true && kindLook K C "mul" "int" true && kindLook K C "add" "bool" true && kindLook K C "mul" "bool" true
def tyNames : List String := ["int", "bool", "NoneType", "str", "tuple", "list", "dict"]
def tyLook (K : Frag) (C : Addr) : Bool := (tyNames.all fun T => kitOne K (.type T) (.ref C) == some false) && kitOne K (.ref C) (.type "tuple") == some false
def fnLook (K : Frag) (fs : List Addr) : Bool := fs.all fun f => isFn K (.ref f)
def propLook (K : Frag) (p : Addr) : Bool := specialIn K (.ref p) "__get__" == some (some (.builtin "property.__get__")) && takesIn K (.ref p) == some true
def opLook (K : Frag) (CO : Addr) : Bool := excIn K CO [.type "ValueError", .type "Exception", .type "BaseException", .type "object"] "ValueError.__new__" && keepIn K (.ref CO) && subIn K (.ref CO) (.type "BaseException") == some true && typeIn K (.ref CO) == some (.type "type")
def errLook (K : Frag) (CO CN : Addr) : Bool := exmOne K (.ref CO) (.ref CO) == some true && exmOne K (.ref CN) (.ref CO) == some false && exmOne K (.ref CN) (.ref CN) == some true && xfB K CN && findIn K (.ref CN) "value" == some none
def numLook (K : Frag) (C fI : Addr) : Bool :=
  excInitIn K C ixBases "IndexError.__new__" && excOver K C ixBases && isFn K (.ref fI) && findIn K (.ref C) "__setattr__" == some (some (.builtin "object.__setattr__")) && takerIn K C "value" == some none &&
  subIn K (.ref C) (.type "IndexError") == some true && mroIn K C (.ref C) == some true && keepIn K (.ref C) && ks_superIn K C C "__init__" == some (some (.builtin "IndexError.__init__")) && hasDictIn K C &&
  subIn K (.ref C) (.type "BaseException") == some true && typeIn K (.ref C) == some (.type "type") && nsIn K cStatics "thirdparty.any" == some none
def tabLook4 (K : Frag) (P1 P2 P3 P4 : Addr) : Bool := (K.lookup P1).isNone && (K.lookup P2).isNone && (K.lookup P3).isNone && (K.lookup P4).isNone && decide (P1 ≠ P2) && decide (P1 ≠ P3) && decide (P1 ≠ P4) && decide (P2 ≠ P3) && decide (P2 ≠ P4) && decide (P3 ≠ P4)
def qN : List Pos := [⟨9, 8, 9, 13⟩, ⟨9, 8, 9, 15⟩, ⟨9, 8, 9, 24⟩, ⟨9, 25, 9, 57⟩, ⟨9, 8, 9, 58⟩, ⟨9, 8, 9, 58⟩, ⟨10, 8, 10, 12⟩, ⟨10, 8, 10, 18⟩, ⟨10, 21, 10, 26⟩, ⟨10, 8, 10, 26⟩]
def atN (l : List Pos) (n : Nat) : Pos := l.getD n ⟨0, 0, 0, 0⟩
def mN : Str := "no integer that may stand here"
theorem lineN : LineOk mN (atN qN) := ⟨_, fun env => rfl⟩
theorem nameN : NameOk "value" := ⟨rfl, rfl, rfl, rfl, by decide, by decide, fun _ _ _ _ _ _ _ _ _ _ _ _ _ _ => rfl⟩
theorem uniq4 {P1 P2 P3 P4 : Addr} {q1 q2 q3 q4 : Str} (n12 : P1 ≠ P2) (n13 : P1 ≠ P3) (n14 : P1 ≠ P4) (n23 : P2 ≠ P3) (n24 : P2 ≠ P4) (n34 : P3 ≠ P4) :
    (∀ q ∈ [(P1, q1), (P2, q2), (P3, q3), (P4, q4)], q.1 = P1 → q.2 = q1) ∧ (∀ q ∈ [(P1, q1), (P2, q2), (P3, q3), (P4, q4)], q.1 = P2 → q.2 = q2) ∧ (∀ q ∈ [(P1, q1), (P2, q2), (P3, q3), (P4, q4)], q.1 = P3 → q.2 = q3) ∧ (∀ q ∈ [(P1, q1), (P2, q2), (P3, q3), (P4, q4)], q.1 = P4 → q.2 = q4) := by
  refine ⟨fun q hq hp => ?_, fun q hq hp => ?_, fun q hq hp => ?_, fun q hq hp => ?_⟩ <;> simp only [List.mem_cons, List.not_mem_nil, or_false] at hq <;> rcases hq with rfl | rfl | rfl | rfl <;> first | rfl | exact absurd hp (by assumption) | exact absurd hp.symm (by assumption)

def allLook (K : Frag) (C CO CN pC gO gG gCl fI P1 P2 P3 P4 : Addr) (fs : List Addr) : Bool := freeLook K && clsLook K C && objLook K C && binLook K C && tyLook K C && fnLook K fs && propLook K pC && fnIn K gO && fnIn K gG && fnIn K gCl && opLook K CO && errLook K CO CN && numLook K CN fI && tabLook4 K P1 P2 P3 P4
def spLawT (K : PySem.W.Frag) (cs : List (Addr × Addr)) : Sp := spLaw K ((cs.map (·.2)).zip [suQ, nuQ, riQ, lawQ])
theorem all_mk {p q : Program} {lo : List Str} {mean : ExcName → Option Value} {w : World} {K : Frag} {h : Heap} {mg mb : Str → Option Value} {e1 e2 e3 e4 : DefRec} {fa C CO CN pO pC fI dN ccN c1 c2 c3 c4 P1 P2 P3 P4 : Addr} {rO rC : List Value} {tm : Tok} (Tp : Top q lo mean mg mb h) (X : K.In h) (hfa : mg "law" = some (.ref fa))
    (d1 : (recsOf q).find? (fun e => e.name == ("_law_sums_refused" : Str)) = some e1) (d2 : (recsOf q).find? (fun e => e.name == ("_law_numbers_refused" : Str)) = some e2) (d3 : (recsOf q).find? (fun e => e.name == ("_law_right" : Str)) = some e3) (d4 : (recsOf q).find? (fun e => e.name == ("law" : Str)) = some e4)
    {g0 : Addr} {od0 an0 : Option Addr} {sl0 : Array (Option Value)} {oc0 kV0 dc0 pm0 cd0 ct0 : Value}
    {g1 : Addr} {od1 an1 : Option Addr} {sl1 : Array (Option Value)} {oc1 kV1 dc1 pm1 cd1 ct1 : Value}
    {g2 : Addr} {od2 an2 : Option Addr} {sl2 : Array (Option Value)} {oc2 kV2 dc2 pm2 cd2 ct2 : Value}
    {g3 : Addr} {od3 an3 : Option Addr} {sl3 : Array (Option Value)} {oc3 kV3 dc3 pm3 cd3 ct3 : Value}
    {g4 : Addr} {od4 an4 : Option Addr} {sl4 : Array (Option Value)} {oc4 kV4 dc4 pm4 cd4 ct4 : Value}
    {g5 : Addr} {od5 an5 : Option Addr} {sl5 : Array (Option Value)} {oc5 kV5 dc5 pm5 cd5 ct5 : Value}
    {g6 : Addr} {od6 an6 : Option Addr} {sl6 : Array (Option Value)} {oc6 kV6 dc6 pm6 ct6 : Value}
    {g7 : Addr} {od7 an7 : Option Addr} {sl7 : Array (Option Value)} {oc7 kV7 dc7 pm7 ct7 : Value}
    {g8 : Addr} {od8 an8 : Option Addr} {sl8 : Array (Option Value)} {oc8 kV8 dc8 pm8 ct8 : Value}
    {g9 : Addr} {od9 an9 : Option Addr} {sl9 : Array (Option Value)} {oc9 kV9 dc9 pm9 ct9 : Value}
    {g10 : Addr} {od10 an10 : Option Addr} {sl10 : Array (Option Value)} {oc10 kV10 dc10 pm10 cd10 ct10 : Value}
    {g11 : Addr} {od11 an11 : Option Addr} {sl11 : Array (Option Value)} {oc11 kV11 dc11 pm11 cd11 ct11 : Value}
    {g12 : Addr} {od12 an12 : Option Addr} {sl12 : Array (Option Value)} {oc12 kV12 dc12 pm12 cd12 ct12 : Value}
    {g13 : Addr} {od13 an13 : Option Addr} {sl13 : Array (Option Value)} {oc13 kV13 dc13 pm13 cd13 ct13 : Value}
    {g14 : Addr} {od14 an14 : Option Addr} {sl14 : Array (Option Value)} {oc14 kV14 dc14 pm14 cd14 ct14 : Value}
    {g15 : Addr} {od15 an15 : Option Addr} {sl15 : Array (Option Value)} {oc15 kV15 dc15 pm15 cd15 ct15 : Value}
    {g16 : Addr} {od16 an16 : Option Addr} {sl16 : Array (Option Value)} {oc16 kV16 dc16 pm16 cd16 ct16 : Value}
    {g17 : Addr} {od17 an17 : Option Addr} {sl17 : Array (Option Value)} {oc17 kV17 dc17 pm17 cd17 ct17 : Value}
    {g18 : Addr} {od18 an18 : Option Addr} {sl18 : Array (Option Value)} {oc18 kV18 dc18 pm18 cd18 ct18 : Value}
    {g19 : Addr} {od19 an19 : Option Addr} {sl19 : Array (Option Value)} {oc19 kV19 dc19 pm19 cd19 ct19 : Value}
    {g20 : Addr} {od20 an20 : Option Addr} {sl20 : Array (Option Value)} {oc20 kV20 dc20 pm20 cd20 ct20 : Value}
    {g21 : Addr} {od21 an21 : Option Addr} {sl21 : Array (Option Value)} {oc21 kV21 dc21 pm21 cd21 ct21 : Value}
    {g22 : Addr} {od22 an22 : Option Addr} {sl22 : Array (Option Value)} {oc22 kV22 dc22 pm22 cd22 ct22 : Value}
    {g23 : Addr} {od23 an23 : Option Addr} {sl23 : Array (Option Value)} {oc23 kV23 dc23 pm23 cd23 ct23 : Value}
    {g24 : Addr} {od24 an24 : Option Addr} {sl24 : Array (Option Value)} {oc24 kV24 dc24 pm24 cd24 ct24 : Value}
    {g25 : Addr} {od25 an25 : Option Addr} {sl25 : Array (Option Value)} {oc25 kV25 dc25 pm25 cd25 ct25 : Value}
    {g26 : Addr} {od26 an26 : Option Addr} {sl26 : Array (Option Value)} {oc26 kV26 dc26 pm26 cd26 ct26 : Value}
    {g27 : Addr} {od27 an27 : Option Addr} {sl27 : Array (Option Value)} {oc27 kV27 dc27 pm27 cd27 ct27 : Value}
    {g28 : Addr} {od28 an28 : Option Addr} {sl28 : Array (Option Value)} {oc28 kV28 dc28 pm28 cd28 ct28 : Value}
    {cc1 cc2 cc3 cc4 : Value} {co1 co2 co3 co4 : Option Addr} {cv1 cv2 cv3 cv4 : Array Value} {cs1 cs2 cs3 cs4 : Array (Option Value)}
    {vo8 va8 ro8 yo8 : Option Addr} {vs8 : Array (Option Value)} {vc8 vk8 vd8 vp8 vt8 rc8 yc8 : Value} {rs8 ys8 : Array (Option Value)} {rv8 : Array Value} {file8 : Str} {tf8 : Tok}
    (nC : nsIn K mainGlobals "Polynomial" = some (some (.ref C))) (nO : nsIn K mainGlobals "InvalidOperation" = some (some (.ref CO))) (nN : nsIn K mainGlobals "InvalidNumber" = some (some (.ref CN))) (nM : nsIn K mainGlobals "_MAX_EXPONENT" = some (some (.int 20 tm)))
    (a0 : nsIn K mainGlobals "_law_dice" = some (some (.ref g0))) (l0 : K.lookup g0 = some ⟨oc0, od0, .func (fnOf "_law_dice" "_law_dice" (defArgs sDice) (defBody sDice) (defScope sDice) .none kV0 dc0 pm0 an0 cd0 ct0), sl0⟩) (u0 : codeIn K cd0 "_law_dice" = true) (k0 : keepIn K (.ref g0) = true)
    (a1 : nsIn K mainGlobals "_law_roll" = some (some (.ref g1))) (l1 : K.lookup g1 = some ⟨oc1, od1, .func (fnOf "_law_roll" "_law_roll" (defArgs sRoll) (defBody sRoll) (defScope sRoll) .none kV1 dc1 pm1 an1 cd1 ct1), sl1⟩) (u1 : codeIn K cd1 "_law_roll" = true) (k1 : keepIn K (.ref g1) = true)
    (a2 : nsIn K mainGlobals "_law_one_of" = some (some (.ref g2))) (l2 : K.lookup g2 = some ⟨oc2, od2, .func (fnOf "_law_one_of" "_law_one_of" (defArgs sOne) (defBody sOne) (defScope sOne) .none kV2 dc2 pm2 an2 cd2 ct2), sl2⟩) (u2 : codeIn K cd2 "_law_one_of" = true) (k2 : keepIn K (.ref g2) = true)
    (a3 : nsIn K mainGlobals "_law_coefficients" = some (some (.ref g3))) (l3 : K.lookup g3 = some ⟨oc3, od3, .func (fnOf "_law_coefficients" "_law_coefficients" (defArgs sCoef) (defBody sCoef) (defScope sCoef) .none kV3 dc3 pm3 an3 cd3 ct3), sl3⟩) (u3 : codeIn K cd3 "_law_coefficients" = true) (k3 : keepIn K (.ref g3) = true)
    (a4 : nsIn K mainGlobals "_law_cut" = some (some (.ref g4))) (l4 : K.lookup g4 = some ⟨oc4, od4, .func (fnOf "_law_cut" "_law_cut" (defArgs sCut) (defBody sCut) (defScope sCut) .none kV4 dc4 pm4 an4 cd4 ct4), sl4⟩) (u4 : codeIn K cd4 "_law_cut" = true) (k4 : keepIn K (.ref g4) = true)
    (a5 : nsIn K mainGlobals "_law_told" = some (some (.ref g5))) (l5 : K.lookup g5 = some ⟨oc5, od5, .func (fnOf "_law_told" "_law_told" (defArgs sTold) (defBody sTold) (defScope sTold) .none kV5 dc5 pm5 an5 cd5 ct5), sl5⟩) (u5 : codeIn K cd5 "_law_told" = true) (k5 : keepIn K (.ref g5) = true)
    (a6 : nsIn K mainGlobals "_law_sums_refused" = some (some (.ref g6))) (l6 : K.lookup g6 = some ⟨oc6, od6, .func (fnOf "_law_sums_refused" "_law_sums_refused" (defArgs sSu) (defBody sSu) (defScope sSu) .none kV6 dc6 pm6 an6 (.ref c1) ct6), sl6⟩) (u6 : codeIn K (.ref c1) "_law_sums_refused" = true) (k6 : keepIn K (.ref g6) = true)
    (a7 : nsIn K mainGlobals "_law_numbers_refused" = some (some (.ref g7))) (l7 : K.lookup g7 = some ⟨oc7, od7, .func (fnOf "_law_numbers_refused" "_law_numbers_refused" (defArgs sNu) (defBody sNu) (defScope sNu) .none kV7 dc7 pm7 an7 (.ref c2) ct7), sl7⟩) (u7 : codeIn K (.ref c2) "_law_numbers_refused" = true) (k7 : keepIn K (.ref g7) = true)
    (a8 : nsIn K mainGlobals "_law_right" = some (some (.ref g8))) (l8 : K.lookup g8 = some ⟨oc8, od8, .func (fnOf "_law_right" "_law_right" (defArgs sRi) (defBody sRi) (defScope sRi) .none kV8 dc8 pm8 an8 (.ref c3) ct8), sl8⟩) (u8 : codeIn K (.ref c3) "_law_right" = true) (k8 : keepIn K (.ref g8) = true)
    (a9 : nsIn K mainGlobals "law" = some (some (.ref g9))) (l9 : K.lookup g9 = some ⟨oc9, od9, .func (fnOf "law" "law" (defArgs sLaw) (defBody sLaw) (defScope sLaw) .none kV9 dc9 pm9 an9 (.ref c4) ct9), sl9⟩) (u9 : codeIn K (.ref c4) "law" = true) (k9 : keepIn K (.ref g9) = true)
    (a10 : nsIn K mainGlobals "is_integer" = some (some (.ref g10))) (l10 : K.lookup g10 = some ⟨oc10, od10, .func (fnOf "is_integer" "is_integer" (defArgs sIsI) (defBody sIsI) (defScope sIsI) .none kV10 dc10 pm10 an10 cd10 ct10), sl10⟩) (u10 : codeIn K cd10 "is_integer" = true) (k10 : keepIn K (.ref g10) = true)
    (a11 : nsIn K mainGlobals "is_natural" = some (some (.ref g11))) (l11 : K.lookup g11 = some ⟨oc11, od11, .func (fnOf "is_natural" "is_natural" (defArgs sIsN) (defBody sIsN) (defScope sIsN) .none kV11 dc11 pm11 an11 cd11 ct11), sl11⟩) (u11 : codeIn K cd11 "is_natural" = true) (k11 : keepIn K (.ref g11) = true)
    (a12 : nsIn K mainGlobals "check_number" = some (some (.ref g12))) (l12 : K.lookup g12 = some ⟨oc12, od12, .func (fnOf "check_number" "check_number" (defArgs sChk) (defBody sChk) (defScope sChk) .none kV12 dc12 pm12 an12 cd12 ct12), sl12⟩) (u12 : codeIn K cd12 "check_number" = true) (k12 : keepIn K (.ref g12) = true)
    (a13 : nsIn K mainGlobals "_without_zeros" = some (some (.ref g13))) (l13 : K.lookup g13 = some ⟨oc13, od13, .func (fnOf "_without_zeros" "_without_zeros" (defArgs sWz) (defBody sWz) (defScope sWz) .none kV13 dc13 pm13 an13 cd13 ct13), sl13⟩) (u13 : codeIn K cd13 "_without_zeros" = true) (k13 : keepIn K (.ref g13) = true)
    (a14 : nsIn K mainGlobals "_sums" = some (some (.ref g14))) (l14 : K.lookup g14 = some ⟨oc14, od14, .func (fnOf "_sums" "_sums" (defArgs sSums) (defBody sSums) (defScope sSums) .none kV14 dc14 pm14 an14 cd14 ct14), sl14⟩) (u14 : codeIn K cd14 "_sums" = true) (k14 : keepIn K (.ref g14) = true)
    (a15 : nsIn K mainGlobals "_products" = some (some (.ref g15))) (l15 : K.lookup g15 = some ⟨oc15, od15, .func (fnOf "_products" "_products" (defArgs sProds) (defBody sProds) (defScope sProds) .none kV15 dc15 pm15 an15 cd15 ct15), sl15⟩) (u15 : codeIn K cd15 "_products" = true) (k15 : keepIn K (.ref g15) = true)
    (a16 : nsIn K mainGlobals "_factor" = some (some (.ref g16))) (l16 : K.lookup g16 = some ⟨oc16, od16, .func (fnOf "_factor" "_factor" (defArgs sFac) (defBody sFac) (defScope sFac) .none kV16 dc16 pm16 an16 cd16 ct16), sl16⟩) (u16 : codeIn K cd16 "_factor" = true) (k16 : keepIn K (.ref g16) = true)
    (a17 : findIn K (.ref C) "__init__" = some (some (.ref g17))) (l17 : K.lookup g17 = some ⟨oc17, od17, .func (fnOf "__init__" "Polynomial.__init__" (defArgs sInit) (defBody sInit) (defScope sInit) .none kV17 dc17 pm17 an17 cd17 ct17), sl17⟩) (u17 : codeIn K cd17 "Polynomial.__init__" = true) (k17 : keepIn K (.ref g17) = true)
    (a18 : findCls K (.ref C) (.type "type") "of" = some (.get (.builtin "classmethod.__get__") (.ref pO) .none (.ref C))) (r18 : recIn K pO "classmethod" = some (.ref g18 :: rO)) (l18 : K.lookup g18 = some ⟨oc18, od18, .func (fnOf "of" "Polynomial.of" (defArgs sOf) (defBody sOf) (defScope sOf) .none kV18 dc18 pm18 an18 cd18 ct18), sl18⟩) (u18 : codeIn K cd18 "Polynomial.of" = true) (k18 : keepIn K (.ref g18) = true)
    (a19 : findIn K (.ref C) "coefficients" = some (some (.ref pC))) (r19 : recIn K pC "property" = some (.ref g19 :: rC)) (l19 : K.lookup g19 = some ⟨oc19, od19, .func (fnOf "coefficients" "Polynomial.coefficients" (defArgs sCo) (defBody sCo) (defScope sCo) .none kV19 dc19 pm19 an19 cd19 ct19), sl19⟩) (u19 : codeIn K cd19 "Polynomial.coefficients" = true) (k19 : keepIn K (.ref g19) = true)
    (a20 : findIn K (.ref C) "__call__" = some (some (.ref g20))) (l20 : K.lookup g20 = some ⟨oc20, od20, .func (fnOf "__call__" "Polynomial.__call__" (defArgs sCall) (defBody sCall) (defScope sCall) .none kV20 dc20 pm20 an20 cd20 ct20), sl20⟩) (u20 : codeIn K cd20 "Polynomial.__call__" = true) (k20 : keepIn K (.ref g20) = true)
    (a21 : findIn K (.ref C) "__getitem__" = some (some (.ref g21))) (l21 : K.lookup g21 = some ⟨oc21, od21, .func (fnOf "__getitem__" "Polynomial.__getitem__" (defArgs sGet) (defBody sGet) (defScope sGet) .none kV21 dc21 pm21 an21 cd21 ct21), sl21⟩) (u21 : codeIn K cd21 "Polynomial.__getitem__" = true) (k21 : keepIn K (.ref g21) = true)
    (a22 : findIn K (.ref C) "__add__" = some (some (.ref g22))) (l22 : K.lookup g22 = some ⟨oc22, od22, .func (fnOf "__add__" "Polynomial.__add__" (defArgs sAdd) (defBody sAdd) (defScope sAdd) .none kV22 dc22 pm22 an22 cd22 ct22), sl22⟩) (u22 : codeIn K cd22 "Polynomial.__add__" = true) (k22 : keepIn K (.ref g22) = true)
    (a23 : findIn K (.ref C) "__radd__" = some (some (.ref g23))) (l23 : K.lookup g23 = some ⟨oc23, od23, .func (fnOf "__radd__" "Polynomial.__radd__" (defArgs sRadd) (defBody sRadd) (defScope sRadd) .none kV23 dc23 pm23 an23 cd23 ct23), sl23⟩) (u23 : codeIn K cd23 "Polynomial.__radd__" = true) (k23 : keepIn K (.ref g23) = true)
    (a24 : findIn K (.ref C) "__mul__" = some (some (.ref g24))) (l24 : K.lookup g24 = some ⟨oc24, od24, .func (fnOf "__mul__" "Polynomial.__mul__" (defArgs sMul) (defBody sMul) (defScope sMul) .none kV24 dc24 pm24 an24 cd24 ct24), sl24⟩) (u24 : codeIn K cd24 "Polynomial.__mul__" = true) (k24 : keepIn K (.ref g24) = true)
    (a25 : findIn K (.ref C) "__rmul__" = some (some (.ref g25))) (l25 : K.lookup g25 = some ⟨oc25, od25, .func (fnOf "__rmul__" "Polynomial.__rmul__" (defArgs sRmul) (defBody sRmul) (defScope sRmul) .none kV25 dc25 pm25 an25 cd25 ct25), sl25⟩) (u25 : codeIn K cd25 "Polynomial.__rmul__" = true) (k25 : keepIn K (.ref g25) = true)
    (a26 : findIn K (.ref C) "__pow__" = some (some (.ref g26))) (l26 : K.lookup g26 = some ⟨oc26, od26, .func (fnOf "__pow__" "Polynomial.__pow__" (defArgs sPow) (defBody sPow) (defScope sPow) .none kV26 dc26 pm26 an26 cd26 ct26), sl26⟩) (u26 : codeIn K cd26 "Polynomial.__pow__" = true) (k26 : keepIn K (.ref g26) = true)
    (a27 : findIn K (.ref C) "at" = some (some (.ref g27))) (l27 : K.lookup g27 = some ⟨oc27, od27, .func (fnOf "at" "Polynomial.at" (defArgs sAt) (defBody sAt) (defScope sAt) .none kV27 dc27 pm27 an27 cd27 ct27), sl27⟩) (u27 : codeIn K cd27 "Polynomial.at" = true) (k27 : keepIn K (.ref g27) = true)
    (a28 : findIn K (.ref C) "reach" = some (some (.ref g28))) (l28 : K.lookup g28 = some ⟨oc28, od28, .func (fnOf "reach" "Polynomial.reach" (defArgs sReach) (defBody sReach) (defScope sReach) .none kV28 dc28 pm28 an28 cd28 ct28), sl28⟩) (u28 : codeIn K cd28 "Polynomial.reach" = true) (k28 : keepIn K (.ref g28) = true)
    (j1 : K.lookup c1 = some ⟨cc1, co1, .fields cv1, cs1⟩) (i1 : cv1[11]? = some (.ref P1))
    (j2 : K.lookup c2 = some ⟨cc2, co2, .fields cv2, cs2⟩) (i2 : cv2[11]? = some (.ref P2))
    (j3 : K.lookup c3 = some ⟨cc3, co3, .fields cv3, cs3⟩) (i3 : cv3[11]? = some (.ref P3))
    (j4 : K.lookup c4 = some ⟨cc4, co4, .fields cv4, cs4⟩) (i4 : cv4[11]? = some (.ref P4))
    (iN : findIn K (.ref CN) "__init__" = some (some (.ref fI))) (vN : K.lookup fI = some ⟨vc8, vo8, .func (ksFn "__init__" "InvalidNumber.__init__" (iA "value" ⟨8, 17, 8, 21⟩ ⟨8, 23, 8, 28⟩) (iB "value" mN (atN qN)) (iS "value") .none vk8 vd8 vp8 va8 (.ref dN) vt8 ccN), vs8⟩) (wN : codeIn K (.ref dN) "InvalidNumber.__init__" = true)
    (rN : K.lookup dN = some ⟨rc8, ro8, .fields rv8, rs8⟩) (xN : rv8[2]? = some (.str file8 tf8)) (pN : ((p.main.file : Str) == file8) = true) (yN : K.lookup ccN = some ⟨yc8, yo8, .cell (some (.ref CN)), ys8⟩) (top : (p.main.scope.names.lookup ("super" : Str)).isSome = false)
    (look : allLook K C CO CN pC g18 g21 g20 fI P1 P2 P3 P4 [g17, g20, g21, g22, g23, g24, g25, g26, g27, g28] = true) :
    ∃ (fd : FuncData) (cs : List (Addr × Addr)), (∀ b ∈ cs.map (·.2), h.get? b = some emptyTab) ∧ (∀ b ∈ cs.map (·.2), K.lookup b = none) ∧ (∀ p ∈ cs, PySem.W.CodeHd h p.1 p.2) ∧ (∀ (s : Shared) (u : Value), BindsTo s fd ⟨[u], []⟩ [("_law_script", u)]) ∧
        (∀ (H : Hp) (a : Addr) (ns : List Int), ns.length ≤ 63 → (∀ z ∈ ns, Builtin.Int.intBits z ≤ 1048576) → (∀ p ∈ cs, H p.2 = some (.tbl #[])) → SqL K H a (ns.map V.int) → spLawT K cs [.ref a] H (fun v _ => v = .bl true) fun _ _ _ => False) ∧
        ∀ base : Heap, K.In base → base.Ns mainGlobals mg → (∀ p ∈ cs, LamX.TabB base mg p.1 p.2) → FnG p w K mg base 31 fa fd ["_law_script"] (spLawT K cs) := by
  have G := Tp.g
  have e := hfa.symm.trans (mg_of X G a9)
  cases e
  unfold allLook at look
  simp only [Bool.and_eq_true] at look
  obtain ⟨⟨⟨⟨⟨⟨⟨⟨⟨⟨⟨⟨⟨q1, q2⟩, q3⟩, q4⟩, q5⟩, q6⟩, q7⟩, q9⟩, q10⟩, q15⟩, q11⟩, q12⟩, q13⟩, q14⟩ := look
  unfold clsLook at q2
  unfold objLook at q3
  unfold binLook at q4
  unfold tyLook at q5
  unfold fnLook at q6
  unfold propLook at q7
  unfold opLook at q11
  unfold errLook at q12
  unfold numLook at q13
  unfold tabLook4 at q14
  simp only [Bool.and_eq_true, beq_iff_eq, Option.isNone_iff_eq_none, decide_eq_true_eq] at q2 q3 q4 q5 q7 q11 q12 q13 q14
  obtain ⟨⟨⟨⟨⟨⟨⟨⟨w1, w2⟩, w3⟩, w4⟩, w5⟩, w6⟩, w7⟩, w8⟩, w9⟩ := q2
  obtain ⟨⟨⟨⟨⟨i1', i2'⟩, i3'⟩, i4'⟩, i5⟩, i6⟩ := q3
  obtain ⟨⟨⟨⟨⟨⟨⟨⟨⟨⟨b1, b2⟩, b3⟩, b4⟩, b5⟩, b6⟩, b7⟩, b8⟩, b9⟩, b10⟩, b11⟩ := q4
  obtain ⟨⟨⟨o1, o2⟩, o3⟩, o4⟩ := q11
  obtain ⟨⟨⟨⟨x1, x2⟩, x3⟩, x4⟩, x5⟩ := q12
  obtain ⟨⟨⟨⟨⟨⟨⟨⟨⟨⟨⟨⟨v1, v2⟩, v3⟩, v4⟩, v5⟩, v6⟩, v7⟩, v8⟩, v9⟩, v10⟩, v11⟩, v12⟩, v13⟩ := q13
  obtain ⟨⟨⟨⟨⟨⟨⟨⟨⟨t1, t2⟩, t3⟩, t4⟩, t12⟩, t13⟩, t14⟩, t23⟩, t24⟩, t34⟩ := q14
  have fn : ∀ {f : Addr}, f ∈ [g17, g20, g21, g22, g23, g24, g25, g26, g27, g28] → isFn K (.ref f) = true := fun {f} hf => List.all_eq_true.mp q6 f hf
  have fr : ∀ {x : Str}, x ∈ freeNames → mg x = none := fun {x} hx => free_of X G q1 hx
  have nos : nsIn K mainGlobals "super" = some none := beq_iff_eq.mp (List.all_eq_true.mp q1 "super" (by decide))
  have B1 : Blt mg := ⟨fr (by decide), fr (by decide), fr (by decide), fr (by decide)⟩
  have BP : BltP mg := ⟨fr (by decide), fr (by decide), fr (by decide), fr (by decide), fr (by decide), fr (by decide)⟩
  have B2 : Blt2 mg := ⟨fr (by decide), fr (by decide), fr (by decide)⟩
  have BS : BltS mg := ⟨fr (by decide), fr (by decide), fr (by decide)⟩
  have T : PolyC K mg C := ⟨mg_of X G nC, ⟨w1, w2, w3, w4⟩, w5⟩
  have O : PolyO K C := ⟨i1', i2', i3', i4', i5, i6⟩
  have OC : OpC K mg CO := ⟨mg_of X G nO, o1, o2, o3, o4⟩
  have NC : NuC p K mg CN := { g := mg_of X G nN, v := ⟨fI, dN, ccN, { base := PySem.F.excBase_IndexError, ini := .of PySem.F.excCall_IndexError kxs_IndexError, st := PySem.F.store_IndexError, ok := nameN, q := v1, ov := v2, has := by decide +kernel, noA := by decide +kernel, noN := by decide +kernel, hi := iN, hf := v3, sa := v4, tk := v5, hd := v10, sB := v6, me := v7, kp := v8, fn := ⟨_, _, _, _, _, _, _, _, _, _, _, _, _, vN, wN, lineN⟩, code := ⟨_, _, _, _, _, _, rN, xN, pN⟩, cell := ⟨_, _, _, yN⟩, sup := v9, nos := nos, tp := v13, top := top }⟩, b := v11, t := v12 }
  have ec : ErrC K mg CO CN := ⟨mg_of X G nO, mg_of X G nN, x1, x2, x3, xfB_ok x4, x5, fr (by decide)⟩
  have h0 := mg_of X G a0
  have F0 := fun_mk (st := sDice) l0 u0 k0
  have bi0 := F0.binds (ps := ["_law_script", "_law_at"]) fun _ _ _ _ _ _ us hl => match us, hl with | [_, _], _ => rfl
  have h1 := mg_of X G a1
  have F1 := fun_mk (st := sRoll) l1 u1 k1
  have bi1 := F1.binds (ps := ["_law_dice_here", "_law_total"]) fun _ _ _ _ _ _ us hl => match us, hl with | [_, _], _ => rfl
  have h2 := mg_of X G a2
  have F2 := fun_mk (st := sOne) l2 u2 k2
  have bi2 := F2.binds (ps := ["_law_dice_here", "_law_items"]) fun _ _ _ _ _ _ us hl => match us, hl with | [_, _], _ => rfl
  have h3 := mg_of X G a3
  have F3 := fun_mk (st := sCoef) l3 u3 k3
  have bi3 := F3.binds (ps := ["_law_dice_here"]) fun _ _ _ _ _ _ us hl => match us, hl with | [_], _ => rfl
  have h4 := mg_of X G a4
  have F4 := fun_mk (st := sCut) l4 u4 k4
  have bi4 := F4.binds (ps := ["_law_some"]) fun _ _ _ _ _ _ us hl => match us, hl with | [_], _ => rfl
  have h5 := mg_of X G a5
  have F5 := fun_mk (st := sTold) l5 u5 k5
  have bi5 := F5.binds (ps := ["_law_call"]) fun _ _ _ _ _ _ us hl => match us, hl with | [_], _ => rfl
  have h6 := mg_of X G a6
  have F6 := fun_mk (st := sSu) l6 u6 k6
  have bi6 := F6.binds (ps := ["_law_thing", "_law_odd"]) fun _ _ _ _ _ _ us hl => match us, hl with | [_, _], _ => rfl
  have h7 := mg_of X G a7
  have F7 := fun_mk (st := sNu) l7 u7 k7
  have bi7 := F7.binds (ps := ["_law_thing", "_law_odd"]) fun _ _ _ _ _ _ us hl => match us, hl with | [_, _], _ => rfl
  have h8 := mg_of X G a8
  have F8 := fun_mk (st := sRi) l8 u8 k8
  have bi8 := F8.binds (ps := ["_law_dice_here"]) fun _ _ _ _ _ _ us hl => match us, hl with | [_], _ => rfl
  have h9 := mg_of X G a9
  have F9 := fun_mk (st := sLaw) l9 u9 k9
  have h10 := mg_of X G a10
  have F10 := fun_mk (st := sIsI) l10 u10 k10
  have bi10 := F10.binds (ps := ["value"]) fun _ _ _ _ _ _ us hl => match us, hl with | [_], _ => rfl
  have h11 := mg_of X G a11
  have F11 := fun_mk (st := sIsN) l11 u11 k11
  have bi11 := F11.binds (ps := ["value"]) fun _ _ _ _ _ _ us hl => match us, hl with | [_], _ => rfl
  have h12 := mg_of X G a12
  have F12 := fun_mk (st := sChk) l12 u12 k12
  have bi12 := F12.binds (ps := ["number"]) fun _ _ _ _ _ _ us hl => match us, hl with | [_], _ => rfl
  have h13 := mg_of X G a13
  have F13 := fun_mk (st := sWz) l13 u13 k13
  have bi13 := F13.binds (ps := ["coefficients"]) fun _ _ _ _ _ _ us hl => match us, hl with | [_], _ => rfl
  have h14 := mg_of X G a14
  have F14 := fun_mk (st := sSums) l14 u14 k14
  have bi14 := F14.binds (ps := ["one", "two"]) fun _ _ _ _ _ _ us hl => match us, hl with | [_, _], _ => rfl
  have h15 := mg_of X G a15
  have F15 := fun_mk (st := sProds) l15 u15 k15
  have bi15 := F15.binds (ps := ["one", "two"]) fun _ _ _ _ _ _ us hl => match us, hl with | [_, _], _ => rfl
  have h16 := mg_of X G a16
  have F16 := fun_mk (st := sFac) l16 u16 k16
  have bi16 := F16.binds (ps := ["value"]) fun _ _ _ _ _ _ us hl => match us, hl with | [_], _ => rfl
  have F18 := fun_mk (st := sOf) l18 u18 k18
  have bi18 := F18.binds (ps := ["cls", "coefficients"]) fun _ _ _ _ _ _ us hl => match us, hl with | [_, _], _ => rfl
  have F19 := fun_mk (st := sCo) l19 u19 k19
  have bi19 := F19.binds (ps := ["self"]) fun _ _ _ _ _ _ us hl => match us, hl with | [_], _ => rfl
  have F20 := fun_mk (st := sCall) l20 u20 k20
  have bi20 := F20.binds (ps := ["self", "n"]) fun _ _ _ _ _ _ us hl => match us, hl with | [_, _], _ => rfl
  have F21 := fun_mk (st := sGet) l21 u21 k21
  have bi21 := F21.binds (ps := ["self", "at"]) fun _ _ _ _ _ _ us hl => match us, hl with | [_, _], _ => rfl
  have F22 := fun_mk (st := sAdd) l22 u22 k22
  have bi22 := F22.binds (ps := ["self", "other"]) fun _ _ _ _ _ _ us hl => match us, hl with | [_, _], _ => rfl
  have F23 := fun_mk (st := sRadd) l23 u23 k23
  have bi23 := F23.binds (ps := ["self", "other"]) fun _ _ _ _ _ _ us hl => match us, hl with | [_, _], _ => rfl
  have F24 := fun_mk (st := sMul) l24 u24 k24
  have bi24 := F24.binds (ps := ["self", "other"]) fun _ _ _ _ _ _ us hl => match us, hl with | [_, _], _ => rfl
  have F25 := fun_mk (st := sRmul) l25 u25 k25
  have bi25 := F25.binds (ps := ["self", "other"]) fun _ _ _ _ _ _ us hl => match us, hl with | [_, _], _ => rfl
  have F26 := fun_mk (st := sPow) l26 u26 k26
  have bi26 := F26.binds (ps := ["self", "other"]) fun _ _ _ _ _ _ us hl => match us, hl with | [_, _], _ => rfl
  have F27 := fun_mk (st := sAt) l27 u27 k27
  have bi27 := F27.binds (ps := ["self", "inner"]) fun _ _ _ _ _ _ us hl => match us, hl with | [_, _], _ => rfl
  have F28 := fun_mk (st := sReach) l28 u28 k28
  have bi28 := F28.binds (ps := ["self", "goal"]) fun _ _ _ _ _ _ us hl => match us, hl with | [_, _], _ => rfl
  have y1 := tabIn_of a6 l6 rfl j1 i1
  obtain ⟨ch1, em1⟩ := PySem.W.tab_of Tp X d1 y1
  have y2 := tabIn_of a7 l7 rfl j2 i2
  obtain ⟨ch2, em2⟩ := PySem.W.tab_of Tp X d2 y2
  have y3 := tabIn_of a8 l8 rfl j3 i3
  obtain ⟨ch3, em3⟩ := PySem.W.tab_of Tp X d3 y3
  have y4 := tabIn_of a9 l9 rfl j4 i4
  obtain ⟨ch4, em4⟩ := PySem.W.tab_of Tp X d4 y4
  refine ⟨fnOf "law" "law" (defArgs sLaw) (defBody sLaw) (defScope sLaw) .none kV9 dc9 pm9 an9 (.ref c4) ct9, [(c1, P1), (c2, P2), (c3, P3), (c4, P4)], ?_, ?_, ?_, fun s v => .of_eq rfl, ?_, fun base _ _ tb => ?_⟩
  · intro b hb
    simp only [List.map_cons, List.map_nil, List.mem_cons, List.not_mem_nil, or_false] at hb
    rcases hb with rfl | rfl | rfl | rfl
    · exact em1
    · exact em2
    · exact em3
    · exact em4
  · intro b hb
    simp only [List.map_cons, List.map_nil, List.mem_cons, List.not_mem_nil, or_false] at hb
    rcases hb with rfl | rfl | rfl | rfl
    · exact t1
    · exact t2
    · exact t3
    · exact t4
  · intro b hb
    simp only [List.mem_cons, List.not_mem_nil, or_false] at hb
    rcases hb with rfl | rfl | rfl | rfl
    · exact ch1
    · exact ch2
    · exact ch3
    · exact ch4
  · intro H a ns _ _ ht hS
    refine ⟨a, ns, rfl, hS, fun q hq => ?_, fun _ => rfl⟩
    have hq' : q = (P1, suQ) ∨ q = (P2, nuQ) ∨ q = (P3, riQ) ∨ q = (P4, lawQ) := by
      simpa only [List.map_cons, List.map_nil, List.zip_cons_cons, List.zip_nil_left, List.zip_nil_right, List.mem_cons, List.not_mem_nil, or_false] using hq
    rcases hq' with rfl | rfl | rfl | rfl
    · exact LamX.TabS.nil (ht (c1, P1) (by simp))
    · exact LamX.TabS.nil (ht (c2, P2) (by simp))
    · exact LamX.TabS.nil (ht (c3, P3) (by simp))
    · exact LamX.TabS.nil (ht (c4, P4) (by simp))
  have T1 : LamX.TabB base mg c1 P1 := tb (c1, P1) (by simp)
  have T2 : LamX.TabB base mg c2 P2 := tb (c2, P2) (by simp)
  have T3 : LamX.TabB base mg c3 P3 := tb (c3, P3) (by simp)
  have T4 : LamX.TabB base mg c4 P4 := tb (c4, P4) (by simp)
  have raw : ∀ {sp : Sp} {vs : List V} {H : Hp} {Q : VK} {E : XK}, sp vs H Q E → sp (vs ++ []) H Q E := fun z => by rw [List.append_nil]; exact z
  obtain ⟨hu1, hu2, hu3, hu4⟩ := uniq4 (q1 := suQ) (q2 := nuQ) (q3 := riQ) (q4 := lawQ) t12 t13 t14 t23 t24 t34
  have hm1 : (P1, suQ) ∈ [(P1, suQ), (P2, nuQ), (P3, riQ), (P4, lawQ)] := by simp
  have hm2 : (P2, nuQ) ∈ [(P1, suQ), (P2, nuQ), (P3, riQ), (P4, lawQ)] := by simp
  have hm3 : (P3, riQ) ∈ [(P1, suQ), (P2, nuQ), (P3, riQ), (P4, lawQ)] := by simp
  have hm4 : (P4, lawQ) ∈ [(P1, suQ), (P2, nuQ), (P3, riQ), (P4, lawQ)] := by simp
  have GN := ok_isN (P := p) (w := w) (base := base) F11 F10 bi10 h10 BP
  have GZ := ok_wz (P := p) (w := w) (base := base) F13 BP
  have GI := ok_init (P := p) (w := w) (base := base) l17 u17 GN k11 bi11 h11 GZ k13 bi13 h13 BP T
  have GIR := ok_initR (P := p) (w := w) (base := base) (C := C) l17 u17 GN k11 bi11 h11 BP OC
  have MI : Mk K C g17 := ⟨w6, a17, fn (by simp), w7⟩
  have GQs := ok_sums (P := p) (w := w) (base := base) F14 BP BS
  have GPr := ok_prods (P := p) (w := w) (base := base) F15 BP BS
  have PC : PropOf K C "coefficients" pC g19 := ⟨a19, q7.1, q7.2, rC, r19⟩
  have GCo := ok_co (P := p) (w := w) (base := base) F19 T
  have GFaR := ok_facR (P := p) (w := w) (base := base) F16 T BP OC GN k11 bi11 h11
  have GKR := ok_chkR (w := w) (base := base) F12 NC GN k11 bi11 h11
  have ROf : FnR p w K mg base (CX0) 5 g18 (spOf K C) := FnR.imp ((ok_of F18 MI GI BP).raw bi18 .nil) fun vs H Q E z => raw z
  have ROfR : FnR p w K mg base (L2.CX p w) 5 g18 (spOfR K C CO) := FnR.imp ((ok_ofR F18 MI GIR BP OC).raw bi18 .nil) fun vs H Q E z => raw z
  have RClR : FnR p w K mg base (L2.CX p w) 4 g20 (spNumR K CN) := FnR.imp ((ok_callR (C := C) F20 GKR k12 bi12 h12).raw bi20 .nil) fun vs H Q E z => raw z
  have RGeR : FnR p w K mg base (L2.CX p w) 3 g21 (spNumR K CN) := FnR.imp ((ok_getR F21 NC GN k11 bi11 h11).raw bi21 .nil) fun vs H Q E z => raw z
  have RReR : FnR p w K mg base (L2.CX p w) 4 g28 (spNumR K CN) := FnR.imp ((ok_reachR (C := C) F28 GKR k12 bi12 h12).raw bi28 .nil) fun vs H Q E z => raw z
  have RAd : FnR p w K mg base (L2.CX p w) 4 g22 (spBinR K C CO) := FnR.imp ((ok_addR F22 T GQs k14 bi14 h14 GFaR k16 bi16 h16).raw bi22 .nil) fun vs H Q E z => raw z
  have RRa : FnR p w K mg base (L2.CX p w) 4 g23 (spBinR K C CO) := FnR.imp ((ok_raddR F23 T GQs k14 bi14 h14 GFaR k16 bi16 h16).raw bi23 .nil) fun vs H Q E z => raw z
  have RMu : FnR p w K mg base (L2.CX p w) 4 g24 (spBinR K C CO) := FnR.imp ((ok_mulR F24 T GPr k15 bi15 h15 GFaR k16 bi16 h16).raw bi24 .nil) fun vs H Q E z => raw z
  have RRm : FnR p w K mg base (L2.CX p w) 4 g25 (spBinR K C CO) := FnR.imp ((ok_rmulR F25 T GPr k15 bi15 h15 GFaR k16 bi16 h16).raw bi25 .nil) fun vs H Q E z => raw z
  have RPo : FnR p w K mg base (CX0) 5 g26 (spPow K C) := FnR.imp ((ok_pow F26 T MI GI GPr k15 bi15 h15 GN k11 bi11 h11 ⟨_, mg_of X G nM⟩ (fr (by decide))).raw bi26 .nil) fun vs H Q E z => raw z
  have RPoR : FnR p w K mg base (L2.CX p w) 3 g26 (spPowR CO) := FnR.imp ((ok_powR F26 OC ⟨_, mg_of X G nM⟩ GN k11 bi11 h11).raw bi26 .nil) fun vs H Q E z => raw z
  have RAtR : FnR p w K mg base (L2.CX p w) 1 g27 (spAtR K C CO) := FnR.imp ((ok_atR F27 T BP OC).raw bi27 .nil) fun vs H Q E z => raw z
  have Z : Kr p w K mg base C CO CN := { T := T, O := O, fI := _, M := MI, GI := GI, GIR := GIR, CR := ⟨w8, w9⟩, pO := _, fO := _, CM := ⟨a18, ⟨rO, r18⟩, q9⟩, GO := ROf, GOR := ROfR, pC := _, fC := _, PC := PC, fdC := _, GC := GCo, bC := bi19, fCl := _, CO_ := ⟨a20, fn (by simp), q15⟩, GClR := RClR, fG := _, MG := ⟨a21, fn (by simp)⟩, iG := q10, GGR := RGeR, fRe := _, MRe := ⟨a28, fn (by simp), k28⟩, GReR := RReR, fA := _, MA := ⟨a22, fn (by simp)⟩, GAR := RAd, fRA := _, MRA := ⟨a23, fn (by simp)⟩, GRAR := RRa, fM := _, MM := ⟨a24, fn (by simp)⟩, GMR := RMu, fRM := _, MRM := ⟨a25, fn (by simp)⟩, GRMR := RRm, fP := _, MP := ⟨a26, fn (by simp)⟩, GP := RPo, GPR := RPoR, fAt := _, MAt := ⟨a27, fn (by simp), k27⟩, GAtR := RAtR, sf := b1, BP := ⟨b1, b2, b3, bes_of b4⟩, noRP := b5, lowA := fun t ht => kind_of (List.all_eq_true.mp b6 t ht), lowM := fun t ht => kind_of (List.all_eq_true.mp b7 t ht), intA := kind_of b8, intM := kind_of b9, blA := kind_of b10, blM := kind_of b11, kt := fun t ht => beq_iff_eq.mp (List.all_eq_true.mp q5.1 t ht), ktup := q5.2 }
  have GD := ok_dice (P := p) (w := w) (base := base) F0 B1
  have GR := ok_roll (P := p) (w := w) (base := base) F1 B1
  have GO := ok_one (P := p) (w := w) (base := base) F2 F1 bi1 h1 B1
  have GCf := ok_coef (P := p) (w := w) (base := base) F3 F1 bi1 h1 F2 bi2 h2 B1 B2
  have GCu := ok_cut (P := p) (w := w) (base := base) F4 B2
  have GSu := ok_su F6 Z rfl T1 hm1 hu1 ec F5 bi5 h5
  have GNu := ok_nu F7 Z rfl T2 hm2 hu2 ec F5 bi5 h5
  have GRi := ok_ri F8 Z rfl T3 hm3 hu3 ec F5 bi5 h5 GCf k3 bi3 h3 GO k2 bi2 h2 GR k1 bi1 h1 GSu k6 bi6 h6 GNu k7 bi7 h7 GCu k4 bi4 h4 B1 B2
  exact ok_law F9 Z rfl T4 hm4 hu4 ec F5 bi5 h5 GD k0 bi0 h0 GRi k8 bi8 h8 B1 B2 (fr (by decide))
end Qp

open PySem PySem.W PyProof.Rows
set_option maxRecDepth 100000 in
set_option maxHeartbeats 0 in
theorem PySem.Challenge.cw_loopgrowth_k58_errors_of_polynomials_holds : PySem.Challenge.rw_loopgrowth_k58_errors_of_polynomials.Holds := by
  w_on; o_law; k_head; (case hw => w_witness2)
  k_fill
  refine QN.row_goesT (l := PySem.Challenge.rw_loopgrowth_k58_errors_of_polynomials) (n := 63) (k := 31) (x := "_law_script") (sp := Qp.spLawT) rfl (by decide) rfl ⟨rfl, by decide, by decide⟩ (fun w h Y => by first | exact PySem.W.km_in_of Y | exact PySem.W.kIn_of Y) ?F
  case F =>
    intro w mg mb fa h Y KX T hmg
    obtain ⟨lo, mean, T⟩ := T
    refine' Qp.all_mk T KX hmg (by rfl) (by rfl) (by rfl) (by rfl) ?nC ?nO ?nN ?nM ?a0 ?l0 ?u0 ?k0 ?a1 ?l1 ?u1 ?k1 ?a2 ?l2 ?u2 ?k2 ?a3 ?l3 ?u3 ?k3 ?a4 ?l4 ?u4 ?k4 ?a5 ?l5 ?u5 ?k5 ?a6 ?l6 ?u6 ?k6 ?a7 ?l7 ?u7 ?k7 ?a8 ?l8 ?u8 ?k8 ?a9 ?l9 ?u9 ?k9 ?a10 ?l10 ?u10 ?k10 ?a11 ?l11 ?u11 ?k11 ?a12 ?l12 ?u12 ?k12 ?a13 ?l13 ?u13 ?k13 ?a14 ?l14 ?u14 ?k14 ?a15 ?l15 ?u15 ?k15 ?a16 ?l16 ?u16 ?k16 ?a17 ?l17 ?u17 ?k17 ?a18 ?r18 ?l18 ?u18 ?k18 ?a19 ?r19 ?l19 ?u19 ?k19 ?a20 ?l20 ?u20 ?k20 ?a21 ?l21 ?u21 ?k21 ?a22 ?l22 ?u22 ?k22 ?a23 ?l23 ?u23 ?k23 ?a24 ?l24 ?u24 ?k24 ?a25 ?l25 ?u25 ?k25 ?a26 ?l26 ?u26 ?k26 ?a27 ?l27 ?u27 ?k27 ?a28 ?l28 ?u28 ?k28 ?j1 ?i1 ?j2 ?i2 ?j3 ?i3 ?j4 ?i4 ?iN ?vN ?wN ?rN ?xN ?pN ?yN ?top ?look
    (case nC => k_is)
    (case nO => k_is)
    (case nN => k_is)
    (case nM => k_is)
    (case a0 => k_is)
    (case l0 => k_is)
    (case u0 => k_is)
    (case k0 => k_is)
    (case a1 => k_is)
    (case l1 => k_is)
    (case u1 => k_is)
    (case k1 => k_is)
    (case a2 => k_is)
    (case l2 => k_is)
    (case u2 => k_is)
    (case k2 => k_is)
    (case a3 => k_is)
    (case l3 => k_is)
    (case u3 => k_is)
    (case k3 => k_is)
    (case a4 => k_is)
    (case l4 => k_is)
    (case u4 => k_is)
    (case k4 => k_is)
    (case a5 => k_is)
    (case l5 => k_is)
    (case u5 => k_is)
    (case k5 => k_is)
    (case a6 => k_is)
    (case l6 => k_is)
    (case u6 => k_is)
    (case k6 => k_is)
    (case a7 => k_is)
    (case l7 => k_is)
    (case u7 => k_is)
    (case k7 => k_is)
    (case a8 => k_is)
    (case l8 => k_is)
    (case u8 => k_is)
    (case k8 => k_is)
    (case a9 => k_is)
    (case l9 => k_is)
    (case u9 => k_is)
    (case k9 => k_is)
    (case a10 => k_is)
    (case l10 => k_is)
    (case u10 => k_is)
    (case k10 => k_is)
    (case a11 => k_is)
    (case l11 => k_is)
    (case u11 => k_is)
    (case k11 => k_is)
    (case a12 => k_is)
    (case l12 => k_is)
    (case u12 => k_is)
    (case k12 => k_is)
    (case a13 => k_is)
    (case l13 => k_is)
    (case u13 => k_is)
    (case k13 => k_is)
    (case a14 => k_is)
    (case l14 => k_is)
    (case u14 => k_is)
    (case k14 => k_is)
    (case a15 => k_is)
    (case l15 => k_is)
    (case u15 => k_is)
    (case k15 => k_is)
    (case a16 => k_is)
    (case l16 => k_is)
    (case u16 => k_is)
    (case k16 => k_is)
    (case a17 => k_is)
    (case l17 => k_is)
    (case u17 => k_is)
    (case k17 => k_is)
    (case a18 => k_is)
    (case r18 => k_is)
    (case l18 => k_is)
    (case u18 => k_is)
    (case k18 => k_is)
    (case a19 => k_is)
    (case r19 => k_is)
    (case l19 => k_is)
    (case u19 => k_is)
    (case k19 => k_is)
    (case a20 => k_is)
    (case l20 => k_is)
    (case u20 => k_is)
    (case k20 => k_is)
    (case a21 => k_is)
    (case l21 => k_is)
    (case u21 => k_is)
    (case k21 => k_is)
    (case a22 => k_is)
    (case l22 => k_is)
    (case u22 => k_is)
    (case k22 => k_is)
    (case a23 => k_is)
    (case l23 => k_is)
    (case u23 => k_is)
    (case k23 => k_is)
    (case a24 => k_is)
    (case l24 => k_is)
    (case u24 => k_is)
    (case k24 => k_is)
    (case a25 => k_is)
    (case l25 => k_is)
    (case u25 => k_is)
    (case k25 => k_is)
    (case a26 => k_is)
    (case l26 => k_is)
    (case u26 => k_is)
    (case k26 => k_is)
    (case a27 => k_is)
    (case l27 => k_is)
    (case u27 => k_is)
    (case k27 => k_is)
    (case a28 => k_is)
    (case l28 => k_is)
    (case u28 => k_is)
    (case k28 => k_is)
    (case j1 => k_is)
    (case i1 => rfl)
    (case j2 => k_is)
    (case i2 => rfl)
    (case j3 => k_is)
    (case i3 => rfl)
    (case j4 => k_is)
    (case i4 => rfl)
    (case iN => k_is)
    (case vN => k_is)
    (case wN => k_is)
    (case rN => k_is)
    (case xN => rfl)
    (case pN => first | rfl | decide +kernel)
    (case yN => k_is)
    (case top => first | rfl | decide +kernel)
    (case look => kernel_rfl)

