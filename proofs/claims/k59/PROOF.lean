import PyProof.Rows.All
import Wide.All
import OpenK.AllK
import Wide.FinOn
import HandS.ForMost
import PySem.Challenge.RW_loopgrowth_k59_whole_polynomials_are_the
import HandS.Lambda
import HandS.EndTab
import PyProof.ListMulRoad
import PyProof.FactsAll.tuple_2
import HandS.TupMul
import HandS.TupAny
import HandS.Style
import KE.KRevSl
import HandS.Star
import HandS.CallLocal
import KE.DataCmp
import KE.SortData
import HandS.Deep
import HandS.Wide
import HandS.IsInst
import HandS.WordsExc
import HandS.ExcOwn
import HandS.ClsMeth
import HandS.Property
import HandS.MethStar
import KE.IntBitsLaws
import HandS.WideBits
import OpenK.KOps
import OpenK.KMeth
import KE.KOpsOwn
import KE.KCallOwn
import HandS.Records
import HandS.Small
import KE.KOwnIter
import HandS.IterVal
import HandS.FStr
import HandS.Flow
import KE.GoesMore
import HandS.Iter
import HandS.Text
import PyProof.InstNe
import HandS.More
import PyProof.SumAny
import KE.RegKSuper
import HandS.RaiseMore
import HandS.Walk
set_option Elab.async false
set_option linter.all false
set_option maxRecDepth 100000
set_option maxHeartbeats 4000000
namespace Qp
open PySem PySem.Spec PyProof.Rows L2
def top (i : Nat) : Stmt := PySem.Challenge.pw_loopgrowth_k59_whole_polynomials_are_the.main.body.getD i (.Pass ⟨0, 0, 0, 0⟩)
abbrev sDice : Stmt := top 30 -- _law_dice
abbrev sRoll : Stmt := top 31 -- _law_roll
abbrev sOne : Stmt := top 32 -- _law_one_of
theorem scDice : FnScope ["_law_script", "_law_at", "_law_cell", "_law_great", "_law_mixed_here"] ["_law_script", "_law_at"] (defScope sDice) := ⟨rfl, rfl, rfl, by decide +kernel, rfl, by decide +kernel, by decide +kernel⟩
theorem scRoll : FnScope ["_law_dice_here", "_law_total", "_law_found", "_law_one", "_law_two"] ["_law_dice_here", "_law_total"] (defScope sRoll) := ⟨rfl, rfl, rfl, by decide +kernel, rfl, by decide +kernel, by decide +kernel⟩
theorem scOne : FnScope ["_law_dice_here", "_law_items"] ["_law_dice_here", "_law_items"] (defScope sOne) := ⟨rfl, rfl, rfl, by decide +kernel, rfl, by decide +kernel, by decide +kernel⟩
/-- the three numbers of a drawing hand -/
def hand (x y z : Int) : List V := [.int x, .int y, .int z]
/-- three numbers lie at p -/
def HandAt (H : Hp) (p : Addr) : Prop := ∃ x y z : Int, H p = some (.lst (hand x y z))
/-- what the built-in names still mean -/
structure Blt (mg : Str → Option Value) : Prop where
  len : mg "len" = none
  int : mg "int" = none
  abs : mg "abs" = none
  max : mg "max" = none
/-- all but p as it was -/
def But (p : Addr) (H H' : Hp) : Prop := ∀ b o, b ≠ p → H b = some o → H' b = some o
theorem but_upd {p : Addr} {H : Hp} {o : HO} : But p H (upd H p o) := fun b u n e => by
  rw [upd_ne n]
  exact e
def spRoll : Sp := fun vs H Q _ => ∃ (p : Addr) (x y z t : Int), vs = [.ref p, .int t] ∧ H p = some (.lst (hand x y z)) ∧ 0 < t ∧ t < 1073741824 ∧
  ∀ (r x' y' z' : Int) (H' : Hp), 0 ≤ r → r < t → H' p = some (.lst (hand x' y' z')) → But p H H' → Q (.int r) H'
def spOne : Sp := fun vs H Q _ => ∃ (p q : Addr) (x y z : Int) (its : List V), vs = [.ref p, .ref q] ∧ H p = some (.lst (hand x y z)) ∧ H q = some (.lst its) ∧ q ≠ p ∧ 0 < its.length ∧ its.length < 1073741824 ∧
  ∀ (v : V) (x' y' z' : Int) (H' : Hp), v ∈ its → H' p = some (.lst (hand x' y' z')) → But p H H' → Q v H'
def spDice (K : PySem.W.Frag) : Sp := fun vs H Q _ => ∃ (a : Addr) (ns : List Int) (j : Nat), vs = [.ref a, .int (j : Int)] ∧ SqL K H a (ns.map V.int) ∧
  ∀ (p : Addr) (x y z : Int), H p = none → Q (.ref p) (upd H p (.lst (hand x y z)))
section
variable {P : Program} {w : World} {K : PySem.W.Frag} {mg : Str → Option Value} {base : Heap}
theorem ix3 {K : PySem.W.Frag} {H : Hp} {p : Addr} {x y z : Int} (h : H p = some (.lst (hand x y z))) : SqL K H p (hand x y z) := .inl (.inl h)
theorem ok_roll {f : Addr} {fd : FuncData} (F : Fun K "_law_roll" "_law_roll" sRoll f fd) (B : Blt mg) : FnOk P w K mg base CX0 1 f fd ["_law_dice_here", "_law_total"] spRoll := by
  refine F.ok scRoll (fun vs H Q E h => ?_) (fun cdv A outer s H vs Q E hr h => ?_)
  · obtain ⟨p, x, y, z, t, rfl, _⟩ := h
    rfl
  · obtain ⟨p, x, y, z, t, rfl, hp, ht, ht2, k⟩ := h
    refine ⟨_, pss_cons (ps_if (pt_cmpR op_gt (pe_ix ix_list (pv 0) pe_int (fun _ _ => rfl)) pe_int (nomark _))
        (pss_cons (ps_set (i := 2) scRoll.nd rfl (.inl rfl) (pe_op op_mod (pe_callTy call_int1 (by rfl) B.int (by decide +kernel) (pa_cons (pe_ix ix_list (pv 0) pe_int (fun _ _ => rfl)) pa_nil)) (pv 1)))
        (pss_cons (ps_asg (pe_op op_fdiv (pe_ix ix_list (pv 0) pe_int (fun _ _ => rfl)) (pv 1)) (pg_sub (pv 0) pe_int set_list))
        (pss_one (ps_ret (pv 2))))) pss_nil)
      (pss_cons (ps_asg (pe_op op_add (pe_ix ix_list (pv 0) pe_int (fun _ _ => rfl)) pe_int) (pg_sub (pv 0) pe_int set_list))
      (pss_cons (ps_set (i := 3) scRoll.nd rfl (.inl rfl) (pe_op op_mod (pe_callTy call_int1 (by rfl) B.int (by decide +kernel) (pa_cons (pe_op op_add (pe_ix ix_list (pv 0) pe_int (fun _ _ => rfl)) (pe_op op_mul pe_int (pe_ix ix_list (pv 0) pe_int (fun _ _ => rfl)))) pa_nil)) pe_int))
      (pss_cons (ps_set (i := 4) scRoll.nd rfl (.inl rfl) (pe_op op_add (pe_op op_mul (pe_op op_mod (pe_callTy call_int1 (by rfl) B.int (by decide +kernel) (pa_cons (pe_op op_mul (pv 3) (pv 3)) pa_nil)) pe_int) (pv 3)) (pe_op op_mul pe_int (pe_ix ix_list (pv 0) pe_int (fun _ _ => rfl)))))
      (pss_cons (ps_set (i := 4) scRoll.nd rfl (.inl rfl) (pe_op op_mod (pe_callTy call_int1 (by rfl) B.int (by decide +kernel) (pa_cons (pv 4) pa_nil)) pe_int))
      (pss_one (ps_ret (pe_op op_mod (pe_callTy call_int1 (by rfl) B.int (by decide +kernel) (pa_cons (pe_op op_fdiv (pv 4) pe_int) pa_nil)) (pv 1)))))))), ?_⟩
    -- if hand[0] > 0
    refine ⟨_, rfl, p, hand x y z, 0, .int x, rfl, rfl, ix3 hp, rfl, x, 0, rfl, rfl, _, rfl, ite2 (fun c => ?_) (fun c => ?_)⟩
    · -- found = int(hand[0]) % total
      refine ⟨_, rfl, p, hand x y z, 0, .int x, rfl, rfl, ix3 hp, rfl, .inl ⟨x, rfl, .int t, rfl, x, t, rfl, rfl, ht, ?_⟩⟩
      -- hand[0] = hand[0] // total
      refine ⟨_, rfl, p, hand x y z, 0, .int x, rfl, rfl, ix3 hp, rfl, .int t, rfl, x, t, rfl, rfl, ⟨ht, ht2⟩, _, rfl, p, hand x y z, 0, 0, rfl, rfl, hp, rfl, ?_⟩
      exact ⟨_, rfl, k (x % t) (x / t) y z _ (Int.emod_nonneg _ (by omega)) (Int.emod_lt_of_pos _ ht) upd_same but_upd⟩
    · -- hand[2] = hand[2] + 1
      refine ⟨_, rfl, p, hand x y z, 2, .int z, rfl, rfl, ix3 hp, rfl, z, 1, rfl, rfl, _, rfl, p, hand x y z, 2, 2, rfl, rfl, hp, rfl, ?_⟩
      have hp2 : (upd H p (.lst (hand x y (z + 1)))) p = some (.lst (hand x y (z + 1))) := upd_same
      -- one = ..
      refine ⟨_, rfl, p, hand x y (z + 1), 1, .int y, rfl, rfl, ix3 hp2, rfl, _, rfl, p, hand x y (z + 1), 2, .int (z + 1), rfl, rfl, ix3 hp2, rfl, _, _, rfl, rfl, .inl ⟨by decide, by decide⟩, _, _, rfl, rfl, .inl ⟨_, rfl, _, _, rfl, rfl, (by show (0 : Int) < 2305843009213693951; decide), ?_⟩⟩
      have hb : ∀ g : Int, -(2 ^ 64) < g % 2305843009213693951 ∧ g % 2305843009213693951 < 2 ^ 64 := fun g => ⟨by omega, by omega⟩
      -- two = ..
      refine ⟨_, rfl, _, rfl, _, _, rfl, rfl, .inl (hb _), .inl ⟨_, rfl, _, _, rfl, rfl, (by show (0 : Int) < 2305843009213693921; decide), _, rfl, _, _, rfl, rfl, .inr (hb _), ?_⟩⟩
      refine ⟨_, rfl, p, hand x y (z + 1), 2, .int (z + 1), rfl, rfl, ix3 hp2, rfl, _, _, rfl, rfl, .inl ⟨by decide, by decide⟩, _, _, rfl, rfl, ?_⟩
      -- two = int(two) % ..
      refine ⟨_, rfl, .inl ⟨_, rfl, _, _, rfl, rfl, (by show (0 : Int) < 2305843009213693907; decide), ?_⟩⟩
      -- return int(two // 8192) % total
      refine ⟨_, rfl, _, _, rfl, rfl, ⟨by decide, by decide⟩, .inl ⟨_, rfl, .int t, rfl, _, t, rfl, rfl, ht, ?_⟩⟩
      exact k _ x y (z + 1) _ (Int.emod_nonneg _ (by omega)) (Int.emod_lt_of_pos _ ht) upd_same but_upd
theorem op_powX {X : Cx} : OpR X (binaryOp .Pow) (rI (fun i j => 0 ≤ j ∧ (Builtin.Int.intBits i : Int) * j ≤ 2 ^ 27) fun i j => .int (i ^ j.toNat)) := opI fun _ _ _ _ _ _ _ hc q => pow_int hc.1 hc.2 q
theorem ok_dice {f : Addr} {fd : FuncData} (F : Fun K "_law_dice" "_law_dice" sDice f fd) (B : Blt mg) : FnOk P w K mg base CX0 1 f fd ["_law_script", "_law_at"] (spDice K) := by
  refine F.ok scDice (fun vs H Q E h => ?_) (fun cdv A outer s H vs Q E hr h => ?_)
  · obtain ⟨a, ns, j, rfl, _⟩ := h
    rfl
  · obtain ⟨a, ns, j, rfl, hS, k⟩ := h
    refine ⟨_, pss_cons (ps_set (i := 2) scDice.nd rfl (.inl rfl) (pe_op op_add (pe_op op_mul pe_int (pv 1)) pe_int))
      (pss_cons (ps_if (pt_cmpR op_lt (pv 1) (pe_callB call_len_seq (by rfl) B.len PySem.boot_len (pa_cons (pv 0) pa_nil)) (nomark _))
        (pss_one (ps_set (i := 2) scDice.nd rfl (.inl rfl) (pe_ix ix_list (pv 0) (pv 1) (fun _ _ => rfl)))) pss_nil)
      (pss_cons (ps_set (i := 3) scDice.nd rfl (.inl rfl) (pe_op op_mod (pe_callTy call_int1 (by rfl) B.int (by decide +kernel) (pa_cons (pe_callB call_abs (by rfl) B.abs (by decide +kernel) (pa_cons (pv 2) pa_nil)) pa_nil)) (pe_op op_powX (pe_op op_pow pe_int pe_int) pe_int)))
      (pss_cons (ps_set (i := 4) scDice.nd rfl (.inl rfl) (pe_op op_add (pe_op op_add (pe_op op_add (pe_op op_mul (pe_op op_mod (pe_callTy call_int1 (by rfl) B.int (by decide +kernel) (pa_cons (pv 3) pa_nil)) pe_int) pe_int) (pe_op op_mul pe_int (pv 1)))
          (pe_op op_mul pe_int (pe_callTy call_int1 (by rfl) B.int (by decide +kernel) (pa_cons (pe_cmpR op_lt (pv 2) pe_int (nomark _)) pa_nil)))) pe_int))
      (pss_one (ps_ret (pe_lst (pa_cons (pe_callB (call_max2 rfl) (by rfl) B.max (by decide +kernel) (pa_cons pe_int (pa_cons (pe_op op_sub (pv 3) (pe_op op_pow pe_int pe_int)) pa_nil)))
        (pa_cons (pe_op op_mod (pe_callTy call_int1 (by rfl) B.int (by decide +kernel) (pa_cons (pv 4) pa_nil)) pe_int) (pa_cons pe_int pa_nil))))))))), ?_⟩
    -- cell = 23 * at + 5
    refine ⟨_, rfl, _, _, rfl, rfl, .inl ⟨by decide, by decide⟩, _, _, rfl, rfl, ?_⟩
    -- if at < len(script)
    refine ⟨_, rfl, .ref a, rfl, a, _, rfl, .inl hS, _, _, rfl, rfl, _, rfl, ite2 (fun e => ?inside) (fun _ => ?beyond)⟩
    case' inside =>
      have hj : j < ns.length := by
        have e2 := of_decide_eq_true e
        rw [List.length_map] at e2
        omega
      have hx : (ns.map V.int)[j]? = some (.int ns[j]) := by
        rw [List.getElem?_map, List.getElem?_eq_getElem hj]
        rfl
      refine ⟨_, rfl, _, rfl, a, _, _, _, rfl, rfl, hS, atI_nat hx, ?_⟩
    all_goals
      -- great
      refine ⟨_, rfl, _, rfl, .inl ⟨_, rfl, _, _, rfl, rfl, ⟨by decide, by decide, by decide⟩, _, _, rfl, rfl, ⟨by decide, by decide +kernel⟩, _, _, rfl, rfl, Int.pow_pos (Int.pow_pos (by decide)), ?_⟩⟩
      -- mixed
      refine ⟨_, rfl, .inl ⟨_, rfl, _, _, rfl, rfl, (by show (0 : Int) < 2147483587; decide), _, _, rfl, rfl, .inr ⟨by decide, by decide⟩, _, rfl, _, _, rfl, rfl, .inl ⟨by decide, by decide⟩, _, _, rfl, rfl, ?_⟩⟩
      refine ⟨_, rfl, _, _, rfl, rfl, .inr ⟨_, rfl, _, _, rfl, rfl, .inl ⟨by decide, by decide⟩, _, _, rfl, rfl, _, _, rfl, rfl, ?_⟩⟩
      -- the three numbers
      refine ⟨_, rfl, _, _, rfl, rfl, ⟨by decide, by decide, by decide⟩, _, _, rfl, rfl, _, _, rfl, ?_⟩
      refine ⟨_, rfl, .inl ⟨_, rfl, _, _, rfl, rfl, (by show (0 : Int) < 2147483563; decide), (by show 3 ≤ sizeLine; decide), fun p hp => ?_⟩⟩
      exact k p _ _ _ hp
theorem ok_one {f fR : Addr} {fd fdR : FuncData} (F : Fun K "_law_one_of" "_law_one_of" sOne f fd) (FR : Fun K "_law_roll" "_law_roll" sRoll fR fdR) (bR : Binds K fdR ["_law_dice_here", "_law_total"] []) (gR : mg "_law_roll" = some (.ref fR)) (B : Blt mg) :
    FnOk P w K mg base CX0 2 f fd ["_law_dice_here", "_law_items"] spOne := by
  have GR : FnOk P w K mg base CX0 1 fR fdR ["_law_dice_here", "_law_total"] spRoll := ok_roll FR B
  refine F.ok scOne (fun vs H Q E h => ?_) (fun cdv A outer s H vs Q E hr h => ?_)
  · obtain ⟨p, q, x, y, z, its, rfl, _⟩ := h
    rfl
  · obtain ⟨p, q, x, y, z, its, rfl, hp, hq, nqp, hl, hl2, k⟩ := h
    refine ⟨_, pss_one (ps_ret (pe_ix ix_list (pv 1) (pe_call GR hr (by rfl) gR FR.kp bR .nil pass0 (pa_cons (pv 0) (pa_cons (pe_callB call_len_seq (by rfl) B.len PySem.boot_len (pa_cons (pv 1) pa_nil)) pa_nil))) (fun _ _ => rfl))), ?_⟩
    refine ⟨.ref q, rfl, .ref p, rfl, .ref q, rfl, q, its, rfl, .inl (.inl (.inl hq)), p, x, y, z, _, rfl, hp, by omega, by omega, fun r x' y' z' H' h0 h1 hp' bt => ?_⟩
    obtain ⟨j, rfl⟩ := Int.eq_ofNat_of_zero_le h0
    have hj : j < its.length := by omega
    refine ⟨q, its, _, its[j], rfl, rfl, .inl (.inl (bt q _ nqp hq)), atI_nat (List.getElem?_eq_getElem hj), ?_⟩
    exact k _ x' y' z' H' (List.getElem_mem hj) hp' bt
end
end Qp

/-! Defs of which is known that no repr is under way when they are called; the end of a law whose defs hold lambdas and say repr -/
namespace QN
open PySem PySem.Spec PyProof.Rows L2
def NoRepr (A : Around) : Prop := A.guards = some []
theorem noRepr_deeper {A : Around} {e : Env} (h : NoRepr A) : NoRepr (A.deeper e) := by
  unfold NoRepr at h ⊢
  first
    | exact h
    | (show pushGuards _ A.guards = some []; rw [h]; rfl)
/-- the promise of a def at f, where no repr is under way -/
structure FnG (P : Program) (w : World) (K : PySem.W.Frag) (mg : Str → Option Value) (base : Heap) (k : Nat) (f : Addr) (fd : FuncData) (ps : List Str) (sp : Sp) : Prop where
  len : ∀ vs H Q E, sp vs H Q E → vs.length = ps.length
  go : ∀ (A : Around) (outer : List Env) (s : Shared) (H : Hp) (args : Args) (us : List Value) (vs : List V) (Q : VK) (E : XK), Room k A → NoRepr A → Env0 P w K mg base A outer s H → BindsTo s fd args (ps.zip us) → Vals vs us → sp vs H Q E →
    codeAny (model P w) A (.call (.ref f) args) (CR L2.CX0 outer P w H s Q E) s
/-- the def's body, its code object told: `told` is what the body's promise leans on -/
theorem Fun_okC {P : Program} {w : World} {K : PySem.W.Frag} {mg : Str → Option Value} {base : Heap} {x qual : Str} {st : Stmt} {f : Addr} {fd : FuncData} {N ps : List Str} {k : Nat} {sp : Sp}
    (F : Fun K x qual st f fd) (S : FnScope N ps (defScope st)) (len : ∀ vs H Q E, sp vs H Q E → vs.length = ps.length)
    (body : ∀ (cdv : Value) (A : Around) (outer : List Env) (s : Shared) (H : Hp) (vs : List V) (Q : VK) (E : XK), fd.code = cdv → Room k (A.deeper (envOfC qual (defScope st) s.heap.objs.size f cdv)) → NoRepr A → sp vs H Q E →
      ∃ t, PSs (cxOf L2.CX0 P w K mg base N qual (defScope st) f cdv A outer s H E).nox (defBody st) t ∧ t { nx := fun _ H' => Q .non H', rt := Q } (start N vs) H) :
    FnG P w K mg base (k + 1) f fd ps sp := by
  obtain ⟨oc, od, kV, doc, pm, an, cdv, ct, osl, rfl, lk, hcd⟩ := F.ex
  refine ⟨len, fun A outer s H args us vs Q E room hng env0 hbind rv hsp => ?_⟩
  have nvs := len _ _ _ _ hsp
  have inK : K.In s.heap := env0.mod.kin.keeps fun b o e => (env0.bs b o e).1
  have nolim : s.heap.NoLimit := env0.mod.nolimit.keeps fun b o e => (env0.bs b o e).1
  have kinds : ∀ y ∈ ps.zip us, (defScope st).names.lookup y.1 = some .local ∨ ((defScope st).names.lookup y.1 = some .cell ∧ ((cellsFrom (s.heap.objs.size + 1) (defScope st).names []).lookup y.1).isSome = true) := fun ⟨n, v⟩ hy => by
    rcases S.par n (List.of_mem_zip hy).1 with c | c
    · exact Or.inl c
    · exact Or.inr ⟨c, PySem.W.cellsFrom_some _ _ _ (Or.inl c)⟩
  refine codeAny_call_function room.depth (inK _ _ lk) rfl S.co S.gen rfl (PySem.W.codeRec_of inK hcd) (hbind _ _ _ _ ?_)
  refine wpAny_newFunctionEnv_cells S.kind kinds fun env he s1 entered => ?_
  subst he
  refine ⟨nolim.keeps entered.toInCall.keep, codeAny_func ?_⟩
  obtain ⟨t, ht, hq⟩ := body cdv A outer s H vs Q E rfl (room.deeper _) hng hsp
  have I0 := inv_start (CX := L2.CX0) (E := E) S room.hd env0 nvs rv entered
  refine wpAny_mono (ht.nox.run [] s1 (start N vs) H _ I0 hq) (fun fl s' hs => ?_) fun e s' hs => hs
  have close : ∀ {σ' : L2.St} {H' : Hp} {v : V} {u : Value}, Inv (cxOf L2.CX0 P w K mg base N qual (defScope st) f cdv A outer s H E) [] σ' H' s' → RelV v u → Q v H' → CE outer P w H s Q u s' :=
    fun {σ' H' v u} J r q => ⟨v, H', J.os, J.bare, J.base, J.hok, r, q⟩
  cases fl with
  | ret u =>
    obtain ⟨v, σ', H', J, r, q⟩ := hs
    exact close J r q
  | next =>
    obtain ⟨σ', H', J, q⟩ := hs
    exact close (v := V.non) (u := Value.none) J rfl q
  | brk => exact False.elim hs.choose_spec.choose_spec.2
  | cont => exact False.elim hs.choose_spec.choose_spec.2
/-- a promise that asks less is one where no repr is under way -/
theorem FnG.of {P : Program} {w : World} {K : PySem.W.Frag} {mg : Str → Option Value} {base : Heap} {k : Nat} {f : Addr} {fd : FuncData} {ps : List Str} {sp : Sp} (F : FnOk P w K mg base L2.CX0 k f fd ps sp) : FnG P w K mg base k f fd ps sp :=
  ⟨F.len, fun A outer s H args us vs Q E room _ env0 hbind rv hsp => F.run A outer s H args us vs Q E room env0 hbind rv hsp⟩
section
variable {X : Cx} {k : Nat} {f : Addr} {fd : FuncData} {ps : List Str} {sp : Sp} {x : Str} {p pos : Pos} {e : Expr} {es : List Expr} {t : TA}
/-- f(e, ..) of such a def -/
theorem pe_callG (F : FnG X.prog X.w X.K X.mg X.base k f fd ps sp) (hng : NoRepr X.A) (hr : Room k X.A) (hg : Gl X x) (hm : X.mg x = some (.ref f)) (hk : PySem.W.keepIn X.K (.ref f) = true) (hb : L2.Binds X.K fd ps []) (ha : PA X (e :: es) t)
    (hdb : (x == ("__debug__" : Str)) = false := by decide) (he : starEach (e :: es) X.env = (false, eval e X.env) :: starEach es X.env := by rfl) (hpl : (backTo pos (starEach es X.env)).any (·.1) = false := by rfl) :
    PE X (.Call (.Name x p) (e :: es) [] pos) (tCall sp [] L2.E0 t) := by
  refine ⟨fun pins s σ H Q I h => wpAny_Call_Name_kw (ld_glob I hg hm ?_ hdb)⟩
  refine PySem.W.callWith_K (h₀ := X.base) I.ok.mod.kin hk (thn (ha.run pos pins s σ H _ I h) fun us s1 ⟨vs, H1, J, rv, q⟩ => ⟨J.kIn, ?_⟩) he hpl
  have q' : sp vs H1 Q L2.E0 := by
    have z : sp (vs ++ []) H1 Q L2.E0 := q
    rw [List.append_nil] at z
    exact z
  have n1 : us.length = ps.length := by
    rw [← rv.length]
    exact F.len _ _ _ _ q'
  have bind := hb s1 us J.kIn (by rw [List.append_nil]; exact n1)
  rw [List.append_nil] at bind
  refine wpAny_call (codeAny_mono (F.go X.A X.stack s1 H1 ⟨us, []⟩ us vs Q L2.E0 hr hng J.env0 bind rv q') fun r s' hq => ?_)
  cases r with
  | error e => exact hq.elim
  | ok fl =>
    cases fl with
    | ret u => exact J.after hq
    | next => exact hq.elim
    | brk => exact hq.elim
    | cont => exact hq.elim
end
/-- an object of the tables' kind, still empty -/
abbrev emptyTab : Obj := { cls := .none, data := .fields #[] }
/-- what H tracks, hidden, is a base for the law's def: H tracks the script's list at a and the empty tables alone -/
structure Few (s : Shared) (H : Hp) (a : Addr) (items : List Value) (cs : List (Addr × Addr)) (K : PySem.W.Frag) : Prop where
  la : s.heap.get? a = some { cls := .type "list", data := .seq items.toArray }
  ta : ∀ b ∈ cs.map (·.2), s.heap.get? b = some emptyTab
  only : ∀ b, H b ≠ none → b = a ∨ b ∈ cs.map (·.2)
  hk : H a ≠ none → K.lookup a = none
  tk : ∀ b ∈ cs.map (·.2), K.lookup b = none
theorem Few.un {s : Shared} {H : Hp} {a : Addr} {items : List Value} {cs : List (Addr × Addr)} {K : PySem.W.Frag} (W : Few s H a items cs K) {b : Addr} {o : Obj} (e : s.heap.get? b = some o) (h1 : ∀ xs n, o.data ≠ .seq xs n) (h2 : o.data ≠ .fields #[]) : H b = none := by
  cases c : H b with
  | none => rfl
  | some u =>
    rcases W.only b (by rw [c]; simp) with z | z
    · subst z
      have y := W.la
      rw [e] at y
      cases y
      exact absurd rfl (h1 _ _)
    · have y := W.ta b z
      rw [e] at y
      cases y
      exact absurd rfl h2
theorem Few.mod {mg mb : Str → Option Value} {s : Shared} {H : Hp} {a : Addr} {items : List Value} {cs : List (Addr × Addr)} {K : PySem.W.Frag} (W : Few s H a items cs K) (inK : K.In s.heap) (gl : s.heap.Ns mainGlobals mg) (bl : s.heap.Ns builtinsNs mb)
    (boot : ∀ x : Str, x ≠ "__name__" → mb x = bootBuiltins x) (lim : s.heap.NoLimit) : Mod K mg (hidT s.heap H) := by
  have stays : ∀ {b : Addr} {m : Str → Option Value}, s.heap.Ns b m → (hidT s.heap H).Ns b m := fun {b m} ⟨o, es, n, e, d, r⟩ =>
    ⟨o, es, n, hidT_get e (W.un e (fun xs k z => by rw [d] at z; cases z) fun z => by rw [d] at z; cases z), d, r⟩
  refine ⟨fun b o e => hidT_get (inK b o e) ?_, stays gl, ⟨mb, stays bl, boot⟩, ?_⟩
  · cases c : H b with
    | none => rfl
    | some u =>
      rcases W.only b (by rw [c]; simp) with z | z
      · subst z
        rw [W.hk (by rw [c]; simp)] at e
        cases e
      · rw [W.tk b z] at e
        cases e
  · obtain ⟨mc, y1, y2⟩ := lim
    exact ⟨mc, stays y1, y2⟩
/-- the module of the built-in names stands -/
def BMod (mg : Str → Option Value) (h : Heap) : Prop := ∃ (bm : Addr) (ob : Obj), mg "__builtins__" = some (.ref bm) ∧ bm ≠ builtinsNs ∧ h.get? bm = some ob ∧ ob.cls = .type "module" ∧ ob.dict = some builtinsNs ∧ ob.data = .plain
theorem Few.tabs {mg : Str → Option Value} {s : Shared} {H : Hp} {a : Addr} {items : List Value} {cs : List (Addr × Addr)} {K : PySem.W.Frag} (W : Few s H a items cs K) (gl : s.heap.Ns mainGlobals mg) (bm : BMod mg s.heap) {p : Addr × Addr} (hp : p ∈ cs) (hc : PySem.W.CodeHd s.heap p.1 p.2) :
    LamX.TabB (hidT s.heap H) mg p.1 p.2 := by
  have hp2 : p.2 ∈ cs.map (·.2) := List.mem_map.mpr ⟨p, hp, rfl⟩
  have tp := W.ta _ hp2
  obtain ⟨og, eg, ng, ge, gd, _⟩ := gl
  refine ⟨?_, ?_, fun z => ?_⟩
  · obtain ⟨o, us, file, tf, flags, tg, inF, text, tt, e1, r1, r2, r3, r4, r5, r6, r7, r8, r9⟩ := hc
    refine ⟨o, us, file, tf, flags, tg, inF, text, tt, hidT_get e1 (W.un e1 (fun xs n z => by rw [r2] at z; cases z) fun z => ?_), r1, r2, r3, r4, r5, r6, r7, r8, r9⟩
    rw [r2] at z
    cases z
    simp at r3
  · obtain ⟨m, ob, m1, m2, m3, m4, m5, m6⟩ := bm
    refine ⟨m, ob, m1, m2, fun q => ?_, fun q => ?_, hidT_get m3 (W.un m3 (fun xs n z => by rw [m6] at z; cases z) fun z => by rw [m6] at z; cases z), m4, m5, m6⟩
    · rw [q, ge] at m3
      cases m3
      rw [gd] at m6
      cases m6
    · rw [q, tp] at m3
      cases m3
      cases m6
  · rw [z, tp] at ge
    cases ge
    cases gd
/-- the law's call, from its promise, where defs hold lambdas: cs, their code objects and the tables -/
theorem law_goesT {P : Program} {w : World} {K : PySem.W.Frag} {mg mb : Str → Option Value} {k : Nat} {fa a : Addr} {cs : List (Addr × Addr)} {fd : FuncData} {x : Str} {sp : Sp} {s : Shared} {items : List Value} {ns : List Int}
    (inK : K.In s.heap) (gl : s.heap.Ns mainGlobals mg) (bl : s.heap.Ns builtinsNs mb) (boot : ∀ x : Str, x ≠ "__name__" → mb x = bootBuiltins x) (lim : s.heap.NoLimit) (gens : s.gens = #[]) (bm : BMod mg s.heap)
    (ta : ∀ b ∈ cs.map (·.2), s.heap.get? b = some emptyTab) (tk : ∀ b ∈ cs.map (·.2), K.lookup b = none) (hc : ∀ p ∈ cs, PySem.W.CodeHd s.heap p.1 p.2)
    (la : s.heap.get? a = some { cls := .type "list", data := .seq items.toArray }) (intv : IntsAre items ns) (hl : ns.length ≤ sizeLine) (hr : Room k callerA)
    (F : ∀ base : Heap, K.In base → base.Ns mainGlobals mg → (∀ p ∈ cs, LamX.TabB base mg p.1 p.2) → FnG P w K mg base k fa fd [x] sp) (bind : ∀ (s : Shared) (u : Value), BindsTo s fd ⟨[u], []⟩ [(x, u)])
    (hsp : ∀ H : Hp, (∀ p ∈ cs, H p.2 = some (.tbl #[])) → SqL K H a (ns.map V.int) → sp [.ref a] H (fun v _ => v = .bl true) fun _ _ _ => False) :
    codeAny (model P w) callerA (.call (.ref fa) ⟨[.ref a], []⟩) (fun r s' => r = .ok (.ret (.bool true)) ∧ OldK s.heap s'.heap ∧ s'.os = s.os ∧ AllBare s'.gens) s := by
  have vals := vals_ints intv
  have same := intv.length
  have nota : a ∉ cs.map (·.2) := fun z => by
    have y := ta a z
    rw [la] at y
    cases y
  have go : ∀ H : Hp, Few s H a items cs K → (∀ b ∈ cs.map (·.2), H b = some (.tbl #[])) → (H a = none ∨ ∃ o xs, H a = some (.frz o (.lst xs))) → SqL K H a (ns.map V.int) → HOk P w H s.heap →
      codeAny (model P w) callerA (.call (.ref fa) ⟨[.ref a], []⟩) (fun r s' => r = .ok (.ret (.bool true)) ∧ OldK s.heap s'.heap ∧ s'.os = s.os ∧ AllBare s'.gens) s := by
    intro H W hT hA hS ok
    have mod := W.mod inK gl bl boot lim
    have env0 : Env0 P w K mg (hidT s.heap H) callerA [] s H := ⟨rfl, mod, fun b o e => of_hidT e, Nat.le_of_eq (hidT_size _ _), trivial, fun b hb => absurd (show b ∈ ([] : List Addr) from hb) (by simp), ok, .of_eq gens⟩
    have mem : ∀ p ∈ cs, p.2 ∈ cs.map (·.2) := fun p hp => List.mem_map.mpr ⟨p, hp, rfl⟩
    refine codeAny_mono ((F _ mod.kin mod.glob fun p hp => W.tabs gl bm hp (hc p hp)).go callerA [] s H ⟨[.ref a], []⟩ [.ref a] [.ref a] _ _ hr rfl env0 (bind s (.ref a)) (.cons rfl .nil) (hsp H (fun p hp => hT _ (mem p hp)) hS)) fun r s' h => ?_
    cases r with
    | error e => exact h.elim
    | ok fl =>
      cases fl with
      | next => exact h.elim
      | brk => exact h.elim
      | cont => exact h.elim
      | ret u =>
        obtain ⟨v, H', os, bare, un, ok', rv, q⟩ := h
        cases (show v = .bl true from q)
        cases (show u = Value.bool true from rv)
        have firm : ∀ b o, b ∉ cs.map (·.2) → s.heap.get? b = some o → s'.heap.get? b = some o := fun b o nb e => by
          cases c : H b with
          | none => exact un.keep b o e c (fun z => absurd (show b ∈ ([] : List Addr) from z) (by simp)) (by simp)
          | some u =>
            rcases W.only b (by rw [c]; simp) with z | z
            · subst z
              rcases hA with z | ⟨ob, xs, z⟩
              · rw [c] at z
                cases z
              · have z2 := un.frzs b ob _ z
                obtain ⟨e1, _⟩ := ok b _ z
                obtain ⟨e2, _⟩ := ok' b _ z2
                rw [e] at e1
                cases e1
                exact e2
            · exact absurd z nb
        have more : ∀ b ∈ cs.map (·.2), ∃ ms : Array Value, s'.heap.get? b = some { cls := .none, data := .fields ms } := fun b hb => by
          obtain ⟨ms, z⟩ := un.tbls b #[] (hT b hb)
          exact ⟨_, ok' b _ z⟩
        refine ⟨rfl, ⟨fun b o e => ?old, fun b o e => ?there⟩, os, bare⟩
        case old =>
          by_cases hb : b ∈ cs.map (·.2)
          · obtain ⟨ms, hm⟩ := more b hb
            obtain ⟨p, hp, rfl⟩ := List.mem_map.mp hb
            have y := ta _ hb
            rw [e] at y
            cases y
            exact .inr (.inl ⟨((hc p hp).tab (ta _ hb)).isCodeTable, rfl, #[], ms, rfl, by rw [Array.empty_append]; exact hm⟩)
          · exact .inl (firm b o hb e)
        case there =>
          by_cases hb : b ∈ cs.map (·.2)
          · obtain ⟨ms, hm⟩ := more b hb
            exact ⟨_, hm⟩
          · exact ⟨o, firm b o hb e⟩
  cases hk : K.lookup a with
  | some o =>
    have e := inK a o hk
    rw [la] at e
    cases e
    have off : (if a ∈ cs.map (·.2) then some (HO.tbl #[]) else none) = none := if_neg nota
    refine go (fun b => if b ∈ cs.map (·.2) then some (.tbl #[]) else none) ⟨la, ta, fun b z => ?_, fun z => absurd off z, tk⟩ (fun b hb => if_pos hb) (.inl off) (.inr ⟨_, items.toArray, _, hk, rfl, rfl, rfl, by rw [List.size_toArray, same]; exact hl, by simpa using vals⟩) fun b u z => ?_
    · by_cases hb : b ∈ cs.map (·.2)
      · exact .inr hb
      · exact absurd (if_neg hb) z
    · by_cases hb : b ∈ cs.map (·.2)
      · cases (if_pos hb).symm.trans z
        exact ta b hb
      · cases (if_neg hb).symm.trans z
  | none =>
    have here : (if a = a then some (HO.frz { cls := .type "list", data := .seq items.toArray } (.lst (ns.map V.int))) else if a ∈ cs.map (·.2) then some (HO.tbl #[]) else none) = some (HO.frz { cls := .type "list", data := .seq items.toArray } (.lst (ns.map V.int))) := if_pos rfl
    refine go (fun b => if b = a then some (.frz { cls := .type "list", data := .seq items.toArray } (.lst (ns.map V.int))) else if b ∈ cs.map (·.2) then some (.tbl #[]) else none) ⟨la, ta, fun b z => ?_, fun _ => hk, tk⟩
      (fun b hb => (if_neg fun z => nota (by rw [← z]; exact hb)).trans (if_pos hb)) (.inr ⟨_, _, here⟩) (.inl (.inr ⟨{ cls := .type "list", data := .seq items.toArray }, here⟩)) fun b u z => ?_
    · by_cases c : b = a
      · exact .inl c
      · by_cases hb : b ∈ cs.map (·.2)
        · exact .inr hb
        · exact absurd ((if_neg c).trans (if_neg hb)) z
    · by_cases c : b = a
      · cases (if_pos c).symm.trans z
        subst c
        exact ⟨la, by rw [List.length_map]; exact hl, items, _, vals, la⟩
      · by_cases hb : b ∈ cs.map (·.2)
        · cases ((if_neg c).trans (if_pos hb)).symm.trans z
          exact ta b hb
        · cases ((if_neg c).trans (if_neg hb)).symm.trans z
/-- the law's row, from its promise -/
theorem row_goesT {l : PySem.W.OpenLaw} {n k : Nat} {q : Program} {loose : List Str} {XP : (Str → Option Value) → Heap → Prop} {YP : World → Heap → Prop} {d : DefRec} {K : Params → PySem.W.Frag} {sp : PySem.W.Frag → List (Addr × Addr) → Sp} {x : Str}
    (hn : l.most = some n) (hn2 : n ≤ sizeLine) (hdf : d.params.defaults = []) (hr : Room k callerA)
    (hY : ∀ (w : World) (h : Heap), YP w h → (K w.params).In h)
    (F : ∀ (w : World) (mg mb : Str → Option Value) (fa : Addr) (h : Heap), YP w h → (K w.params).In h → (∃ lo mean, Top q lo mean mg mb h) → mg d.name = some (.ref fa) →
      ∃ (fd : FuncData) (cs : List (Addr × Addr)), (∀ b ∈ cs.map (·.2), h.get? b = some emptyTab) ∧ (∀ b ∈ cs.map (·.2), (K w.params).lookup b = none) ∧ (∀ p ∈ cs, PySem.W.CodeHd h p.1 p.2) ∧ (∀ (s : Shared) (u : Value), BindsTo s fd ⟨[u], []⟩ [(x, u)]) ∧
        (∀ (H : Hp) (a : Addr) (ns : List Int), ns.length ≤ n → (∀ z ∈ ns, Builtin.Int.intBits z ≤ 1048576) → (∀ p ∈ cs, H p.2 = some (.tbl #[])) → SqL (K w.params) H a (ns.map V.int) → sp (K w.params) cs [.ref a] H (fun v _ => v = .bl true) fun _ _ _ => False) ∧
        ∀ base : Heap, (K w.params).In base → base.Ns mainGlobals mg → (∀ p ∈ cs, LamX.TabB base mg p.1 p.2) → FnG l.prog w (K w.params) mg base k fa fd [x] (sp (K w.params) cs)) :
    PySem.W.WalkO q loose XP YP l.row.toRowW d [] (fun f vs => PySem.call f vs) := by
  refine Att.attach_callB hn hdf fun w s0 s mg mb fa o pm cd doc a items ns G Y ho hd hcd hmg hobj intv hlen hbits hg => ?_
  have inK := hY w _ Y
  obtain ⟨fd, cs, ta, tk, hc, bind, hsp, hF⟩ := F w mg mb fa _ Y inK ⟨_, _, G.T⟩ hmg
  exact law_goesT inK G.T.g G.T.b G.T.builtins G.T.nolimit hg G.T.bmain ta tk hc hobj intv (Nat.le_trans hlen hn2) hr hF bind fun H hH hS => hsp H a ns hlen hbits hH hS
end QN

/-! tuples: t * 0 and t * 1, t[::-1] -/
namespace QN
open PySem PySem.Spec PyProof.Rows L2
theorem tuple_mul1 (l : Addr) (items : Array Value) (n : Nat) (dd : Option Addr) (sl : Array (Option Value)) (u : Tok) :
    Meets (Builtin.«tuple.__mul__» ⟨[.ref l, .int 1 u], []⟩) (fun _ R s => s.heap.get? l = some { cls := .type "tuple", dict := dd, data := .seq items n, slots := sl } ∧ R (.ok (.ret (Value.ref l))) s) :=
  .of_wp fun prog w A R s h => by
    obtain ⟨hp, g, d, tk, os⟩ := s
    obtain ⟨hl, h⟩ := h
    have f1 := AutoSeq1.idx_int
    have c1 : (items.isEmpty || (1 : Int) == 1) = true := by simp
    wp_walk using wpAny_loadPart' hl
    repeat (first
      | (refine wpAny_ite_false (decide_eq_false (by decide)) ?_; wp_walk using wpAny_loadPart' hl)
      | (refine wpAny_ite_true (decide_eq_true (by rw [c1])) ?_; wp_walk using wpAny_loadPart' hl))
    exact ⟨_, rfl, h⟩
theorem tuple_mul0 (l : Addr) (items : Array Value) (n : Nat) (dd : Option Addr) (sl : Array (Option Value)) (u : Tok) (hi : items.isEmpty = false) :
    Meets (Builtin.«tuple.__mul__» ⟨[.ref l, .int 0 u], []⟩) (fun _ R s => s.heap.get? l = some { cls := .type "tuple", dict := dd, data := .seq items n, slots := sl } ∧
      R (.ok (.ret (Value.ref s.heap.objs.size))) { s with heap := s.heap.push { cls := Value.type "tuple", data := Data.seq #[] }, toks := s.toks }) :=
  .of_wp fun prog w A R s h => by
    obtain ⟨hp, g, d, tk, os⟩ := s
    obtain ⟨hl, h⟩ := h
    have f1 := AutoSeq1.idx_int
    have c1 : (items.isEmpty || (0 : Int) == 1) = false := by rw [hi]; rfl
    have c2 : (decide ((0 : Int) ≤ 0) || items.isEmpty) = true := by simp
    wp_walk using wpAny_loadPart' hl
    repeat (first
      | (refine wpAny_ite_false (decide_eq_false (by decide)) ?_; wp_walk using wpAny_loadPart' hl)
      | (refine wpAny_ite_false (decide_eq_false (by rw [c1]; exact Bool.false_ne_true)) ?_; wp_walk using wpAny_loadPart' hl)
      | (refine wpAny_ite_true (decide_eq_true (by rw [c2])) ?_; wp_walk using wpAny_loadPart' hl))
    exact ⟨_, rfl, h⟩
theorem fm_congr {α β : Type} {f g : α → Option β} : ∀ {l : List α}, (∀ x ∈ l, f x = g x) → l.filterMap f = l.filterMap g
  | [], _ => rfl
  | a :: l, h => by
    rw [List.filterMap_cons, List.filterMap_cons, h a List.mem_cons_self, fm_congr fun x hx => h x (List.mem_cons_of_mem _ hx)]
theorem sliceApplied_rev {prog : Program} {w : World} {A : Around} {E : Value → Shared → Prop} {s : Shared} {sl : Addr} {u : Tok} {n : Nat} {Q : Int × Int × Nat → Shared → Prop} (hs : s.heap.IsSliceOf sl .none .none (.int (-1) u))
    (h : Q ((n : Int) - 1, -1, Builtin.Slice.slicePlaces ((n : Int) - 1) (-1) (-1)) s) : wpAny (model prog w) A (Builtin.Slice.sliceApplied (.ref sl) (pure (n : Int))) Q E s := by
  obtain ⟨os, hos, hcs, hds⟩ := id hs
  unfold Builtin.Slice.sliceApplied Builtin.Slice.sliceFields
  refine wpAny_bind (wpAny_bind (wpAny_field hos hds (x := .none) rfl (wpAny_bind (wpAny_field hos hds (x := .none) rfl (wpAny_bind (wpAny_field hos hds (x := .int (-1) u) rfl (wpAny_pure ?_)))))))
  refine wpAny_bind (slicePart_int ?_)
  show wpAny _ _ (if ((-1 : Int) == 0) = true then _ else _) _ _ s
  rw [if_neg (by decide)]
  refine wpAny_bind (slicePart_none (wpAny_bind (slicePart_none (wpAny_bind (wpAny_pure ?_)))))
  exact wpAny_pure h
theorem getItem_tuple_rev {prog : Program} {w : World} {A : Around} {E : Value → Shared → Prop} {s : Shared} {t sl : Addr} {items : Array Value} {u : Tok} {Q : Value → Shared → Prop} (ht : IsTup s.heap t items) (hs : s.heap.IsSliceOf sl .none .none (.int (-1) u))
    (h : Q (.ref s.heap.objs.size) { s with heap := s.heap.push { cls := .type "tuple", data := .seq items.toList.reverse.toArray } }) (hsz : items.size ≤ sizeLine) : wpAny (model prog w) A (getItem (.ref t) (.ref sl)) Q E s := by
  have htake : sizeOk (.seq items.toList.reverse.toArray) := by
    show items.toList.reverse.toArray.size ≤ sizeLine
    rw [List.size_toArray, List.length_reverse, Array.length_toList]
    exact hsz
  obtain ⟨os, hos, hcs, hds⟩ := id hs
  have hTs : s.TypeIs (.ref sl) "slice" := ⟨os, hos, hcs⟩
  unfold getItem
  try with_reducible refine wpAny_holding ?_
  first | refine wpAny_bind (wpAny_pure ?_) | skip
  refine wpAny_bind (wpAny_sequenceKey ht.typeIs (by decide) ?_)
  refine wpAny_bind (wpAny_callSpecial?_slot (name := Str.ofString "__getitem__") ht.typeIs PyProof.Rows.slot_tuple_getitem
    (wpAny_call_entry PyProof.Rows.slot_tuple_getitem ht.typeIs entry_tuple_getitem ?_ (args_tuple_getitem _ _)))
  show wpAny _ _ (Builtin.Tuple.tupleItemsOf (.ref t) >>= _) _ _ s
  refine wpAny_bind (tupleItemsOf_ ht ?_)
  refine wpAny_bind (wpAny_typeOf hTs ?_)
  rw [if_pos (by decide)]
  have pick : ((List.range (Builtin.Slice.slicePlaces ((items.size : Int) - 1) (-1) (-1))).filterMap fun (k : Nat) => items[((items.size : Int) - 1 + (k : Int) * (-1)).toNat]?).toArray = items.toList.reverse.toArray := by
    have hp : Builtin.Slice.slicePlaces ((items.size : Int) - 1) (-1) (-1) = items.size := by
      unfold Builtin.Slice.slicePlaces
      rw [if_neg (by decide)]
      by_cases c : items.size = 0
      · rw [c, if_neg (by decide)]
        rfl
      · rw [if_pos (by omega), show (- -1 : Int) = 1 by decide, Int.ediv_one]
        omega
    rw [hp]
    have hf : ((List.range items.size).filterMap fun (k : Nat) => items[((items.size : Int) - 1 + (k : Int) * (-1)).toNat]?) = ((List.range items.size).map fun k => items.size - 1 - k).filterMap (items[·]?) := by
      rw [List.filterMap_map]
      refine fm_congr fun k hk => ?_
      have hk' := List.mem_range.mp hk
      show items[((items.size : Int) - 1 + (k : Int) * (-1)).toNat]? = items[items.size - 1 - k]?
      congr 1
      omega
    rw [hf, PySem.W.krv_range, List.filterMap_reverse, PySem.W.krv_all]
  refine wpAny_bind (sliceApplied_rev hs ?_)
  have hno : ¬ (((items.size : Int) - 1 == 0 && (-1 : Int) == 1 && Builtin.Slice.slicePlaces ((items.size : Int) - 1) (-1) (-1) == items.size) = true) := by
    intro q
    rw [Bool.and_eq_true, Bool.and_eq_true] at q
    exact absurd q.1.2 (by decide)
  show wpAny _ _ (if ((items.size : Int) - 1 == 0 && (-1 : Int) == 1 && Builtin.Slice.slicePlaces ((items.size : Int) - 1) (-1) (-1) == items.size) = true then _ else _) _ _ s
  rw [if_neg hno, pick]
  first
    | exact wpAny_bind (m := Builtin.Tuple.tupleExact _) (wpAny_newObj_type (wpAny_pure ⟨_, rfl, wpAny_pure h⟩) htake)
    | exact wpAny_bind (m := Builtin.Tuple.tupleExact _) (wpAny_newObj_type (wpAny_bind (wpAny_pure (wpAny_pure ⟨_, rfl, wpAny_pure h⟩))) htake)
    | exact wpAny_bind (wpAny_bind (m := Builtin.Tuple.tupleExact _) (wpAny_newObj_type (wpAny_pure (wpAny_pure ⟨_, rfl, wpAny_pure h⟩)) htake))
    | exact wpAny_bind (wpAny_bind (m := Builtin.Tuple.tupleExact _) (wpAny_newObj_type (wpAny_pure ⟨_, rfl, wpAny_pure h⟩) htake))
/-- t[::-1] -/
def tRevT (K : PySem.W.Frag) (te : TE) : TE := fun σ H Q => te σ H fun x H1 => ∃ a xs, x = .ref a ∧ SqT K H1 a xs ∧ ∀ p, H1 p = none → Q (.ref p) (upd H1 p (.tup xs.reverse))
theorem pe_revT {X : Cx} {e : Expr} {te : TE} {k : Nat} {p1 p2 p3 pos : Pos} (he : PE X e te) : PE X (.Subscript e (.Slice none none (some (.UnaryOp .USub (.Constant (.int 1) k p1) p2)) p3) pos) (tRevT X.K te) := by
  refine ⟨fun pins s σ H Q I h => ?_⟩
  refine Subscript_ (thn (he.run pins s σ H _ I h) fun v s1 ⟨x, H1, I1, r1, q1⟩ => ?_)
  obtain ⟨a, xs, ex, hx, q⟩ := q1
  subst ex
  cases r1
  have hst : PO X (some (.UnaryOp .USub (.Constant (.int 1) k p1) p2)) (tPart (tUn (rU fun i => .int (-i)) (tC (.int 1)))) := po_some (pe_un un_neg pe_int)
  refine wpAny_Slice (thn (po_none.run pins s1 σ H1 (fun o H2 => o = none ∧ H2 = H1) I1 ⟨rfl, rfl⟩) fun vl s2 ⟨l, H2, I2, pl, el, e2⟩ => ?_)
  subst el e2
  refine thn (po_none.run pins s2 σ H2 (fun o H3 => o = none ∧ H3 = H2) I2 ⟨rfl, rfl⟩) fun vu s3 ⟨u, H3, I3, pu, eu, e3⟩ => ?_
  subst eu e3
  refine thn (hst.run pins s3 σ H3 (fun o H4 => o = some (-1) ∧ H4 = H3) I3 ⟨1, rfl, -1, rfl, rfl, rfl⟩) fun vs s4 ⟨o, H4, I4, ps, eo, e4⟩ => ?_
  subst eo e4
  cases pl
  cases pu
  obtain ⟨t5, rfl⟩ : ∃ t5, vs = Value.int (-1) t5 := by
    cases ps
    exact ⟨_, rfl⟩
  have I5 : Inv X pins σ H4 { s4 with heap := s4.heap.push { cls := .type "slice", data := .fields #[.none, .none, .int (-1) t5] } } := I4.kept (t' := s4.toks) fun b ob q => Heap.get?_push_of_some _ q
  obtain ⟨its, r, ht, hz⟩ := I5.tuple hx
  have hlen := r.length
  show wpAny (model X.prog X.w) X.A (subscriptTail e (.Slice none none (some (.UnaryOp .USub (.Constant (.int 1) k p1) p2)) p3) (.ref a) (.ref s4.heap.objs.size)) (EP X pins σ Q) X.xe { s4 with heap := s4.heap.push { cls := .type "slice", data := .fields #[.none, .none, .int (-1) t5] } }
  refine tail_any (ops := [.ref a, .ref s4.heap.objs.size]) ht.typeIs (PyProof.Rows.slot_tuple_getitem.lookup) ?_ (by with_unfolding_all rfl)
  refine getItem_tuple_rev ht (Heap.IsSliceOf.new _ .none .none (.int (-1) t5)) ?_ (by rw [List.size_toArray]; omega)
  refine ⟨.ref _, _, I5.laid (t' := s4.toks) (o := .tup xs.reverse) (fun b ob q => Heap.get?_push_of_some _ q) (Nat.le_refl _) ?_, rfl, q _ (I5.hok.fresh (Nat.le_refl _))⟩
  exact ⟨by rw [List.length_reverse]; exact hz, _, r.reverse, IsTup.new _ _⟩
/-- t * k, k from 0 to 1000, t not empty -/
def rRepA (K : PySem.W.Frag) : R2 := fun x y H Q => ∃ l k xs, x = .ref l ∧ y = .int k ∧ SqT K H l xs ∧ xs ≠ [] ∧ 0 ≤ k ∧ k ≤ 1000 ∧ xs.length ≤ 1000 ∧ (k = 1 → Q (.ref l) H) ∧ (k ≠ 1 → ∀ p, H p = none → Q (.ref p) (upd H p (.tup (List.replicate k.toNat xs).flatten)))
theorem op_repA {X : Cx} : OpR X (binaryOp .Mult) (rRepA X.K) := by
  intro pins s σ H x y v u Q I rx ry h
  obtain ⟨l, k, xs, rfl, rfl, hT, hne, h1, h2, hz, q1, q2⟩ := h
  by_cases hk : 2 ≤ k
  · exact op_repT pins s σ H _ _ v u Q I rx ry ⟨l, k, xs, rfl, rfl, hT, hne, hk, h2, hz, q2 (by omega)⟩
  · cases rx
    obtain ⟨t, rfl⟩ := ry
    obtain ⟨its, r, ⟨⟨cls, dd, data, sl⟩, ho, hc, n, hd⟩, hs⟩ := I.tuple hT
    simp only at hc hd
    subst hc hd
    have hle : its.length = xs.length := r.length.symm
    have hi : its.toArray.isEmpty = false := by
      cases its with
      | nil =>
        exact absurd (List.eq_nil_of_length_eq_zero hle.symm) hne
      | cons a b => rfl
    by_cases k0 : k = 0
    · subst k0
      refine wpAny_binaryOp_repeat_ref (T := "tuple") (U := "int") (by decide) ⟨_, ho, rfl⟩ (fun s' => typeIs_int s' 0 t) noFill_tuple_mul F.fills_int_mul F.slot_int_rmul repeat_tuple F.slot_int_index.lookup
        (call_meets F.slot_int_rmul (typeIs_int s 0 t) F.entry_int_rmul (F.args_int_rmul_2 _ _) (int_rmul_tuple 0 t l its.toArray n dd sl)
          ⟨ho, rfl, ⟨_, ho, rfl⟩, call_meets F.slot_tuple_mul ⟨_, ho, rfl⟩ F.entry_tuple_mul (F.args_tuple_mul_2 _ _) (tuple_mul0 l its.toArray n dd sl t hi) ⟨ho, ?_⟩⟩)
      refine ⟨.ref s.heap.objs.size, _, I.laid (t' := s.toks) (o := .tup (List.replicate (0 : Int).toNat xs).flatten) (fun b ob q => Heap.get?_push_of_some _ q) (Nat.le_refl _) ?_, rfl, q2 (by decide) _ (I.hok.fresh (Nat.le_refl _))⟩
      exact ⟨Nat.zero_le _, [], .nil, IsTup.new _ _⟩
    · have k1 : k = 1 := by omega
      subst k1
      exact wpAny_binaryOp_repeat_ref (T := "tuple") (U := "int") (by decide) ⟨_, ho, rfl⟩ (fun s' => typeIs_int s' 1 t) noFill_tuple_mul F.fills_int_mul F.slot_int_rmul repeat_tuple F.slot_int_index.lookup
        (call_meets F.slot_int_rmul (typeIs_int s 1 t) F.entry_int_rmul (F.args_int_rmul_2 _ _) (int_rmul_tuple 1 t l its.toArray n dd sl)
          ⟨ho, rfl, ⟨_, ho, rfl⟩, call_meets F.slot_tuple_mul ⟨_, ho, rfl⟩ F.entry_tuple_mul (F.args_tuple_mul_2 _ _) (tuple_mul1 l its.toArray n dd sl t) ⟨ho, ⟨.ref l, H, I, rfl, q1 rfl⟩⟩⟩)
end QN

/-! own classes made: C(), cls(*e) in a classmethod -/
namespace QN
open PySem PySem.Spec PyProof.Rows L2
section
variable {X : Cx} {CX : CXT} {k i : Nat} {f C : Addr} {sp : Sp} {E : XK} {x : Str} {e : Expr} {te : TE} {p sp_ pos : Pos}
def tMakeR0 (C : Addr) (sp : Sp) (E : XK) : TE := fun σ H Q => ∀ x dx, H x = Option.none → H dx = Option.none → dx ≠ x → sp [V.ref x] (upd (upd H dx (.own x)) x (.ins C dx [])) (fun v H2 => v = .non ∧ Q (.ref x) H2) E
/-- C() -/
theorem pe_makeR0 (M : Mk X.K C f) (F : FnR X.prog X.w X.K X.mg X.base CX k f sp) (hr : Room (k + 1) X.A) (hg : Gl X x) (hm : X.mg x = some (.ref C)) (hx : Passes CX X E) (hdb : (x == ("__debug__" : Str)) = false := by decide) :
    PE X (.Call (.Name x p) [] [] pos) (tMakeR0 C sp E) := by
  refine ⟨fun pins s σ H Q I h => ?_⟩
  refine wpAny_Call_Name_kw (ld_glob I hg hm ?_ hdb)
  exact PySem.W.callWith_K0 I.kIn M.kp (StX.run_makeR M F hr hx I .nil h)
def tMakeS (K : PySem.W.Frag) (i : Nat) (C : Addr) (sp : Sp) (E : XK) (te : TE) : TE := fun σ H Q => σ[i]? = some (some (.ref C)) ∧ te σ H fun y H1 => ∃ a xs, y = V.ref a ∧ (SqT K H1 a xs ∨ SqL K H1 a xs) ∧
  ∀ x dx, H1 x = Option.none → H1 dx = Option.none → dx ≠ x → sp (V.ref x :: xs) (upd (upd H1 dx (.own x)) x (.ins C dx [])) (fun v H2 => v = .non ∧ Q (.ref x) H2) E
/-- cls(*e), cls the class C in the slot i -/
theorem pe_makeS (M : Mk X.K C f) (F : FnR X.prog X.w X.K X.mg X.base CX k f sp) (hr : Room (k + 1) X.A) (hN : X.N[i]? = some x) (hv : Vis X.env.scope x) (hx : Passes CX X E) (he : PE X e te)
    (hdb : (x == ("__debug__" : Str)) = false := by decide) (hcd : (x == ("__classdict__" : Str)) = false := by decide) (hst : starEach [.Starred e sp_] X.env = [(true, eval e X.env)] := by rfl) :
    PE X (.Call (.Name x p) [.Starred e sp_] [] pos) (tMakeS X.K i C sp E te) := by
  refine ⟨fun pins s σ H Q I h => ?_⟩
  obtain ⟨hs, ht⟩ := h
  refine wpAny_Call_Name_kw (thn ((pe_var (pos := p) hN hv hdb hcd).run pins s σ H (fun v H1 => v = .ref C ∧ H1 = H) I ⟨.ref C, hs, rfl, rfl⟩) fun u s1 ⟨v, H1, I1, r1, q1⟩ => ?_)
  obtain ⟨rfl, rfl⟩ := q1
  cases r1
  refine PySem.W.callWith_S (h₀ := X.base) I1.ok.mod.kin M.kp (thn (he.run pins s1 σ _ _ I1 ht) fun v s2 ⟨y, H2, I2, ry, a, xs, ey, hxs, q⟩ => ?_) hst
  subst ey
  obtain rfl : v = Value.ref a := ry
  exact StX.star_any I2 hxs fun us s3 I3 rv => ⟨I3.kIn, StX.run_makeR M F hr hx I3 rv q⟩
end
end QN

/-! < and > of plain data of one kind -/
namespace QN
open PySem PySem.Spec PyProof.Rows L2
/-- x < y, x > y for data that are alike -/
def rLtX (K : PySem.W.Frag) : R2 := fun x y H Q => ∃ d e : PyData, Dp K H x d ∧ Dp K H y e ∧ PySem.W.alike d e = true ∧ d ≠ .none ∧ d.depth ≤ 60 ∧ Q (.bl (PySem.W.dataLt d e)) H
def rGtX (K : PySem.W.Frag) : R2 := fun x y H Q => ∃ d e : PyData, Dp K H x d ∧ Dp K H y e ∧ PySem.W.alike d e = true ∧ d ≠ .none ∧ d.depth ≤ 60 ∧ Q (.bl (PySem.W.dataLt e d)) H
section
variable {X : Cx}
theorem op_ltX (hu : X.A.units + 64 < cLine) : OpR X (compareOp .Lt) (rLtX X.K) := by
  intro pins s σ H x y v u Q I rx ry h
  obtain ⟨d, e, hd, he, al, nn, dp, q⟩ := h
  obtain ⟨as, ra⟩ := Dp.reads I d x v hd rx
  obtain ⟨bs, rb⟩ := Dp.reads I e y u he ry
  exact PySem.W.lt_data ra rb al nn (by omega) ⟨.bl _, H, I, rfl, q⟩
theorem op_gtX (hu : X.A.units + 64 < cLine) : OpR X (compareOp .Gt) (rGtX X.K) := by
  intro pins s σ H x y v u Q I rx ry h
  obtain ⟨d, e, hd, he, al, nn, dp, q⟩ := h
  obtain ⟨as, ra⟩ := Dp.reads I d x v hd rx
  obtain ⟨bs, rb⟩ := Dp.reads I e y u he ry
  exact PySem.W.gt_data ra rb al nn (by omega) ⟨.bl _, H, I, rfl, q⟩
/-- x in t for data in a tuple -/
def rInT (K : PySem.W.Frag) : R2 := fun x y H Q => ∃ (d : PyData) (ds : List PyData), Dp K H x d ∧ Dp K H y (.tuple ds) ∧ SeqAt.shaped d = true ∧ SeqAt.shaped (.tuple ds) = true ∧ Q (.bl (ds.any fun z => PyData.eqv z d)) H
theorem op_inT (hu : X.A.units + 65 < cLine) : OpR X (compareOp .In) (rInT X.K) := by
  intro pins s σ H x y v u Q I rx ry h
  obtain ⟨d, ds, hd, he, sd, se, q⟩ := h
  obtain ⟨as, r1⟩ := Dp.reads I d x v hd rx
  obtain ⟨bs, r2⟩ := Dp.reads I (.tuple ds) y u he ry
  exact SeqAt.in_tuple_reads r2 r1 (SeqAt.canLay_of_shaped se) (SeqAt.canLay_of_shaped sd) (room_in_shaped sd hu) ⟨.bl _, H, I, rfl, q⟩
end
end QN

namespace Qp
open PySem PySem.Spec PyProof.Rows L2 QN
theorem sqT_same {K : PySem.W.Frag} {H H' : Hp} {p : Addr} {xs : List V} (s : Same H H') (h : SqT K H p xs) : SqT K H' p xs := by
  rcases h with h | h
  · rcases h with h | ⟨o, h⟩
    · exact .inl (.inl (s _ _ h))
    · exact .inl (.inr ⟨o, s _ _ h⟩)
  · exact .inr h
theorem same_new {H : Hp} {p : Addr} {o : HO} (h : H p = none) : Same H (upd H p o) := fun b x e => by
  rw [upd_ne (ne_of_none e h)]
  exact e
theorem if_yes {c : Prop} [Decidable c] {a b : Prop} (h : c) (x : a) : if c then a else b := by rw [if_pos h]; exact x
theorem if_no {c : Prop} [Decidable c] {a b : Prop} (h : ¬ c) (x : b) : if c then a else b := by rw [if_neg h]; exact x
theorem but_same {p : Addr} {H H1 H2 : Hp} (s : Same H H1) (b : But p H1 H2) : But p H H2 := fun c o n e => b c o n (s c o e)
theorem but_trans {p : Addr} {H H1 H2 : Hp} (a : But p H H1) (b : But p H1 H2) : But p H H2 := fun c o n e => b c o n (a c o n e)
theorem same_but {p : Addr} {H H1 : Hp} (s : Same H H1) : But p H H1 := fun c o _ e => s c o e
theorem slot_set {σ : L2.St} {i : Nat} {v : V} (h : i < σ.length) : (σ.set i (some v))[i]? = some (some v) := by rw [List.getElem?_set_self h]
theorem slot_keep {σ : L2.St} {i j : Nat} {u : Option V} {v : V} (n : j ≠ i) (h : σ[i]? = some (some v)) : (σ.set j u)[i]? = some (some v) := by rw [List.getElem?_set_ne n]; exact h
/-- ints as values -/
def iv (ns : List Int) : List V := ns.map V.int
/-- a coefficient as the law draws it -/
def okC (n : Int) : Prop := 0 ≤ n ∧ n < 10 ^ 21
structure Blt2 (mg : Str → Option Value) : Prop where
  rg : mg "range" = none
  tu : mg "tuple" = none
  li : mg "list" = none
abbrev sCoef : Stmt := top 34 -- _law_coefficients
abbrev coefNames : List Str := ["_law_dice_here", "_law_found", "_law_turn"]
theorem scCoef : FnScope coefNames ["_law_dice_here"] (defScope sCoef) := ⟨rfl, rfl, rfl, by decide +kernel, rfl, by decide +kernel, by decide +kernel⟩
def spCoef (K : PySem.W.Frag) : Sp := fun vs H Q _ => ∃ (p : Addr) (x y z : Int), vs = [.ref p] ∧ H p = some (.lst (hand x y z)) ∧
  ∀ (q : Addr) (ns : List Int) (x' y' z' : Int) (H' : Hp), (∀ n ∈ ns, okC n) → ns.length ≤ 6 → SqT K H' q (iv ns) → H' p = some (.lst (hand x' y' z')) → But p H H' → Q (.ref q) H'
section
variable {P : Program} {w : World} {K : PySem.W.Frag} {mg : Str → Option Value} {base : Heap}
theorem ok_coef {f fR fO : Addr} {fd fdR fdO : FuncData} (F : Fun K "_law_coefficients" "_law_coefficients" sCoef f fd) (FR : Fun K "_law_roll" "_law_roll" sRoll fR fdR) (bR : L2.Binds K fdR ["_law_dice_here", "_law_total"] []) (gR : mg "_law_roll" = some (.ref fR))
    (FO : Fun K "_law_one_of" "_law_one_of" sOne fO fdO) (bO : L2.Binds K fdO ["_law_dice_here", "_law_items"] []) (gO : mg "_law_one_of" = some (.ref fO)) (B : Blt mg) (B2 : Blt2 mg) : FnOk P w K mg base CX0 3 f fd ["_law_dice_here"] (spCoef K) := by
  have GO : FnOk P w K mg base CX0 2 fO fdO ["_law_dice_here", "_law_items"] spOne := ok_one FO FR bR gR B
  have GR : FnOk P w K mg base CX0 1 fR fdR ["_law_dice_here", "_law_total"] spRoll := ok_roll FR B
  refine F.ok scCoef (fun vs H Q E h => ?_) (fun cdv A outer s H vs Q E hr h => ?_)
  · obtain ⟨p, x, y, z, rfl, _⟩ := h
    rfl
  · obtain ⟨p, x, y, z, rfl, hp, k⟩ := h
    have hr1 := hr.mono (by decide : 1 ≤ 2)
    refine ⟨_, pss_cons (ps_set (i := 1) scCoef.nd rfl (.inl rfl) (pe_lst pa_nil))
      (pss_cons (ps_for PassesOwn.never rfl (pi_range1 (by rfl) B2.rg (pa_cons (pe_call GR hr1 (by rfl) gR FR.kp bR .nil pass0 (pa_cons (pv 0) (pa_cons pe_int pa_nil))) pa_nil)) (pg_name (i := 2) scCoef.nd rfl (.inl rfl))
        (pss_one (ps_expr (pe_bm PySem.F.plainAttrs_list PySem.F.slot_list_append PySem.F.type_list_append mt_append (pv 1) (pa_cons (pe_call GO hr (by rfl) gO FO.kp bO .nil pass0 (pa_cons (pv 0) (pa_cons (pe_lst (pa_cons pe_int (pa_cons pe_int (pa_cons pe_int (pa_cons pe_int (pa_cons pe_int (pa_cons pe_int (pa_cons pe_int (pa_cons pe_int
          (pa_cons (pe_op op_add (pe_op op_pow pe_int pe_int) (pe_call GR hr1 (by rfl) gR FR.kp bR .nil pass0 (pa_cons (pv 0) (pa_cons pe_int pa_nil)))) pa_nil)))))))))) pa_nil))) pa_nil)))))
      (pss_one (ps_ret (pe_op op_catA (pe_callTy call_tuple_of (by rfl) B2.tu (by decide +kernel) (pa_cons (pv 1) pa_nil)) (pe_op op_repA (pe_tup (pa_cons pe_int pa_nil)) (pe_call GO hr (by rfl) gO FO.kp bO .nil pass0 (pa_cons (pv 0) (pa_cons (pe_lst (pa_cons pe_int (pa_cons pe_int (pa_cons pe_int (pa_cons pe_int pa_nil))))) pa_nil)))))))), ?_⟩
    refine ⟨by decide, fun L hL => ?_⟩
    have nLp : L ≠ p := (fun c => by rw [c, hp] at hL; cases hL)
    refine ⟨.ref p, rfl, p, x, y, z, 5, rfl, by rw [upd_ne nLp.symm]; exact hp, by decide, by decide, fun r x1 y1 z1 H1 r0 r5 hp1 b1 => ⟨r, rfl, by omega, by omega, ?_⟩⟩
    have hL1 : H1 L = some (.lst (iv [])) := b1 L _ nLp upd_same
    refine for_range (fun i σ H' => ∃ y2, σ = [some (.ref p), some (.ref L), y2] ∧ ∃ ns x y z, ns.length = i ∧ (∀ n ∈ ns, okC n) ∧ H' L = some (.lst (iv ns)) ∧ H' p = some (.lst (hand x y z)) ∧ But p H H') ⟨none, rfl, [], x1, y1, z1, rfl, (fun n hn => by cases hn), hL1, hp1, but_same (same_new hL) b1⟩ ?_ ?_
    · rintro i σ H' hi ⟨y2, rfl, ns, x2, y2', z2, rfl, hns, hL2, hp2, b2⟩
      refine ⟨.ref L, rfl, .inl ⟨rfl, _, .inl (.inl hL2)⟩, .ref p, rfl, _, _, rfl, rfl, ⟨by decide, by decide, by decide⟩, .ref p, rfl, p, x2, y2', z2, 1000, rfl, hp2, by decide, by decide, fun t x3 y3 z3 H3 t0 t1 hp3 b3 => ?_⟩
      refine ⟨_, _, rfl, rfl, (by show 9 ≤ sizeLine; decide), fun q hq => ?_⟩
      have nqp : q ≠ p := (fun c => by rw [c, hp3] at hq; cases hq)
      refine ⟨p, q, x3, y3, z3, _, rfl, by rw [upd_ne nqp.symm]; exact hp3, upd_same, nqp, (by show 0 < 9; decide), (by show 9 < 1073741824; decide), fun v x4 y4 z4 H4 hv hp4 b4 => ?_⟩
      have hv' : ∃ n : Int, v = .int n ∧ okC n := by
        simp only [List.mem_cons, List.not_mem_nil, or_false] at hv
        rcases hv with rfl | rfl | rfl | rfl | rfl | rfl | rfl | rfl | rfl
        all_goals refine ⟨_, rfl, ?_, ?_⟩
        all_goals first | decide | (show (0 : Int) ≤ 10 ^ 20 + t; omega) | (show (10 : Int) ^ 20 + t < 10 ^ 21; omega)
      obtain ⟨n, rfl, hn⟩ := hv'
      have hL4 : H4 L = some (.lst (iv ns)) := b4 L _ nLp ((same_new hq) _ _ (b3 L _ nLp hL2))
      refine ⟨L, _, _, rfl, rfl, hL4, ?_, _, rfl, ns ++ [n], x4, y4, z4, (by rw [List.length_append]; rfl), fun m hm => ?_, ?_, ?_, ?_⟩
      · unfold iv
        rw [List.length_map, sizeLine_eq]
        have : ns.length < 5 := by omega
        omega
      · rcases List.mem_append.mp hm with hm | hm
        · exact hns m hm
        · rw [List.mem_singleton.mp hm]
          exact hn
      · rw [upd_same]
        unfold iv
        rw [List.map_append]
        rfl
      · rw [upd_ne nLp.symm]
        exact hp4
      · intro b o nb e
        have e4 := b4 b o nb ((same_new hq) b o (b3 b o nb (b2 b o nb e)))
        by_cases c : b = L
        · subst c
          rw [hL] at e
          cases e
        · rw [upd_ne c]
          exact e4
    · rintro σ H' ⟨y2, rfl, ns, x2, y2', z2, hl, hns, hL2, hp2, b2⟩
      have lr : ns.length < 5 := by omega
      refine ⟨.ref L, rfl, L, _, rfl, .inl ⟨.inl (.inl hL2), fun T hT => ?_⟩⟩
      have sT := same_new (o := .tup (iv ns)) hT
      have hT1 : (upd H' T (.tup (iv ns))) T = some (.tup (iv ns)) := upd_same
      have hp3 := sT _ _ hp2
      have b3 : But p H (upd H' T (.tup (iv ns))) := but_trans b2 (same_but sT)
      generalize upd H' T (.tup (iv ns)) = H3 at hT1 hp3 b3
      refine ⟨by decide, fun t ht => ⟨.ref p, rfl, by decide, fun q hq => ?_⟩⟩
      have st := same_new (o := .tup [.int 0]) ht
      have sq := same_new (o := .lst [.int 0, .int 0, .int 1, .int 2]) hq
      have ht1 := sq _ _ (upd_same (a := t) (o := .tup [.int 0]))
      have hp4 := (st.trans sq) _ _ hp3
      have hT4 := (st.trans sq) _ _ hT1
      have nqp : q ≠ p := (fun c => by rw [c, st _ _ hp3] at hq; cases hq)
      have ntp : t ≠ p := (fun c => by rw [c, hp3] at ht; cases ht)
      have nTp : T ≠ p := (fun c => by rw [c, hp3] at hT1; cases hT1)
      refine ⟨p, q, x2, y2', z2, _, rfl, hp4, upd_same, nqp, (by show 0 < 4; decide), (by show 4 < 1073741824; decide), fun v x5 y5 z5 H5 hv hp5 b5 => ?_⟩
      have ht5 := b5 _ _ ntp ht1
      have hT5 := b5 _ _ nTp hT4
      have bb : But p H H5 := but_trans (but_trans b3 (same_but (st.trans sq))) b5
      have hv' : ∃ m : Nat, v = .int (m : Int) ∧ m ≤ 2 := by
        simp only [List.mem_cons, List.not_mem_nil, or_false] at hv
        rcases hv with rfl | rfl | rfl | rfl
        · exact ⟨0, rfl, by decide⟩
        · exact ⟨0, rfl, by decide⟩
        · exact ⟨1, rfl, by decide⟩
        · exact ⟨2, rfl, by decide⟩
      obtain ⟨m, rfl, hm⟩ := hv'
      have zer : ∀ n ∈ ns ++ List.replicate m 0, okC n := fun n hn => by
        rcases List.mem_append.mp hn with hn | hn
        · exact hns n hn
        · rw [(List.mem_replicate.mp hn).2]
          exact ⟨by decide, by decide⟩
      have len6 : (ns ++ List.replicate m (0 : Int)).length ≤ 6 := by
        rw [List.length_append, List.length_replicate]
        omega
      have cat : iv ns ++ List.replicate m (.int 0) = iv (ns ++ List.replicate m 0) := by
        unfold iv
        rw [List.map_append, List.map_replicate]
      have hl6 : (iv ns).length + (List.replicate m (V.int 0)).length ≤ sizeLine := by
        rw [List.length_replicate, sizeLine_eq]
        unfold iv
        rw [List.length_map]
        omega
      have ends : ∀ (u : Addr) (H6 : Hp), Same H5 H6 → SqT K H6 u (List.replicate m (.int 0)) → rCatA K (.ref T) (.ref u) H6 Q := fun u H6 s6 hu => by
        have hT6 : SqT K H6 T (iv ns) := .inl (.inl (s6 _ _ hT5))
        have fin : ∀ (w : Addr) (H7 : Hp), Same H6 H7 → SqT K H7 w (iv (ns ++ List.replicate m 0)) → Q (.ref w) H7 := fun w H7 s7 hw =>
          k w _ x5 y5 z5 H7 zer len6 hw ((s6.trans s7) _ _ hp5) (but_trans bb (same_but (s6.trans s7)))
        refine ⟨T, u, _, _, rfl, rfl, hT6, hu, hl6, fun e => fin u H6 (Same.refl H6) ?_, fun _ e => fin T H6 (Same.refl H6) ?_, fun _ _ w hw => fin w _ (same_new hw) (.inl (.inl ?_))⟩
        · rw [← cat, e]
          exact hu
        · rw [← cat, e, List.append_nil]
          exact hT6
        · rw [upd_same, cat]
      have flat : (List.replicate ((m : Nat) : Int).toNat [V.int 0]).flatten = List.replicate m (V.int 0) := by
        rw [Int.toNat_natCast]
        clear ends hl6 cat len6 zer hm hv hT5 ht5
        induction m with
        | zero => rfl
        | succ m ih => rw [List.replicate_succ, List.flatten_cons, ih, List.replicate_succ]; rfl
      refine ⟨t, m, [.int 0], rfl, rfl, .inl (.inl ht5), (by simp), by omega, by omega, (by show 1 ≤ 1000; decide), fun e => ends t H5 (Same.refl H5) ?_, fun _ u hu => ends u _ (same_new hu) (.inl (.inl ?_))⟩
      · have e1 : m = 1 := by omega
        rw [e1]
        exact .inl (.inl ht5)
      · rw [upd_same, flat]
end
end Qp

/-! the mathematics of coefficients -/
namespace Qp
open PySem PySem.Spec PyProof.Rows L2 QN
/-- without the zeros at the end -/
def cutZ (ns : List Int) : List Int := (ns.reverse.dropWhile (· == 0)).reverse
theorem cutZ_nil : cutZ [] = [] := rfl
theorem cutZ_snoc0 (ms : List Int) : cutZ (ms ++ [0]) = cutZ ms := by
  unfold cutZ
  rw [List.reverse_append]
  rfl
theorem cutZ_snoc {x : Int} (ms : List Int) (h : x ≠ 0) : cutZ (ms ++ [x]) = ms ++ [x] := by
  unfold cutZ
  rw [List.reverse_append]
  show ((x :: ms.reverse).dropWhile (· == 0)).reverse = _
  rw [List.dropWhile_cons, if_neg (by simpa using h), List.reverse_cons, List.reverse_reverse]
/-- a list is empty or has a last one -/
theorem snoc_cases {α : Type} (ms : List α) : ms = [] ∨ ∃ r x, ms = r ++ [x] := by
  rcases List.eq_nil_or_concat ms with h | ⟨r, x, h⟩
  · exact .inl h
  · exact .inr ⟨r, x, by rw [h]; simp [List.concat_eq_append]⟩
/-- the value at n -/
def val (ns : List Int) (n : Int) : Int := ns.foldr (fun c v => v * n + c) 0
theorem val_cons (c : Int) (ns : List Int) (n : Int) : val (c :: ns) n = val ns n * n + c := rfl
theorem val_snoc0 (n : Int) : ∀ ms : List Int, val (ms ++ [0]) n = val ms n
  | [] => by
    show (0 : Int) * n + 0 = 0
    omega
  | c :: ms => by
    rw [List.cons_append, val_cons, val_snoc0 n ms, val_cons]
theorem snoc_ind {P : List Int → Prop} (h0 : P []) (h1 : ∀ r x, P r → P (r ++ [x])) : ∀ (k : Nat) (ms : List Int), ms.length = k → P ms
  | 0, ms, h => by
    rw [List.eq_nil_of_length_eq_zero h]
    exact h0
  | k + 1, ms, h => by
    rcases snoc_cases ms with rfl | ⟨r, x, rfl⟩
    · exact h0
    · exact h1 r x (snoc_ind h0 h1 k r (by rw [List.length_append] at h; simpa using h))
theorem val_cut (n : Int) (ns : List Int) : val (cutZ ns) n = val ns n := by
  refine snoc_ind (P := fun ms => val (cutZ ms) n = val ms n) rfl (fun r x ih => ?_) _ ns rfl
  by_cases h : x = 0
  · subst h
    rw [cutZ_snoc0, val_snoc0, ih]
  · rw [cutZ_snoc r h]
theorem cut_len (ns : List Int) : (cutZ ns).length ≤ ns.length := by
  unfold cutZ
  rw [List.length_reverse, ← List.length_reverse (as := ns)]
  exact (List.dropWhile_sublist _).length_le
theorem cut_mem {ns : List Int} {x : Int} (h : x ∈ cutZ ns) : x ∈ ns := by
  unfold cutZ at h
  have h1 := List.mem_reverse.mp h
  exact List.mem_reverse.mp ((List.dropWhile_sublist _).subset h1)
/-- the last one of what is left is not 0 -/
theorem cut_last (ns : List Int) : cutZ ns = [] ∨ ∃ r x, cutZ ns = r ++ [x] ∧ x ≠ 0 := by
  refine snoc_ind (P := fun ms => cutZ ms = [] ∨ ∃ r x, cutZ ms = r ++ [x] ∧ x ≠ 0) (.inl rfl) (fun r x ih => ?_) _ ns rfl
  by_cases h : x = 0
  · subst h
    rw [cutZ_snoc0]
    exact ih
  · exact .inr ⟨r, x, cutZ_snoc r h, h⟩
theorem cut_prefix (ns : List Int) : cutZ ns = ns.take (cutZ ns).length := by
  refine snoc_ind (P := fun ms => cutZ ms = ms.take (cutZ ms).length) rfl (fun r x ih => ?_) _ ns rfl
  by_cases h : x = 0
  · subst h
    rw [cutZ_snoc0, List.take_append_of_le_length (cut_len r)]
    exact ih
  · rw [cutZ_snoc r h, List.take_length]
theorem pow_mono2 {a b : Nat} (h : a ≤ b) : (2 : Int) ^ a ≤ 2 ^ b := by
  have z : ((2 ^ a : Nat) : Int) ≤ ((2 ^ b : Nat) : Int) := Int.ofNat_le.mpr (Nat.pow_le_pow_right (by decide) h)
  simpa using z
/-- sizes: coefficients below 2 ^ 70, at a place below 2 ^ m -/
theorem val_nn {n : Int} (hn : 0 ≤ n) : ∀ {ns : List Int}, (∀ c ∈ ns, okC c) → 0 ≤ val ns n
  | [], _ => Int.le_refl 0
  | c :: ns, h => by
    rw [val_cons]
    have h1 := val_nn hn (ns := ns) fun x hx => h x (List.mem_cons_of_mem _ hx)
    have h2 := (h c List.mem_cons_self).1
    have h3 := Int.mul_nonneg h1 hn
    omega
theorem val_lt {n : Int} {m : Nat} (hn : 0 ≤ n) (hm : n < 2 ^ m) : ∀ {ns : List Int}, (∀ c ∈ ns, okC c) → val ns n < 2 ^ (70 + ns.length * (m + 1))
  | [], _ => by
    show (0 : Int) < 2 ^ (70 + 0 * (m + 1))
    exact Int.pow_pos (by decide)
  | c :: ns, h => by
    rw [val_cons]
    have hns : ∀ c ∈ ns, okC c := fun x hx => h x (List.mem_cons_of_mem _ hx)
    have h1 := val_lt hn hm hns
    have h0 := val_nn hn hns
    have h2 := (h c List.mem_cons_self)
    have e : 70 + (c :: ns).length * (m + 1) = (70 + ns.length * (m + 1)) + m + 1 := by
      rw [List.length_cons, Nat.add_mul]
      omega
    rw [e, Int.pow_succ, Int.pow_add]
    have h3 : val ns n * n ≤ 2 ^ (70 + ns.length * (m + 1)) * 2 ^ m := Int.mul_le_mul (by omega) (by omega) hn (Int.le_of_lt (Int.pow_pos (by decide)))
    have h4 : (2 : Int) ^ 70 ≤ 2 ^ (70 + ns.length * (m + 1)) * 2 ^ m := by
      rw [← Int.pow_add]
      exact pow_mono2 (by omega)
    have h5 : c < 2 ^ 70 := Int.lt_trans h2.2 (by decide)
    omega
end Qp

namespace Qp
open PySem PySem.Spec PyProof.Rows L2 QN
def ds (ns : List Int) : List PyData := ns.map PyData.int
theorem dps {K : PySem.W.Frag} {H : Hp} : ∀ ns : List Int, DpAll K H (iv ns) (ds ns)
  | [] => .nil
  | n :: ns => .cons (.int n) (dps ns)
theorem lay_ds : ∀ ns : List Int, PyData.canLayAll0 (ds ns) = true
  | [] => rfl
  | n :: ns => by
    show (true && PyData.canLayAll0 (ds ns)) = true
    rw [lay_ds ns]
    rfl
theorem depth_ds : ∀ ns : List Int, PyData.depthAll (ds ns) = 0
  | [] => rfl
  | n :: ns => by
    show max 0 (PyData.depthAll (ds ns)) = 0
    rw [depth_ds ns]
    rfl
theorem shaped_lst (ns : List Int) : SeqAt.shaped (.list (ds ns)) = true := by
  show (PyData.canLayAll0 (ds ns) && decide (PyData.depthAll (ds ns) + 1 ≤ 64)) = true
  rw [lay_ds, depth_ds]
  rfl
theorem shaped_tup (ns : List Int) : SeqAt.shaped (.tuple (ds ns)) = true := by
  show (PyData.canLayAll0 (ds ns) && decide (PyData.depthAll (ds ns) + 1 ≤ 64)) = true
  rw [lay_ds, depth_ds]
  rfl
theorem eqv_nil (ns : List Int) : PyData.eqv (.list (ds ns)) (.list []) = decide (ns = []) := by
  cases ns with
  | nil => rfl
  | cons n ns => simp [PyData.eqv, PyData.eqvAll, ds]
def spCut (K : PySem.W.Frag) : Sp := fun vs H Q _ => ∃ (a : Addr) (ns : List Int), vs = [.ref a] ∧ (SqL K H a (iv ns) ∨ SqT K H a (iv ns)) ∧ ∀ (q : Addr) (H' : Hp), Same H H' → SqT K H' q (iv (cutZ ns)) → Q (.ref q) H'
section
variable {P : Program} {w : World} {K : PySem.W.Frag} {mg : Str → Option Value} {base : Heap}
end
end Qp

namespace Qp
open PySem PySem.Spec PyProof.Rows L2 QN
theorem abs_lt {v : Int} {a : Nat} (h0 : 0 ≤ v) (h : v < 2 ^ a) : v.natAbs < 2 ^ a := by
  have e : ((v.natAbs : Nat) : Int) = v := by omega
  have z : ((v.natAbs : Nat) : Int) < ((2 ^ a : Nat) : Int) := by
    rw [e]
    simpa using h
  exact Int.ofNat_lt.mp z
/-- these coefficients may be reckoned with at n -/
structure Fit (ns : List Int) (n : Int) : Prop where
  ok : ∀ c ∈ ns, okC c
  nn : 0 ≤ n
  sz : ∃ m, n < 2 ^ m ∧ 0 < m ∧ 70 + ns.length * (m + 1) + m ≤ 1000000
theorem Fit.mul {ns : List Int} {n : Int} (F : Fit ns n) (k : Nat) : CMulW (val (ns.drop k) n) n := by
  obtain ⟨m, hm, m0, hs⟩ := F.sz
  have okd : ∀ c ∈ ns.drop k, okC c := fun c hc => F.ok c (List.mem_of_mem_drop hc)
  have l1 : (ns.drop k).length * (m + 1) ≤ ns.length * (m + 1) := Nat.mul_le_mul_right _ (by rw [List.length_drop]; omega)
  exact wide_mul (a := 70 + (ns.drop k).length * (m + 1)) (b := m) (abs_lt (val_nn F.nn okd) (val_lt F.nn hm okd)) (abs_lt F.nn hm) (by omega) m0 (by omega)
theorem rev_at {ns : List Int} {i : Nat} {x : V} (h : (iv ns).reverse[i]? = some x) : ∃ c, x = .int c ∧ i < ns.length ∧ ns.drop (ns.length - (i + 1)) = c :: ns.drop (ns.length - i) := by
  have hl : (iv ns).length = ns.length := by unfold iv; rw [List.length_map]
  have hi : i < ns.length := by
    have z := (List.getElem?_eq_some_iff.mp h).1
    rw [List.length_reverse, hl] at z
    exact z
  rw [List.getElem?_reverse (by rw [hl]; exact hi), hl] at h
  unfold iv at h
  rw [List.getElem?_map] at h
  have hj : ns.length - 1 - i < ns.length := by omega
  rw [List.getElem?_eq_getElem hj] at h
  refine ⟨ns[ns.length - 1 - i], (Option.some.inj h).symm, hi, ?_⟩
  have e1 : ns.length - (i + 1) = ns.length - 1 - i := by omega
  have e2 : ns.length - i = ns.length - 1 - i + 1 := by omega
  rw [e1, e2]
  exact List.drop_eq_getElem_cons hj
def spWorth (K : PySem.W.Frag) : Sp := fun vs H Q _ => ∃ (a : Addr) (ns : List Int) (n : Int), vs = [.ref a, .int n] ∧ SqT K H a (iv ns) ∧ Fit ns n ∧ ∀ (H' : Hp), Same H H' → Q (.int (val ns n)) H'
section
variable {P : Program} {w : World} {K : PySem.W.Frag} {mg : Str → Option Value} {base : Heap}
end
end Qp

/-! the program's functions -/
namespace Qp
open PySem PySem.Spec PyProof.Rows L2 QN
/-- what is no number -/
def NotNum (K : PySem.W.Frag) (H : Hp) (v : V) : Prop := ∃ (t : Value) (bi : Bool), TyX K H v t ∧ PySem.W.kitOne K t (.type "int") = some bi ∧ (bi = true → PySem.W.kitOne K t (.type "bool") = some true)
theorem notNum_non {K : PySem.W.Frag} {H : Hp} : NotNum K H .non := ⟨_, false, .base .non, kit_ty (by decide +kernel), fun z => by cases z⟩
theorem notNum_bl {K : PySem.W.Frag} {H : Hp} (c : Bool) : NotNum K H (.bl c) := ⟨_, true, .base (.bl c), kit_ty (by decide +kernel), fun _ => kit_ty (by decide +kernel)⟩
theorem notNum_str {K : PySem.W.Frag} {H : Hp} (z : Str) : NotNum K H (.str z) := ⟨_, false, .base (.str z), kit_ty (by decide +kernel), fun z => by cases z⟩
theorem tyx_tup {K : PySem.W.Frag} {H : Hp} {q : Addr} {xs : List V} (h : SqT K H q xs) : TyX K H (.ref q) (.type "tuple") := by
  rcases h with (h | ⟨o, h⟩) | ⟨o, its, n, h1, h2, _⟩
  · exact .base (.tup h)
  · exact .fTuple h
  · exact .kTuple h1 h2
theorem notNum_tup {K : PySem.W.Frag} {H : Hp} {q : Addr} {xs : List V} (h : SqT K H q xs) : NotNum K H (.ref q) := ⟨_, false, tyx_tup h, kit_ty (by decide +kernel), fun z => by cases z⟩
abbrev sIsI : Stmt := top 7 -- is_integer
theorem scIsI : FnScope ["value"] ["value"] (defScope sIsI) := ⟨rfl, rfl, rfl, by decide +kernel, rfl, by decide +kernel, by decide +kernel⟩
abbrev sIsN : Stmt := top 8 -- is_natural
theorem scIsN : FnScope ["value"] ["value"] (defScope sIsN) := ⟨rfl, rfl, rfl, by decide +kernel, rfl, by decide +kernel, by decide +kernel⟩
abbrev sChk : Stmt := top 11 -- check_number
theorem scChk : FnScope ["number"] ["number"] (defScope sChk) := ⟨rfl, rfl, rfl, by decide +kernel, rfl, by decide +kernel, by decide +kernel⟩
abbrev sWz : Stmt := top 14 -- _without_zeros
theorem scWz : FnScope ["coefficients", "many"] ["coefficients"] (defScope sWz) := ⟨rfl, rfl, rfl, by decide +kernel, rfl, by decide +kernel, by decide +kernel⟩
def spIsI (K : PySem.W.Frag) : Sp := fun vs H Q _ => ∃ v, vs = [v] ∧ ((∃ n, v = .int n ∧ Q (.bl true) H) ∨ (NotNum K H v ∧ Q (.bl false) H))
def NumV (K : PySem.W.Frag) (H : Hp) (v : V) (b : Bool) : Prop := (∃ n : Int, v = .int n ∧ b = decide (0 ≤ n)) ∨ (b = false ∧ NotNum K H v)
theorem numV_nat {K : PySem.W.Frag} {H : Hp} {n : Int} (h : 0 ≤ n) : NumV K H (.int n) true := .inl ⟨n, rfl, (decide_eq_true h).symm⟩
def spIsN (K : PySem.W.Frag) : Sp := fun vs H Q _ => ∃ v b, vs = [v] ∧ NumV K H v b ∧ Q (.bl b) H
def spChk : Sp := fun vs H Q _ => ∃ n : Int, vs = [.int n] ∧ 0 ≤ n ∧ Q .non H
structure BltP (mg : Str → Option Value) : Prop where
  isi : mg "isinstance" = none
  int : mg "int" = none
  bool : mg "bool" = none
  tuple : mg "tuple" = none
  len : mg "len" = none
  all : mg "all" = none
section
variable {P : Program} {w : World} {K : PySem.W.Frag} {mg : Str → Option Value} {base : Heap}
theorem ok_isI {f : Addr} {fd : FuncData} (F : Fun K "is_integer" "is_integer" sIsI f fd) (B : BltP mg) : FnOk P w K mg base CX0 1 f fd ["value"] (spIsI K) := by
  refine F.ok scIsI (fun vs H Q E h => ?_) (fun cdv A outer s H vs Q E hr h => ?_)
  · obtain ⟨v, rfl, _⟩ := h
    rfl
  · obtain ⟨v, rfl, h⟩ := h
    refine ⟨_, pss_one (ps_ret (pe_and (pe_callB call_isi (by rfl) B.isi (by decide +kernel) (pa_cons (pv 0) (pa_cons (pe_bltn (v := .ty "int") (by rfl) B.int (by decide +kernel) rfl) pa_nil)))
      (pe_one (pe_not (pe_callB call_isi (by rfl) B.isi (by decide +kernel) (pa_cons (pv 0) (pa_cons (pe_bltn (v := .ty "bool") (by rfl) B.bool (by decide +kernel) rfl) pa_nil))))))), ?_⟩
    rcases h with ⟨n, rfl, k⟩ | ⟨⟨t, bi, ht, h1, h2⟩, k⟩
    · refine ⟨_, rfl, _, _, _, _, true, rfl, .ty _, .base (.int n), kit_ty (by decide +kernel), _, rfl, if_yes rfl ?_⟩
      exact ⟨_, rfl, _, _, _, _, false, rfl, .ty _, .base (.int n), kit_ty (by decide +kernel), _, rfl, k⟩
    · cases bi with
      | false => exact ⟨_, rfl, _, _, _, _, false, rfl, .ty _, ht, h1, _, rfl, if_no Bool.false_ne_true k⟩
      | true =>
        refine ⟨_, rfl, _, _, _, _, true, rfl, .ty _, ht, h1, _, rfl, if_yes rfl ?_⟩
        exact ⟨_, rfl, _, _, _, _, true, rfl, .ty _, ht, h2 rfl, _, rfl, k⟩
theorem ok_isN {f fI : Addr} {fd fdI : FuncData} (F : Fun K "is_natural" "is_natural" sIsN f fd) (FI : Fun K "is_integer" "is_integer" sIsI fI fdI) (bI : L2.Binds K fdI ["value"] []) (gI : mg "is_integer" = some (.ref fI)) (B : BltP mg) :
    FnOk P w K mg base CX0 2 f fd ["value"] (spIsN K) := by
  have GI : FnOk P w K mg base CX0 1 fI fdI ["value"] (spIsI K) := ok_isI FI B
  refine F.ok scIsN (fun vs H Q E h => ?_) (fun cdv A outer s H vs Q E hr h => ?_)
  · obtain ⟨v, b, rfl, _⟩ := h
    rfl
  · obtain ⟨v, b, rfl, h, k⟩ := h
    refine ⟨_, pss_one (ps_ret (pe_and (pe_call GI hr (by rfl) gI FI.kp bI .nil pass0 (pa_cons (pv 0) pa_nil)) (pe_one (pe_cmp (pc_ge (pv 0) pe_int) rfl)))), ?_⟩
    rcases h with ⟨n, rfl, rfl⟩ | ⟨rfl, h⟩
    · refine ⟨_, rfl, _, rfl, .inl ⟨n, rfl, _, rfl, if_yes rfl ⟨_, rfl, _, _, rfl, rfl, k⟩⟩⟩
    · exact ⟨_, rfl, _, rfl, .inr ⟨h, _, rfl, if_no Bool.false_ne_true k⟩⟩
theorem ok_chk {f fN : Addr} {fd fdN : FuncData} (F : Fun K "check_number" "check_number" sChk f fd) (GN : FnOk P w K mg base CX0 2 fN fdN ["value"] (spIsN K)) (kN : PySem.W.keepIn K (.ref fN) = true) (bN : L2.Binds K fdN ["value"] []) (gN : mg "is_natural" = some (.ref fN)) :
    FnOk P w K mg base CX0 3 f fd ["number"] spChk := by
  refine F.ok scChk (fun vs H Q E h => ?_) (fun cdv A outer s H vs Q E hr h => ?_)
  · obtain ⟨n, rfl, _⟩ := h
    rfl
  · obtain ⟨n, rfl, h0, k⟩ := h
    refine ⟨_, pss_one (ps_if (pt_not (pt_val (pe_call GN hr (by rfl) gN kN bN .nil pass0 (pa_cons (pv 0) pa_nil)))) (pss_one ps_never) pss_nil), ?_⟩
    exact ⟨_, rfl, _, true, rfl, numV_nat h0, _, rfl, if_no (by decide) k⟩
/-- _without_zeros -/
def spWz (K : PySem.W.Frag) : Sp := fun vs H Q _ => ∃ (a : Addr) (ns : List Int), vs = [.ref a] ∧ SqT K H a (iv ns) ∧ ∀ (q : Addr) (H' : Hp), Same H H' → SqT K H' q (iv (cutZ ns)) → Q (.ref q) H'
theorem iv_len (ns : List Int) : (iv ns).length = ns.length := by unfold iv; rw [List.length_map]
theorem ok_wz {f : Addr} {fd : FuncData} (F : Fun K "_without_zeros" "_without_zeros" sWz f fd) (B : BltP mg) : FnOk P w K mg base CX0 1 f fd ["coefficients"] (spWz K) := by
  refine F.ok scWz (fun vs H Q E h => ?_) (fun cdv A outer s H vs Q E hr h => ?_)
  · obtain ⟨a, ns, rfl, _⟩ := h
    rfl
  · obtain ⟨a, ns, rfl, ha, k⟩ := h
    refine ⟨_, pss_cons (ps_set (i := 1) scWz.nd rfl (.inl rfl) (pe_callB call_len_seq (by rfl) B.len PySem.boot_len (pa_cons (pv 0) pa_nil)))
      (pss_cons (ps_while PassesOwn.never (PW.pt (pw_and (pt_cmpR op_gt (pv 1) pe_int (nomark _)) (pw_and1 (pt_cmpR op_eq (pe_ix ix_tup (pv 0) (pe_op op_sub (pv 1) pe_int) (fun _ _ => rfl)) pe_int (nomark _)))))
        (pss_one (ps_set (i := 1) scWz.nd rfl (.inl rfl) (pe_op op_sub (pv 1) pe_int))))
      (pss_one (ps_ret (pe_slice sl_tupA (pv 0) po_none (po_some (pv 1)))))), ?_⟩
    refine ⟨_, rfl, a, _, rfl, .inr ha, ?_⟩
    refine ⟨fun m σ H' => σ = [some (.ref a), some (.int (m : Int))] ∧ m ≤ ns.length ∧ cutZ (ns.take m) = cutZ ns ∧ H' = H, ⟨ns.length, by rw [iv_len]; rfl, Nat.le_refl _, by rw [List.take_length], rfl⟩, ?_⟩
    rintro m σ H' ⟨rfl, hm, hc, rfl⟩
    have out : cutZ ns = ns.take m → rSlA K (.ref a) none (some (m : Int)) H' Q := fun e => by
      refine ⟨a, _, rfl, ha, fun hw => k a H' (Same.refl _) ?_, fun hw q hq => k q _ (same_new hq) (.inl (.inl ?_))⟩
      · rw [e]
        have e1 : m = ns.length := by
          have z := hw.2
          rw [HT.sIx_nat, iv_len] at z
          omega
        rw [e1, List.take_length]
        exact ha
      · rw [upd_same, e]
        unfold cutV
        rw [HT.sIx_none, HT.sIx_nat, iv_len, Nat.min_eq_left hm, List.drop_zero, Nat.sub_zero]
        unfold iv
        rw [List.map_take]
    cases m with
    | zero =>
      refine ⟨_, rfl, _, _, rfl, rfl, _, rfl, if_no (by decide) (if_no Bool.false_ne_true ?_)⟩
      exact ⟨_, rfl, _, rfl, _, rfl, out hc.symm⟩
    | succ j =>
      have hj : j < ns.length := hm
      have ej : ((j + 1 : Nat) : Int) - 1 = (j : Int) := by omega
      have at_ : (iv ns)[j]? = some (.int ns[j]) := by
        unfold iv
        rw [List.getElem?_map, List.getElem?_eq_getElem hj]
        rfl
      have tk : ns.take (j + 1) = ns.take j ++ [ns[j]] := by rw [List.take_add_one, List.getElem?_eq_getElem hj]; rfl
      refine ⟨_, rfl, _, _, rfl, rfl, _, rfl, if_yes (decide_eq_true (by omega)) ⟨_, rfl, _, rfl, _, _, rfl, rfl, a, _, _, .int ns[j], rfl, rfl, ha, ?_, rfl, _, rfl, ?_⟩⟩
      · rw [ej]
        exact atI_nat at_
      by_cases h0 : ns[j] = 0
      · refine if_yes (by rw [h0]; decide) ⟨fun σ' H2 => σ' = [some (.ref a), some (.int (j : Int))] ∧ H2 = H', fun σ' H2 ⟨h1, h2⟩ => ⟨j, Nat.lt_succ_self _, h1, Nat.le_of_lt hj, ?_, h2⟩, ?_⟩
        · rw [← hc, tk, h0, cutZ_snoc0]
        · refine ⟨_, rfl, _, _, rfl, rfl, ?_, rfl⟩
          show [some (V.ref a), some (V.int (((j + 1 : Nat) : Int) - 1))] = _
          rw [ej]
      · refine if_no (by simpa using h0) ?_
        refine ⟨_, rfl, _, rfl, _, rfl, out ?_⟩
        rw [← hc, tk, cutZ_snoc _ h0]
end
end Qp

/-! the class Polynomial -/
namespace Qp
open PySem PySem.Spec PyProof.Rows L2 QN
abbrev cPoly : Stmt := top 28 -- Polynomial
abbrev sInit : Stmt := inClass cPoly 0 -- Polynomial.__init__
abbrev sOf : Stmt := inClass cPoly 1 -- Polynomial.of
abbrev sDeg : Stmt := inClass cPoly 3 -- Polynomial.degree
abbrev initNames : List Str := ["self", "coefficients", "number"]
theorem scInit : FnScope initNames ["self", "coefficients"] (defScope sInit) := ⟨rfl, rfl, rfl, by decide +kernel, rfl, by decide +kernel, by decide +kernel⟩
theorem scOf : FnScope ["cls", "coefficients"] ["cls", "coefficients"] (defScope sOf) := ⟨rfl, rfl, rfl, by decide +kernel, rfl, by decide +kernel, by decide +kernel⟩
theorem scDeg : FnScope ["self"] ["self"] (defScope sDeg) := ⟨rfl, rfl, rfl, by decide +kernel, rfl, by decide +kernel, by decide +kernel⟩
/-- what the class has -/
structure PolyC (K : PySem.W.Frag) (mg : Str → Option Value) (C : Addr) : Prop where
  gC : mg "Polynomial" = some (.ref C)
  cls : Cls K C
  noF : NoAttr K C "_coefficients"
/-- the polynomial with these coefficients stands at p -/
def PolyAt (K : PySem.W.Frag) (C : Addr) (H : Hp) (p : Addr) (ns : List Int) : Prop := ∃ dx t, H p = some (.ins C dx [("_coefficients", .ref t)]) ∧ SqT K H t (iv ns)
theorem polyAt_same {K : PySem.W.Frag} {C : Addr} {H H' : Hp} {p : Addr} {ns : List Int} (s : Same H H') (h : PolyAt K C H p ns) : PolyAt K C H' p ns := by
  obtain ⟨dx, t, h1, h2⟩ := h
  exact ⟨dx, t, s _ _ h1, sqT_same s h2⟩
/-- __init__ of natural coefficients: the object at x, still without fields -/
def spInit (K : PySem.W.Frag) (C : Addr) : Sp := fun vs H Q _ => ∃ (x dx : Addr) (ns : List Int), vs = .ref x :: iv ns ∧ H x = some (.ins C dx []) ∧ (∀ c ∈ ns, 0 ≤ c) ∧ ns.length ≤ 1000 ∧
  ∀ (t : Addr) (H' : Hp), H' x = some (.ins C dx [("_coefficients", .ref t)]) → SqT K H' t (iv (cutZ ns)) → But x H H' → Q .non H'
theorem yes_if {σ : L2.St} {H : Hp} {A B : Hp → Prop} (a : A H) : tYes σ H (fun b H3 => if b = true then A H3 else B H3) := by
  show (if true = true then A H else B H)
  rw [if_pos rfl]
  exact a
section
variable {P : Program} {w : World} {K : PySem.W.Frag} {mg : Str → Option Value} {base : Heap}
theorem ok_init {oc : Value} {od : Option Addr} {kV doc pm cdv ct : Value} {an : Option Addr} {osl : Array (Option Value)} {f fN fW C : Addr} {fdN fdW : FuncData}
    (lk : K.lookup f = some ⟨oc, od, .func (PySem.W.fnOf "__init__" "Polynomial.__init__" (defArgs sInit) (defBody sInit) (defScope sInit) .none kV doc pm an cdv ct), osl⟩) (hcd : PySem.W.codeIn K cdv "Polynomial.__init__" = true)
    (GN : FnOk P w K mg base CX0 2 fN fdN ["value"] (spIsN K)) (kN : PySem.W.keepIn K (.ref fN) = true) (bN : L2.Binds K fdN ["value"] []) (gN : mg "is_natural" = some (.ref fN))
    (GW : FnOk P w K mg base CX0 1 fW fdW ["coefficients"] (spWz K)) (kW : PySem.W.keepIn K (.ref fW) = true) (bW : L2.Binds K fdW ["coefficients"] []) (gW : mg "_without_zeros" = some (.ref fW))
    (B : BltP mg) (T : PolyC K mg C) : FnR P w K mg base CX0 3 f (spInit K C) := by
  refine FnR.imp (StX.fn_star (ps := ["self"]) (pv := "coefficients") (sp := fun vs H Q E => ∃ (x dx a : Addr) (ns : List Int), vs = [.ref x, .ref a] ∧ H a = some (.tup (iv ns)) ∧ H x = some (.ins C dx []) ∧ (∀ c ∈ ns, 0 ≤ c) ∧ ns.length ≤ 1000 ∧
    ∀ (t : Addr) (H' : Hp), H' x = some (.ins C dx [("_coefficients", .ref t)]) → SqT K H' t (iv (cutZ ns)) → But x H H' → Q .non H') lk hcd scInit ?up (fun us rest hl => ?bind) (fun A outer s H vs Q E hr h => ?body)) ?imp
  case up => exact StX.cxUp_none
  case bind =>
    match us, hl with
    | [u], _ =>
      cases rest with
      | nil => with_unfolding_all rfl
      | cons r rs => with_unfolding_all rfl
  case imp =>
    intro vs H Q E h
    obtain ⟨x, dx, ns, rfl, hx, h0, hl, k⟩ := h
    refine ⟨[.ref x], iv ns, rfl, rfl, ?_, fun p hp => ⟨x, dx, p, ns, rfl, upd_same, ?_, h0, hl, fun t H' h1 h2 b => k t H' h1 h2 fun b' o nb e => b b' o nb ?_⟩⟩
    · rw [iv_len, sizeLine_eq]
      omega
    · rw [upd_ne fun c => by rw [c, hp] at hx; cases hx]
      exact hx
    · rw [upd_ne fun c => by rw [c, hp] at e; cases e]
      exact e
  case body =>
    obtain ⟨x, dx, a, ns, rfl, ha, hx, h0, hl, k⟩ := h
    have hr1 := hr.mono (by decide : 1 ≤ 2)
    refine ⟨_, pss_cons (ps_if (pt_not (pt_val (pe_callB (cr_all rfl) (by rfl) B.all (by decide +kernel) (pa_cons (pe_lc (own := [("number", 2)]) (g := gName 2) (tt := tYes) rfl scInit.nd (pi_tup (pv 1)) (blkOk_by (N := initNames) (sc := defScope sInit) (by decide +kernel))
        (fun _ _ _ _ _ => pg_name (i := 2) scInit.nd rfl (.inl rfl)) (fun _ _ _ _ _ => pts_nil) (fun _ _ _ _ _ => pe_call GN hr (by rfl) gN kN bN .nil pass0 (pa_cons (pv 2) pa_nil))) pa_nil)))) (pss_one ps_never) pss_nil)
      (pss_one (ps_fld (pv 0) (pe_call GW hr1 (by rfl) gW kW bW .nil pass0 (pa_cons (pv 1) pa_nil)) rfl)), ?_⟩
    refine ⟨.ref a, rfl, a, rfl, ⟨_, .inl (.inl ha)⟩, fun D hD => ?_⟩
    have nDa : D ≠ a := (fun c => by rw [c, ha] at hD; cases hD)
    refine lc_tup (xs := iv ns) (fun i H' => Same H H' ∧ H' D = some (.lst (List.replicate i (.bl true)))) ⟨same_new hD, upd_same⟩ (fun i H' _ hV => .inl (.inl (hV.1 _ _ ha))) (fun i v H' hv hV => ?_) fun H' hV => ?_
    · obtain ⟨sm, hD'⟩ := hV
      unfold iv at hv
      rw [List.getElem?_map] at hv
      cases hc : ns[i]? with
      | none => rw [hc] at hv; cases hv
      | some c =>
        rw [hc] at hv
        have ev : V.int c = v := Option.some.inj hv
        subst ev
        have hi : i < ns.length := (List.getElem?_eq_some_iff.mp hc).1
        refine ⟨rfl, yes_if ⟨_, rfl, _, true, rfl, numV_nat (h0 c (List.mem_of_getElem? hc)), _, hD', ?_, ?_, ?_⟩⟩
        · rw [List.length_replicate, sizeLine_eq]
          omega
        · intro b o e
          by_cases hb : b = D
          · subst hb
            rw [hD] at e
            cases e
          · rw [upd_ne hb]
            exact sm _ _ e
        · rw [upd_same, ← List.replicate_succ']
    · obtain ⟨sm, hD'⟩ := hV
      rw [iv_len] at hD'
      refine ⟨D, List.replicate ns.length true, rfl, .inl (.inl (by rw [List.map_replicate]; exact hD')), _, rfl, if_no (by simp) ?_⟩
      refine ⟨.ref a, rfl, a, ns, rfl, .inl (.inl (sm _ _ ha)), fun q H2 s2 hq => ⟨_, rfl, x, C, dx, [], rfl, s2 _ _ (sm _ _ hx), T.cls, T.noF, by decide, ?_⟩⟩
      refine k q _ upd_same ?_ fun b o nb e => ?_
      · rcases hq with (hq | ⟨o, hq⟩) | hq
        · exact .inl (.inl (by rw [upd_ne fun c => by rw [c, s2 _ _ (sm _ _ hx)] at hq; cases hq]; exact hq))
        · exact .inl (.inr ⟨o, by rw [upd_ne fun c => by rw [c, s2 _ _ (sm _ _ hx)] at hq; cases hq]; exact hq⟩)
        · exact .inr hq
      · rw [upd_ne nb]
        exact s2 _ _ (sm _ _ e)
end
end Qp

namespace Qp
open PySem PySem.Spec PyProof.Rows L2 QN
def spOf (K : PySem.W.Frag) (C : Addr) : Sp := fun vs H Q _ => ∃ (a : Addr) (ns : List Int), vs = [.ref C, .ref a] ∧ SqT K H a (iv ns) ∧ (∀ c ∈ ns, 0 ≤ c) ∧ ns.length ≤ 1000 ∧ ∀ (p : Addr) (H' : Hp), Same H H' → PolyAt K C H' p (cutZ ns) → Q (.ref p) H'
def spDeg (K : PySem.W.Frag) (C : Addr) : Sp := fun vs H Q _ => ∃ (p : Addr) (ns : List Int), vs = [.ref p] ∧ PolyAt K C H p ns ∧ Q (.int ((ns.length : Int) - 1)) H
/-- behind a new object at x with its dict at dx -/
theorem same_made {H H' : Hp} {x dx C : Addr} (hx : H x = none) (hd : H dx = none) (b : But x (upd (upd H dx (.own x)) x (.ins C dx [])) H') : Same H H' := fun c o e => by
  have n1 : c ≠ x := fun z => by rw [z, hx] at e; cases e
  have n2 : c ≠ dx := fun z => by rw [z, hd] at e; cases e
  exact b c o n1 (by rw [upd_ne n1, upd_ne n2]; exact e)
section
variable {P : Program} {w : World} {K : PySem.W.Frag} {mg : Str → Option Value} {base : Heap}
theorem ok_of {f fI C : Addr} {fd : FuncData} (F : Fun K "of" "Polynomial.of" sOf f fd) (M : Mk K C fI) (GI : FnR P w K mg base CX0 3 fI (spInit K C)) (B : BltP mg) : FnOk P w K mg base CX0 5 f fd ["cls", "coefficients"] (spOf K C) := by
  refine F.ok scOf (fun vs H Q E h => ?_) (fun cdv A outer s H vs Q E hr h => ?_)
  · obtain ⟨a, ns, rfl, _⟩ := h
    rfl
  · obtain ⟨a, ns, rfl, ha, h0, hl, k⟩ := h
    refine ⟨_, pss_cons (ps_if (pt_not (pt_val (pe_callB call_isi (by rfl) B.isi (by decide +kernel) (pa_cons (pv 1) (pa_cons (pe_bltn (v := .ty "tuple") (by rfl) B.tuple (by decide +kernel) rfl) pa_nil))))) (pss_one ps_never) pss_nil)
      (pss_one (ps_ret (pe_makeS (i := 0) M GI hr rfl (.inl rfl) pass0 (pv 1)))), ?_⟩
    refine ⟨_, rfl, _, _, _, _, true, rfl, .ty _, tyx_tup ha, kit_ty (by decide +kernel), _, rfl, if_no (by decide) ?_⟩
    refine ⟨rfl, _, rfl, a, _, rfl, .inl ha, fun x dx hx hd ne => ⟨x, dx, ns, rfl, upd_same, h0, hl, fun t H' h1 h2 b => ⟨rfl, k x H' (same_made hx hd b) ⟨dx, t, h1, h2⟩⟩⟩⟩
theorem ok_deg {f C : Addr} {fd : FuncData} (F : Fun K "degree" "Polynomial.degree" sDeg f fd) (B : BltP mg) (T : PolyC K mg C) : FnOk P w K mg base CX0 1 f fd ["self"] (spDeg K C) := by
  refine F.ok scDeg (fun vs H Q E h => ?_) (fun cdv A outer s H vs Q E hr h => ?_)
  · obtain ⟨p, ns, rfl, _⟩ := h
    rfl
  · obtain ⟨p, ns, rfl, ⟨dx, t, hp, ht⟩, k⟩ := h
    refine ⟨_, pss_one (ps_ret (pe_op op_sub (pe_callB call_len_seq (by rfl) B.len PySem.boot_len (pa_cons (pe_fld (pv 0) rfl) pa_nil)) pe_int)), ?_⟩
    refine ⟨_, rfl, p, C, dx, _, _, rfl, hp, T.cls, T.noF, rfl, t, _, rfl, .inr ht, _, _, rfl, rfl, ?_⟩
    rw [iv_len]
    exact k
end
end Qp

/-! sums of coefficients -/
namespace Qp
open PySem PySem.Spec PyProof.Rows L2 QN
abbrev sSums : Stmt := top 15 -- _sums
theorem scSums : FnScope ["one", "two", "many", "at"] ["one", "two"] (defScope sSums) := ⟨rfl, rfl, rfl, by decide +kernel, rfl, by decide +kernel, by decide +kernel⟩
/-- a list or a tuple -/
def SeqE (K : PySem.W.Frag) (H : Hp) (a : Addr) (xs : List V) : Prop := SqL K H a xs ∨ SqT K H a xs
theorem sqL_same {K : PySem.W.Frag} {H H' : Hp} {q : Addr} {xs : List V} (e : Same H H') (a : SqL K H q xs) : SqL K H' q xs := by
  rcases a with (a | ⟨u, a⟩) | a
  · exact .inl (.inl (e _ _ a))
  · exact .inl (.inr ⟨u, e _ _ a⟩)
  · exact .inr a
theorem seqE_same {K : PySem.W.Frag} {H H' : Hp} {a : Addr} {xs : List V} (s : Same H H') (h : SeqE K H a xs) : SeqE K H' a xs := by
  rcases h with h | h
  · exact .inl (sqL_same s h)
  · exact .inr (sqT_same s h)
def co (ns : List Int) (i : Nat) : Int := ns.getD i 0
def sumZ (as bs : List Int) : List Int := (List.range (max as.length bs.length)).map fun i => co as i + co bs i
theorem co_get {ns : List Int} {i : Nat} (h : i < ns.length) : ns[i]? = some (co ns i) := by
  unfold co
  rw [List.getD_eq_getElem?_getD, List.getElem?_eq_getElem h]
  rfl
theorem co_out {ns : List Int} {i : Nat} (h : ns.length ≤ i) : co ns i = 0 := by
  unfold co
  rw [List.getD_eq_getElem?_getD, List.getElem?_eq_none h]
  rfl
theorem iv_get {ns : List Int} {i : Nat} (h : i < ns.length) : (iv ns)[i]? = some (.int (co ns i)) := by
  unfold iv
  rw [List.getElem?_map, co_get h]
  rfl
def rLenE (K : PySem.W.Frag) : List V → Hp → VK → Prop := fun xs H Q => ∃ p ys, xs = [V.ref p] ∧ (SqL K H p ys ∨ SqT K H p ys) ∧ Q (V.int ys.length) H
/-- xs[at] if at < len(xs) else 0 -/
def tAt (K : PySem.W.Frag) (i j : Nat) : TE := tIf (tTest (tOp (rI0 fun i j => V.bl (decide (i < j))) (tVar j) (tCB (rLenE K) (tCons (tVar i) tNil)))) (tOp (rIx K) (tVar i) (tVar j)) (tC (.int 0))
theorem at_goes {K : PySem.W.Frag} {σ : L2.St} {H : Hp} {Q : VK} {i j : Nat} {a : Addr} {ns : List Int} {k : Nat} (hi : σ[i]? = some (some (.ref a))) (hj : σ[j]? = some (some (.int (k : Int)))) (h : SeqE K H a (iv ns)) (q : Q (.int (co ns k)) H) : tAt K i j σ H Q := by
  refine ⟨_, hj, _, hi, a, _, rfl, h, _, _, rfl, rfl, _, rfl, ?_⟩
  rw [iv_len]
  by_cases c : k < ns.length
  · refine if_yes (decide_eq_true (by omega)) ⟨_, hi, _, hj, ?_⟩
    have e : atI (iv ns) (k : Int) = some (.int (co ns k)) := atI_nat (iv_get c)
    rcases h with h | h
    · exact .inl ⟨a, _, _, _, rfl, rfl, h, e, q⟩
    · exact .inr (.inl ⟨a, _, _, _, rfl, rfl, h, e, q⟩)
  · refine if_no (by simp; omega) ?_
    show Q (.int 0) H
    rw [← co_out (ns := ns) (i := k) (by omega)]
    exact q
def spSums (K : PySem.W.Frag) : Sp := fun vs H Q _ => ∃ (a b : Addr) (as bs : List Int), vs = [.ref a, .ref b] ∧ SeqE K H a (iv as) ∧ SeqE K H b (iv bs) ∧ as.length ≤ 100000 ∧ bs.length ≤ 100000 ∧
  ∀ (q : Addr) (H' : Hp), Same H H' → H' q = some (.lst (iv (sumZ as bs))) → Q (.ref q) H'
structure BltS (mg : Str → Option Value) : Prop where
  max : mg "max" = none
  rg : mg "range" = none
  sum : mg "sum" = none
section
variable {P : Program} {w : World} {K : PySem.W.Frag} {mg : Str → Option Value} {base : Heap}
theorem ok_sums {f : Addr} {fd : FuncData} (F : Fun K "_sums" "_sums" sSums f fd) (B : BltP mg) (BS : BltS mg) : FnOk P w K mg base CX0 1 f fd ["one", "two"] (spSums K) := by
  refine F.ok scSums (fun vs H Q E h => ?_) (fun cdv A outer s H vs Q E hr h => ?_)
  · obtain ⟨a, b, as, bs, rfl, _⟩ := h
    rfl
  · obtain ⟨a, b, as, bs, rfl, ha, hb, la, lb, k⟩ := h
    refine ⟨_, pss_cons (ps_set (i := 2) scSums.nd rfl (.inl rfl) (pe_callB (call_max2 rfl) (by rfl) BS.max (by decide +kernel) (pa_cons (pe_callB call_len_seq (by rfl) B.len PySem.boot_len (pa_cons (pv 0) pa_nil)) (pa_cons (pe_callB call_len_seq (by rfl) B.len PySem.boot_len (pa_cons (pv 1) pa_nil)) pa_nil))))
      (pss_one (ps_ret (pe_lc (own := [("at", 3)]) (g := gName 3) (tt := tYes) (te := tOp (rI0 fun i j => V.int (i + j)) (tAt K 0 3) (tAt K 1 3)) rfl scSums.nd (pi_range1 (by rfl) BS.rg (pa_cons (pv 2) pa_nil))
        (blkOk_by (N := ["one", "two", "many", "at"]) (sc := defScope sSums) (by decide +kernel)) (fun _ _ _ _ _ => pg_name (i := 3) scSums.nd rfl (.inl rfl) (hf := .inr rfl)) (fun _ _ _ _ _ => pts_nil)
        (fun _ _ _ _ _ => pe_op op_add (pe_ifExp (pt_cmpR op_lt (pv 3) (pe_callB call_len_seq (by rfl) B.len PySem.boot_len (pa_cons (pv 0) pa_nil)) (nomark _)) (pe_ix ix_seq (pv 0) (pv 3) (fun _ _ => rfl)) pe_int)
          (pe_ifExp (pt_cmpR op_lt (pv 3) (pe_callB call_len_seq (by rfl) B.len PySem.boot_len (pa_cons (pv 1) pa_nil)) (nomark _)) (pe_ix ix_seq (pv 1) (pv 3) (fun _ _ => rfl)) pe_int))))), ?_⟩
    refine ⟨_, rfl, a, _, rfl, ha, _, rfl, b, _, rfl, hb, _, _, rfl, ?_⟩
    have en : (if (((iv bs).length : Nat) : Int) > (((iv as).length : Nat) : Int) then (((iv bs).length : Nat) : Int) else (((iv as).length : Nat) : Int)) = ((max as.length bs.length : Nat) : Int) := by
      rw [iv_len, iv_len]
      split <;> omega
    have bound : max as.length bs.length ≤ 100000 := by omega
    refine ⟨_, rfl, _, rfl, by rw [en]; omega, by rw [en]; omega, fun D hD => ?_⟩
    have sD := same_new (o := .lst []) hD
    refine lc_range (fun i H' => Same H H' ∧ H' D = some (.lst (iv ((List.range i).map fun i => co as i + co bs i)))) ⟨sD, upd_same⟩ (fun i H' hi hV => ?_) fun H' hV => ?_
    · obtain ⟨s1, hD1⟩ := hV
      rw [en] at hi
      refine ⟨rfl, at_goes (a := a) (ns := as) (k := i) rfl (by rw [Int.zero_add]; rfl) (seqE_same s1 ha) (at_goes (a := b) (ns := bs) (k := i) rfl (by rw [Int.zero_add]; rfl) (seqE_same s1 hb) ?_)⟩
      refine ⟨_, _, rfl, rfl, _, hD1, ?_, ?_, ?_⟩
      · rw [iv_len, List.length_map, List.length_range, sizeLine_eq]
        omega
      · intro x o e
        by_cases c : x = D
        · subst c
          rw [hD] at e
          cases e
        · rw [upd_ne c]
          exact s1 _ _ e
      · rw [upd_same, List.range_succ]
        unfold iv
        rw [List.map_append, List.map_append]
        rfl
    · obtain ⟨s1, hD1⟩ := hV
      rw [en] at hD1
      exact k D H' s1 hD1
end
end Qp

/-! products of coefficients -/
namespace Qp
open PySem PySem.Spec PyProof.Rows L2 QN
abbrev sProds : Stmt := top 16 -- _products
abbrev pNames : List Str := ["one", "two", "many", "place", "at"]
theorem scProds : FnScope pNames ["one", "two"] (defScope sProds) := ⟨rfl, rfl, rfl, by decide +kernel, rfl, by decide +kernel, by decide +kernel⟩
/-- the outer comprehension's scope -/
def scOut : Scope := { kind := .function, names := [(".0", .local), ("place", .cell), ("sum", .globalImplicit), ("range", .globalImplicit), ("len", .globalImplicit), ("one", .cell), ("two", .cell)], isGenerator := false, isCoroutine := false }
def pr (as bs : List Int) (k i : Nat) : List Int := ((List.range i).filter fun i => decide (i ≤ k) && decide (k - i < bs.length)).map fun i => co as i * co bs (k - i)
def prodZ (as bs : List Int) : List Int := (List.range (as.length + bs.length - 1)).map fun k => (pr as bs k as.length).sum
theorem pr_len (as bs : List Int) (k i : Nat) : (pr as bs k i).length ≤ i := by
  unfold pr
  rw [List.length_map]
  exact Nat.le_trans (List.length_filter_le _ _) (by rw [List.length_range]; exact Nat.le_refl i)
theorem pr_succ (as bs : List Int) (k i : Nat) : pr as bs k (i + 1) = if i ≤ k ∧ k - i < bs.length then pr as bs k i ++ [co as i * co bs (k - i)] else pr as bs k i := by
  unfold pr
  rw [List.range_succ, List.filter_append, List.map_append]
  by_cases c : i ≤ k ∧ k - i < bs.length
  · rw [if_pos c]
    congr 1
    rw [List.filter_cons_of_pos (by simp [c.1, c.2])]
    rfl
  · rw [if_neg c]
    rw [List.filter_cons_of_neg (by simp; intro h; exact Nat.not_lt.mp fun z => c ⟨h, z⟩)]
    simp
/-- numbers from 0 to below 2 ^ m -/
def Bd (m : Nat) (ns : List Int) : Prop := ∀ c ∈ ns, 0 ≤ c ∧ c < 2 ^ m
theorem co_bd {m : Nat} {ns : List Int} (h : Bd m ns) (i : Nat) : 0 ≤ co ns i ∧ co ns i < 2 ^ m := by
  by_cases c : i < ns.length
  · exact h _ (List.mem_of_getElem? (co_get c))
  · rw [co_out (by omega)]
    exact ⟨Int.le_refl 0, Int.pow_pos (by decide)⟩
theorem co_mul {m m' : Nat} {as bs : List Int} (ha : Bd m as) (hb : Bd m' bs) (h : m + m' ≤ 1000000) (h1 : 0 < m) (h2 : 0 < m') (i j : Nat) : CMulW (co as i) (co bs j) :=
  wide_mul (abs_lt (co_bd ha i).1 (co_bd ha i).2) (abs_lt (co_bd hb j).1 (co_bd hb j).2) h1 h2 h
theorem ix_goes {K : PySem.W.Frag} {H : Hp} {Q : VK} {a : Addr} {ns : List Int} {j : Int} {k : Nat} (ej : j = (k : Int)) (h : SeqE K H a (iv ns)) (hk : k < ns.length) (q : Q (.int (co ns k)) H) : rIx K (.ref a) (.int j) H Q := by
  subst ej
  have e : atI (iv ns) (k : Int) = some (.int (co ns k)) := atI_nat (iv_get hk)
  rcases h with h | h
  · exact .inl ⟨a, _, _, _, rfl, rfl, h, e, q⟩
  · exact .inr (.inl ⟨a, _, _, _, rfl, rfl, h, e, q⟩)
theorem same_upd {H H' : Hp} {D : Addr} {o : HO} (hD : H D = none) (s : Same H H') : Same H (upd H' D o) := fun x u e => by
  by_cases c : x = D
  · subst c
    rw [hD] at e
    cases e
  · rw [upd_ne c]
    exact s _ _ e
theorem iv_snoc (ns : List Int) (c : Int) : iv ns ++ [.int c] = iv (ns ++ [c]) := by
  unfold iv
  rw [List.map_append]
  rfl
def tPIn (K : PySem.W.Frag) : TE := tLc (iRng1 (tCons (tCB (rLenE K) (tCons (tVar 0) tNil)) tNil)) (gName 4)
  (tTest (tChain (rI0 fun i j => V.bl (decide (i ≤ j))) (rI0 fun i j => V.bl (decide (i < j))) (tC (.int 0)) (tOp (rI0 fun i j => V.int (i - j)) (tVar 3) (tVar 4)) (tCB (rLenE K) (tCons (tVar 1) tNil))))
  (tOp (rI CMulW fun i j => V.int (i * j)) (tOp (rIx K) (tVar 0) (tVar 4)) (tOp (rIx K) (tVar 1) (tOp (rI0 fun i j => V.int (i - j)) (tVar 3) (tVar 4)))) [4]
def spProds (K : PySem.W.Frag) : Sp := fun vs H Q _ => ∃ (a b : Addr) (as bs : List Int) (m m' : Nat), vs = [.ref a, .ref b] ∧ SeqE K H a (iv as) ∧ SeqE K H b (iv bs) ∧ as.length ≤ 100000 ∧ bs.length ≤ 100000 ∧ Bd m as ∧ Bd m' bs ∧ m + m' ≤ 1000000 ∧ 0 < m ∧ 0 < m' ∧
  ∀ (q : Addr) (H' : Hp), Same H H' → H' q = some (.lst (iv (prodZ as bs))) → Q (.ref q) H'
section
variable {P : Program} {w : World} {K : PySem.W.Frag} {mg : Str → Option Value} {base : Heap}
theorem ok_prods {f : Addr} {fd : FuncData} (F : Fun K "_products" "_products" sProds f fd) (B : BltP mg) (BS : BltS mg) : FnOk P w K mg base CX0 1 f fd ["one", "two"] (spProds K) := by
  refine F.ok scProds (fun vs H Q E h => ?_) (fun cdv A outer s H vs Q E hr h => ?_)
  · obtain ⟨a, b, as, bs, m, m', rfl, _⟩ := h
    rfl
  · obtain ⟨a, b, as, bs, m, m', rfl, ha, hb, la, lb, ba, bb, hm, m0, m1, k⟩ := h
    refine ⟨_, pss_cons (ps_set (i := 2) scProds.nd rfl (.inl rfl) (pe_op op_sub (pe_op op_add (pe_callB call_len_seq (by rfl) B.len PySem.boot_len (pa_cons (pv 0) pa_nil)) (pe_callB call_len_seq (by rfl) B.len PySem.boot_len (pa_cons (pv 1) pa_nil))) pe_int))
      (pss_one (ps_ret (pe_lc (own := [("place", 3)]) (g := gName 3) (tt := tYes) (te := tCB (rSum K) (tCons (tPIn K) tNil)) rfl scProds.nd (pi_range1 (by rfl) BS.rg (pa_cons (pv 2) pa_nil))
        (blkOk_by (N := pNames) (sc := defScope sProds) (by decide +kernel)) (fun _ _ _ _ _ => pg_name (i := 3) scProds.nd rfl (.inr rfl) (hf := .inl rfl)) (fun _ _ _ _ _ => pts_nil)
        (fun _ _ _ _ _ => pe_callB (cr_sum rfl) (by rfl) BS.sum (by decide +kernel) (pa_cons (pe_lc (own := [("at", 4)]) (g := gName 4)
          (tt := tTest (tChain (rI0 fun i j => V.bl (decide (i ≤ j))) (rI0 fun i j => V.bl (decide (i < j))) (tC (.int 0)) (tOp (rI0 fun i j => V.int (i - j)) (tVar 3) (tVar 4)) (tCB (rLenE K) (tCons (tVar 1) tNil))))
          (te := tOp (rI CMulW fun i j => V.int (i * j)) (tOp (rIx K) (tVar 0) (tVar 4)) (tOp (rIx K) (tVar 1) (tOp (rI0 fun i j => V.int (i - j)) (tVar 3) (tVar 4))))
          rfl scProds.nd (pi_range1 (by rfl) BS.rg (pa_cons (pe_callB call_len_seq (by rfl) B.len PySem.boot_len (pa_cons (pv 0) pa_nil)) pa_nil))
          (blkOk_by (N := pNames) (sc := scOut) (by decide +kernel)) (fun _ _ _ _ _ => pg_name (i := 4) scProds.nd rfl (.inl rfl) (hf := .inr rfl))
          (fun _ _ _ _ _ => pts_one (pt_chain op_le op_lt pe_int (pe_op op_sub (pv 3) (pv 4)) (pe_callB call_len_seq (by rfl) B.len PySem.boot_len (pa_cons (pv 1) pa_nil))))
          (fun _ _ _ _ _ => pe_op op_mulW (pe_ix ix_seq (pv 0) (pv 4) (fun _ _ => rfl)) (pe_ix ix_seq (pv 1) (pe_op op_sub (pv 3) (pv 4)) (fun _ _ => rfl)))) pa_nil))))), ?_⟩
    have hlen : ((((iv as).length : Nat) : Int) + (((iv bs).length : Nat) : Int) - 1).toNat = as.length + bs.length - 1 := by
      rw [iv_len, iv_len]
      omega
    refine ⟨_, rfl, a, _, rfl, ha, _, rfl, b, _, rfl, hb, _, _, rfl, rfl, _, _, rfl, rfl, _, rfl, _, rfl, by rw [iv_len, iv_len]; omega, by rw [iv_len, iv_len]; omega, fun D hD => ?_⟩
    have sD := same_new (o := .lst []) hD
    refine lc_range (fun i H' => Same H H' ∧ H' D = some (.lst (iv ((List.range i).map fun k => (pr as bs k as.length).sum)))) ⟨sD, upd_same⟩ (fun i H' hi hV => ?_) fun H' hV => ?_
    · obtain ⟨s1, hD1⟩ := hV
      rw [hlen] at hi
      refine ⟨rfl, _, rfl, a, _, rfl, seqE_same s1 ha, _, rfl, by rw [iv_len]; omega, by rw [iv_len]; omega, fun D' hD' => ?_⟩
      have nD : D ≠ D' := fun c => by rw [c, hD'] at hD1; cases hD1
      refine lc_range (fun j H2 => Same H' H2 ∧ H2 D' = some (.lst (iv (pr as bs i j)))) ⟨same_new hD', upd_same⟩ (fun j H2 hj hV => ?_) fun H2 hV => ?_
      · obtain ⟨s2, hD2⟩ := hV
        rw [Int.toNat_natCast, iv_len] at hj
        refine ⟨rfl, _, rfl, _, rfl, _, _, rfl, rfl, _, _, rfl, rfl, _, rfl, ?_⟩
        by_cases c1 : j ≤ i
        · refine if_yes (decide_eq_true (by omega)) ⟨_, rfl, b, _, rfl, seqE_same (s1.trans s2) hb, _, _, rfl, rfl, _, rfl, ?_⟩
          have lb' := iv_len bs
          by_cases c2 : i - j < bs.length
          · refine if_yes (decide_eq_true (by omega)) ⟨_, rfl, _, rfl, ix_goes (k := j) (by omega) (seqE_same (s1.trans s2) ha) hj ⟨_, rfl, _, rfl, _, rfl, _, _, rfl, rfl, ix_goes (k := i - j) (by omega) (seqE_same (s1.trans s2) hb) c2 ⟨_, _, rfl, rfl, co_mul ba bb hm m0 m1 _ _, _, hD2, ?_, ?_, ?_⟩⟩⟩
            · have := pr_len as bs i j
              rw [iv_len, sizeLine_eq]
              omega
            · exact same_upd hD' s2
            · rw [upd_same, pr_succ, if_pos ⟨c1, c2⟩, iv_snoc]
          · refine if_no (by rw [decide_eq_true_eq]; omega) ⟨s2, ?_⟩
            rw [pr_succ, if_neg (fun z => c2 z.2)]
            exact hD2
        · refine if_no (by simp; omega) ⟨_, rfl, if_no (by decide) ⟨s2, ?_⟩⟩
          rw [pr_succ, if_neg (fun z => c1 z.1)]
          exact hD2
      · obtain ⟨s2, hD2⟩ := hV
        rw [Int.toNat_natCast, iv_len] at hD2
        refine ⟨D', pr as bs i as.length, rfl, .inl (.inl hD2), _, s2 _ _ hD1, ?_, same_upd hD (s1.trans s2), ?_⟩
        · rw [iv_len, List.length_map, List.length_range, sizeLine_eq]
          omega
        · rw [upd_same, List.range_succ, List.map_append, iv_snoc]
          rfl
    · obtain ⟨s1, hD1⟩ := hV
      rw [hlen] at hD1
      exact k D H' s1 hD1
end
end Qp

/-! C(*e), C an own class by its global name -/
namespace QN
open PySem PySem.Spec PyProof.Rows L2
section
variable {X : Cx} {CX : CXT} {k i : Nat} {f C : Addr} {sp : Sp} {E : XK} {x : Str} {e : Expr} {te : TE} {p sp_ pos : Pos}
def tMakeSG (K : PySem.W.Frag) (C : Addr) (sp : Sp) (E : XK) (te : TE) : TE := fun σ H Q => te σ H fun y H1 => ∃ a xs, y = V.ref a ∧ (SqT K H1 a xs ∨ SqL K H1 a xs) ∧
  ∀ x dx, H1 x = Option.none → H1 dx = Option.none → dx ≠ x → sp (V.ref x :: xs) (upd (upd H1 dx (.own x)) x (.ins C dx [])) (fun v H2 => v = .non ∧ Q (.ref x) H2) E
theorem pe_makeSG (M : Mk X.K C f) (F : FnR X.prog X.w X.K X.mg X.base CX k f sp) (hr : Room (k + 1) X.A) (hg : Gl X x) (hm : X.mg x = some (.ref C)) (hx : Passes CX X E) (he : PE X e te)
    (hdb : (x == ("__debug__" : Str)) = false := by decide) (hst : starEach [.Starred e sp_] X.env = [(true, eval e X.env)] := by rfl) :
    PE X (.Call (.Name x p) [.Starred e sp_] [] pos) (tMakeSG X.K C sp E te) := by
  refine ⟨fun pins s σ H Q I h => ?_⟩
  refine wpAny_Call_Name_kw (ld_glob I hg hm ?_ hdb)
  refine PySem.W.callWith_S (h₀ := X.base) I.ok.mod.kin M.kp (thn (he.run pins s σ H _ I h) fun v s2 ⟨y, H2, I2, ry, a, xs, ey, hxs, q⟩ => ?_) hst
  subst ey
  obtain rfl : v = Value.ref a := ry
  exact StX.star_any I2 hxs fun us s3 I3 rv => ⟨I3.kIn, StX.run_makeR M F hr hx I3 rv q⟩
end
end QN

/-! what polynomials are reckoned with -/
namespace Qp
open PySem PySem.Spec PyProof.Rows L2 QN
abbrev sCo : Stmt := inClass cPoly 2 -- Polynomial.coefficients
abbrev sFac : Stmt := top 17 -- _factor
theorem scCo : FnScope ["self"] ["self"] (defScope sCo) := ⟨rfl, rfl, rfl, by decide +kernel, rfl, by decide +kernel, by decide +kernel⟩
theorem scFac : FnScope ["value"] ["value"] (defScope sFac) := ⟨rfl, rfl, rfl, by decide +kernel, rfl, by decide +kernel, by decide +kernel⟩
/-- the class as isinstance sees it -/
structure PolyO (K : PySem.W.Frag) (C : Addr) : Prop where
  isC : PySem.W.kitOne K (.ref C) (.ref C) = some true
  isN : PySem.W.kitOne K (.type "int") (.ref C) = some false
  c1 : PySem.W.findIn K (.ref C) "__class__" = some (some (.builtin "object.__class__"))
  c2 : PySem.W.specialIn K (.builtin "object.__class__") "__get__" = some (some (.builtin "getset_descriptor.__get__"))
  c3 : PySem.W.takesIn K (.builtin "object.__class__") = some true
  c4 : PySem.W.mroIn K C (.type "object") = some true
theorem tyx_poly {K : PySem.W.Frag} {mg : Str → Option Value} {C p : Addr} {H : Hp} {ns : List Int} (T : PolyC K mg C) (O : PolyO K C) (h : PolyAt K C H p ns) : TyX K H (.ref p) (.ref C) := by
  obtain ⟨dx, t, hp, _⟩ := h
  exact .base (.ins hp T.cls O.c1 O.c2 O.c3 O.c4)
def spCo (K : PySem.W.Frag) (C : Addr) : Sp := fun vs H Q _ => ∃ (p : Addr) (ns : List Int), vs = [.ref p] ∧ PolyAt K C H p ns ∧ ∀ t, SqT K H t (iv ns) → Q (.ref t) H
/-- a factor or summand, and its coefficients -/
def FacOf (K : PySem.W.Frag) (C : Addr) (H : Hp) (v : V) (fs : List Int) : Prop := (∃ p, v = .ref p ∧ PolyAt K C H p fs) ∨ (∃ n : Int, v = .int n ∧ 0 ≤ n ∧ fs = cutZ [n])
def spFac (K : PySem.W.Frag) (C : Addr) : Sp := fun vs H Q _ => ∃ (v : V) (fs : List Int), vs = [v] ∧ FacOf K C H v fs ∧ ∀ (q : Addr) (H' : Hp), Same H H' → SqT K H' q (iv fs) → Q (.ref q) H'
section
variable {P : Program} {w : World} {K : PySem.W.Frag} {mg : Str → Option Value} {base : Heap}
theorem ok_co {f C : Addr} {fd : FuncData} (F : Fun K "coefficients" "Polynomial.coefficients" sCo f fd) (T : PolyC K mg C) : FnOk P w K mg base CX0 1 f fd ["self"] (spCo K C) := by
  refine F.ok scCo (fun vs H Q E h => ?_) (fun cdv A outer s H vs Q E hr h => ?_)
  · obtain ⟨p, ns, rfl, _⟩ := h
    rfl
  · obtain ⟨p, ns, rfl, ⟨dx, t, hp, ht⟩, k⟩ := h
    refine ⟨_, pss_one (ps_ret (pe_fld (pv 0) rfl)), ?_⟩
    exact ⟨_, rfl, p, C, dx, _, _, rfl, hp, T.cls, T.noF, rfl, k t ht⟩
theorem ok_fac {f fC pC fN fZ C : Addr} {fd fdC fdN fdZ : FuncData} (F : Fun K "_factor" "_factor" sFac f fd) (T : PolyC K mg C) (O : PolyO K C) (B : BltP mg)
    (PC : PropOf K C "coefficients" pC fC) (GC : FnOk P w K mg base CX0 1 fC fdC ["self"] (spCo K C)) (bC : L2.Binds K fdC ["self"] [])
    (GN : FnOk P w K mg base CX0 2 fN fdN ["value"] (spIsN K)) (kN : PySem.W.keepIn K (.ref fN) = true) (bN : L2.Binds K fdN ["value"] []) (gN : mg "is_natural" = some (.ref fN))
    (GZ : FnOk P w K mg base CX0 1 fZ fdZ ["coefficients"] (spWz K)) (kZ : PySem.W.keepIn K (.ref fZ) = true) (bZ : L2.Binds K fdZ ["coefficients"] []) (gZ : mg "_without_zeros" = some (.ref fZ)) :
    FnOk P w K mg base CX0 3 f fd ["value"] (spFac K C) := by
  refine F.ok scFac (fun vs H Q E h => ?_) (fun cdv A outer s H vs Q E hr h => ?_)
  · obtain ⟨v, fs, rfl, _⟩ := h
    rfl
  · obtain ⟨v, fs, rfl, hf, k⟩ := h
    have hr1 := hr.mono (by decide : 1 ≤ 2)
    refine ⟨_, pss_cons (ps_if (pt_val (pe_callB call_isi (by rfl) B.isi (by decide +kernel) (pa_cons (pv 0) (pa_cons (pe_glob (v := .ref C) (by rfl) T.gC rfl) pa_nil)))) (pss_one (ps_ret (pe_prop (pv 0) T.cls PC GC hr bC .nil pass0 rfl))) pss_nil)
      (pss_cons (ps_if (pt_not (pt_val (pe_call GN hr (by rfl) gN kN bN .nil pass0 (pa_cons (pv 0) pa_nil)))) (pss_one ps_never) pss_nil)
      (pss_one (ps_ret (pe_call GZ hr1 (by rfl) gZ kZ bZ .nil pass0 (pa_cons (pe_tup (pa_cons (pv 0) pa_nil)) pa_nil))))), ?_⟩
    rcases hf with ⟨p, rfl, hp⟩ | ⟨n, rfl, n0, rfl⟩
    · obtain ⟨dx, t, h1, h2⟩ := id hp
      exact ⟨_, rfl, _, _, _, _, true, rfl, .own C, tyx_poly T O hp, O.isC, _, rfl, if_yes rfl ⟨_, rfl, p, dx, _, rfl, h1, p, fs, rfl, hp, fun t ht => k t H (Same.refl H) ht⟩⟩
    · refine ⟨_, rfl, _, _, _, _, false, rfl, .own C, .base (.int n), O.isN, _, rfl, if_no (by decide) ?_⟩
      refine ⟨_, rfl, _, true, rfl, numV_nat n0, _, rfl, if_no (by decide) ?_⟩
      refine ⟨_, rfl, (by show 1 ≤ sizeLine; decide), fun t ht => ?_⟩
      exact ⟨t, [n], rfl, .inl (.inl upd_same), fun q H' s' hq => k q H' ((same_new ht).trans s') hq⟩
end
end Qp

/-! + and * of polynomials -/
namespace Qp
open PySem PySem.Spec PyProof.Rows L2 QN
theorem sum_nn {m m' : Nat} {as bs : List Int} (ha : Bd m as) (hb : Bd m' bs) : ∀ c ∈ sumZ as bs, 0 ≤ c := fun c hc => by
  unfold sumZ at hc
  obtain ⟨i, _, rfl⟩ := List.mem_map.mp hc
  have := (co_bd ha i).1
  have := (co_bd hb i).1
  omega
theorem lsum_nn : ∀ {l : List Int}, (∀ c ∈ l, 0 ≤ c) → 0 ≤ l.sum
  | [], _ => Int.le_refl 0
  | c :: l, h => by
    rw [List.sum_cons]
    have := h c List.mem_cons_self
    have := lsum_nn (l := l) fun x hx => h x (List.mem_cons_of_mem _ hx)
    omega
theorem prod_nn {m m' : Nat} {as bs : List Int} (ha : Bd m as) (hb : Bd m' bs) : ∀ c ∈ prodZ as bs, 0 ≤ c := fun c hc => by
  unfold prodZ at hc
  obtain ⟨k, _, rfl⟩ := List.mem_map.mp hc
  refine lsum_nn fun x hx => ?_
  unfold pr at hx
  obtain ⟨i, _, rfl⟩ := List.mem_map.mp hx
  exact Int.mul_nonneg (co_bd ha i).1 (co_bd hb _).1
theorem sum_len (as bs : List Int) : (sumZ as bs).length = max as.length bs.length := by
  unfold sumZ
  rw [List.length_map, List.length_range]
theorem prod_len (as bs : List Int) : (prodZ as bs).length = as.length + bs.length - 1 := by
  unfold prodZ
  rw [List.length_map, List.length_range]
abbrev opNames : List Str := ["self", "other", "coefficients"]
def spBin (op : List Int → List Int → List Int) (K : PySem.W.Frag) (C : Addr) : Sp := fun vs H Q _ => ∃ (p : Addr) (v : V) (ns fs : List Int) (m m' : Nat), vs = [.ref p, v] ∧ PolyAt K C H p ns ∧ FacOf K C H v fs ∧ ns.length ≤ 500 ∧ fs.length ≤ 500 ∧ Bd m ns ∧ Bd m' fs ∧ m + m' ≤ 1000000 ∧ 0 < m ∧ 0 < m' ∧
  ∀ (q : Addr) (H' : Hp), Same H H' → PolyAt K C H' q (cutZ (op ns fs)) → Q (.ref q) H'
section
variable {P : Program} {w : World} {K : PySem.W.Frag} {mg : Str → Option Value} {base : Heap}
abbrev sAdd : Stmt := inClass cPoly 7 -- Polynomial.__add__
theorem scAdd : FnScope opNames ["self", "other"] (defScope sAdd) := ⟨rfl, rfl, rfl, by decide +kernel, rfl, by decide +kernel, by decide +kernel⟩
theorem ok_add {f fS fF fI C : Addr} {fd fdS fdF : FuncData} (F : Fun K "__add__" "Polynomial.__add__" sAdd f fd) (T : PolyC K mg C) (M : Mk K C fI) (GI : FnR P w K mg base CX0 3 fI (spInit K C))
    (GS : FnOk P w K mg base CX0 1 fS fdS ["one", "two"] (spSums K)) (kS : PySem.W.keepIn K (.ref fS) = true) (bS : L2.Binds K fdS ["one", "two"] []) (gS : mg "_sums" = some (.ref fS))
    (GF : FnOk P w K mg base CX0 3 fF fdF ["value"] (spFac K C)) (kF : PySem.W.keepIn K (.ref fF) = true) (bF : L2.Binds K fdF ["value"] []) (gF : mg "_factor" = some (.ref fF)) :
    FnOk P w K mg base CX0 5 f fd ["self", "other"] (spBin sumZ K C) := by
  refine F.ok scAdd (fun vs H Q E h => ?_) (fun cdv A outer s H vs Q E hr h => ?_)
  · obtain ⟨p, v, ns, fs, m, m', rfl, _⟩ := h
    rfl
  · obtain ⟨p, v, ns, fs, m, m', rfl, ⟨dx, t, hp, ht⟩, hf, l1, l2, b1, b2, hm, m0, m1, k⟩ := h
    refine ⟨_, pss_cons (ps_set (i := 2) scAdd.nd rfl (.inl rfl) (pe_call GS (hr.mono (by decide)) (by rfl) gS kS bS .nil pass0 (pa_cons (pe_fld (pv 0) rfl) (pa_cons (pe_call GF (hr.mono (by decide)) (by rfl) gF kF bF .nil pass0 (pa_cons (pv 1) pa_nil)) pa_nil))))
      (pss_one (ps_ret (pe_makeSG M GI hr (by rfl) T.gC pass0 (pv 2)))), ?_⟩
    refine ⟨_, rfl, p, C, dx, _, _, rfl, hp, T.cls, T.noF, rfl, _, rfl, v, fs, rfl, hf, fun u H1 s1 hu => ?_⟩
    refine ⟨t, u, ns, fs, rfl, .inr (sqT_same s1 ht), .inr hu, by omega, by omega, fun q H2 s2 hq => ?_⟩
    refine ⟨_, rfl, q, _, rfl, .inr (.inl (.inl hq)), fun x dx2 hx hd ne => ⟨x, dx2, _, rfl, upd_same, sum_nn b1 b2, by rw [sum_len]; omega, fun t2 H3 h1 h2 b => ⟨rfl, ?_⟩⟩⟩
    exact k x H3 (s1.trans (s2.trans (same_made hx hd b))) ⟨dx2, t2, h1, h2⟩
abbrev sRadd : Stmt := inClass cPoly 8 -- Polynomial.__radd__
theorem scRadd : FnScope opNames ["self", "other"] (defScope sRadd) := ⟨rfl, rfl, rfl, by decide +kernel, rfl, by decide +kernel, by decide +kernel⟩
theorem ok_radd {f fS fF fI C : Addr} {fd fdS fdF : FuncData} (F : Fun K "__radd__" "Polynomial.__radd__" sRadd f fd) (T : PolyC K mg C) (M : Mk K C fI) (GI : FnR P w K mg base CX0 3 fI (spInit K C))
    (GS : FnOk P w K mg base CX0 1 fS fdS ["one", "two"] (spSums K)) (kS : PySem.W.keepIn K (.ref fS) = true) (bS : L2.Binds K fdS ["one", "two"] []) (gS : mg "_sums" = some (.ref fS))
    (GF : FnOk P w K mg base CX0 3 fF fdF ["value"] (spFac K C)) (kF : PySem.W.keepIn K (.ref fF) = true) (bF : L2.Binds K fdF ["value"] []) (gF : mg "_factor" = some (.ref fF)) :
    FnOk P w K mg base CX0 5 f fd ["self", "other"] (spBin sumZ K C) := by
  refine F.ok scRadd (fun vs H Q E h => ?_) (fun cdv A outer s H vs Q E hr h => ?_)
  · obtain ⟨p, v, ns, fs, m, m', rfl, _⟩ := h
    rfl
  · obtain ⟨p, v, ns, fs, m, m', rfl, ⟨dx, t, hp, ht⟩, hf, l1, l2, b1, b2, hm, m0, m1, k⟩ := h
    refine ⟨_, pss_cons (ps_set (i := 2) scRadd.nd rfl (.inl rfl) (pe_call GS (hr.mono (by decide)) (by rfl) gS kS bS .nil pass0 (pa_cons (pe_fld (pv 0) rfl) (pa_cons (pe_call GF (hr.mono (by decide)) (by rfl) gF kF bF .nil pass0 (pa_cons (pv 1) pa_nil)) pa_nil))))
      (pss_one (ps_ret (pe_makeSG M GI hr (by rfl) T.gC pass0 (pv 2)))), ?_⟩
    refine ⟨_, rfl, p, C, dx, _, _, rfl, hp, T.cls, T.noF, rfl, _, rfl, v, fs, rfl, hf, fun u H1 s1 hu => ?_⟩
    refine ⟨t, u, ns, fs, rfl, .inr (sqT_same s1 ht), .inr hu, by omega, by omega, fun q H2 s2 hq => ?_⟩
    refine ⟨_, rfl, q, _, rfl, .inr (.inl (.inl hq)), fun x dx2 hx hd ne => ⟨x, dx2, _, rfl, upd_same, sum_nn b1 b2, by rw [sum_len]; omega, fun t2 H3 h1 h2 b => ⟨rfl, ?_⟩⟩⟩
    exact k x H3 (s1.trans (s2.trans (same_made hx hd b))) ⟨dx2, t2, h1, h2⟩
abbrev sMul : Stmt := inClass cPoly 9 -- Polynomial.__mul__
theorem scMul : FnScope opNames ["self", "other"] (defScope sMul) := ⟨rfl, rfl, rfl, by decide +kernel, rfl, by decide +kernel, by decide +kernel⟩
theorem ok_mul {f fS fF fI C : Addr} {fd fdS fdF : FuncData} (F : Fun K "__mul__" "Polynomial.__mul__" sMul f fd) (T : PolyC K mg C) (M : Mk K C fI) (GI : FnR P w K mg base CX0 3 fI (spInit K C))
    (GS : FnOk P w K mg base CX0 1 fS fdS ["one", "two"] (spProds K)) (kS : PySem.W.keepIn K (.ref fS) = true) (bS : L2.Binds K fdS ["one", "two"] []) (gS : mg "_products" = some (.ref fS))
    (GF : FnOk P w K mg base CX0 3 fF fdF ["value"] (spFac K C)) (kF : PySem.W.keepIn K (.ref fF) = true) (bF : L2.Binds K fdF ["value"] []) (gF : mg "_factor" = some (.ref fF)) :
    FnOk P w K mg base CX0 5 f fd ["self", "other"] (spBin prodZ K C) := by
  refine F.ok scMul (fun vs H Q E h => ?_) (fun cdv A outer s H vs Q E hr h => ?_)
  · obtain ⟨p, v, ns, fs, m, m', rfl, _⟩ := h
    rfl
  · obtain ⟨p, v, ns, fs, m, m', rfl, ⟨dx, t, hp, ht⟩, hf, l1, l2, b1, b2, hm, m0, m1, k⟩ := h
    refine ⟨_, pss_cons (ps_set (i := 2) scMul.nd rfl (.inl rfl) (pe_call GS (hr.mono (by decide)) (by rfl) gS kS bS .nil pass0 (pa_cons (pe_fld (pv 0) rfl) (pa_cons (pe_call GF (hr.mono (by decide)) (by rfl) gF kF bF .nil pass0 (pa_cons (pv 1) pa_nil)) pa_nil))))
      (pss_one (ps_ret (pe_makeSG M GI hr (by rfl) T.gC pass0 (pv 2)))), ?_⟩
    refine ⟨_, rfl, p, C, dx, _, _, rfl, hp, T.cls, T.noF, rfl, _, rfl, v, fs, rfl, hf, fun u H1 s1 hu => ?_⟩
    refine ⟨t, u, ns, fs, m, m', rfl, .inr (sqT_same s1 ht), .inr hu, by omega, by omega, b1, b2, hm, m0, m1, fun q H2 s2 hq => ?_⟩
    refine ⟨_, rfl, q, _, rfl, .inr (.inl (.inl hq)), fun x dx2 hx hd ne => ⟨x, dx2, _, rfl, upd_same, prod_nn b1 b2, by rw [prod_len]; omega, fun t2 H3 h1 h2 b => ⟨rfl, ?_⟩⟩⟩
    exact k x H3 (s1.trans (s2.trans (same_made hx hd b))) ⟨dx2, t2, h1, h2⟩
abbrev sRmul : Stmt := inClass cPoly 10 -- Polynomial.__rmul__
theorem scRmul : FnScope opNames ["self", "other"] (defScope sRmul) := ⟨rfl, rfl, rfl, by decide +kernel, rfl, by decide +kernel, by decide +kernel⟩
theorem ok_rmul {f fS fF fI C : Addr} {fd fdS fdF : FuncData} (F : Fun K "__rmul__" "Polynomial.__rmul__" sRmul f fd) (T : PolyC K mg C) (M : Mk K C fI) (GI : FnR P w K mg base CX0 3 fI (spInit K C))
    (GS : FnOk P w K mg base CX0 1 fS fdS ["one", "two"] (spProds K)) (kS : PySem.W.keepIn K (.ref fS) = true) (bS : L2.Binds K fdS ["one", "two"] []) (gS : mg "_products" = some (.ref fS))
    (GF : FnOk P w K mg base CX0 3 fF fdF ["value"] (spFac K C)) (kF : PySem.W.keepIn K (.ref fF) = true) (bF : L2.Binds K fdF ["value"] []) (gF : mg "_factor" = some (.ref fF)) :
    FnOk P w K mg base CX0 5 f fd ["self", "other"] (spBin prodZ K C) := by
  refine F.ok scRmul (fun vs H Q E h => ?_) (fun cdv A outer s H vs Q E hr h => ?_)
  · obtain ⟨p, v, ns, fs, m, m', rfl, _⟩ := h
    rfl
  · obtain ⟨p, v, ns, fs, m, m', rfl, ⟨dx, t, hp, ht⟩, hf, l1, l2, b1, b2, hm, m0, m1, k⟩ := h
    refine ⟨_, pss_cons (ps_set (i := 2) scRmul.nd rfl (.inl rfl) (pe_call GS (hr.mono (by decide)) (by rfl) gS kS bS .nil pass0 (pa_cons (pe_fld (pv 0) rfl) (pa_cons (pe_call GF (hr.mono (by decide)) (by rfl) gF kF bF .nil pass0 (pa_cons (pv 1) pa_nil)) pa_nil))))
      (pss_one (ps_ret (pe_makeSG M GI hr (by rfl) T.gC pass0 (pv 2)))), ?_⟩
    refine ⟨_, rfl, p, C, dx, _, _, rfl, hp, T.cls, T.noF, rfl, _, rfl, v, fs, rfl, hf, fun u H1 s1 hu => ?_⟩
    refine ⟨t, u, ns, fs, m, m', rfl, .inr (sqT_same s1 ht), .inr hu, by omega, by omega, b1, b2, hm, m0, m1, fun q H2 s2 hq => ?_⟩
    refine ⟨_, rfl, q, _, rfl, .inr (.inl (.inl hq)), fun x dx2 hx hd ne => ⟨x, dx2, _, rfl, upd_same, prod_nn b1 b2, by rw [prod_len]; omega, fun t2 H3 h1 h2 b => ⟨rfl, ?_⟩⟩⟩
    exact k x H3 (s1.trans (s2.trans (same_made hx hd b))) ⟨dx2, t2, h1, h2⟩
end
end Qp

/-! powers, and a polynomial at another one -/
namespace Qp
open PySem PySem.Spec PyProof.Rows L2 QN
theorem lsum_lt {b : Int} (hb : 0 ≤ b) : ∀ {l : List Int}, (∀ c ∈ l, c ≤ b) → l.sum ≤ l.length * b
  | [], _ => by simp
  | c :: l, h => by
    rw [List.sum_cons, List.length_cons]
    have h1 := h c List.mem_cons_self
    have h2 := lsum_lt hb (l := l) fun x hx => h x (List.mem_cons_of_mem _ hx)
    have e : ((l.length + 1 : Nat) : Int) * b = (l.length : Int) * b + b := by
      rw [show ((l.length + 1 : Nat) : Int) = (l.length : Int) + 1 from rfl, Int.add_mul, Int.one_mul]
    omega
theorem bd_prod {m m' : Nat} {as bs : List Int} (ha : Bd m as) (hb : Bd m' bs) (hl : as.length ≤ 1000) : Bd (m + m' + 10) (prodZ as bs) := fun c hc => by
  refine ⟨prod_nn ha hb c hc, ?_⟩
  unfold prodZ at hc
  obtain ⟨k, _, rfl⟩ := List.mem_map.mp hc
  have step : (pr as bs k as.length).sum ≤ ((pr as bs k as.length).length : Int) * 2 ^ (m + m') := by
    refine lsum_lt (Int.le_of_lt (Int.pow_pos (by decide))) fun x hx => ?_
    unfold pr at hx
    obtain ⟨i, _, rfl⟩ := List.mem_map.mp hx
    have h1 := co_bd ha i
    have h2 := co_bd hb (k - i)
    have h3 : co as i * co bs (k - i) ≤ 2 ^ m * 2 ^ m' := Int.mul_le_mul (by omega) (by omega) h2.1 (Int.le_of_lt (Int.pow_pos (by decide)))
    rw [Int.pow_add]
    exact h3
  have hlen : ((pr as bs k as.length).length : Int) ≤ 1000 := by
    have := pr_len as bs k as.length
    omega
  have p0 : (0 : Int) < 2 ^ (m + m') := Int.pow_pos (by decide)
  have h4 : ((pr as bs k as.length).length : Int) * 2 ^ (m + m') ≤ 1000 * 2 ^ (m + m') := Int.mul_le_mul_of_nonneg_right hlen (Int.le_of_lt p0)
  rw [Int.pow_add (2 : Int) (m + m') 10]
  omega
theorem bd_mono {m m' : Nat} {ns : List Int} (h : m ≤ m') (b : Bd m ns) : Bd m' ns := fun c hc => ⟨(b c hc).1, Int.lt_of_lt_of_le (b c hc).2 (pow_mono2 h)⟩
theorem bd_sum {m : Nat} {as bs : List Int} (ha : Bd m as) (hb : Bd m bs) : Bd (m + 1) (sumZ as bs) := fun c hc => by
  refine ⟨sum_nn ha hb c hc, ?_⟩
  unfold sumZ at hc
  obtain ⟨i, _, rfl⟩ := List.mem_map.mp hc
  have h1 := (co_bd ha i).2
  have h2 := (co_bd hb i).2
  rw [Int.pow_succ]
  omega
def powZ (ns : List Int) : Nat → List Int
  | 0 => [1]
  | e + 1 => prodZ (powZ ns e) ns
def atZ (fs : List Int) : List Int → List Int
  | [] => []
  | c :: ns => sumZ (prodZ (atZ fs ns) fs) [c]
theorem pow_len (ns : List Int) (hl : ns.length ≤ 40) : ∀ e, (powZ ns e).length ≤ e * 40 + 1
  | 0 => by
    show ([1] : List Int).length ≤ _
    simp
  | e + 1 => by
    show (prodZ (powZ ns e) ns).length ≤ _
    rw [prod_len]
    have := pow_len ns hl e
    omega
theorem pow_bd {m : Nat} {ns : List Int} (hl : ns.length ≤ 40) (b : Bd m ns) : ∀ e, e ≤ 20 → Bd (1 + e * (m + 10)) (powZ ns e)
  | 0, _ => fun c hc => by
    cases List.mem_singleton.mp hc
    refine ⟨by decide, ?_⟩
    rw [Nat.zero_mul]
    decide
  | e + 1, he => by
    have h1 := bd_prod (pow_bd hl b e (by omega)) b (by have := pow_len ns hl e; omega)
    refine bd_mono ?_ h1
    rw [Nat.add_mul]
    omega
theorem at_len {fs : List Int} (hf : fs.length ≤ 20) : ∀ ns, (atZ fs ns).length ≤ ns.length * 20 + 1
  | [] => by
    show 0 ≤ _
    omega
  | c :: ns => by
    show (sumZ (prodZ (atZ fs ns) fs) [c]).length ≤ _
    rw [sum_len, prod_len]
    have := at_len hf ns
    simp only [List.length_cons, List.length_nil]
    omega
theorem at_bd {m : Nat} {fs : List Int} (hf : fs.length ≤ 20) (b : Bd m fs) : ∀ {ns : List Int}, ns.length ≤ 40 → Bd m ns → Bd (m + ns.length * (m + 11)) (atZ fs ns)
  | [], _, _ => fun c hc => by cases hc
  | c :: ns, hl, h => by
    rw [List.length_cons] at hl
    have h1 := at_bd hf b (ns := ns) (by omega) fun x hx => h x (List.mem_cons_of_mem _ hx)
    have h2 := bd_prod h1 b (by have := at_len hf ns; omega)
    have h3 : Bd (m + ns.length * (m + 11) + m + 10) [c] := bd_mono (m := m) (by omega) fun x hx => by
      cases List.mem_singleton.mp hx
      exact h c List.mem_cons_self
    refine bd_mono ?_ (bd_sum h2 h3)
    rw [List.length_cons, Nat.add_mul]
    omega
abbrev sPow : Stmt := inClass cPoly 11 -- Polynomial.__pow__
abbrev sAt : Stmt := inClass cPoly 12 -- Polynomial.at
abbrev powNames : List Str := ["self", "other", "coefficients", "_"]
abbrev atNames : List Str := ["self", "inner", "coefficients", "number"]
theorem scPow : FnScope powNames ["self", "other"] (defScope sPow) := ⟨rfl, rfl, rfl, by decide +kernel, rfl, by decide +kernel, by decide +kernel⟩
theorem scAt : FnScope atNames ["self", "inner"] (defScope sAt) := ⟨rfl, rfl, rfl, by decide +kernel, rfl, by decide +kernel, by decide +kernel⟩
def spPow (K : PySem.W.Frag) (C : Addr) : Sp := fun vs H Q _ => ∃ (p : Addr) (e : Nat) (ns : List Int) (m : Nat), vs = [.ref p, .int (e : Int)] ∧ PolyAt K C H p ns ∧ e ≤ 20 ∧ ns.length ≤ 40 ∧ Bd m ns ∧ 0 < m ∧ m ≤ 10000 ∧
  ∀ (q : Addr) (H' : Hp), Same H H' → PolyAt K C H' q (cutZ (powZ ns e)) → Q (.ref q) H'
def spAt (K : PySem.W.Frag) (C : Addr) : Sp := fun vs H Q _ => ∃ (p r : Addr) (ns fs : List Int) (m : Nat), vs = [.ref p, .ref r] ∧ PolyAt K C H p ns ∧ PolyAt K C H r fs ∧ ns.length ≤ 40 ∧ fs.length ≤ 20 ∧ Bd m ns ∧ Bd m fs ∧ 0 < m ∧ m ≤ 10000 ∧
  ∀ (q : Addr) (H' : Hp), Same H H' → PolyAt K C H' q (cutZ (atZ fs ns)) → Q (.ref q) H'
section
variable {P : Program} {w : World} {K : PySem.W.Frag} {mg : Str → Option Value} {base : Heap}
theorem ok_pow {f fS fN fI C : Addr} {fd fdS fdN : FuncData} (F : Fun K "__pow__" "Polynomial.__pow__" sPow f fd) (T : PolyC K mg C) (M : Mk K C fI) (GI : FnR P w K mg base CX0 3 fI (spInit K C))
    (GS : FnOk P w K mg base CX0 1 fS fdS ["one", "two"] (spProds K)) (kS : PySem.W.keepIn K (.ref fS) = true) (bS : L2.Binds K fdS ["one", "two"] []) (gS : mg "_products" = some (.ref fS))
    (GN : FnOk P w K mg base CX0 2 fN fdN ["value"] (spIsN K)) (kN : PySem.W.keepIn K (.ref fN) = true) (bN : L2.Binds K fdN ["value"] []) (gN : mg "is_natural" = some (.ref fN))
    (mx : ∃ t, mg "_MAX_EXPONENT" = some (.int 20 t)) (rg : mg "range" = none) : FnOk P w K mg base CX0 5 f fd ["self", "other"] (spPow K C) := by
  refine F.ok scPow (fun vs H Q E h => ?_) (fun cdv A outer s H vs Q E hr h => ?_)
  · obtain ⟨p, e, ns, m, rfl, _⟩ := h
    rfl
  · obtain ⟨p, e, ns, m, rfl, ⟨dx, t, hp, ht⟩, he, hl, b, m0, m1, k⟩ := h
    obtain ⟨tx, mx⟩ := mx
    refine ⟨_, pss_cons (ps_if (PW.pt (pw_or (pt_not (pt_val (pe_call GN (hr.mono (by decide)) (by rfl) gN kN bN .nil pass0 (pa_cons (pv 1) pa_nil)))) (pw_or1 (pt_cmpR op_gt (pv 1) (pe_glob (v := .int 20) (by rfl) mx ⟨_, rfl⟩) (nomark _))))) (pss_one ps_never) pss_nil)
      (pss_cons (ps_set (i := 2) scPow.nd rfl (.inl rfl) (pe_lst (pa_cons pe_int pa_nil)))
      (pss_cons (ps_for PassesOwn.never rfl (pi_range1 (by rfl) rg (pa_cons (pv 1) pa_nil)) (pg_name (i := 3) scPow.nd rfl (.inl rfl))
        (pss_one (ps_set (i := 2) scPow.nd rfl (.inl rfl) (pe_call GS (hr.mono (by decide)) (by rfl) gS kS bS .nil pass0 (pa_cons (pv 2) (pa_cons (pe_fld (pv 0) rfl) pa_nil))))))
      (pss_one (ps_ret (pe_makeSG M GI hr (by rfl) T.gC pass0 (pv 2)))))), ?_⟩
    refine ⟨_, rfl, _, true, rfl, numV_nat (by omega), _, rfl, if_no (by decide) ?_⟩
    refine ⟨_, rfl, _, _, rfl, rfl, _, rfl, if_no (by rw [decide_eq_true_eq]; omega) ?_⟩
    refine ⟨by decide, fun L hL => ?_⟩
    refine ⟨_, rfl, _, rfl, by omega, by omega, for_range (fun i σ H' => ∃ y q, σ = [some (.ref p), some (.int (e : Int)), some (.ref q), y] ∧ Same H H' ∧ H' q = some (.lst (iv (powZ ns i)))) ⟨none, L, rfl, same_new hL, upd_same⟩ ?_ ?_⟩
    · rintro i σ H' hi ⟨y, q, rfl, s1, hq⟩
      rw [Int.toNat_natCast] at hi
      have lp := pow_len ns hl i
      refine ⟨_, rfl, _, rfl, p, C, dx, _, _, rfl, s1 _ _ hp, T.cls, T.noF, rfl, q, t, powZ ns i, ns, 1 + i * (m + 10), m, rfl, .inl (.inl (.inl hq)), .inr (sqT_same s1 ht), by omega, by omega, pow_bd hl b i (by omega), b, ?_, by omega, m0, fun r H2 s2 hr2 => ?_⟩
      · have : i * (m + 10) ≤ 20 * 10010 := Nat.mul_le_mul (by omega) (by omega)
        omega
      · exact ⟨_, _, rfl, s1.trans s2, hr2⟩
    · rintro σ H' ⟨y, q, rfl, s1, hq⟩
      rw [Int.toNat_natCast] at hq
      have lp := pow_len ns hl e
      refine ⟨_, rfl, q, _, rfl, .inr (.inl (.inl hq)), fun x dx2 hx hd ne => ⟨x, dx2, _, rfl, upd_same, fun c hc => (pow_bd hl b e he c hc).1, by omega, fun t2 H3 h1 h2 bb => ⟨rfl, ?_⟩⟩⟩
      exact k x H3 (s1.trans (same_made hx hd bb)) ⟨dx2, t2, h1, h2⟩
theorem ok_at {f fS fQ fC pC fI C : Addr} {fd fdS fdQ fdC : FuncData} (F : Fun K "at" "Polynomial.at" sAt f fd) (T : PolyC K mg C) (O : PolyO K C) (M : Mk K C fI) (GI : FnR P w K mg base CX0 3 fI (spInit K C))
    (GQ : FnOk P w K mg base CX0 1 fQ fdQ ["one", "two"] (spSums K)) (kQ : PySem.W.keepIn K (.ref fQ) = true) (bQ : L2.Binds K fdQ ["one", "two"] []) (gQ : mg "_sums" = some (.ref fQ))
    (GS : FnOk P w K mg base CX0 1 fS fdS ["one", "two"] (spProds K)) (kS : PySem.W.keepIn K (.ref fS) = true) (bS : L2.Binds K fdS ["one", "two"] []) (gS : mg "_products" = some (.ref fS))
    (PC : PropOf K C "coefficients" pC fC) (GC : FnOk P w K mg base CX0 1 fC fdC ["self"] (spCo K C)) (bC : L2.Binds K fdC ["self"] []) (B : BltP mg) : FnOk P w K mg base CX0 5 f fd ["self", "inner"] (spAt K C) := by
  refine F.ok scAt (fun vs H Q E h => ?_) (fun cdv A outer s H vs Q E hr h => ?_)
  · obtain ⟨p, r, ns, fs, m, rfl, _⟩ := h
    rfl
  · obtain ⟨p, r, ns, fs, m, rfl, ⟨dx, a, hp, ha⟩, hpr, hl, hf, b, bf, m0, m1, k⟩ := h
    obtain ⟨dr, ar, hr1, hr2⟩ := id hpr
    refine ⟨_, pss_cons (ps_if (pt_not (pt_val (pe_callB call_isi (by rfl) B.isi (by decide +kernel) (pa_cons (pv 1) (pa_cons (pe_glob (v := .ref C) (by rfl) T.gC rfl) pa_nil))))) (pss_one ps_never) pss_nil)
      (pss_cons (ps_set (i := 2) scAt.nd rfl (.inl rfl) (pe_lst pa_nil))
      (pss_cons (ps_for PassesOwn.never rfl (pi_tup (pe_revT (pe_fld (pv 0) rfl))) (pg_name (i := 3) scAt.nd rfl (.inl rfl))
        (pss_one (ps_set (i := 2) scAt.nd rfl (.inl rfl) (pe_call GQ (hr.mono (by decide)) (by rfl) gQ kQ bQ .nil pass0 (pa_cons (pe_call GS (hr.mono (by decide)) (by rfl) gS kS bS .nil pass0 (pa_cons (pv 2) (pa_cons (pe_prop (pv 1) T.cls PC GC (hr.mono (by decide)) bC .nil pass0 rfl) pa_nil))) (pa_cons (pe_lst (pa_cons (pv 3) pa_nil)) pa_nil))))))
      (pss_one (ps_ret (pe_makeSG M GI hr (by rfl) T.gC pass0 (pv 2)))))), ?_⟩
    refine ⟨_, rfl, _, _, _, _, true, rfl, .own C, tyx_poly T O hpr, O.isC, _, rfl, if_no (by decide) ?_⟩
    refine ⟨by decide, fun L hL => ?_⟩
    have s0 := same_new (o := .lst []) hL
    refine ⟨_, rfl, p, C, dx, _, _, rfl, s0 _ _ hp, T.cls, T.noF, rfl, a, _, rfl, sqT_same s0 ha, fun q hq => ?_⟩
    have sq := same_new (o := .tup (iv ns).reverse) hq
    refine ⟨q, rfl, ⟨_, .inl (.inl upd_same)⟩, for_tup (xs := (iv ns).reverse) (fun i σ H' => ∃ y u, σ = [some (.ref p), some (.ref r), some (.ref u), y] ∧ Same H H' ∧ H' q = some (.tup (iv ns).reverse) ∧ H' u = some (.lst (iv (atZ fs (ns.drop (ns.length - i))))))
      ⟨none, L, rfl, s0.trans sq, upd_same, by rw [Nat.sub_zero, List.drop_length]; exact sq _ _ upd_same⟩ (fun i σ H' _ ⟨y, u, _, _, hq', _⟩ => .inl (.inl hq')) ?_ ?_⟩
    · rintro i x σ H' hx ⟨y, u, rfl, s1, hq', hu⟩
      obtain ⟨c, rfl, hi, e⟩ := rev_at hx
      have hd : (ns.drop (ns.length - i)).length ≤ 40 := by rw [List.length_drop]; omega
      have hal := at_len hf (ns.drop (ns.length - i))
      have hal2 : (ns.drop (ns.length - i)).length * 20 ≤ 40 * 20 := Nat.mul_le_mul_right _ hd
      have hab := at_bd hf bf hd fun x hx => b x (List.mem_of_mem_drop hx)
      have hpl := prod_len (atZ fs (ns.drop (ns.length - i))) fs
      refine ⟨_, rfl, _, rfl, r, dr, _, rfl, s1 _ _ hr1, r, fs, rfl, polyAt_same s1 hpr, fun t ht => ?_⟩
      refine ⟨u, t, _, fs, _, m, rfl, .inl (.inl (.inl hu)), .inr ht, by omega, by omega, hab, bf, ?_, by omega, m0, fun v H2 s2 hv => ?_⟩
      · have : (ns.drop (ns.length - i)).length * (m + 11) ≤ 40 * 10011 := Nat.mul_le_mul hd (by omega)
        omega
      · refine ⟨_, rfl, (by show 1 ≤ sizeLine; decide), fun l hl2 => ?_⟩
        have s3 := same_new (o := .lst [.int c]) hl2
        refine ⟨v, l, _, [c], rfl, .inl (.inl (.inl (s3 _ _ hv))), .inl (.inl (.inl upd_same)), by omega, (by show 1 ≤ 100000; decide), fun z H4 s4 hz => ?_⟩
        refine ⟨some (.int c), z, rfl, s1.trans (s2.trans (s3.trans s4)), (s2.trans (s3.trans s4)) _ _ hq', ?_⟩
        rw [e]
        exact hz
    · rintro σ H' ⟨y, u, rfl, s1, hq', hu⟩
      have e : ns.length - (iv ns).reverse.length = 0 := by
        rw [List.length_reverse, iv_len, Nat.sub_self]
      rw [e] at hu
      have hal := at_len hf ns
      have hal2 : ns.length * 20 ≤ 40 * 20 := Nat.mul_le_mul_right _ hl
      refine ⟨_, rfl, u, _, rfl, .inr (.inl (.inl hu)), fun x dx2 hx hd ne => ⟨x, dx2, _, rfl, upd_same, fun c hc => (at_bd hf bf hl b c hc).1, ?_, fun t2 H3 h1 h2 bb => ⟨rfl, ?_⟩⟩⟩
      · show (atZ fs ns).length ≤ 1000
        omega
      · exact k x H3 (s1.trans (same_made hx hd bb)) ⟨dx2, t2, h1, h2⟩
end
end Qp

/-! values, slopes, and steps by the slope -/
namespace Qp
open PySem PySem.Spec PyProof.Rows L2 QN
/-- no coefficient below 0 -/
def NN (ns : List Int) : Prop := ∀ c ∈ ns, 0 ≤ c
theorem NN.tail {c : Int} {ns : List Int} (h : NN (c :: ns)) : NN ns := fun x hx => h x (List.mem_cons_of_mem _ hx)
theorem NN.head {c : Int} {ns : List Int} (h : NN (c :: ns)) : 0 ≤ c := h c List.mem_cons_self
theorem val_nn0 {x : Int} (hx : 0 ≤ x) : ∀ {ns : List Int}, NN ns → 0 ≤ val ns x
  | [], _ => Int.le_refl 0
  | c :: ns, h => by
    rw [val_cons]
    have h1 := val_nn0 hx h.tail
    have h2 := h.head
    have h3 := Int.mul_nonneg h1 hx
    omega
theorem val_mono0 {a b : Int} (h0 : 0 ≤ a) (h : a ≤ b) : ∀ {ns : List Int}, NN ns → val ns a ≤ val ns b
  | [], _ => Int.le_refl 0
  | c :: ns, hc => by
    rw [val_cons, val_cons]
    have h1 := val_mono0 h0 h hc.tail
    have h2 : val ns a * a ≤ val ns b * b := Int.mul_le_mul h1 h h0 (val_nn0 (by omega) hc.tail)
    omega
/-- the slope -/
def slo : List Int → Int → Int
  | [], _ => 0
  | _ :: ns, x => slo ns x * x + val ns x
theorem slo_nn {x : Int} (hx : 0 ≤ x) : ∀ {ns : List Int}, NN ns → 0 ≤ slo ns x
  | [], _ => Int.le_refl 0
  | c :: ns, h => by
    show 0 ≤ slo ns x * x + val ns x
    have h1 := slo_nn hx h.tail
    have h2 := val_nn0 hx h.tail
    have h3 := Int.mul_nonneg h1 hx
    omega
/-- a polynomial lies above its tangents -/
theorem convex {x y : Int} (hx : 0 ≤ x) (hy : 0 ≤ y) : ∀ {ns : List Int}, NN ns → val ns x + (y - x) * slo ns x ≤ val ns y
  | [], _ => by
    show (0 : Int) + (y - x) * 0 ≤ 0
    omega
  | c :: ns, h => by
    rw [val_cons, val_cons]
    show val ns x * x + c + (y - x) * (slo ns x * x + val ns x) ≤ val ns y * y + c
    have ih := convex hx hy h.tail
    have d := slo_nn hx h.tail
    generalize val ns x = a at *
    generalize val ns y = b at *
    generalize slo ns x = s at *
    have h1 : (a + (y - x) * s) * y ≤ b * y := Int.mul_le_mul_of_nonneg_right ih hy
    have h2 : 0 ≤ (y - x) * (y - x) * s := by
      refine Int.mul_nonneg ?_ d
      rcases Int.le_total 0 (y - x) with z | z
      · exact Int.mul_nonneg z z
      · exact Int.mul_nonneg_of_nonpos_of_nonpos z z
    have e : (a + (y - x) * s) * y = a * x + (y - x) * (s * x + a) + (y - x) * (y - x) * s := by
      simp only [Int.add_mul, Int.sub_mul, Int.mul_add, Int.mul_sub]
      have c1 : y * (y * s) = y * s * y := by rw [Int.mul_comm y s, Int.mul_comm y (s * y)]
      have e1 : y * s * y = y * y * s := by rw [Int.mul_assoc, Int.mul_comm s y, ← Int.mul_assoc]
      have e2 : x * s * y = x * y * s := by rw [Int.mul_assoc, Int.mul_comm s y, ← Int.mul_assoc]
      have e3 : y * (s * x) = x * y * s := by rw [Int.mul_comm s x, ← Int.mul_assoc, Int.mul_comm y x]
      have e4 : x * (s * x) = x * x * s := by rw [Int.mul_comm s x, ← Int.mul_assoc]
      have e5 : y * x * s = x * y * s := by rw [Int.mul_comm y x]
      have e6 : a * y = y * a := Int.mul_comm _ _
      have e7 : a * x = x * a := Int.mul_comm _ _
      omega
    omega
/-- the coefficients of the slope, from the place k on -/
def sloL (k : Int) : List Int → List Int
  | [] => []
  | c :: ns => k * c :: sloL (k + 1) ns
theorem val_sloL (x : Int) : ∀ (ns : List Int) (k : Int), val (sloL k ns) x = k * val ns x + x * slo ns x
  | [], k => by
    show (0 : Int) = k * 0 + x * 0
    omega
  | c :: ns, k => by
    show val (sloL (k + 1) ns) x * x + k * c = k * (val ns x * x + c) + x * (slo ns x * x + val ns x)
    rw [val_sloL x ns (k + 1)]
    generalize val ns x = a
    generalize slo ns x = s
    simp only [Int.add_mul, Int.mul_add, Int.one_mul]
    have e1 : k * a * x = k * (a * x) := Int.mul_assoc _ _ _
    have e2 : x * s * x = x * (s * x) := Int.mul_assoc _ _ _
    have e3 : a * x = x * a := Int.mul_comm _ _
    omega
/-- the coefficients of the slope -/
def slopeZ : List Int → List Int
  | [] => []
  | _ :: ns => sloL 1 ns
theorem val_slopeZ (ns : List Int) (x : Int) : val (slopeZ ns) x = slo ns x := by
  cases ns with
  | nil => rfl
  | cons c ns =>
    show val (sloL 1 ns) x = slo ns x * x + val ns x
    rw [val_sloL, Int.one_mul, Int.mul_comm x]
    omega
theorem sloL_len : ∀ (ns : List Int) (k : Int), (sloL k ns).length = ns.length
  | [], _ => rfl
  | c :: ns, k => by
    show (sloL (k + 1) ns).length + 1 = ns.length + 1
    rw [sloL_len ns]
theorem slopeZ_len (ns : List Int) : (slopeZ ns).length = ns.length - 1 := by
  cases ns with
  | nil => rfl
  | cons c ns => exact sloL_len ns 1
theorem sloL_get : ∀ (ns : List Int) (k : Int) (i : Nat), (sloL k ns).getD i 0 = (k + i) * ns.getD i 0
  | [], k, i => by
    show (0 : Int) = (k + i) * 0
    omega
  | c :: ns, k, 0 => by
    show k * c = (k + (0 : Nat)) * c
    congr 1
    omega
  | c :: ns, k, i + 1 => by
    show (sloL (k + 1) ns).getD i 0 = (k + (i + 1 : Nat)) * ns.getD i 0
    rw [sloL_get ns (k + 1) i]
    congr 1
    omega
theorem slopeZ_get (ns : List Int) (i : Nat) : (slopeZ ns).getD i 0 = ((i + 1 : Nat) : Int) * ns.getD (i + 1) 0 := by
  cases ns with
  | nil =>
    show (0 : Int) = _ * 0
    omega
  | cons c ns =>
    show (sloL 1 ns).getD i 0 = _ * ns.getD i 0
    rw [sloL_get]
    congr 1
    omega
/-- one coefficient is enough -/
theorem val_one {x c : Int} (hx : 1 ≤ x) : ∀ {ns : List Int} {i : Nat}, NN ns → ns[i]? = some c → c * x ^ i ≤ val ns x
  | [], i, _, h => by
    rw [List.getElem?_nil] at h
    cases h
  | d :: ns, 0, hn, h => by
    have e : d = c := Option.some.inj h
    subst e
    rw [val_cons, Int.pow_zero, Int.mul_one]
    have := Int.mul_nonneg (val_nn0 (x := x) (by omega) hn.tail) (by omega : (0 : Int) ≤ x)
    omega
  | d :: ns, i + 1, hn, h => by
    rw [val_cons, Int.pow_succ, ← Int.mul_assoc]
    have ih := val_one hx (ns := ns) (i := i) hn.tail (by simpa using h)
    have h1 := Int.mul_le_mul_of_nonneg_right ih (by omega : (0 : Int) ≤ x)
    have := hn.head
    omega
theorem slo_pos {x c : Int} (hx : 1 ≤ x) {ns : List Int} {i : Nat} (hn : NN ns) (h : ns[i + 1]? = some c) (hc : 1 ≤ c) : 1 ≤ slo ns x := by
  cases ns with
  | nil =>
    rw [List.getElem?_nil] at h
    cases h
  | cons d ns =>
    show 1 ≤ slo ns x * x + val ns x
    have h1 := Int.mul_nonneg (slo_nn (x := x) (by omega) hn.tail) (by omega : (0 : Int) ≤ x)
    have h2 := val_one (x := x) hx (ns := ns) (i := i) hn.tail (by simpa using h)
    have h3 : 0 < x ^ i := Int.pow_pos (by omega)
    have h4 : 1 * 1 ≤ c * x ^ i := Int.mul_le_mul hc (by omega) (by decide) (by omega)
    omega
/-- a step by the slope, from x, where the constant is 0 -/
theorem newton {x g s : Int} {ns : List Int} (hn : NN ns) (z0 : val ns 0 = 0) (hx : 1 ≤ x) (hg : 1 ≤ g) (es : slo ns x = s) (hs : 1 ≤ s) :
    1 ≤ x - (val ns x - g) / s ∧ g ≤ val ns (x - (val ns x - g) / s) ∧ x - (val ns x - g) / s ≤ x + g ∧ (g ≤ val ns x → 0 ≤ (val ns x - g) / s) ∧ val ns x ≤ x * s := by
  subst es
  have c0 := convex (x := x) (y := 0) (by omega) (Int.le_refl 0) hn
  rw [z0, Int.zero_sub, Int.neg_mul] at c0
  have q1 : (val ns x - g) / slo ns x * slo ns x ≤ val ns x - g := Int.ediv_mul_le _ (by omega)
  have q2 : (val ns x - g) / slo ns x < x := by
    apply Int.ediv_lt_of_lt_mul (by omega)
    omega
  have q3 : -g ≤ (val ns x - g) / slo ns x := by
    apply (Int.le_ediv_iff_mul_le (by omega)).mpr
    rw [Int.neg_mul]
    have := Int.mul_le_mul_of_nonneg_left hs (by omega : (0 : Int) ≤ g)
    have := val_nn0 (x := x) (by omega) hn
    omega
  have c1 := convex (x := x) (y := x - (val ns x - g) / slo ns x) (by omega) (by omega) hn
  refine ⟨by omega, ?_, by omega, fun h => Int.ediv_nonneg (by omega) (by omega), by omega⟩
  have e : (x - (val ns x - g) / slo ns x - x) * slo ns x = -((val ns x - g) / slo ns x * slo ns x) := by
    rw [← Int.neg_mul]
    congr 1
    omega
  rw [e] at c1
  omega
end Qp

/-! binary digits -/
namespace Qp
open PySem PySem.Spec PyProof.Rows L2 QN
abbrev BL (x : Int) : Nat := Builtin.Int.intBits x
theorem bl_le {m : Nat} {x : Int} : BL x ≤ m ↔ x.natAbs < 2 ^ m := PySem.intBits_le_iff
theorem natAbs_pow {x : Int} {m : Nat} (h0 : 0 ≤ x) : x.natAbs < 2 ^ m ↔ x < 2 ^ m := by
  obtain ⟨n, rfl⟩ := Int.eq_ofNat_of_zero_le h0
  rw [Int.natAbs_natCast]
  have e : ((2 : Int) ^ m) = ((2 ^ m : Nat) : Int) := by simp
  rw [e]
  exact Int.ofNat_lt.symm
theorem bl_lt {m : Nat} {x : Int} (h0 : 0 ≤ x) : BL x ≤ m ↔ x < 2 ^ m := bl_le.trans (natAbs_pow h0)
theorem bl_ge {m : Nat} {x : Int} (h0 : 0 ≤ x) : m < BL x ↔ 2 ^ m ≤ x := by
  have := bl_lt (m := m) h0
  omega
theorem bl_self {x : Int} (h0 : 0 ≤ x) : x < 2 ^ BL x := (bl_lt h0).mp (Nat.le_refl _)
theorem bl_one {x : Int} (h : 1 ≤ x) : 1 ≤ BL x := (bl_ge (m := 0) (by omega)).mpr h
theorem bl_zero : BL 0 = 0 := rfl
theorem pos_bl {x : Int} (h0 : 0 ≤ x) (h : 1 ≤ BL x) : 1 ≤ x := (bl_ge (m := 0) h0).mp h
theorem nat_eq_of_le {a b : Nat} (h : ∀ m, a ≤ m ↔ b ≤ m) : a = b := Nat.le_antisymm ((h b).mpr (Nat.le_refl b)) ((h a).mp (Nat.le_refl a))
theorem two_pos (k : Nat) : (0 : Int) < 2 ^ k := Int.pow_pos (by decide)
theorem bl_shr {x : Int} (h0 : 0 ≤ x) (k : Nat) : BL (x / 2 ^ k) = BL x - k := by
  refine nat_eq_of_le fun m => ?_
  rw [bl_lt (Int.ediv_nonneg h0 (Int.le_of_lt (two_pos k)))]
  have e : x / 2 ^ k < 2 ^ m ↔ x < 2 ^ (m + k) := by
    rw [Int.pow_add]
    exact ⟨fun z => Int.lt_mul_of_ediv_lt (two_pos k) z, fun z => Int.ediv_lt_of_lt_mul (two_pos k) z⟩
  rw [e, ← bl_lt h0]
  omega
theorem bl_shl {x : Int} (h1 : 1 ≤ x) (k : Nat) : BL (x * 2 ^ k) = BL x + k := by
  have p := two_pos k
  have key : ∀ m, BL (x * 2 ^ k) ≤ m + k ↔ BL x ≤ m := fun m => by
    rw [bl_lt (Int.mul_nonneg (by omega) (Int.le_of_lt p)), bl_lt (by omega), Int.pow_add]
    exact ⟨fun z => Int.lt_of_mul_lt_mul_right z (Int.le_of_lt p), fun z => Int.mul_lt_mul_of_pos_right z p⟩
  have g1 : k < BL (x * 2 ^ k) := by
    apply (bl_ge (Int.mul_nonneg (by omega) (Int.le_of_lt p))).mpr
    have := Int.mul_le_mul_of_nonneg_right h1 (Int.le_of_lt p)
    omega
  have a := (key (BL x)).mpr (Nat.le_refl _)
  have b := (key (BL (x * 2 ^ k) - k)).mp (by omega)
  omega
theorem bl_mono {x y : Int} (h0 : 0 ≤ x) (h : x ≤ y) : BL x ≤ BL y := (bl_lt h0).mpr (Int.lt_of_le_of_lt h (bl_self (by omega)))
/-- a shift to the left, or to the right -/
def shZ (c b : Int) : Int := if 0 < b then c * 2 ^ b.toNat else c / 2 ^ (-b).toNat
theorem shZ_nn {c : Int} (h : 0 ≤ c) (b : Int) : 0 ≤ shZ c b := by
  unfold shZ
  split
  · exact Int.mul_nonneg h (Int.le_of_lt (two_pos _))
  · exact Int.ediv_nonneg h (Int.le_of_lt (two_pos _))
theorem shZ_zero (b : Int) : shZ 0 b = 0 := by
  unfold shZ
  split
  · exact Int.zero_mul _
  · exact Int.zero_ediv _
theorem shZ_bl {c : Int} (h : 1 ≤ c) (a l : Nat) : BL (shZ c ((a : Int) - l)) = BL c + a - l := by
  unfold shZ
  split
  · rw [bl_shl h]
    omega
  · rw [bl_shr (by omega)]
    omega
theorem shZ_le {c : Int} (h : 0 ≤ c) (a l : Nat) : BL (shZ c ((a : Int) - l)) ≤ BL c + a := by
  by_cases z : c = 0
  · subst z
    rw [shZ_zero, bl_zero]
    omega
  · rw [shZ_bl (by omega)]
    omega
def coarse (r : List Int) (cut less : Nat) : List Int := (List.range r.length).map fun i => shZ (r.getD i 0) (((cut * i : Nat) : Int) - less)
theorem coarse_len (r : List Int) (cut less : Nat) : (coarse r cut less).length = r.length := by
  unfold coarse
  rw [List.length_map, List.length_range]
theorem getD_of {r : List Int} {i : Nat} {c : Int} (h : r[i]? = some c) : r.getD i 0 = c := by
  rw [List.getD_eq_getElem?_getD, h]
  rfl
theorem get_of {r : List Int} {i : Nat} (h : i < r.length) : r[i]? = some (r.getD i 0) := by
  rw [List.getD_eq_getElem?_getD, List.getElem?_eq_getElem h]
  rfl
theorem coarse_get {r : List Int} {cut less i : Nat} {c : Int} (h : (coarse r cut less)[i]? = some c) : i < r.length ∧ c = shZ (r.getD i 0) (((cut * i : Nat) : Int) - less) := by
  have hi : i < r.length := by
    have z := (List.getElem?_eq_some_iff.mp h).1
    rw [coarse_len] at z
    exact z
  unfold coarse at h
  rw [List.getElem?_map, List.getElem?_range hi] at h
  exact ⟨hi, (Option.some.inj h).symm⟩
theorem NN.getD {r : List Int} (h : NN r) (i : Nat) : 0 ≤ r.getD i 0 := by
  by_cases z : i < r.length
  · exact h _ (List.mem_of_getElem? (get_of z))
  · rw [List.getD_eq_getElem?_getD, List.getElem?_eq_none (by omega)]
    exact Int.le_refl 0
theorem val_zero (r : List Int) : val r 0 = r.getD 0 0 := by
  cases r with
  | nil => rfl
  | cons c r =>
    rw [val_cons, Int.mul_zero, Int.zero_add]
    rfl
/-- what is asked of a place that is looked for, with so many binary digits -/
structure NearI (r : List Int) (g : Int) (many : Nat) : Prop where
  nn : NN r
  z : r.getD 0 0 = 0
  g1 : 1 ≤ g
  ex : ∃ i c, 1 ≤ i ∧ r[i]? = some c ∧ 1 ≤ c ∧ BL g + 2 ≤ BL c + many * i
/-- how great the coefficients are -/
def NearS (S : Nat) (r : List Int) (many : Nat) : Prop := ∀ k c, r[k]? = some c → BL c + many * k ≤ S
theorem NearI.coarse {r : List Int} {g : Int} {many cut lost d : Nat} (h : NearI r g many) (hd : r.length = d + 1) (h2 : cut < many) :
    NearI (coarse r cut (BL g - ((d + 1) * (many - cut) + lost))) (g / 2 ^ (BL g - ((d + 1) * (many - cut) + lost))) (many - cut) := by
  obtain ⟨i, c, i1, hi, c1, hb⟩ := h.ex
  have il : i < r.length := (List.getElem?_eq_some_iff.mp hi).1
  have gd := getD_of hi
  have G1 := bl_one h.g1
  have C1 := bl_one c1
  have dm : i * (many - cut) + (many - cut) ≤ (d + 1) * (many - cut) := by
    rw [show i * (many - cut) + (many - cut) = (i + 1) * (many - cut) by rw [Nat.add_mul, Nat.one_mul]]
    exact Nat.mul_le_mul_right _ (by omega)
  have mi : many * i = cut * i + i * (many - cut) := by
    rw [Nat.mul_comm i, ← Nat.add_mul]
    congr 1
    omega
  have mi2 : (many - cut) * i = i * (many - cut) := Nat.mul_comm _ _
  generalize i * (many - cut) = u at *
  generalize (d + 1) * (many - cut) = v at *
  generalize hl : BL g - (v + lost) = less at *
  have gb := bl_shr (x := g) (by have := h.g1; omega) less
  have cb := shZ_bl c1 (cut * i) less
  refine ⟨fun x hx => ?_, ?_, ?_, i, shZ c (((cut * i : Nat) : Int) - less), i1, ?_, ?_, ?_⟩
  · obtain ⟨k, hk⟩ := List.getElem?_of_mem hx
    rw [(coarse_get hk).2]
    exact shZ_nn (h.nn.getD k) _
  · rw [List.getD_eq_getElem?_getD]
    cases e : (Qp.coarse r cut less)[0]? with
    | none => rfl
    | some x =>
      obtain ⟨_, e2⟩ := coarse_get e
      show x = 0
      rw [e2, h.z, shZ_zero]
  · exact pos_bl (Int.ediv_nonneg (by have := h.g1; omega) (Int.le_of_lt (two_pos _))) (by omega)
  · unfold Qp.coarse
    rw [List.getElem?_map, List.getElem?_range il, Option.map_some, gd]
  · exact pos_bl (shZ_nn (by omega) _) (by omega)
  · omega
theorem NearS.coarse {S : Nat} {r : List Int} {many cut less : Nat} (h : NearS S r many) (hn : NN r) (h2 : cut ≤ many) : NearS S (coarse r cut less) (many - cut) := fun k c hc => by
  obtain ⟨hk, e⟩ := coarse_get hc
  have a := h k _ (get_of hk)
  have b := shZ_le (hn.getD k) (cut * k) less
  rw [← e] at b
  have m : many * k = cut * k + (many - cut) * k := by
    rw [← Nat.add_mul]
    congr 1
    omega
  omega
theorem NearS.lt {S : Nat} {r : List Int} {many : Nat} (h : NearS S r many) (hn : NN r) {c : Int} (hc : c ∈ r) : c < 2 ^ S := by
  obtain ⟨k, hk⟩ := List.getElem?_of_mem hc
  exact (bl_lt (hn c hc)).mp (Nat.le_trans (Nat.le_add_right _ _) (h k c hk))
/-- with so many binary digits the goal is reached -/
theorem NearI.hit {r : List Int} {g : Int} {many : Nat} (h : NearI r g many) : g < val r (2 ^ many) := by
  obtain ⟨i, c, i1, hi, c1, hb⟩ := h.ex
  have p := two_pos many
  have a := val_one (x := 2 ^ many) (by omega) h.nn hi
  have C1 := bl_one c1
  have b : (2 : Int) ^ (BL c - 1) ≤ c := (bl_ge (by omega)).mp (by omega)
  have e : ((2 : Int) ^ many) ^ i = 2 ^ (many * i) := Int.pow_mul.symm
  rw [e] at a
  have m := Int.mul_le_mul_of_nonneg_right b (Int.le_of_lt (two_pos (many * i)))
  rw [← Int.pow_add] at m
  have s := bl_self (x := g) (by have := h.g1; omega)
  have t := pow_mono2 (a := BL g) (b := BL c - 1 + many * i) (by omega)
  omega
/-- a slope to divide by -/
theorem NearI.slo {r : List Int} {g x : Int} {many : Nat} (h : NearI r g many) (hx : 1 ≤ x) : 1 ≤ slo r x := by
  obtain ⟨i, c, i1, hi, c1, _⟩ := h.ex
  obtain ⟨j, rfl⟩ : ∃ j, i = j + 1 := ⟨i - 1, by omega⟩
  exact slo_pos hx h.nn hi c1
/-- the slopes as the program makes them -/
def sloR (r : List Int) : List Int := (List.range (r.length - 1)).map fun i => ((i + 1 : Nat) : Int) * r.getD (i + 1) 0
theorem sloR_eq (r : List Int) : sloR r = slopeZ r := by
  apply List.ext_getElem?
  intro i
  by_cases h : i < r.length - 1
  · rw [get_of (r := slopeZ r) (by rw [slopeZ_len]; exact h), slopeZ_get]
    unfold sloR
    rw [List.getElem?_map, List.getElem?_range h]
    rfl
  · rw [List.getElem?_eq_none (by unfold sloR; rw [List.length_map, List.length_range]; omega), List.getElem?_eq_none (by rw [slopeZ_len]; omega)]
theorem val_sloR (r : List Int) (x : Int) : val (sloR r) x = slo r x := by rw [sloR_eq, val_slopeZ]
theorem sloR_nn {r : List Int} (h : NN r) : NN (sloR r) := fun c hc => by
  obtain ⟨i, _, rfl⟩ := List.mem_map.mp hc
  exact Int.mul_nonneg (Int.natCast_nonneg _) (h.getD _)
theorem sloR_lt {r : List Int} {S : Nat} (hn : NN r) (h : ∀ c ∈ r, c < 2 ^ S) (hl : r.length ≤ 8) : ∀ c ∈ sloR r, c < 2 ^ (S + 3) := fun c hc => by
  obtain ⟨i, hi, rfl⟩ := List.mem_map.mp hc
  have hi2 := List.mem_range.mp hi
  have a := h _ (List.mem_of_getElem? (get_of (r := r) (i := i + 1) (by omega)))
  have b := hn.getD (i + 1)
  have p := two_pos S
  rw [Int.pow_add, Int.mul_comm]
  refine Int.lt_of_lt_of_le (Int.mul_lt_mul_of_pos_right a (by omega)) (Int.mul_le_mul_of_nonneg_left ?_ (by omega))
  show ((i + 1 : Nat) : Int) ≤ 2 ^ 3
  omega
/-- how many binary digits a near place may have -/
def nearR (d lost G many : Nat) : Nat := if many ≤ 3 * lost then many + 2 else max G ((d + 1) * (many - (many - lost) / 2) + lost + 1 + (many - lost) / 2) + 1
theorem nearR_le {d lost G many : Nat} (hd : 2 ≤ d) (hl : 2 ≤ lost) : nearR d lost G many ≤ max G ((d + 1) * many + lost) + 1 := by
  unfold nearR
  have base : many ≤ (d + 1) * many := Nat.le_mul_of_pos_left _ (by omega)
  split
  · omega
  · rename_i h
    have c : 1 ≤ (many - lost) / 2 := by omega
    generalize hc : (many - lost) / 2 = cut at *
    have e : (d + 1) * many = (d + 1) * (many - cut) + (d + 1) * cut := by
      rw [← Nat.mul_add]
      congr 1
      omega
    have f : 2 * cut ≤ (d + 1) * cut := Nat.mul_le_mul_right _ (by omega)
    omega
/-- the binary digits of the least place -/
theorem digits_ex {G b k m : Nat} (hk : 1 ≤ k) (hm : m = (G + 1 - b) / k + 1) : G + 2 ≤ b + m * k := by
  subst hm
  have a := Nat.div_add_mod (G + 1 - b) k
  have r := Nat.mod_lt (G + 1 - b) (show 0 < k by omega)
  rw [Nat.add_mul, Nat.one_mul, Nat.mul_comm _ k]
  omega
end Qp

/-! values of coefficients, and slopes -/
namespace Qp
open PySem PySem.Spec PyProof.Rows L2 QN
/-- a list, or a tuple -/
def SqK (k : Bool) (K : PySem.W.Frag) (H : Hp) (a : Addr) (xs : List V) : Prop := match k with
  | true => SqL K H a xs
  | false => SqT K H a xs
theorem sqK_or {k : Bool} {K : PySem.W.Frag} {H : Hp} {a : Addr} {xs : List V} (h : SqK k K H a xs) : SqL K H a xs ∨ SqT K H a xs := by
  cases k with
  | true => exact .inl h
  | false => exact .inr h
theorem sqLs {K : PySem.W.Frag} {H H' : Hp} {q : Addr} {xs : List V} (e : Same H H') (a : SqL K H q xs) : SqL K H' q xs := by
  rcases a with (a | ⟨u, a⟩) | a
  · exact .inl (.inl (e _ _ a))
  · exact .inl (.inr ⟨u, e _ _ a⟩)
  · exact .inr a
theorem sqK_same {k : Bool} {K : PySem.W.Frag} {H H' : Hp} {a : Addr} {xs : List V} (s : Same H H') (h : SqK k K H a xs) : SqK k K H' a xs := by
  cases k with
  | true => exact sqLs s h
  | false => exact sqT_same s h
/-- numbers from 0 to below 2 ^ S -/
def Bdd (S : Nat) (ns : List Int) : Prop := ∀ c ∈ ns, 0 ≤ c ∧ c < 2 ^ S
theorem Bdd.nn {S : Nat} {ns : List Int} (h : Bdd S ns) : NN ns := fun c hc => (h c hc).1
theorem valB_lt {n : Int} {m S : Nat} (hn : 0 ≤ n) (hm : n < 2 ^ m) : ∀ {ns : List Int}, Bdd S ns → val ns n < 2 ^ (S + ns.length * (m + 1))
  | [], _ => by
    show (0 : Int) < 2 ^ (S + 0 * (m + 1))
    exact Int.pow_pos (by decide)
  | c :: ns, h => by
    rw [val_cons]
    have hns : Bdd S ns := fun x hx => h x (List.mem_cons_of_mem _ hx)
    have h1 := valB_lt hn hm hns
    have h0 := val_nn0 hn hns.nn
    have h2 := (h c List.mem_cons_self)
    have e : S + (c :: ns).length * (m + 1) = (S + ns.length * (m + 1)) + m + 1 := by
      rw [List.length_cons, Nat.add_mul]
      omega
    rw [e, Int.pow_succ, Int.pow_add]
    have h3 : val ns n * n ≤ 2 ^ (S + ns.length * (m + 1)) * 2 ^ m := Int.mul_le_mul (by omega) (by omega) hn (Int.le_of_lt (Int.pow_pos (by decide)))
    have h4 : (2 : Int) ^ S ≤ 2 ^ (S + ns.length * (m + 1)) * 2 ^ m := by
      rw [← Int.pow_add]
      exact pow_mono2 (by omega)
    omega
/-- these coefficients may be reckoned with at n -/
structure FitV (ns : List Int) (n : Int) : Prop where
  nn : 0 ≤ n
  sz : ∃ S m, Bdd S ns ∧ n < 2 ^ m ∧ 0 < S ∧ 0 < m ∧ S + ns.length * (m + 1) + m ≤ 1000000
theorem FitV.mul {ns : List Int} {n : Int} (F : FitV ns n) (k : Nat) : CMulW (val (ns.drop k) n) n := by
  obtain ⟨S, m, hb, hm, s0, m0, hs⟩ := F.sz
  have okd : Bdd S (ns.drop k) := fun c hc => hb c (List.mem_of_mem_drop hc)
  have l1 : (ns.drop k).length * (m + 1) ≤ ns.length * (m + 1) := Nat.mul_le_mul_right _ (by rw [List.length_drop]; omega)
  exact wide_mul (a := S + (ns.drop k).length * (m + 1)) (b := m) (abs_lt (val_nn0 F.nn okd.nn) (valB_lt F.nn hm okd)) (abs_lt F.nn hm) (by omega) m0 (by omega)
theorem Fit.v {ns : List Int} {n : Int} (F : Fit ns n) : FitV ns n := by
  obtain ⟨m, hm, m0, hs⟩ := F.sz
  exact ⟨F.nn, 70, m, fun c hc => ⟨(F.ok c hc).1, Int.lt_trans (F.ok c hc).2 (by decide)⟩, hm, by decide, m0, hs⟩
abbrev sVal : Stmt := top 19 -- _value
theorem scVal : FnScope ["coefficients", "n", "total", "number"] ["coefficients", "n"] (defScope sVal) := ⟨rfl, rfl, rfl, by decide +kernel, rfl, by decide +kernel, by decide +kernel⟩
def spVal (K : PySem.W.Frag) (k : Bool) : Sp := fun vs H Q _ => ∃ (a : Addr) (ns : List Int) (n : Int), vs = [.ref a, .int n] ∧ SqK k K H a (iv ns) ∧ FitV ns n ∧ ∀ (H' : Hp), Same H H' → Q (.int (val ns n)) H'
section
variable {P : Program} {w : World} {K : PySem.W.Frag} {mg : Str → Option Value} {base : Heap}
theorem ok_val (kk : Bool) {f : Addr} {fd : FuncData} (F : Fun K "_value" "_value" sVal f fd) : FnOk P w K mg base CX0 1 f fd ["coefficients", "n"] (spVal K kk) := by
  refine F.ok scVal (fun vs H Q E h => ?_) (fun cdv A outer s H vs Q E hr h => ?_)
  · obtain ⟨a, ns, n, rfl, _⟩ := h
    rfl
  · obtain ⟨a, ns, n, rfl, ha, fit, k⟩ := h
    cases kk with
    | false =>
      refine ⟨_, pss_cons (ps_set (i := 2) scVal.nd rfl (.inl rfl) pe_int)
        (pss_cons (ps_for PassesOwn.never rfl (pi_tup (pe_revT (pv 0))) (pg_name (i := 3) scVal.nd rfl (.inl rfl))
          (pss_one (ps_set (i := 2) scVal.nd rfl (.inl rfl) (pe_op op_add (pe_op op_mulW (pv 2) (pv 1)) (pv 3)))))
        (pss_one (ps_ret (pv 2)))), ?_⟩
      refine ⟨_, rfl, a, _, rfl, ha, fun q hq => ?_⟩
      have sq := same_new (o := .tup (iv ns).reverse) hq
      refine ⟨q, rfl, ⟨_, .inl (.inl upd_same)⟩, for_tup (xs := (iv ns).reverse) (fun i σ H' => ∃ y, σ = [some (.ref a), some (.int n), some (.int (val (ns.drop (ns.length - i)) n)), y] ∧ Same H H' ∧ H' q = some (.tup (iv ns).reverse))
        ⟨none, by rw [Nat.sub_zero, List.drop_length]; rfl, sq, upd_same⟩ (fun i σ H' _ ⟨y, _, _, hq'⟩ => .inl (.inl hq')) ?_ ?_⟩
      · rintro i x σ H' hx ⟨y, rfl, sm, hq'⟩
        obtain ⟨c, rfl, hi, e⟩ := rev_at hx
        refine ⟨_, rfl, _, rfl, _, _, rfl, rfl, fit.mul _, _, rfl, _, _, rfl, rfl, some (.int c), ?_, sm, hq'⟩
        rw [e, val_cons]
        rfl
      · rintro σ H' ⟨y, rfl, sm, hq'⟩
        refine ⟨_, rfl, ?_⟩
        have e : ns.length - (iv ns).reverse.length = 0 := by
          unfold iv
          rw [List.length_reverse, List.length_map, Nat.sub_self]
        rw [e]
        exact k H' sm
    | true =>
      refine ⟨_, pss_cons (ps_set (i := 2) scVal.nd rfl (.inl rfl) pe_int)
        (pss_cons (ps_for PassesOwn.never rfl (pi_list (L2.pe_revL (pv 0))) (pg_name (i := 3) scVal.nd rfl (.inl rfl))
          (pss_one (ps_set (i := 2) scVal.nd rfl (.inl rfl) (pe_op op_add (pe_op op_mulW (pv 2) (pv 1)) (pv 3)))))
        (pss_one (ps_ret (pv 2)))), ?_⟩
      refine ⟨_, rfl, a, _, rfl, ha, fun q hq => ?_⟩
      have sq := same_new (o := .lst (iv ns).reverse) hq
      refine ⟨q, rfl, ⟨_, .inl (.inl upd_same)⟩, for_list (xs := (iv ns).reverse) (fun i σ H' => ∃ y, σ = [some (.ref a), some (.int n), some (.int (val (ns.drop (ns.length - i)) n)), y] ∧ Same H H' ∧ H' q = some (.lst (iv ns).reverse))
        ⟨none, by rw [Nat.sub_zero, List.drop_length]; rfl, sq, upd_same⟩ (fun i σ H' _ ⟨y, _, _, hq'⟩ => .inl (.inl hq')) ?_ ?_⟩
      · rintro i x σ H' hx ⟨y, rfl, sm, hq'⟩
        obtain ⟨c, rfl, hi, e⟩ := rev_at hx
        refine ⟨_, rfl, _, rfl, _, _, rfl, rfl, fit.mul _, _, rfl, _, _, rfl, rfl, some (.int c), ?_, sm, hq'⟩
        rw [e, val_cons]
        rfl
      · rintro σ H' ⟨y, rfl, sm, hq'⟩
        refine ⟨_, rfl, ?_⟩
        have e : ns.length - (iv ns).reverse.length = 0 := by
          unfold iv
          rw [List.length_reverse, List.length_map, Nat.sub_self]
        rw [e]
        exact k H' sm
/-- // by a positive divisor, where C divides -/
theorem op_fdivP {X : Cx} : OpR X (binaryOp .FloorDiv) (rI CDivP fun i j => .int (i / j)) := opI fun i j _ _ _ _ _ hc q => by
  have h1 : (0 : Int) < j := hc.1
  exact floordiv_int (by omega) (by rw [Int.fdiv_eq_ediv_of_nonneg i (by omega)]; exact q) (.inl hc.2)
end
end Qp

/-! own classes by Python's signs: x in o, o[i], len(o), truth, ==, +, * -/
namespace QN
open PySem PySem.Spec PyProof.Rows L2
section
variable {X : Cx} {pins : List (Addr × Obj)} {σ : L2.St} {H : Hp} {s : Shared} {CX : CXT} {k : Nat} {C g : Addr} {sp : Sp} {E : XK} {Q : VK} {us : List Value} {vs : List V}
theorem rv_ref (a : Addr) : L2.RelV (V.ref a) (Value.ref a) := rfl
/-- a def with its promise, called in a deeper place -/
theorem run_deep {A' : Around} (F : FnR X.prog X.w X.K X.mg X.base CX k g sp) (hr : Room k A') (e0 : Env0 X.prog X.w X.K X.mg X.base A' X.stack s H) (hx : Passes CX X E) (I : Inv X pins σ H s) (r : Vals vs us) (h : sp vs H Q E) :
    wpAny (model X.prog X.w) A' (call (.ref g) us) (EP X pins σ Q) X.xe s := by
  refine wpAny_call (codeAny_mono (F A' X.stack s H us vs Q E hr e0 r h) fun out s' got => ?_)
  match out, got with
  | .error e, got => exact hx pins σ H s e s' I got
  | .ok (.ret u), got => exact I.after got
  | .ok .next, got => exact got.elim
  | .ok .brk, got => exact got.elim
  | .ok .cont, got => exact got.elim
/-- an own method that a sign calls -/
structure OMeth (K : PySem.W.Frag) (C : Addr) (m : Str) (g : Addr) : Prop where
  at_ : PySem.W.findIn K (.ref C) m = some (some (.ref g))
  fn : PySem.W.isFn K (.ref g) = true
/-- an instance of C stands at a -/
def OAt (C : Addr) (H : Hp) (a : Addr) : Prop := ∃ dx fs, H a = some (.ins C dx fs)
theorem OAt.inst {a : Addr} (I : Inv X pins σ H s) (h : OAt C H a) : ∃ ox od, PySem.W.InstAt s.heap a ox C od := by
  obtain ⟨ox, od, J, _⟩ := StX.insC_at I (.inr h)
  exact ⟨ox, od, J⟩
end
section
variable {X : Cx} {CX : CXT} {k : Nat} {C g : Addr} {sp : Sp} {E : XK}
/-- v in o -/
def rInO (C : Addr) (sp : Sp) (E : XK) (yes : Bool) : R2 := fun v o H Q => ∃ a, o = .ref a ∧ OAt C H a ∧ sp [.ref a, v] H (fun u H' => ∃ b, u = .bl b ∧ Q (.bl (if yes then b else !b)) H') E
theorem op_inO (M : OMeth X.K C "__contains__" g) (F : FnR X.prog X.w X.K X.mg X.base CX k g sp) (hr : Room k X.A) (hx : Passes CX X E) : OpR X (compareOp .In) (rInO C sp E true) := by
  intro pins s σ H x y v u Q I rx ry h
  obtain ⟨a, rfl, ha, q⟩ := h
  obtain rfl : u = Value.ref a := ry
  obtain ⟨ox, od, J⟩ := OAt.inst I ha
  obtain ⟨m, fr⟩ := I.fr
  refine PySem.W.in_K fr I.ok.mod.kin J M.at_ M.fn (wpAny_mono (run_deep F hr I.env0 hx I (.cons (rv_ref _) (.cons rx .nil)) q) (fun w1 s1 got => ?_) fun _ _ z => z)
  obtain ⟨v1, H1, I1, r1, b, rfl, q1⟩ := got
  obtain rfl : w1 = Value.bool b := r1
  exact wpAny_truthy_bool ⟨.bl b, H1, I1, rfl, q1⟩
theorem op_notInO (M : OMeth X.K C "__contains__" g) (F : FnR X.prog X.w X.K X.mg X.base CX k g sp) (hr : Room k X.A) (hx : Passes CX X E) : OpR X (compareOp .NotIn) (rInO C sp E false) := by
  intro pins s σ H x y v u Q I rx ry h
  obtain ⟨a, rfl, ha, q⟩ := h
  obtain rfl : u = Value.ref a := ry
  obtain ⟨ox, od, J⟩ := OAt.inst I ha
  obtain ⟨m, fr⟩ := I.fr
  refine PySem.W.notIn_K fr I.ok.mod.kin J M.at_ M.fn (wpAny_mono (run_deep F hr I.env0 hx I (.cons (rv_ref _) (.cons rx .nil)) q) (fun w1 s1 got => ?_) fun _ _ z => z)
  obtain ⟨v1, H1, I1, r1, b, rfl, q1⟩ := got
  obtain rfl : w1 = Value.bool b := r1
  exact wpAny_truthy_bool ⟨.bl !b, H1, I1, rfl, q1⟩
/-- o[e] -/
def tItemO (C : Addr) (sp : Sp) (E : XK) (ta tb : TE) : TE := fun σ H Q => ta σ H fun x H1 => tb σ H1 fun y H2 => ∃ a, x = .ref a ∧ OAt C H2 a ∧ sp [.ref a, y] H2 Q E
theorem pe_itemO {a b : Expr} {ta tb : TE} {pos : Pos} (M : OMeth X.K C "__getitem__" g) (fi : PySem.W.fnIn X.K g = true) (F : FnR X.prog X.w X.K X.mg X.base CX k g sp) (hr : Room (k + 1) X.A) (hx : Passes CX X E) (ha : PE X a ta) (hb : PE X b tb)
    (hsl : ∀ o i, subscripted b true o i = runValue (.builtin "lifetime.subscript" ⟨[o, i], []⟩)) : PE X (.Subscript a b pos) (tItemO C sp E ta tb) := by
  refine ⟨fun pins s σ H Q I h => ?_⟩
  refine Subscript_ (binT ha hb I h fun v u s2 x y H2 I2 rx ry q => ?_)
  obtain ⟨p, rfl, hp, q⟩ := q
  obtain rfl : v = Value.ref p := rx
  obtain ⟨ox, od, J⟩ := OAt.inst I2 hp
  obtain ⟨m, fr⟩ := I2.fr
  exact PySem.W.sub_K fr I2.ok.mod.kin J M.at_ fi M.fn (run_deep F hr.in1 I2.env0.in1 hx I2 (.cons (rv_ref _) (.cons ry .nil)) q) (hsl _ _)
/-- len(o) -/
theorem call_lenO (M : OMeth X.K C "__len__" g) (F : FnR X.prog X.w X.K X.mg X.base CX k g sp) (hr : Room (k + 1) X.A) (hx : Passes CX X E) :
    CallR X (.builtin "len") (fun xs H Q => ∃ a, xs = [.ref a] ∧ OAt C H a ∧ sp [.ref a] H (fun u H' => ∃ n : Nat, u = .int n ∧ n ≤ sizeLine ∧ Q (.int n) H') E) := by
  intro pins s σ H xs us Q I r h
  obtain ⟨a, rfl, ha, q⟩ := h
  obtain ⟨u, rfl, ru⟩ := vals1 r
  obtain rfl : u = Value.ref a := ru
  obtain ⟨ox, od, J⟩ := OAt.inst I ha
  obtain ⟨m, fr⟩ := I.fr
  refine PySem.W.len_K fr I.ok.mod.kin J M.at_ M.fn (wpAny_mono (run_deep F hr.in1 I.env0.in1 hx I (.cons (rv_ref _) .nil) q) (fun w1 s1 got => ?_) fun _ _ z => z)
  obtain ⟨v1, H1, I1, r1, n, rfl, hn, q1⟩ := got
  obtain ⟨t, rfl⟩ := (show ∃ t, w1 = Value.int n t from r1)
  rw [sizeLine_eq] at hn
  exact ⟨⟨by omega, by omega⟩, .int n, H1, I1.tok _, ⟨_, rfl⟩, q1⟩
/-- o's truth -/
theorem tru_O (M : OMeth X.K C "__bool__" g) (F : FnR X.prog X.w X.K X.mg X.base CX k g sp) (hr : Room k X.A) (hx : Passes CX X E) :
    TruR X (fun x H Q => ∃ a, x = .ref a ∧ OAt C H a ∧ sp [.ref a] H (fun u H' => ∃ b, u = .bl b ∧ Q b H') E) := by
  intro pins s σ H x v Q I rx h
  obtain ⟨a, rfl, ha, q⟩ := h
  obtain rfl : v = Value.ref a := rx
  obtain ⟨ox, od, J⟩ := OAt.inst I ha
  obtain ⟨m, fr⟩ := I.fr
  refine PySem.W.truthy_K fr I.ok.mod.kin J M.at_ M.fn (wpAny_mono (run_deep F hr I.env0 hx I (.cons (rv_ref _) .nil) q) (fun w1 s1 got => ?_) fun _ _ z => z)
  obtain ⟨v1, H1, I1, r1, b, rfl, q1⟩ := got
  obtain rfl : w1 = Value.bool b := r1
  exact ⟨H1, I1, q1⟩
end
end QN

/-! bool(x) of what is no number -/
namespace QN
open PySem PySem.Spec PyProof.Rows L2
section
variable {prog : Program} {w : World} {A : Around} {E : Value → Shared → Prop} {s : Shared}
theorem call_bool_at {x : Value} {Q : Value → Shared → Prop} (h : wpAny (model prog w) A.in1.in1 (truthy x) (fun b s' => Q (.bool b) s') E s) : wpAny (model prog w) A (call (.type "bool") [x]) Q E s := by
  refine callType_codes (T := "bool") (Bi := Builtin.«object.__init__») (Q₁ := fun r s₁ => ∃ b, r = .bool b ∧ Q r s₁) PySem.F.called_bool (PySem.F.typeCall_bool_1 _) PySem.F.entry_object_init ?_ ?_
  · refine codeAny_of_tree ?_
    show wpAny _ A.in1.in1 (do checkBuiltinCall "bool.__new__" ⟨[.type "bool", x], []⟩; again (.builtin "bool.__new__" ⟨[.type "bool", x], []⟩)) _ _ s
    refine wpAny_bind (wpAny_of_eq (PySem.F.newCall_bool_1 _) (wpAny_pure ⟨plainId_quiet (by decide +kernel) _, codeAny_builtin PySem.F.entry_bool_new ?_⟩))
    rw [Around.under_plainId (by decide +kernel) _]
    have f1 := PySem.F.conv_sub_bool
    have h' : wpAny (model prog w) A.in1.in1 (truthy x) (fun b s' => ∃ c, Value.bool b = .bool c ∧ Q (.bool b) s') E s := wpAny_mono h (fun b s' q => ⟨b, rfl, q⟩) fun _ _ y => y
    repeat (any_goals (first | assumption | (with_reducible refine wpAny_mono h' ?_ fun _ _ y => y) | wp_step))
    exact fun a s1 hs => wpAny_pure hs
  · rintro obj s₁ ⟨y, rfl, hq⟩
    exact ⟨rfl, PySem.F.args_object_init_2 _ _, object_init_meets PySem.F.called_bool.init.lookup PySem.F.called_bool.made (by decide) prog w A.in1 _ s₁ ⟨rfl, rfl, hq⟩⟩
end
section
variable {X : Cx} {CX : CXT} {k : Nat} {g C : Addr} {sp : Sp} {E : XK}
/-- bool(a tuple) -/
theorem call_boolT : CallR X (.type "bool") (fun xs H Q => ∃ (a : Addr) (zs : List V), xs = [.ref a] ∧ SqT X.K H a zs ∧ Q (.bl (!zs.isEmpty)) H) := by
  intro pins s σ H xs us Q I r h
  obtain ⟨a, zs, rfl, hq, q⟩ := h
  obtain rfl := Vals.ref1 r
  obtain ⟨its, rv, pl, hz⟩ := I.tuple hq
  have hlen := rv.length
  rw [sizeLine_eq] at hz
  refine call_bool_at (truthy_tuple pl (by simp only [List.size_toArray]; omega) ?_)
  exact ⟨.bl (!zs.isEmpty), H, I.tok _, by rw [isEmpty_of rv]; rfl, q⟩
/-- bool(o) -/
theorem call_boolO (M : OMeth X.K C "__bool__" g) (F : FnR X.prog X.w X.K X.mg X.base CX k g sp) (hr : Room (k + 2) X.A) (hx : Passes CX X E) :
    CallR X (.type "bool") (fun xs H Q => ∃ a, xs = [.ref a] ∧ OAt C H a ∧ sp [.ref a] H (fun u H' => ∃ b, u = .bl b ∧ Q (.bl b) H') E) := by
  intro pins s σ H xs us Q I r h
  obtain ⟨a, rfl, ha, q⟩ := h
  obtain rfl := Vals.ref1 r
  obtain ⟨ox, od, J⟩ := OAt.inst I ha
  obtain ⟨m, fr⟩ := I.fr
  refine call_bool_at (PySem.W.truthy_K fr I.ok.mod.kin J M.at_ M.fn (wpAny_mono (run_deep F (hr.in1.in1) I.env0.in1.in1 hx I (.cons (rv_ref _) .nil) q) (fun w1 s1 got => ?_) fun _ _ z => z))
  obtain ⟨v1, H1, I1, r1, b, rfl, q1⟩ := got
  obtain rfl : w1 = Value.bool b := r1
  exact ⟨.bl b, H1, I1, rfl, q1⟩
end
end QN

/-! str(o) of an own class with __str__ -/
namespace QN
open PySem PySem.Spec PyProof.Rows L2
section
variable {X : Cx} {CX : CXT} {k : Nat} {g C : Addr} {sp : Sp} {E : XK}
theorem call_strO (M : OMeth X.K C "__str__" g) (F : FnR X.prog X.w X.K X.mg X.base CX k g sp) (hr : Room (k + 2) X.A) (hx : Passes CX X E) :
    CallR X (.type "str") (fun xs H Q => ∃ a, xs = [.ref a] ∧ OAt C H a ∧ sp [.ref a] H (fun u H' => ∃ z, u = .str z ∧ Q (.str z) H') E) := by
  intro pins s σ H xs us Q I r h
  obtain ⟨a, rfl, ha, q⟩ := h
  obtain rfl := Vals.ref1 r
  obtain ⟨ox, od, J⟩ := OAt.inst I ha
  obtain ⟨m, fr⟩ := I.fr
  refine PySem.W.kso_call (by have := hr.in1.in1.un; omega) I.kIn J M.at_ M.fn (wpAny_mono (run_deep F (hr.in1.in1) I.env0.in1.in1 hx I (.cons (rv_ref _) .nil) q) (fun w1 s1 got => ?_) fun _ _ z => z)
  obtain ⟨v1, H1, I1, r1, z, rfl, q1⟩ := got
  obtain ⟨t, rfl⟩ := (show ∃ t, w1 = Value.str z t from r1)
  exact ⟨.str z, H1, I1, ⟨_, rfl⟩, q1⟩
end
end QN

/-! iter(a tuple) as a value; walks over an own class whose __iter__ returns such a one -/
namespace QN
open PySem PySem.Spec PyProof.Rows L2
def ttObj (t : Addr) : Obj := { cls := .type "tuple_iterator", data := .fields #[.ref t, .int 0 0] }
/-- the iterator at it, at the beginning of the tuple at t -/
def TtO (t it : Addr) : HO := .ext fun h => h.get? it = some (ttObj t)
theorem ttO_ok {P : Program} {w : World} {H : Hp} {h : Heap} {t it : Addr} (e : h.get? it = some (ttObj t)) : ObjOk P w H h it (TtO t it) := ⟨e, ⟨_, e⟩, fun h1 h2 q k => k _ q⟩
section
variable {prog : Program} {w : World} {A : Around} {E : Value → Shared → Prop} {s : Shared} {t : Addr} {items : Array Value}
theorem call_iter_tup {Q : Value → Shared → Prop} (hl : s.heap.IsTuple t items) (h : Q (.ref s.heap.objs.size) { s with heap := s.heap.push (ttObj t) }) : wpAny (model prog w) A (call (.builtin "iter") [.ref t]) Q E s := by
  refine Calls.call_function_entry (by decide +kernel) (by decide +kernel) PySem.W.kdk_entry_iter (PySem.W.kdk_args_iter _) ?_
  unfold Builtin.«iter»
  refine wpAny_bind (m := someArgs "iter" 1 2 _) (wpAny_of_eq (a := [Value.ref t]) (by first | rfl | kernel_rfl!) ?_)
  show wpAny _ _ (pyIter (.ref t) >>= _) _ _ _
  refine wpAny_bind (wpAny_pyIter_tuple hl ?_)
  exact wpAny_pure ⟨_, rfl, h⟩
end
section
variable {X : Cx}
theorem call_iterT : CallR X (.builtin "iter") (fun xs H Q => ∃ (t : Addr) (zs : List V), xs = [.ref t] ∧ SqT X.K H t zs ∧ ∀ it, H it = none → X.s_0.heap.objs.size ≤ it → Q (.ref it) (upd H it (TtO t it))) := by
  intro pins s σ H xs us Q I r h
  obtain ⟨l, zs, rfl, hq, q⟩ := h
  obtain rfl := Vals.ref1 r
  obtain ⟨its, rv, pl, hz⟩ := I.tuple hq
  refine call_iter_tup pl ?_
  exact ⟨.ref s.heap.objs.size, _, I.laid (t' := s.toks) (fun b u e => Heap.get?_push_of_some _ e) (Nat.le_refl _) (ttO_ok (Heap.get?_push_size _ rfl)), rfl, q _ (I.hok.fresh (Nat.le_refl _)) I.sz⟩
end
/-- the promise of a def at f, that knows how many objects there were when it was called -/
structure FnN (P : Program) (w : World) (K : PySem.W.Frag) (mg : Str → Option Value) (base : Heap) (k : Nat) (f : Addr) (fd : FuncData) (ps : List Str) (sp : Nat → Sp) : Prop where
  len : ∀ n vs H Q E, sp n vs H Q E → vs.length = ps.length
  go : ∀ (A : Around) (outer : List Env) (s : Shared) (H : Hp) (args : Args) (us : List Value) (vs : List V) (Q : VK) (E : XK), Room k A → Env0 P w K mg base A outer s H → BindsTo s fd args (ps.zip us) → Vals vs us → sp s.heap.objs.size vs H Q E →
    codeAny (model P w) A (.call (.ref f) args) (CR L2.CX0 outer P w H s Q E) s
theorem Fun_okN {P : Program} {w : World} {K : PySem.W.Frag} {mg : Str → Option Value} {base : Heap} {x qual : Str} {st : Stmt} {f : Addr} {fd : FuncData} {N ps : List Str} {k : Nat} {sp : Nat → Sp}
    (F : Fun K x qual st f fd) (S : FnScope N ps (defScope st)) (len : ∀ n vs H Q E, sp n vs H Q E → vs.length = ps.length)
    (body : ∀ (cdv : Value) (A : Around) (outer : List Env) (s : Shared) (H : Hp) (vs : List V) (Q : VK) (E : XK), Room k (A.deeper (envOfC qual (defScope st) s.heap.objs.size f cdv)) → sp s.heap.objs.size vs H Q E →
      ∃ t, PSs (cxOf L2.CX0 P w K mg base N qual (defScope st) f cdv A outer s H E).nox (defBody st) t ∧ t { nx := fun _ H' => Q .non H', rt := Q } (start N vs) H) :
    FnN P w K mg base (k + 1) f fd ps sp := by
  obtain ⟨oc, od, kV, doc, pm, an, cdv, ct, osl, rfl, lk, hcd⟩ := F.ex
  refine ⟨len, fun A outer s H args us vs Q E room env0 hbind rv hsp => ?_⟩
  have nvs := len _ _ _ _ _ hsp
  have inK : K.In s.heap := env0.mod.kin.keeps fun b o e => (env0.bs b o e).1
  have nolim : s.heap.NoLimit := env0.mod.nolimit.keeps fun b o e => (env0.bs b o e).1
  have kinds : ∀ y ∈ ps.zip us, (defScope st).names.lookup y.1 = some .local ∨ ((defScope st).names.lookup y.1 = some .cell ∧ ((cellsFrom (s.heap.objs.size + 1) (defScope st).names []).lookup y.1).isSome = true) := fun ⟨n, v⟩ hy => by
    rcases S.par n (List.of_mem_zip hy).1 with c | c
    · exact Or.inl c
    · exact Or.inr ⟨c, PySem.W.cellsFrom_some _ _ _ (Or.inl c)⟩
  refine codeAny_call_function room.depth (inK _ _ lk) rfl S.co S.gen rfl (PySem.W.codeRec_of inK hcd) (hbind _ _ _ _ ?_)
  refine wpAny_newFunctionEnv_cells S.kind kinds fun env he s1 entered => ?_
  subst he
  refine ⟨nolim.keeps entered.toInCall.keep, codeAny_func ?_⟩
  obtain ⟨t, ht, hq⟩ := body cdv A outer s H vs Q E (room.deeper _) hsp
  have I0 := inv_start (CX := L2.CX0) (E := E) S room.hd env0 nvs rv entered
  refine wpAny_mono (ht.nox.run [] s1 (start N vs) H _ I0 hq) (fun fl s' hs => ?_) fun e s' hs => hs
  have close : ∀ {σ' : L2.St} {H' : Hp} {v : V} {u : Value}, Inv (cxOf L2.CX0 P w K mg base N qual (defScope st) f cdv A outer s H E) [] σ' H' s' → RelV v u → Q v H' → CE outer P w H s Q u s' :=
    fun {σ' H' v u} J r q => ⟨v, H', J.os, J.bare, J.base, J.hok, r, q⟩
  cases fl with
  | ret u =>
    obtain ⟨v, σ', H', J, r, q⟩ := hs
    exact close J r q
  | next =>
    obtain ⟨σ', H', J, q⟩ := hs
    exact close (v := V.non) (u := Value.none) J rfl q
  | brk => exact False.elim hs.choose_spec.choose_spec.2
  | cont => exact False.elim hs.choose_spec.choose_spec.2
def iOwnT (K : PySem.W.Frag) (C : Addr) (te : TE) (its : Hp → Addr → Addr → Prop) : TI := fun σ H R => te σ H fun x H1 => ∃ a, x = .ref a ∧ OAt C H1 a ∧ ∃ t, its H1 a t ∧ ∀ H2, (∀ b o, H1 b = some o → H2 b = some o) → R (Itt K t) H2
section
variable {X : Cx} {k : Nat} {C g : Addr} {fd : FuncData} {ps : List Str} {tg e : Expr} {te : TE} {its : Hp → Addr → Addr → Prop}
/-- what __iter__ of an own class promises that returns iter(a tuple) -/
def spIterT (its : Hp → Addr → Addr → Prop) : Nat → Sp := fun n vs H Q _ => ∃ a t, vs = [.ref a] ∧ its H a t ∧ ∀ it, H it = none → n ≤ it → Q (.ref it) (upd H it (TtO t it))
theorem pi_ownT (M : OMeth X.K C "__iter__" g) (F : FnN X.prog X.w X.K X.mg X.base k g fd ps (spIterT its)) (hb : L2.Binds X.K fd ps []) (hr : Room k X.A) (he : PE X e te) : PI X tg e (iOwnT X.K C te its) := by
  refine ⟨fun pins s σ H R I h => ?_⟩
  refine thn (he.run pins s σ H _ I h) fun v s1 ⟨x, H1, I1, r1, a, ex, ha, t, hi, q⟩ => ?_
  subst ex
  obtain rfl : v = Value.ref a := r1
  obtain ⟨ox, od, J⟩ := OAt.inst I1 ha
  obtain ⟨m, fr⟩ := I1.fr
  refine PySem.W.owit_iter fr I1.ok.mod.kin J M.at_ M.fn ?_
  have hsp : spIterT its s1.heap.objs.size [.ref a] H1 (fun u H2 => ∃ it, u = .ref it ∧ H1 it = none ∧ s1.heap.objs.size ≤ it ∧ H2 = upd H1 it (TtO t it)) L2.E0 := ⟨a, t, rfl, hi, fun it h1 h2 => ⟨it, rfl, h1, h2, rfl⟩⟩
  have n1 : [Value.ref a].length = ps.length := F.len _ _ _ _ _ hsp
  have bind := hb s1 [.ref a] I1.kIn (by rw [List.append_nil]; exact n1)
  rw [List.append_nil] at bind
  refine wpAny_call (codeAny_mono (F.go X.A X.stack s1 H1 ⟨[.ref a], []⟩ [.ref a] [.ref a] _ L2.E0 hr I1.env0 bind (.cons (rv_ref _) .nil) hsp) fun out s' got => ?_)
  match out, got with
  | .error e, got => exact got.elim
  | .ok .next, got => exact got.elim
  | .ok .brk, got => exact got.elim
  | .ok .cont, got => exact got.elim
  | .ok (.ret u), got =>
    obtain ⟨v, H2, I2, r, it, ev, hn, young, eH⟩ := I1.after got
    subst ev
    subst eH
    obtain rfl : u = Value.ref it := r
    have hit : (upd H1 it (TtO t it)) it = some (TtO t it) := upd_same
    have eo : s'.heap.get? it = some (ttObj t) := (I2.hok it _ hit).1
    have st : s'.heap.IsTupleIter it t 0 := ⟨_, eo, rfl, rfl⟩
    refine wpAny_specialOf (name := Str.ofString "__next__") (show Shared.TypeIs s' (.ref it) "tuple_iterator" from ⟨_, eo, rfl⟩) PySem.F.slot_tuple_iterator_next.lookup ?_
    have hit' := hit
    unfold TtO at hit'
    have eq : ItX.dropH (upd H1 it (TtO t it)) it = H1 := ItX.dropH_upd hn
    refine ⟨it, [it], _, _, ItX.dropH (upd H1 it (TtO t it)) it, rfl, ItX.inv_drop I2 hit', turn_tuple t it, st, fun b hb => ?_, q _ (by rw [eq]; exact fun _ _ e => e)⟩
    have e : b = it := by simpa using hb
    rw [e]
    exact ItX.inv_fp I2 hit (Nat.le_trans I1.sz young)
end
end QN

/-! polynomials by signs -/
namespace Qp
open PySem PySem.Spec PyProof.Rows L2 QN
abbrev sCall : Stmt := inClass cPoly 4 -- Polynomial.__call__
abbrev sGet : Stmt := inClass cPoly 5 -- Polynomial.__getitem__
abbrev sIter : Stmt := inClass cPoly 13 -- Polynomial.__iter__
abbrev sLen : Stmt := inClass cPoly 14 -- Polynomial.__len__
abbrev sBool : Stmt := inClass cPoly 15 -- Polynomial.__bool__
abbrev sEq : Stmt := inClass cPoly 16 -- Polynomial.__eq__
theorem scCall : FnScope ["self", "n"] ["self", "n"] (defScope sCall) := ⟨rfl, rfl, rfl, by decide +kernel, rfl, by decide +kernel, by decide +kernel⟩
theorem scGet : FnScope ["self", "at"] ["self", "at"] (defScope sGet) := ⟨rfl, rfl, rfl, by decide +kernel, rfl, by decide +kernel, by decide +kernel⟩
theorem scIter : FnScope ["self"] ["self"] (defScope sIter) := ⟨rfl, rfl, rfl, by decide +kernel, rfl, by decide +kernel, by decide +kernel⟩
theorem scLen : FnScope ["self"] ["self"] (defScope sLen) := ⟨rfl, rfl, rfl, by decide +kernel, rfl, by decide +kernel, by decide +kernel⟩
theorem scBool : FnScope ["self"] ["self"] (defScope sBool) := ⟨rfl, rfl, rfl, by decide +kernel, rfl, by decide +kernel, by decide +kernel⟩
theorem scEq : FnScope ["self", "other"] ["self", "other"] (defScope sEq) := ⟨rfl, rfl, rfl, by decide +kernel, rfl, by decide +kernel, by decide +kernel⟩
def itsPoly (K : PySem.W.Frag) (C : Addr) (H : Hp) (p t : Addr) : Prop := ∃ (ns : List Int) (dx : Addr), H p = some (.ins C dx [("_coefficients", .ref t)]) ∧ SqT K H t (iv ns)
def spLen (K : PySem.W.Frag) (C : Addr) : Sp := fun vs H Q _ => ∃ (p : Addr) (ns : List Int), vs = [.ref p] ∧ PolyAt K C H p ns ∧ Q (.int (ns.length : Int)) H
def spBool (K : PySem.W.Frag) (C : Addr) : Sp := fun vs H Q _ => ∃ (p : Addr) (ns : List Int), vs = [.ref p] ∧ PolyAt K C H p ns ∧ Q (.bl (!ns.isEmpty)) H
def spGet (K : PySem.W.Frag) (C : Addr) : Sp := fun vs H Q _ => ∃ (p : Addr) (ns : List Int) (i : Nat), vs = [.ref p, .int (i : Int)] ∧ PolyAt K C H p ns ∧ Q (.int (co ns i)) H
def spCl (K : PySem.W.Frag) (C : Addr) : Sp := fun vs H Q _ => ∃ (p : Addr) (ns : List Int) (n : Int), vs = [.ref p, .int n] ∧ PolyAt K C H p ns ∧ FitV ns n ∧ ∀ H', Same H H' → Q (.int (val ns n)) H'
/-- p == other -/
def EqV (K : PySem.W.Frag) (C : Addr) (H : Hp) (ns : List Int) (o : V) (b : Bool) : Prop := (∃ q ms, o = .ref q ∧ PolyAt K C H q ms ∧ b = decide (ns = ms)) ∨ (b = false ∧ ∃ t, TyX K H o t ∧ PySem.W.kitOne K t (.ref C) = some false)
def spEq (K : PySem.W.Frag) (C : Addr) : Sp := fun vs H Q _ => ∃ (p : Addr) (o : V) (ns : List Int) (b : Bool), vs = [.ref p, o] ∧ PolyAt K C H p ns ∧ EqV K C H ns o b ∧ Q (.bl b) H
theorem eqvAll_ds : ∀ ns ms : List Int, PyData.eqvAll (ds ns) (ds ms) = decide (ns = ms)
  | [], [] => rfl
  | [], m :: ms => by simp [PyData.eqvAll, ds]
  | n :: ns, [] => by simp [PyData.eqvAll, ds]
  | n :: ns, m :: ms => by
    have h := eqvAll_ds ns ms
    unfold ds at h ⊢
    simp only [List.map_cons, PyData.eqvAll, h]
    by_cases c : n = m
    · subst c
      simp [PyData.eqv]
    · simp [PyData.eqv, c]
theorem eqv_tup (ns ms : List Int) : PyData.eqv (.tuple (ds ns)) (.tuple (ds ms)) = decide (ns = ms) := eqvAll_ds ns ms
section
variable {P : Program} {w : World} {K : PySem.W.Frag} {mg : Str → Option Value} {base : Heap}
theorem ok_iter {f C : Addr} {fd : FuncData} (F : Fun K "__iter__" "Polynomial.__iter__" sIter f fd) (T : PolyC K mg C) (it : mg "iter" = none) : FnN P w K mg base 1 f fd ["self"] (spIterT (itsPoly K C)) := by
  refine Fun_okN F scIter (fun n vs H Q E h => ?_) (fun cdv A outer s H vs Q E hr h => ?_)
  · obtain ⟨a, t, rfl, _⟩ := h
    rfl
  · obtain ⟨a, t, rfl, ⟨ns, dx, hp, ht⟩, k⟩ := h
    refine ⟨_, pss_one (ps_ret (pe_callB call_iterT (by rfl) it (by decide +kernel) (pa_cons (pe_fld (pv 0) rfl) pa_nil))), ?_⟩
    exact ⟨_, rfl, a, C, dx, _, _, rfl, hp, T.cls, T.noF, rfl, t, _, rfl, ht, fun it h1 h2 => k it h1 h2⟩
theorem ok_len {f C : Addr} {fd : FuncData} (F : Fun K "__len__" "Polynomial.__len__" sLen f fd) (T : PolyC K mg C) (B : BltP mg) : FnOk P w K mg base CX0 1 f fd ["self"] (spLen K C) := by
  refine F.ok scLen (fun vs H Q E h => ?_) (fun cdv A outer s H vs Q E hr h => ?_)
  · obtain ⟨p, ns, rfl, _⟩ := h
    rfl
  · obtain ⟨p, ns, rfl, ⟨dx, t, hp, ht⟩, k⟩ := h
    refine ⟨_, pss_one (ps_ret (pe_callB call_len_seq (by rfl) B.len PySem.boot_len (pa_cons (pe_fld (pv 0) rfl) pa_nil))), ?_⟩
    refine ⟨_, rfl, p, C, dx, _, _, rfl, hp, T.cls, T.noF, rfl, t, _, rfl, .inr ht, ?_⟩
    rw [iv_len]
    exact k
theorem ok_bool {f C : Addr} {fd : FuncData} (F : Fun K "__bool__" "Polynomial.__bool__" sBool f fd) (T : PolyC K mg C) (B : BltP mg) : FnOk P w K mg base CX0 1 f fd ["self"] (spBool K C) := by
  refine F.ok scBool (fun vs H Q E h => ?_) (fun cdv A outer s H vs Q E hr h => ?_)
  · obtain ⟨p, ns, rfl, _⟩ := h
    rfl
  · obtain ⟨p, ns, rfl, ⟨dx, t, hp, ht⟩, k⟩ := h
    refine ⟨_, pss_one (ps_ret (pe_callTy call_boolT (by rfl) B.bool (by decide +kernel) (pa_cons (pe_fld (pv 0) rfl) pa_nil))), ?_⟩
    refine ⟨_, rfl, p, C, dx, _, _, rfl, hp, T.cls, T.noF, rfl, t, _, rfl, ht, ?_⟩
    have e : (iv ns).isEmpty = ns.isEmpty := by cases ns <;> rfl
    rw [e]
    exact k
theorem ok_get {f fN C : Addr} {fd fdN : FuncData} (F : Fun K "__getitem__" "Polynomial.__getitem__" sGet f fd) (T : PolyC K mg C) (B : BltP mg)
    (GN : FnOk P w K mg base CX0 2 fN fdN ["value"] (spIsN K)) (kN : PySem.W.keepIn K (.ref fN) = true) (bN : L2.Binds K fdN ["value"] []) (gN : mg "is_natural" = some (.ref fN)) : FnOk P w K mg base CX0 3 f fd ["self", "at"] (spGet K C) := by
  refine F.ok scGet (fun vs H Q E h => ?_) (fun cdv A outer s H vs Q E hr h => ?_)
  · obtain ⟨p, ns, i, rfl, _⟩ := h
    rfl
  · obtain ⟨p, ns, i, rfl, ⟨dx, t, hp, ht⟩, k⟩ := h
    refine ⟨_, pss_cons (ps_if (pt_not (pt_val (pe_call GN hr (by rfl) gN kN bN .nil pass0 (pa_cons (pv 1) pa_nil)))) (pss_one ps_never) pss_nil)
      (pss_one (ps_ret (pe_ifExp (pt_cmpR op_lt (pv 1) (pe_callB call_len_seq (by rfl) B.len PySem.boot_len (pa_cons (pe_fld (pv 0) rfl) pa_nil)) (nomark _)) (pe_ix ix_tup (pe_fld (pv 0) rfl) (pv 1) (fun _ _ => rfl)) pe_int))), ?_⟩
    refine ⟨_, rfl, _, true, rfl, numV_nat (by omega), _, rfl, if_no (by decide) ?_⟩
    refine ⟨_, rfl, _, rfl, p, C, dx, _, _, rfl, hp, T.cls, T.noF, rfl, t, _, rfl, .inr ht, _, _, rfl, rfl, _, rfl, ?_⟩
    have li := iv_len ns
    by_cases c : i < ns.length
    · exact if_yes (decide_eq_true (by omega)) ⟨_, rfl, p, C, dx, _, _, rfl, hp, T.cls, T.noF, rfl, _, rfl, t, _, _, _, rfl, rfl, ht, atI_nat (iv_get c), k⟩
    · refine if_no (by rw [decide_eq_true_eq]; omega) ?_
      rw [co_out (by omega)] at k
      exact k
theorem ok_call {f fC fV C : Addr} {fd fdC fdV : FuncData} (F : Fun K "__call__" "Polynomial.__call__" sCall f fd) (GC : FnOk P w K mg base CX0 3 fC fdC ["number"] spChk) (kC : PySem.W.keepIn K (.ref fC) = true) (bC : L2.Binds K fdC ["number"] []) (gC : mg "check_number" = some (.ref fC))
    (GV : FnOk P w K mg base CX0 1 fV fdV ["coefficients", "n"] (spVal K false)) (kV : PySem.W.keepIn K (.ref fV) = true) (bV : L2.Binds K fdV ["coefficients", "n"] []) (gV : mg "_value" = some (.ref fV)) (T : PolyC K mg C) : FnOk P w K mg base CX0 4 f fd ["self", "n"] (spCl K C) := by
  refine F.ok scCall (fun vs H Q E h => ?_) (fun cdv A outer s H vs Q E hr h => ?_)
  · obtain ⟨p, ns, n, rfl, _⟩ := h
    rfl
  · obtain ⟨p, ns, n, rfl, hp, fit, k⟩ := h
    obtain ⟨dx, t, h1, h2⟩ := id hp
    refine ⟨_, pss_cons (ps_expr (pe_call GC hr (by rfl) gC kC bC .nil pass0 (pa_cons (pv 1) pa_nil)))
      (pss_one (ps_ret (pe_call GV (hr.mono (by decide)) (by rfl) gV kV bV .nil pass0 (pa_cons (pe_fld (pv 0) rfl) (pa_cons (pv 1) pa_nil))))), ?_⟩
    exact ⟨_, rfl, n, rfl, fit.nn, _, rfl, p, C, dx, _, _, rfl, h1, T.cls, T.noF, rfl, _, rfl, t, ns, n, rfl, h2, fit, k⟩
theorem ok_eq {f C : Addr} {fd : FuncData} (F : Fun K "__eq__" "Polynomial.__eq__" sEq f fd) (T : PolyC K mg C) (O : PolyO K C) (B : BltP mg) : FnOk P w K mg base CX0 1 f fd ["self", "other"] (spEq K C) := by
  refine F.ok scEq (fun vs H Q E h => ?_) (fun cdv A outer s H vs Q E hr h => ?_)
  · obtain ⟨p, o, ns, b, rfl, _⟩ := h
    rfl
  · obtain ⟨p, o, ns, b, rfl, ⟨dx, t, hp, ht⟩, he, k⟩ := h
    have hu : (A.deeper (envOfC "Polynomial.__eq__" (defScope sEq) s.heap.objs.size f cdv)).units + 64 < cLine := by
      have := hr.un
      omega
    refine ⟨_, pss_one (ps_ret (pe_and (pe_callB call_isi (by rfl) B.isi (by decide +kernel) (pa_cons (pv 1) (pa_cons (pe_glob (v := .ref C) (by rfl) T.gC rfl) pa_nil))) (pe_one (pe_cmpR (op_eqD hu) (pe_fld (pv 0) rfl) (pe_fld (pv 1) rfl) (nomark _))))), ?_⟩
    rcases he with ⟨q, ms, rfl, hq, rfl⟩ | ⟨rfl, ty, h1, h2⟩
    · obtain ⟨dq, tq, e1, e2⟩ := id hq
      refine ⟨_, rfl, _, _, _, _, true, rfl, .own C, tyx_poly T O hq, O.isC, _, rfl, if_yes rfl ?_⟩
      refine ⟨_, rfl, p, C, dx, _, _, rfl, hp, T.cls, T.noF, rfl, _, rfl, q, C, dq, _, _, rfl, e1, T.cls, T.noF, rfl, _, _, .tup ht (dps ns), .tup e2 (dps ms), shaped_tup ns, shaped_tup ms, ?_⟩
      rw [eqv_tup]
      exact k
    · exact ⟨_, rfl, _, _, _, _, false, rfl, .own C, h1, h2, _, rfl, if_no (by decide) k⟩
end
end Qp

set_option exponentiation.threshold 4000
/-! polynomials as texts -/
namespace Qp
open PySem PySem.Spec PyProof.Rows L2 QN
abbrev sDec : Stmt := top 9 -- decimal
abbrev sTerm : Stmt := top 18 -- _term
abbrev sStr : Stmt := inClass cPoly 17 -- Polynomial.__str__
theorem scDec : FnScope ["number", "pieces"] ["number"] (defScope sDec) := ⟨rfl, rfl, rfl, by decide +kernel, rfl, by decide +kernel, by decide +kernel⟩
theorem scTerm : FnScope ["many", "power", "times"] ["many", "power"] (defScope sTerm) := ⟨rfl, rfl, rfl, by decide +kernel, rfl, by decide +kernel, by decide +kernel⟩
theorem scStr : FnScope ["self", "terms", "at"] ["self"] (defScope sStr) := ⟨rfl, rfl, rfl, by decide +kernel, rfl, by decide +kernel, by decide +kernel⟩
def txt (n : Int) : Str := Str.ofString (toString n)
def spDec : Sp := fun vs H Q _ => ∃ n : Int, vs = [.int n] ∧ 0 ≤ n ∧ n < 10 ^ 60 ∧ ∀ H', Same H H' → Q (.str (txt n)) H'
def termZ (c i : Int) : Str := if i = 0 then txt c else (if c = 1 then Str.empty else txt c ++ Str.ofString " ") ++ (if i = 1 then Str.ofString "n" else Str.ofString "n^" ++ txt i)
def spTerm : Sp := fun vs H Q _ => ∃ c i : Int, vs = [.int c, .int i] ∧ 0 ≤ c ∧ c < 10 ^ 60 ∧ 0 ≤ i ∧ i < 1000 ∧ ∀ H', Same H H' → Q (.str (termZ c i)) H'
theorem txt_len {n : Int} (h0 : 0 ≤ n) {k : Nat} (hk : 0 < k) (h : n < 10 ^ k) : (txt n).length ≤ k := PyProof.Rows.toString_length_le h0 hk h
theorem log_lt {n : Int} (h0 : 0 ≤ n) (h : n < 10 ^ 60) : n.natAbs.log2 < 1920 := by
  by_cases z : n.natAbs = 0
  · rw [z]
    decide
  · rw [Nat.log2_lt z]
    have h2 : (10 : Int) ^ 60 < 2 ^ 1920 := by decide +kernel
    exact abs_lt h0 (Int.lt_trans h h2)
section
variable {P : Program} {w : World} {K : PySem.W.Frag} {mg : Str → Option Value} {base : Heap}
theorem ok_dec {f : Addr} {fd : FuncData} (F : Fun K "decimal" "decimal" sDec f fd) (pc : ∃ t, mg "_PIECE" = some (.int (10 ^ 60) t)) (st : mg "str" = none) : FnOk P w K mg base CX0 1 f fd ["number"] spDec := by
  refine F.ok scDec (fun vs H Q E h => ?_) (fun cdv A outer s H vs Q E hr h => ?_)
  · obtain ⟨n, rfl, _⟩ := h
    rfl
  · obtain ⟨n, rfl, n0, n1, k⟩ := h
    obtain ⟨tp, pc⟩ := pc
    refine ⟨_, pss_cons (ps_set (i := 1) scDec.nd rfl (.inl rfl) (pe_lst pa_nil))
      (pss_cons (ps_while PassesOwn.never (pt_cmpR op_ge (pv 0) (pe_glob (v := .int (10 ^ 60)) (by rfl) pc ⟨_, rfl⟩) (nomark _)) pss_never)
      (pss_cons (ps_expr (pe_bm PySem.F.plainAttrs_list PySem.F.slot_list_append PySem.F.type_list_append mt_append (pv 1) (pa_cons (pe_callTy call_str_int (by rfl) st (by decide +kernel) (pa_cons (pv 0) pa_nil)) pa_nil)))
      (pss_one (ps_ret (pe_join pe_str (pe_revL (pv 1))))))), ?_⟩
    refine ⟨by decide, fun L hL => ?_⟩
    have s0 := same_new (o := .lst []) hL
    refine ⟨fun m σ H' => σ = [some (.int n), some (.ref L)] ∧ H' = upd H L (.lst []), ⟨0, rfl, rfl⟩, ?_⟩
    rintro m σ H' ⟨rfl, rfl⟩
    refine ⟨_, rfl, _, _, rfl, rfl, _, rfl, if_no (by rw [decide_eq_true_eq]; omega) ?_⟩
    refine ⟨.ref L, rfl, .inl ⟨rfl, _, .inl (.inl upd_same)⟩, _, rfl, n, rfl, log_lt n0 n1, L, _, _, rfl, rfl, upd_same, by decide, ?_⟩
    refine ⟨⟨_, rfl⟩, .ref L, rfl, L, _, rfl, .inl (.inl upd_same), fun M hM => ?_⟩
    have tl := txt_len n0 (by decide) n1
    refine ⟨Str.ofString "", M, [txt n], rfl, rfl, .inl (.inl (.inl upd_same)), ?_, ?_⟩
    · show (txt n).length + 0 + (0 + 1) * 0 ≤ 16777216
      omega
    · exact k _ ((same_upd hL s0).trans (same_new hM))
/-- the texts' lengths -/
theorem str_len_append (a b : Str) : (a ++ b).length = a.length + b.length := Str.length_append a b
theorem emp_app (x : Str) : Str.empty ++ x = x := by
  cases x
  show Str.mk (#[] ++ _) = _
  simp
theorem app_assoc (x y z : Str) : (x ++ y) ++ z = x ++ (y ++ z) := by
  cases x
  cases y
  cases z
  show Str.mk ((_ ++ _) ++ _) = Str.mk (_ ++ (_ ++ _))
  rw [Array.append_assoc]
theorem ok_term {f fD : Addr} {fd fdD : FuncData} (F : Fun K "_term" "_term" sTerm f fd) (GD : FnOk P w K mg base CX0 1 fD fdD ["number"] spDec) (kD : PySem.W.keepIn K (.ref fD) = true) (bD : L2.Binds K fdD ["number"] []) (gD : mg "decimal" = some (.ref fD)) :
    FnOk P w K mg base CX0 2 f fd ["many", "power"] spTerm := by
  refine F.ok scTerm (fun vs H Q E h => ?_) (fun cdv A outer s H vs Q E hr h => ?_)
  · obtain ⟨c, i, rfl, _⟩ := h
    rfl
  · obtain ⟨c, i, rfl, c0, c1, i0, i1, k⟩ := h
    refine ⟨_, pss_cons (ps_if (pt_cmpR op_eq (pv 1) pe_int (nomark _)) (pss_one (ps_ret (pe_call GD hr (by rfl) gD kD bD .nil pass0 (pa_cons (pv 0) pa_nil)))) pss_nil)
      (pss_cons (ps_set (i := 2) scTerm.nd rfl (.inl rfl) (pe_ifExp (pt_cmpR op_eq (pv 0) pe_int (nomark _)) pe_str (pe_joined (.cons (pe_fmt (pe_call GD hr (by rfl) gD kD bD .nil pass0 (pa_cons (pv 0) pa_nil))) (.cons pe_str .nil)))))
      (pss_one (ps_ret (pe_ifExp (pt_cmpR op_eq (pv 1) pe_int (nomark _)) (pe_joined (.cons (pe_fmt (pv 2)) (.cons pe_str .nil))) (pe_joined (.cons (pe_fmt (pv 2)) (.cons pe_str (.cons (pe_fmt (pv 1)) .nil)))))))), ?_⟩
    by_cases hi : i = 0
    · subst hi
      refine ⟨_, rfl, rfl, _, rfl, if_yes (by simp) ⟨_, rfl, c, rfl, c0, c1, fun H' s' => ?_⟩⟩
      exact k H' s'
    refine ⟨_, rfl, rfl, _, rfl, if_no (by simp [hi]) ?_⟩
    have tl := txt_len c0 (by decide) c1
    have ti := txt_len (k := 3) i0 (by decide) (Int.lt_of_lt_of_le i1 (by decide))
    have rest : ∀ (tm : Str) (H' : Hp), tm.length ≤ 100 → tm = (if c = 1 then Str.empty else txt c ++ Str.ofString " ") → Same H H' →
        tIf (tTest (tOp rEq (tVar 1) (tC (.int 1)))) (fun σ H Q => tJs [tFmt (tVar 2), tC (.str "n")] Str.empty σ H fun out H1 => Q (.str out) H1) (fun σ H Q => tJs [tFmt (tVar 2), tC (.str "n^"), tFmt (tVar 1)] Str.empty σ H fun out H1 => Q (.str out) H1)
          [some (.int c), some (.int i), some (.str tm)] H' Q := by
      intro tm H' hl e s'
      have en : (Str.ofString "n").length = 1 := rfl
      have en2 : (Str.ofString "n^").length = 2 := rfl
      by_cases h1 : i = 1
      · subst h1
        refine ⟨_, rfl, rfl, _, rfl, if_yes (by simp) ⟨_, rfl, .inl ⟨tm, rfl, by rw [sizeLine_eq]; omega, tm, rfl, ?_, _, rfl, ?_, ?_⟩⟩⟩
        · rw [emp_app, sizeLine_eq]; omega
        · rw [emp_app, str_len_append, sizeLine_eq]; omega
        · have e2 : termZ c 1 = (Str.empty ++ tm) ++ Str.ofString "n" := by
            rw [emp_app, e]
            unfold termZ
            rw [if_neg (by decide), if_pos rfl]
          show Q (.str ((Str.empty ++ tm) ++ Str.ofString "n")) H'
          rw [← e2]
          exact k H' s'
      · refine ⟨_, rfl, rfl, _, rfl, if_no (by simp [h1]) ⟨_, rfl, .inl ⟨tm, rfl, by rw [sizeLine_eq]; omega, tm, rfl, ?_, _, rfl, ?_, _, rfl, .inr ⟨i, rfl, log_lt i0 (Int.lt_trans i1 (by decide)), _, rfl, ?_, ?_⟩⟩⟩⟩
        · rw [emp_app, sizeLine_eq]; omega
        · rw [emp_app, str_len_append, sizeLine_eq]; omega
        · rw [emp_app, str_len_append, str_len_append, sizeLine_eq]
          show tm.length + (Str.ofString "n^").length + (txt i).length ≤ _
          omega
        · have e2 : termZ c i = ((Str.empty ++ tm) ++ Str.ofString "n^") ++ txt i := by
            rw [emp_app, e, app_assoc]
            unfold termZ
            rw [if_neg hi, if_neg h1]
          show Q (.str (((Str.empty ++ tm) ++ Str.ofString "n^") ++ txt i)) H'
          rw [← e2]
          exact k H' s'
    by_cases hc : c = 1
    · subst hc
      refine ⟨_, rfl, rfl, _, rfl, if_yes (by simp) ?_⟩
      exact rest Str.empty H (by decide) (by rw [if_pos rfl]) (Same.refl H)
    · refine ⟨_, rfl, rfl, _, rfl, if_no (by simp [hc]) ⟨_, rfl, c, rfl, c0, c1, fun H' s' => .inl ⟨txt c, rfl, by rw [sizeLine_eq]; omega, _, rfl, ?_, _, rfl, ?_, ?_⟩⟩⟩
      · rw [emp_app, sizeLine_eq]; omega
      · rw [emp_app, str_len_append, sizeLine_eq]
        have : (Str.ofString " ").length = 1 := rfl
        omega
      · refine rest _ H' ?_ ?_ s'
        · rw [emp_app, str_len_append]
          have : (Str.ofString " ").length = 1 := rfl
          omega
        · rw [if_neg hc, emp_app]
end
end Qp

/-! str of a polynomial -/
namespace Qp
open PySem PySem.Spec PyProof.Rows L2 QN
/-- the terms up to the place i -/
def lineZ (ns : List Int) (i : Nat) : List Str := ((List.range i).filter fun i => decide (0 < co ns i)).map fun i => termZ (co ns i) (i : Int)
def strZ (ns : List Int) : Str := Txt.join (Str.ofString " + ") (if (lineZ ns ns.length).reverse = [] then [Str.ofString "0"] else (lineZ ns ns.length).reverse)
theorem line_succ (ns : List Int) (i : Nat) : lineZ ns (i + 1) = if 0 < co ns i then lineZ ns i ++ [termZ (co ns i) (i : Int)] else lineZ ns i := by
  unfold lineZ
  rw [List.range_succ, List.filter_append, List.map_append]
  by_cases c : 0 < co ns i
  · rw [if_pos c, List.filter_cons_of_pos (by simp [c])]
    rfl
  · rw [if_neg c, List.filter_cons_of_neg (by simp [c])]
    simp
theorem line_len (ns : List Int) (i : Nat) : (lineZ ns i).length ≤ i := by
  unfold lineZ
  rw [List.length_map]
  exact Nat.le_trans (List.length_filter_le _ _) (by rw [List.length_range]; exact Nat.le_refl i)
def okT (ns : List Int) : Prop := (∀ c ∈ ns, 0 ≤ c ∧ c < 10 ^ 60) ∧ ns.length ≤ 500
theorem co_okT {ns : List Int} (h : okT ns) (i : Nat) : 0 ≤ co ns i ∧ co ns i < 10 ^ 60 := by
  by_cases c : i < ns.length
  · exact h.1 _ (List.mem_of_getElem? (co_get c))
  · rw [co_out (by omega)]
    exact ⟨by decide, by decide⟩
theorem term_len {c i : Int} (c0 : 0 ≤ c) (c1 : c < 10 ^ 60) (i0 : 0 ≤ i) (i1 : i < 1000) : (termZ c i).length ≤ 100 := by
  have tl := txt_len c0 (by decide) c1
  have ti := txt_len (k := 3) i0 (by decide) (Int.lt_of_lt_of_le i1 (by decide))
  have e1 : (Str.ofString "n").length = 1 := rfl
  have e2 : (Str.ofString "n^").length = 2 := rfl
  have e3 : (Str.ofString " ").length = 1 := rfl
  have e4 : Str.empty.length = 0 := rfl
  unfold termZ
  split
  · omega
  · rw [str_len_append]
    split <;> split <;> (try simp only [str_len_append]) <;> omega
theorem line_sum {ns : List Int} (h : okT ns) : ∀ i, i ≤ 500 → ((lineZ ns i).map (·.length)).sum ≤ i * 100
  | 0, _ => by show (0 : Nat) ≤ _; omega
  | i + 1, hi => by
    have ih := line_sum h i (by omega)
    have co := co_okT h i
    have t := term_len co.1 co.2 (i := (i : Int)) (by omega) (by omega)
    rw [line_succ]
    split
    · rw [List.map_append, List.sum_append]
      simp only [List.map_cons, List.map_nil, List.sum_cons, List.sum_nil]
      omega
    · omega
def spStr (K : PySem.W.Frag) (C : Addr) : Sp := fun vs H Q _ => ∃ (p : Addr) (ns : List Int), vs = [.ref p] ∧ PolyAt K C H p ns ∧ okT ns ∧ ∀ H', Same H H' → Q (.str (strZ ns)) H'
section
variable {P : Program} {w : World} {K : PySem.W.Frag} {mg : Str → Option Value} {base : Heap}
def tSelfAt (K : PySem.W.Frag) : TE := tOp (rIxT K) (tFld K (tVar 0) "_coefficients") (tVar 2)
theorem ok_str {f fT C : Addr} {fd fdT : FuncData} (F : Fun K "__str__" "Polynomial.__str__" sStr f fd) (T : PolyC K mg C) (B : BltP mg) (rg : mg "range" = none)
    (GT : FnOk P w K mg base CX0 2 fT fdT ["many", "power"] spTerm) (kT : PySem.W.keepIn K (.ref fT) = true) (bT : L2.Binds K fdT ["many", "power"] []) (gT : mg "_term" = some (.ref fT)) : FnOk P w K mg base CX0 3 f fd ["self"] (spStr K C) := by
  refine F.ok scStr (fun vs H Q E h => ?_) (fun cdv A outer s H vs Q E hr h => ?_)
  · obtain ⟨p, ns, rfl, _⟩ := h
    rfl
  · obtain ⟨p, ns, rfl, ⟨dx, t, hp, ht⟩, ok, k⟩ := h
    refine ⟨_, pss_cons (ps_setLc (i := 1) (own := [("at", 2)]) (g := gName 2) (tt := tTest (tOp (rI0 fun i j => V.bl (decide (j < i))) (tSelfAt K) (tC (.int 0)))) (te := tCall spTerm [] L2.E0 (tCons (tSelfAt K) (tCons (tVar 2) tNil))) rfl scStr.nd rfl rfl (sw_true rfl rfl rfl rfl)
          (pi_range1 (by rfl) rg (pa_cons (pe_callB call_len_seq (by rfl) B.len PySem.boot_len (pa_cons (pe_fld (pv 0) rfl) pa_nil)) pa_nil)) (blkOk_by (N := ["self", "terms", "at"]) (sc := defScope sStr) (by decide +kernel))
          (fun _ _ _ _ _ => pg_name (i := 2) scStr.nd rfl (.inl rfl) (hf := .inr rfl)) (fun _ _ _ _ _ => pts_one (pt_cmpR op_gt (pe_ix ix_tup (pe_fld (pv 0) rfl) (pv 2) (fun _ _ => rfl)) pe_int (nomark _)))
          (fun _ _ _ _ _ => pe_call GT hr (by rfl) gT kT bT .nil pass0 (pa_cons (pe_ix ix_tup (pe_fld (pv 0) rfl) (pv 2) (fun _ _ => rfl)) (pa_cons (pv 2) pa_nil))))
      (pss_one (ps_ret (pe_join pe_str (pe_orT (pe_revL (pv 1)) (pe_one (pe_lst (pa_cons pe_str pa_nil))))))), ?_⟩
    have li := iv_len ns
    refine ⟨_, rfl, p, C, dx, _, _, rfl, hp, T.cls, T.noF, rfl, t, _, rfl, .inr ht, _, rfl, by rw [li]; omega, by rw [li]; have := ok.2; omega, fun D hD => ?_⟩
    have sD := same_new (o := .lst []) hD
    refine lc_range (fun i H' => Same H H' ∧ H' D = some (.lst ((lineZ ns i).map V.str))) ⟨sD, upd_same⟩ (fun i H' hi hV => ?_) fun H' hV => ?_
    · obtain ⟨s1, hD1⟩ := hV
      rw [Int.toNat_natCast, li] at hi
      have hat : ∀ {R : VK}, R (.int (co ns i)) H' → tSelfAt K [some (.ref p), none, some (.int (0 + (i : Int)))] H' R := fun {R} q =>
        ⟨_, rfl, p, C, dx, _, _, rfl, s1 _ _ hp, T.cls, T.noF, rfl, _, rfl, t, _, _, _, rfl, rfl, sqT_same s1 ht, by rw [Int.zero_add]; exact atI_nat (iv_get hi), q⟩
      have co2 := co_okT ok i
      refine ⟨rfl, hat ⟨_, _, rfl, rfl, _, rfl, ?_⟩⟩
      by_cases c : 0 < co ns i
      · refine if_yes (decide_eq_true c) (hat ⟨_, rfl, co ns i, (0 + (i : Int)), rfl, co2.1, co2.2, by omega, by have := ok.2; omega, fun H2 s2 => ⟨_, s2 _ _ hD1, ?_, same_upd hD (s1.trans s2), ?_⟩⟩)
        · rw [List.length_map, sizeLine_eq]
          have := line_len ns i
          have := ok.2
          omega
        · rw [upd_same, line_succ, if_pos c, List.map_append, Int.zero_add]
          rfl
      · refine if_no (by rw [decide_eq_true_eq]; exact c) ⟨s1, ?_⟩
        rw [line_succ, if_neg c]
        exact hD1
    · obtain ⟨s1, hD1⟩ := hV
      rw [Int.toNat_natCast, li] at hD1
      have hl := line_len ns ns.length
      have hs := line_sum ok ns.length ok.2
      have h5 := ok.2
      refine ⟨⟨_, rfl⟩, .ref D, rfl, D, _, rfl, .inl (.inl hD1), fun M hM => ?_⟩
      have sM := s1.trans (same_new (o := .lst ((lineZ ns ns.length).map V.str).reverse) hM)
      refine ⟨_, .inl ⟨_, .inl (.inl upd_same), rfl⟩, ?_⟩
      have e3 : (Str.ofString " + ").length = 3 := rfl
      by_cases z : (lineZ ns ns.length).reverse = []
      · have zz : lineZ ns ns.length = [] := List.reverse_eq_nil_iff.mp z
        refine if_no (by rw [zz]; decide) ⟨(by show 1 ≤ sizeLine; decide), fun M2 hM2 => ⟨Str.ofString " + ", M2, [Str.ofString "0"], rfl, rfl, .inl (.inl (.inl upd_same)), by decide, ?_⟩⟩
        have e : strZ ns = Txt.join (Str.ofString " + ") [Str.ofString "0"] := by
          unfold strZ
          rw [if_pos z]
        rw [← e]
        exact k _ (sM.trans (same_new hM2))
      · refine if_yes ?_ ⟨Str.ofString " + ", M, (lineZ ns ns.length).reverse, rfl, rfl, .inl (.inl (.inl (by rw [upd_same, List.map_reverse]))), ?_, ?_⟩
        · cases e : lineZ ns ns.length with
          | nil => exact absurd (by rw [e]; rfl) z
          | cons a l => simp
        · rw [List.length_reverse, List.map_reverse, List.sum_reverse, e3]
          omega
        · have e : strZ ns = Txt.join (Str.ofString " + ") (lineZ ns ns.length).reverse := by
            unfold strZ
            rw [if_neg z]
          rw [← e]
          exact k _ sM
end
end Qp

/-! the law's own sums -/
namespace Qp
open PySem PySem.Spec PyProof.Rows L2 QN
abbrev lsNames : List Str := ["_law_some", "_law_others", "_law_size", "_law_first", "_law_second", "_law_at"]
theorem co_app0 (as : List Int) (n i : Nat) : co (as ++ List.replicate n 0) i = co as i := by
  unfold co
  rw [List.getD_eq_getElem?_getD, List.getD_eq_getElem?_getD]
  by_cases c : i < as.length
  · rw [List.getElem?_append_left c]
  · rw [List.getElem?_append_right (by omega), List.getElem?_eq_none (l := as) (by omega)]
    by_cases c2 : i - as.length < n
    · rw [List.getElem?_replicate_of_lt c2]
      rfl
    · rw [List.getElem?_eq_none (by rw [List.length_replicate]; omega)]
theorem rep_flat : ∀ n : Nat, (List.replicate n [V.int 0]).flatten = iv (List.replicate n 0)
  | 0 => rfl
  | n + 1 => by
    rw [List.replicate_succ, List.flatten_cons, rep_flat n, List.replicate_succ]
    rfl
theorem iv_appL (as bs : List Int) : iv as ++ iv bs = iv (as ++ bs) := by
  unfold iv
  rw [List.map_append]
def spLSum (K : PySem.W.Frag) : Sp := fun vs H Q _ => ∃ (a b : Addr) (as bs : List Int), vs = [.ref a, .ref b] ∧ SqT K H a (iv as) ∧ SqT K H b (iv bs) ∧ as.length ≤ 1000 ∧ bs.length ≤ 1000 ∧
  ∀ (q : Addr) (H' : Hp), Same H H' → SqT K H' q (iv (cutZ (sumZ as bs))) → Q (.ref q) H'
section
variable {P : Program} {w : World} {K : PySem.W.Frag} {mg : Str → Option Value} {base : Heap}
end
end Qp

/-! enumerate(a tuple) -/
namespace PySem
open Sem (wp)
open AutoSeq1 (wpAny_loadPart')
theorem qn_meets_enumerate_newT (l : Addr) (items : Array Value) :
    Meets (Builtin.«enumerate.__new__» ⟨[.type "enumerate", .ref l], []⟩) (fun _ R s => s.heap.IsTuple l items ∧
      R (.ok (.ret (.ref (s.heap.push { cls := .type "tuple_iterator", data := .fields #[.ref l, .int 0 0] }).objs.size)))
        { s with heap := (s.heap.push { cls := .type "tuple_iterator", data := .fields #[.ref l, .int 0 0] }).push { cls := .type "enumerate", data := .fields #[.none, .bool false, .ref s.heap.objs.size, rawInt 0, .none, .none] } }) :=
  .of_wp fun prog w A R s h => by
    obtain ⟨hp, g, d, tk, os⟩ := s; obtain ⟨hL, h⟩ := h
    have hsub := sub_enumerate
    have q1 : ∀ {A' : Around} {E : Value → Shared → Prop} {Q : Value → Shared → Prop}, Q (.ref hp.objs.size) ⟨hp.push { cls := .type "tuple_iterator", data := .fields #[.ref l, .int 0 0] }, g, d, tk, os⟩ → wpAny (model prog w) A' (pyIter (.ref l)) Q E ⟨hp, g, d, tk, os⟩ :=
      fun q => wpAny_pyIter_tuple hL q
    wp_walk using q1
    refine wpAny_stack_any fun st => wpAny_pure ?_
    split
    · rename_i c _ _ _ _ _
      cases (c == Value.type "enumerate")
      · wp_walk using q1
        exact ⟨_, rfl, h⟩
      · wp_walk using q1
        exact ⟨_, rfl, h⟩
    · wp_walk using q1
      exact ⟨_, rfl, h⟩
theorem qn_call_enumerate_tuple {prog : Program} {w : World} {A : Around} {E : Value → Shared → Prop} {s : Shared} {l : Addr} {items : Array Value} {Q : Value → Shared → Prop} (hL : s.heap.IsTuple l items)
    (h : ∀ h', IsEnum h' (s.heap.objs.size + 1) s.heap.objs.size 0 .none → h'.IsTupleIter s.heap.objs.size l 0 → h'.objs.size = s.heap.objs.size + 2 →
      (∀ b o, s.heap.get? b = some o → h'.get? b = some o) → Q (.ref (s.heap.objs.size + 1)) { s with heap := h' }) :
    wpAny (model prog w) A (call (.type "enumerate") [.ref l]) Q E s := by
  refine callType_new F.called_enumerate (by decide) (F.typeCall_enumerate_1 _) (F.newCall_enumerate_1 _) (fun obj => F.args_object_init_2 obj _) F.entry_enumerate_new
    (qn_meets_enumerate_newT l items) ⟨hL, ?_⟩
  have hz : (s.heap.push { cls := .type "tuple_iterator", data := .fields #[.ref l, .int 0 0] }).objs.size = s.heap.objs.size + 1 := Heap.size_push ..
  show _ ∧ _
  rw [hz]
  have he : IsEnum ((s.heap.push { cls := .type "tuple_iterator", data := .fields #[.ref l, .int 0 0] }).push
      { cls := .type "enumerate", data := .fields #[.none, .bool false, .ref s.heap.objs.size, rawInt 0, .none, .none] }) (s.heap.objs.size + 1) s.heap.objs.size 0 .none := by
    have := Heap.get?_push_size (s.heap.push { cls := .type "tuple_iterator", data := .fields #[.ref l, .int 0 0] })
      (o := { cls := .type "enumerate", data := .fields #[.none, .bool false, .ref s.heap.objs.size, rawInt 0, .none, .none] }) rfl
    rw [hz] at this; exact this
  refine ⟨⟨_, he, rfl⟩, h _ he ⟨_, Heap.get?_push_of_some _ (Heap.get?_push_size _ rfl), rfl, rfl⟩ (by rw [Heap.size_push, hz]) fun b o x => Heap.get?_push_of_some _ (Heap.get?_push_of_some _ x)⟩
theorem qn_pyNext_enum_endT {prog : Program} {w : World} {A : Around} {E : Value → Shared → Prop} {s : Shared} {e it l : Addr} {i : Nat} {items : Array Value} {old : Value} {Q : Option Value → Shared → Prop} (hh : A.handled = none)
    (he : IsEnum s.heap e it i old) (hit : s.heap.IsTupleIter it l i) (hl : s.heap.IsTuple l items) (hx : items[i]? = none)
    (hQ : ∀ h', Heap.ExtBut it s.heap h' → Q none { s with heap := h' }) : wpAny (model prog w) A (pyNext (.ref e)) Q E s := by
  have hT : s.TypeIs (.ref e) "enumerate" := ⟨_, he, rfl⟩
  unfold pyNext
  refine wpAny_bind (wpAny_attempt (wpAny_callSpecial?_slot (name := Str.ofString "__next__") hT F.slot_enumerate_next
    (wpAny_call_entry F.slot_enumerate_next hT F.entry_enumerate_next ?_ (F.args_enumerate_next_1 _))))
  show wpAny _ _ (field (.ref e) 2 >>= _) _ _ _
  refine wpAny_bind (wpAny_field he rfl (x := .ref it) rfl ?_)
  refine wpAny_bind (wpAny_nextOf_tuple_end hh hit hl hx fun h' x he' hx' => ?_)
  obtain ⟨o, ho, hc⟩ := hx'
  refine wpAny_bind (wpAny_isInstance (T := "StopIteration") (b := true) ⟨o, ho, hc⟩ isSubtype_stop ?_)
  exact wpAny_pure (hQ _ he')
end PySem
namespace QN
open PySem PySem.Spec PyProof.Rows L2
/-- the tuple at a, each item in a new pair -/
def IteT (K : PySem.W.Frag) (a : Addr) : It :=
  ⟨fun i H => ∃ (xs : List V) (x : V), SqT K H a xs ∧ xs[i]? = some x, fun i H v H' => ∃ T x, v = .ref T ∧ H T = none ∧ H' = upd H T (.tup [.int (i : Nat), x]) ∧ ∀ xs, SqT K H a xs → xs[i]? = some x, fun i H => ∃ xs : List V, SqT K H a xs ∧ xs.length ≤ i⟩
theorem turn_enumT {P : Program} {w : World} {K : PySem.W.Frag} {elts : List Expr} {kk : Nat} {tpos : Pos} (a e it : Addr) :
    Turn P w K (.Tuple elts kk tpos) (IteT K a) [e, it] e (fun i h => (∃ old, IsEnum h e it ((i : Nat) : Int) old) ∧ h.IsTupleIter it a i ∧ e ≠ it ∧ a ≠ it ∧ e ≠ a) where
  mem := by simp
  obj := fun i h st b hb => by
    obtain ⟨⟨old, he⟩, ⟨o, ho, hc, hd⟩, _⟩ := st
    have e' : b = e ∨ b = it := by simpa using hb
    rcases e' with z | z
    · rw [z]; exact ⟨_, he, fun v q => nomatch q⟩
    · rw [z]; exact ⟨o, ho, fun v q => by rw [hd] at q; cases q⟩
  keep := fun i h h' st k => let ⟨⟨old, he⟩, hi, hne⟩ := st; ⟨⟨old, k e (by simp) _ he⟩, hi.at fun o q => k it (by simp) o q, hne⟩
  item := by
    intro X hP hw hK hc i pins s σ H E I hf st hg
    subst hP hw hK
    obtain ⟨⟨old, he⟩, hit, hne, hai, hea⟩ := st
    obtain ⟨xs, x, hq, hx⟩ := hg
    obtain ⟨its, rv, p, hz⟩ := I.tuple hq
    obtain ⟨u, hu, ru⟩ := rv.get hx
    have hel : e < s.heap.objs.size := Heap.lt_size he
    have hil : it < s.heap.objs.size := by obtain ⟨_, q, _⟩ := hit; exact Heap.lt_size q
    have hlt : i < its.toArray.size := by
      rw [List.size_toArray]
      exact (List.getElem?_eq_some_iff.mp hu).1
    have D := Draws.tuple (prog := X.prog) (w := X.w) (A := X.A.in1) (I.ok.hd hc) it a hai its.toArray
    refine wpAny_pyNext_enum_itemD D he ⟨hit, p⟩ hlt hne (by simp [hne, hea]) fun x' h' tk hx' ho hit' hT hsz hk => ?_
    obtain rfl : x' = u := by
      rw [List.getElem?_toArray, hu] at hx'
      exact (Option.some.inj hx').symm
    refine ⟨_, rfl, wpAny_letOwnedTupleGo_enum (s := { s with heap := h', toks := tk + 1 }) ho fun h'' he' sb => ?_⟩
    have hT2 : h''.get? s.heap.objs.size = some { cls := .type "tuple", data := .seq #[.int i tk, x'] } := (sb.2 _ (Nat.ne_of_gt hel)).trans hT
    have new : ObjOk X.prog X.w (upd H s.heap.objs.size (.tup [.int (i : Nat), x])) h'' s.heap.objs.size (.tup [.int (i : Nat), x]) :=
      ⟨by show 2 ≤ sizeLine; decide, [.int i tk, x'], .cons ⟨_, rfl⟩ (.cons ru .nil), ⟨_, hT2, rfl, _, rfl⟩⟩
    have I1 : Inv X pins σ (upd H s.heap.objs.size (.tup [.int (i : Nat), x])) { s with heap := h'', toks := tk + 1 } :=
      I.turnedNew (ch := [e, it]) (fun b ob hb q => (sb.2 b (fun z => hb (by simp [z]))).trans (hk b ob (fun z => hb (by simp [z])) (fun z => hb (by simp [z])) q)) hf (Nat.le_refl _) new
    refine ⟨.ref s.heap.objs.size, _, I1, rfl, ⟨_, x, rfl, I.hok.fresh (Nat.le_refl _), rfl, fun ys hy => ?_⟩, ⟨⟨x', ?_⟩, hit'.1.at fun o q => (sb.2 it (Ne.symm hne)).trans q, hne, hai, hea⟩, fun b hb => ?_⟩
    · rw [I.tuple_inj hy hq]
      exact hx
    · have e1 : ((i + 1 : Nat) : Int) = (i : Int) + 1 := by omega
      rw [e1]; exact he'
    · have hb' : b < s.heap.objs.size := by
        have e' : b = e ∨ b = it := by simpa using hb
        rcases e' with z | z
        · rw [z]; exact hel
        · rw [z]; exact hil
      rw [upd_ne (Nat.ne_of_lt hb')]
      exact (hf b hb).1
  done := by
    intro X hP hw hK hc i pins s σ H E I hf st hg
    subst hP hw hK
    obtain ⟨⟨old, he⟩, hit, hne, hai, hea⟩ := st
    obtain ⟨xs, hq, hx⟩ := hg
    obtain ⟨its, rv, p, hz⟩ := I.tuple hq
    obtain ⟨f0, f1, f2, f3, f4, f5⟩ := hf it (by simp)
    have hl := rv.length
    exact qn_pyNext_enum_endT (I.ok.hd hc) he hit (show s.heap.IsTuple a its.toArray from p) (by simp; omega) fun h' eb => ⟨rfl, I.turned (t' := s.toks) (fun b o hb q => eb b o hb q) f0 f1 f3 f4 f5⟩
  self := fun A i s Q E st h => let ⟨⟨_, he⟩, _⟩ := st; wpAny_pyIter_enum he h
def iEnumT (K : PySem.W.Frag) (ta : TA) : TI := fun σ H R => ta σ H fun vs H1 => ∃ a xs, vs = [.ref a] ∧ SqT K H1 a xs ∧ R (IteT K a) H1
theorem pi_enumT {X : Cx} {e : Expr} {ta : TA} {p pos tpos : Pos} {elts : List Expr} {kk : Nat} (hg : Gl X "enumerate") (hm : X.mg "enumerate" = none) (ha : PA X [e] ta) (hs : starEach [e] X.env = [(false, eval e X.env)] := by rfl) :
    PI X (.Tuple elts kk tpos) (.Call (.Name "enumerate" p) [e] [] pos) (iEnumT X.K ta) := by
  refine ⟨fun pins s σ H R I h => ?_⟩
  refine Call_ (ld_blt I hg hm boot_enumerate (PyProof.Rows.callWith_type1 (thn (ha.run pos pins s σ H _ I h) fun us s1 ⟨vs, H1, I1, r1, q1⟩ => ?_) hs rfl))
  obtain ⟨a, xs, ex, hq, q⟩ := q1
  subst ex
  cases r1 with
  | cons r rr =>
    cases rr
    cases r
    obtain ⟨its, rv, p', hz⟩ := I1.tuple hq
    have hal : a < s1.heap.objs.size := by obtain ⟨_, q, _⟩ := (show s1.heap.IsTuple a its.toArray from p'); exact Heap.lt_size q
    refine qn_call_enumerate_tuple (show s1.heap.IsTuple a its.toArray from p') fun h' he hit hsz hk => wpAny_pyIter_enum he ?_
    have I2 : Inv X pins σ H1 { s1 with heap := h' } := I1.kept (t' := s1.toks) hk
    refine ⟨s1.heap.objs.size + 1, [s1.heap.objs.size + 1, s1.heap.objs.size], _, _, H1, rfl, I2, turn_enumT a (s1.heap.objs.size + 1) s1.heap.objs.size, ⟨⟨.none, he⟩, hit, Nat.succ_ne_self _, Nat.ne_of_lt hal, Nat.ne_of_gt (Nat.lt_succ_of_lt hal)⟩, fun b hb => ?_, q⟩
    have e' : b = s1.heap.objs.size + 1 ∨ b = s1.heap.objs.size := by simpa using hb
    have hle : s1.heap.objs.size ≤ b := by
      rcases e' with z | z
      · rw [z]; exact Nat.le_add_right _ _
      · rw [z]; exact Nat.le_refl _
    exact I1.fpOk hle (I1.hok.fresh hle)
theorem for_enumT {K : PySem.W.Frag} {a : Addr} {xs : List V} {g : TG} {tb : TS} {D : Ends} {σ : L2.St} {H : Hp} (Pv : Nat → L2.St → Hp → Prop) (h0 : Pv 0 σ H) (hl : ∀ i σ H, i ≤ xs.length → Pv i σ H → SqT K H a xs)
    (hs : ∀ i x T σ H, xs[i]? = some x → Pv i σ H → H T = none → g (.ref T) σ (upd H T (.tup [.int (i : Nat), x])) fun σ2 H2 => tb { D with nx := Pv (i + 1), ct := Pv (i + 1), bk := D.nx } σ2 H2) (hd : ∀ σ H, Pv xs.length σ H → D.nx σ H) :
    ∃ W : Nat → Nat → L2.St → Hp → Prop, (∃ m, W 0 m σ H) ∧ ∀ i m σ H, W i m σ H →
      ((IteT K a).stop i H ∧ D.nx σ H) ∨ ((IteT K a).go i H ∧ ∃ N : L2.St → Hp → Prop, (∀ σ' H', N σ' H' → ∃ m', m' < m ∧ W (i + 1) m' σ' H') ∧ ∀ x H', (IteT K a).yld i H x H' → g x σ H' fun σ2 H2 => tb { D with nx := N, ct := N, bk := D.nx } σ2 H2) := by
  refine ⟨fun i m σ H => m = xs.length - i ∧ i ≤ xs.length ∧ Pv i σ H, ⟨xs.length, by simp, Nat.zero_le _, h0⟩, ?_⟩
  rintro i m σ H ⟨rfl, hi, p⟩
  have q := hl i σ H hi p
  by_cases hlt : i < xs.length
  · refine .inr ⟨⟨xs, xs[i], q, by simp [hlt]⟩, Pv (i + 1), fun σ' H' p' => ⟨xs.length - (i + 1), by omega, rfl, hlt, p'⟩, fun x H' y => ?_⟩
    obtain ⟨T, z, rfl, hT, rfl, y⟩ := y
    exact hs i z T σ _ (y xs q) p hT
  · have e : i = xs.length := by omega
    subst e
    exact .inl ⟨⟨xs, q, Nat.le_refl _⟩, hd σ H p⟩
end QN

/-! the law's own products -/
namespace Qp
open PySem PySem.Spec PyProof.Rows L2 QN
abbrev lpNames : List Str := ["_law_some", "_law_others", "_law_found", "_law_at", "_law_one", "_law_place", "_law_other"]
/-- the number at the place k behind I rows, and J columns of the next one -/
def rowF (as bs : List Int) (I J k : Nat) : Int := (pr as bs k I).sum + if I ≤ k ∧ k - I < J then co as I * co bs (k - I) else 0
def accZ (as bs : List Int) (I J : Nat) : List Int := (List.range (as.length + bs.length)).map (rowF as bs I J)
theorem acc_len (as bs : List Int) (I J : Nat) : (accZ as bs I J).length = as.length + bs.length := by
  unfold accZ
  rw [List.length_map, List.length_range]
theorem acc_co {as bs : List Int} {I J k : Nat} (h : k < as.length + bs.length) : co (accZ as bs I J) k = rowF as bs I J k := by
  unfold co accZ
  rw [List.getD_eq_getElem?_getD, List.getElem?_map, List.getElem?_range h]
  rfl
theorem acc_zero (as bs : List Int) : accZ as bs 0 0 = List.replicate (as.length + bs.length) 0 := by
  refine List.ext_getElem? fun k => ?_
  unfold accZ
  rw [List.getElem?_map]
  by_cases c : k < as.length + bs.length
  · rw [List.getElem?_range c, List.getElem?_replicate_of_lt c]
    show some (rowF as bs 0 0 k) = some 0
    unfold rowF pr
    simp
  · rw [List.getElem?_eq_none (by rw [List.length_range]; omega), List.getElem?_eq_none (by rw [List.length_replicate]; omega)]
    rfl
theorem acc_next (as bs : List Int) (I : Nat) : accZ as bs I bs.length = accZ as bs (I + 1) 0 := by
  unfold accZ
  refine List.map_congr_left fun k _ => ?_
  unfold rowF
  rw [pr_succ]
  by_cases c : I ≤ k ∧ k - I < bs.length
  · rw [if_pos c, if_pos c, List.sum_append, if_neg (fun z => absurd z.2 (Nat.not_lt_zero _))]
    simp
  · rw [if_neg c, if_neg c, if_neg (fun z => absurd z.2 (Nat.not_lt_zero _))]
theorem acc_set {as bs : List Int} {I J : Nat} (hI : I < as.length) (hJ : J < bs.length) : (accZ as bs I J).set (I + J) (co (accZ as bs I J) (I + J) + co as I * co bs J) = accZ as bs I (J + 1) := by
  refine List.ext_getElem? fun k => ?_
  by_cases e : I + J = k
  · subst e
    have hk : I + J < as.length + bs.length := by omega
    rw [List.getElem?_set_self (by rw [acc_len]; exact hk), co_get (by rw [acc_len]; exact hk), acc_co hk, acc_co hk]
    unfold rowF
    rw [if_neg (fun z => by have := z.2; omega), if_pos ⟨by omega, by omega⟩, show I + J - I = J by omega]
    simp
  · rw [List.getElem?_set_ne e]
    unfold accZ
    rw [List.getElem?_map, List.getElem?_map]
    have h : rowF as bs I J k = rowF as bs I (J + 1) k := by
      unfold rowF
      by_cases c : I ≤ k ∧ k - I < J
      · rw [if_pos c, if_pos ⟨c.1, by omega⟩]
      · rw [if_neg c, if_neg (fun z => c ⟨z.1, by omega⟩)]
    by_cases hk : k < as.length + bs.length
    · rw [List.getElem?_range hk]
      show some (rowF as bs I J k) = some (rowF as bs I (J + 1) k)
      rw [h]
    · rw [List.getElem?_eq_none (by rw [List.length_range]; omega)]
      rfl
theorem acc_end (as bs : List Int) : cutZ (accZ as bs as.length 0) = cutZ (prodZ as bs) := by
  have full : ∀ k, rowF as bs as.length 0 k = (pr as bs k as.length).sum := fun k => by
    unfold rowF
    rw [if_neg (fun z => absurd z.2 (Nat.not_lt_zero _)), Int.add_zero]
  unfold accZ prodZ
  rw [List.map_congr_left fun k _ => full k]
  cases e : as.length + bs.length with
  | zero => rfl
  | succ n =>
    rw [show n + 1 - 1 = n by omega, List.range_succ, List.map_append]
    have z : (pr as bs n as.length).sum = 0 := by
      have emp : pr as bs n as.length = [] := by
        unfold pr
        rw [List.map_eq_nil_iff, List.filter_eq_nil_iff]
        intro i hi
        have := List.mem_range.mp hi
        simp only [Bool.and_eq_true, decide_eq_true_eq]
        omega
      rw [emp]
      rfl
    show cutZ ((List.range n).map (fun k => (pr as bs k as.length).sum) ++ [(pr as bs n as.length).sum]) = _
    rw [z, cutZ_snoc0]
def spLPr (K : PySem.W.Frag) : Sp := fun vs H Q _ => ∃ (a b : Addr) (as bs : List Int) (m m' : Nat), vs = [.ref a, .ref b] ∧ SqT K H a (iv as) ∧ SqT K H b (iv bs) ∧ as.length ≤ 1000 ∧ bs.length ≤ 1000 ∧ Bd m as ∧ Bd m' bs ∧ m + m' ≤ 1000000 ∧ 0 < m ∧ 0 < m' ∧
  ∀ (q : Addr) (H' : Hp), Same H H' → SqT K H' q (iv (cutZ (prodZ as bs))) → Q (.ref q) H'
section
variable {P : Program} {w : World} {K : PySem.W.Frag} {mg : Str → Option Value} {base : Heap}
end
end Qp

/-! where values reach -/
namespace Qp
open PySem PySem.Spec PyProof.Rows L2 QN
theorem val_mono {a b : Int} (h0 : 0 ≤ a) (h : a ≤ b) : ∀ {ns : List Int}, (∀ c ∈ ns, okC c) → val ns a ≤ val ns b
  | [], _ => Int.le_refl 0
  | c :: ns, hc => by
    rw [val_cons, val_cons]
    have hns : ∀ x ∈ ns, okC x := fun x hx => hc x (List.mem_cons_of_mem _ hx)
    have h1 := val_mono h0 h hns
    have h2 : val ns a * a ≤ val ns b * b := Int.mul_le_mul h1 h h0 (val_nn (by omega) hns)
    omega
theorem val_pos {m : Int} (hm : 1 ≤ m) {x : Int} (hx : 1 ≤ x) : ∀ {r : List Int}, (∀ c ∈ r, okC c) → 1 ≤ val (r ++ [x]) m
  | [], _ => by
    show 1 ≤ 0 * m + x
    omega
  | c :: r, hc => by
    rw [List.cons_append, val_cons]
    have h1 := val_pos hm hx (r := r) fun y hy => hc y (List.mem_cons_of_mem _ hy)
    have h2 := (hc c List.mem_cons_self).1
    have h3 : 1 * 1 ≤ val (r ++ [x]) m * m := Int.mul_le_mul h1 hm (by decide) (by omega)
    omega
/-- a polynomial of degree at least 1 is at least its argument -/
theorem val_ge {ns : List Int} (hc : ∀ c ∈ ns, okC c) (hcut : cutZ ns = ns) (hl : 2 ≤ ns.length) {m : Int} (hm : 0 ≤ m) : m ≤ val ns m := by
  rcases cut_last ns with e | ⟨r, x, e, nx⟩
  · rw [hcut] at e
    rw [e] at hl
    exact absurd hl (by decide)
  · rw [hcut] at e
    subst e
    have hx : 1 ≤ x := by
      have := (hc x (by simp)).1
      omega
    cases r with
    | nil => exact absurd hl (by simp)
    | cons c r =>
      rw [List.cons_append, val_cons]
      have c0 := (hc c (by simp)).1
      by_cases z : m = 0
      · subst z
        omega
      · have h1 := val_pos (m := m) (by omega) hx (r := r) fun y hy => hc y (by simp [hy])
        have h3 : 1 * m ≤ val (r ++ [x]) m * m := Int.mul_le_mul_of_nonneg_right h1 hm
        omega
/-- what reach of the goal returns -/
def RV (ns : List Int) (g : Int) (v : V) : Prop :=
  (g ≤ val ns 0 ∧ v = .int 0) ∨ (val ns 0 < g ∧ ns.length < 2 ∧ v = .non) ∨ (val ns 0 < g ∧ 2 ≤ ns.length ∧ ∃ n : Int, v = .int n ∧ 1 ≤ n ∧ g ≤ val ns n ∧ val ns (n - 1) < g)
theorem RV.zero {ns : List Int} {g : Int} {v : V} (h : RV ns g v) (z : g ≤ val ns 0) : v = .int 0 := by
  rcases h with h | h | h
  · exact h.2
  · exact absurd z (by omega)
  · exact absurd z (by omega)
theorem RV.none {ns : List Int} {g : Int} {v : V} (h : RV ns g v) (z : val ns 0 < g) (l : ns.length < 2) : v = .non := by
  rcases h with h | h | h
  · exact absurd z (by omega)
  · exact h.2.2
  · exact absurd l (by omega)
theorem RV.at {ns : List Int} {g n0 : Int} {v : V} (h : RV ns g v) (hc : ∀ c ∈ ns, okC c) (z : val ns 0 < g) (l : 2 ≤ ns.length) (h1 : 1 ≤ n0) (a : g ≤ val ns n0) (b : val ns (n0 - 1) < g) : v = .int n0 := by
  rcases h with h | h | h
  · exact absurd z (by omega)
  · exact absurd l (by omega)
  · obtain ⟨_, _, n, rfl, p1, p2, p3⟩ := h
    have c1 : n ≤ n0 := by
      apply Int.not_lt.mp
      intro k
      have := val_mono (a := n0) (b := n - 1) (by omega) (by omega) hc
      omega
    have c2 : n0 ≤ n := by
      apply Int.not_lt.mp
      intro k
      have := val_mono (a := n) (b := n0 - 1) (by omega) (by omega) hc
      omega
    rw [Int.le_antisymm c1 c2]
theorem RV.le {ns : List Int} {g : Int} {n : Int} (hc : ∀ c ∈ ns, okC c) (hcut : cutZ ns = ns) (l : 2 ≤ ns.length) (h1 : 1 ≤ n) (b : val ns (n - 1) < g) : n ≤ g := by
  have := val_ge hc hcut l (m := n - 1) (by omega)
  omega
/-- reach of a drawn polynomial, and of a goal of at most 3000 bits -/
def spReach (K : PySem.W.Frag) (C : Addr) : Sp := fun vs H Q _ => ∃ (p : Addr) (ns : List Int) (g : Int), vs = [.ref p, .int g] ∧ PolyAt K C H p ns ∧ (∀ c ∈ ns, okC c) ∧ cutZ ns = ns ∧ ns.length ≤ 6 ∧ 0 ≤ g ∧ g < 2 ^ 3000 ∧
  ∀ v H', Same H H' → RV ns g v → Q v H'
theorem cut_cut (ns : List Int) : cutZ (cutZ ns) = cutZ ns := by
  rcases cut_last ns with e | ⟨r, x, e, nx⟩
  · rw [e]
    rfl
  · rw [e, cutZ_snoc r nx]
end Qp

/-! coefficients: what does not hang on zeros at the end -/
namespace Qp
open PySem PySem.Spec PyProof.Rows L2 QN
theorem co_cut (ns : List Int) (i : Nat) : co (cutZ ns) i = co ns i := by
  refine snoc_ind (P := fun ms => co (cutZ ms) i = co ms i) rfl (fun r x ih => ?_) _ ns rfl
  by_cases h : x = 0
  · subst h
    rw [cutZ_snoc0, ih]
    exact (co_app0 r 1 i).symm
  · rw [cutZ_snoc r h]
/-- equal numbers at each place -/
def Eqv (a b : List Int) : Prop := ∀ i, co a i = co b i
theorem Eqv.refl (a : List Int) : Eqv a a := fun _ => rfl
theorem Eqv.symm {a b : List Int} (h : Eqv a b) : Eqv b a := fun i => (h i).symm
theorem Eqv.trans {a b c : List Int} (h : Eqv a b) (g : Eqv b c) : Eqv a c := fun i => (h i).trans (g i)
theorem eqv_cut (a : List Int) : Eqv (cutZ a) a := co_cut a
theorem cut_of_eqv {a b : List Int} (h : Eqv a b) : cutZ a = cutZ b := by
  have hc : Eqv (cutZ a) (cutZ b) := (eqv_cut a).trans (h.trans (eqv_cut b).symm)
  have key : ∀ x y : List Int, (x = [] ∨ ∃ r c, x = r ++ [c] ∧ c ≠ 0) → Eqv x y → x.length ≤ y.length := by
    intro x y hx hxy
    rcases hx with rfl | ⟨r, c, rfl, nc⟩
    · exact Nat.zero_le _
    · apply Nat.not_lt.mp
      intro z
      rw [List.length_append, List.length_singleton] at z
      have e := hxy r.length
      rw [co_out (ns := y) (by omega)] at e
      have e2 : co (r ++ [c]) r.length = c := by
        unfold co
        rw [List.getD_eq_getElem?_getD, List.getElem?_append_right (Nat.le_refl _), Nat.sub_self]
        rfl
      exact nc (e2.symm.trans e)
  have l1 := key _ _ (cut_last a) hc
  have l2 := key _ _ (cut_last b) hc.symm
  have le := Nat.le_antisymm l1 l2
  refine List.ext_getElem? fun i => ?_
  by_cases c : i < (cutZ a).length
  · rw [co_get c, co_get (by omega), hc i]
  · rw [List.getElem?_eq_none (by omega), List.getElem?_eq_none (by omega)]
theorem co_sum (a b : List Int) (i : Nat) : co (sumZ a b) i = co a i + co b i := by
  by_cases c : i < max a.length b.length
  · unfold sumZ
    conv => lhs; unfold co
    rw [List.getD_eq_getElem?_getD, List.getElem?_map, List.getElem?_range c]
    rfl
  · rw [co_out (by rw [sum_len]; omega), co_out (by omega), co_out (by omega)]
    rfl
def sf (f : Nat → Int) (n : Nat) : Int := ((List.range n).map f).sum
theorem sf_succ (f : Nat → Int) (n : Nat) : sf f (n + 1) = sf f n + f n := by
  unfold sf
  rw [List.range_succ, List.map_append, List.sum_append]
  simp
theorem sf_more {f : Nat → Int} {n : Nat} : ∀ d, (∀ i, n ≤ i → f i = 0) → sf f (n + d) = sf f n
  | 0, _ => rfl
  | d + 1, h => by
    rw [← Nat.add_assoc, sf_succ, sf_more d h, h _ (by omega), Int.add_zero]
theorem sf_congr {f g : Nat → Int} {n : Nat} (h : ∀ i, i < n → f i = g i) : sf f n = sf g n := by
  unfold sf
  rw [List.map_congr_left fun i hi => h i (List.mem_range.mp hi)]
def cf (a b : List Int) (k i : Nat) : Int := if i ≤ k then co a i * co b (k - i) else 0
def cnv (a b : List Int) (k : Nat) : Int := sf (cf a b k) (k + 1)
theorem pr_sf (a b : List Int) (k : Nat) : ∀ n, (pr a b k n).sum = sf (cf a b k) n
  | 0 => rfl
  | n + 1 => by
    rw [pr_succ, sf_succ, ← pr_sf a b k n]
    unfold cf
    by_cases c : n ≤ k ∧ k - n < b.length
    · rw [if_pos c, if_pos c.1, List.sum_append]
      simp
    · rw [if_neg c]
      by_cases c1 : n ≤ k
      · rw [if_pos c1, co_out (ns := b) (i := k - n) (by omega), Int.mul_zero, Int.add_zero]
      · rw [if_neg c1, Int.add_zero]
theorem co_prod (a b : List Int) (k : Nat) : co (prodZ a b) k = cnv a b k := by
  have big : sf (cf a b k) a.length = cnv a b k := by
    unfold cnv
    have h1 : sf (cf a b k) (a.length + (k + 1)) = sf (cf a b k) a.length := sf_more _ fun i hi => by
      unfold cf
      split
      · rw [co_out hi, Int.zero_mul]
      · rfl
    have h2 : sf (cf a b k) (k + 1 + a.length) = sf (cf a b k) (k + 1) := sf_more _ fun i hi => by
      unfold cf
      rw [if_neg (by omega)]
    rw [← h1, ← h2, Nat.add_comm]
  by_cases c : k < a.length + b.length - 1
  · unfold prodZ
    conv => lhs; unfold co
    rw [List.getD_eq_getElem?_getD, List.getElem?_map, List.getElem?_range c]
    show (pr a b k a.length).sum = _
    rw [pr_sf, big]
  · rw [co_out (by rw [prod_len]; omega), ← big]
    symm
    have z : ∀ n, n ≤ a.length → sf (cf a b k) n = 0 := fun n => by
      induction n with
      | zero => intro _; rfl
      | succ n ih =>
        intro hn
        rw [sf_succ, ih (by omega)]
        unfold cf
        split
        · rw [co_out (ns := b) (i := k - n) (by omega), Int.mul_zero]
          rfl
        · rfl
    exact z _ (Nat.le_refl _)
theorem eqv_sum {a b a' b' : List Int} (h : Eqv a a') (g : Eqv b b') : Eqv (sumZ a b) (sumZ a' b') := fun i => by rw [co_sum, co_sum, h i, g i]
theorem eqv_prod {a b a' b' : List Int} (h : Eqv a a') (g : Eqv b b') : Eqv (prodZ a b) (prodZ a' b') := fun k => by
  rw [co_prod, co_prod]
  unfold cnv
  refine sf_congr fun i _ => ?_
  unfold cf
  split
  · rw [h i, g (k - i)]
  · rfl
theorem sum_comm (a b : List Int) : Eqv (sumZ a b) (sumZ b a) := fun i => by rw [co_sum, co_sum, Int.add_comm]
theorem sf_rev (f : Nat → Int) (n : Nat) : sf f n = sf (fun i => f (n - 1 - i)) n := by
  unfold sf
  have h : (List.range n).map (fun i => f (n - 1 - i)) = ((List.range n).map f).reverse := by
    rw [← List.map_reverse, ← PySem.W.krv_range, List.map_map]
    rfl
  rw [h, List.sum_reverse]
theorem prod_comm (a b : List Int) : Eqv (prodZ a b) (prodZ b a) := fun k => by
  rw [co_prod, co_prod]
  unfold cnv
  rw [sf_rev]
  refine sf_congr fun i hi => ?_
  unfold cf
  rw [if_pos (by omega), if_pos (by omega), Int.mul_comm, show k + 1 - 1 - i = k - i by omega, show k - (k - i) = i by omega]
theorem prod_one (b : List Int) : Eqv (prodZ [1] b) b := fun k => by
  rw [co_prod]
  unfold cnv
  have h : sf (cf [1] b k) (1 + k) = sf (cf [1] b k) 1 := sf_more _ fun i hi => by
    unfold cf
    split
    · rw [co_out (ns := [1]) (by simpa using hi), Int.zero_mul]
    · rfl
  rw [Nat.add_comm, h]
  show sf (cf [1] b k) (0 + 1) = _
  rw [sf_succ]
  unfold cf
  rw [if_pos (Nat.zero_le k), Nat.sub_zero]
  show 0 + 1 * co b k = co b k
  omega
theorem eqv_at {fs gs : List Int} (g : Eqv fs gs) : ∀ ns, Eqv (atZ fs ns) (atZ gs ns)
  | [] => Eqv.refl _
  | c :: ns => eqv_sum (eqv_prod (eqv_at g ns) g) (Eqv.refl _)
theorem prod_nil (b : List Int) : Eqv (prodZ [] b) [] := fun k => by
  rw [co_prod, co_out (Nat.zero_le k)]
  unfold cnv
  have z : ∀ n, sf (cf [] b k) n = 0 := fun n => by
    induction n with
    | zero => rfl
    | succ n ih =>
      rw [sf_succ, ih]
      unfold cf
      split
      · rw [co_out (ns := []) (Nat.zero_le n), Int.zero_mul]
        rfl
      · rfl
  exact z _
theorem at_snoc0 (fs : List Int) : ∀ ns, Eqv (atZ fs (ns ++ [0])) (atZ fs ns)
  | [] => fun i => by
    show co (sumZ (prodZ [] fs) [0]) i = co [] i
    rw [co_sum, prod_nil fs i, co_out (ns := []) (Nat.zero_le i)]
    cases i with
    | zero => rfl
    | succ i => rw [co_out (ns := [0]) (by simp)]; rfl
  | c :: ns => eqv_sum (eqv_prod (at_snoc0 fs ns) (Eqv.refl _)) (Eqv.refl _)
theorem at_cut (fs ns : List Int) : Eqv (atZ fs (cutZ ns)) (atZ fs ns) := by
  refine snoc_ind (P := fun ms => Eqv (atZ fs (cutZ ms)) (atZ fs ms)) (Eqv.refl _) (fun r x ih => ?_) _ ns rfl
  by_cases h : x = 0
  · subst h
    rw [cutZ_snoc0]
    exact ih.trans (at_snoc0 fs r).symm
  · rw [cutZ_snoc r h]
    exact Eqv.refl _
/-- the law's polynomial at another one -/
def inZ (os : List Int) : List Int → List Int
  | [] => []
  | c :: ns => cutZ (sumZ (cutZ (prodZ (inZ os ns) os)) [c])
theorem in_at (os : List Int) : ∀ ns, Eqv (inZ os ns) (atZ os ns)
  | [] => Eqv.refl _
  | c :: ns => (eqv_cut _).trans (eqv_sum ((eqv_cut _).trans (eqv_prod (in_at os ns) (Eqv.refl _))) (Eqv.refl _))
theorem in_cut (os ns : List Int) : cutZ (atZ (cutZ os) (cutZ ns)) = inZ os ns := by
  have h : cutZ (inZ os ns) = inZ os ns := by
    cases ns with
    | nil => rfl
    | cons c ns => exact cut_cut _
  rw [← h]
  exact cut_of_eqv ((at_cut _ _).trans ((eqv_at (eqv_cut os) ns).trans (in_at os ns).symm))
end Qp

set_option exponentiation.threshold 4000
/-! the law's polynomial at another one; its line -/
namespace Qp
open PySem PySem.Spec PyProof.Rows L2 QN
abbrev liNames : List Str := ["_law_some", "_law_found", "_law_at", "_law_one", "_law_name"]
theorem bd_cut {m : Nat} {ns : List Int} (h : Bd m ns) : Bd m (cutZ ns) := fun c hc => h c (cut_mem hc)
theorem in_len {os : List Int} (hf : os.length ≤ 20) : ∀ ns, (inZ os ns).length ≤ ns.length * 20 + 1
  | [] => by
    show 0 ≤ _
    omega
  | c :: ns => by
    show (cutZ (sumZ (cutZ (prodZ (inZ os ns) os)) [c])).length ≤ _
    have h1 := cut_len (sumZ (cutZ (prodZ (inZ os ns) os)) [c])
    have h2 := cut_len (prodZ (inZ os ns) os)
    rw [sum_len] at h1
    rw [prod_len] at h2
    have := in_len hf ns
    simp only [List.length_cons, List.length_nil] at h1 ⊢
    omega
theorem in_bd {m : Nat} {os : List Int} (hf : os.length ≤ 20) (b : Bd m os) : ∀ {ns : List Int}, ns.length ≤ 40 → Bd m ns → Bd (m + ns.length * (m + 11)) (inZ os ns)
  | [], _, _ => fun c hc => by cases hc
  | c :: ns, hl, h => by
    rw [List.length_cons] at hl
    have h1 := in_bd hf b (ns := ns) (by omega) fun x hx => h x (List.mem_cons_of_mem _ hx)
    have h2 := bd_prod h1 b (by have := in_len hf ns; omega)
    have h3 : Bd (m + ns.length * (m + 11) + m + 10) [c] := bd_mono (m := m) (by omega) fun x hx => by
      cases List.mem_singleton.mp hx
      exact h c List.mem_cons_self
    refine bd_mono ?_ (bd_cut (bd_sum (bd_cut h2) h3))
    rw [List.length_cons, Nat.add_mul]
    omega
def spInn (K : PySem.W.Frag) : Sp := fun vs H Q _ => ∃ (a b : Addr) (ns os : List Int) (m : Nat), vs = [.ref a, .ref b] ∧ SqT K H a (iv ns) ∧ SqT K H b (iv os) ∧ ns.length ≤ 40 ∧ os.length ≤ 20 ∧ Bd m ns ∧ Bd m os ∧ 0 < m ∧ m ≤ 10000 ∧
  ∀ (q : Addr) (H' : Hp), Same H H' → SqT K H' q (iv (inZ os ns)) → Q (.ref q) H'
section
variable {P : Program} {w : World} {K : PySem.W.Frag} {mg : Str → Option Value} {base : Heap}
end
def dt (ys : List Str) : List PyData := ys.map PyData.str
theorem dts {K : PySem.W.Frag} {H : Hp} : ∀ ys : List Str, DpAll K H (ys.map V.str) (dt ys)
  | [] => .nil
  | y :: ys => .cons (.str y) (dts ys)
theorem ok_app {a b : Str} (h : PyData.strOk a = true) (g : PyData.strOk b = true) : PyData.strOk (a ++ b) = true := by
  unfold PyData.strOk at *
  show ((a.cps ++ b.cps).all _) = true
  rw [Array.all_append, h, g]
  rfl
theorem ok_txt {n : Int} (h0 : 0 ≤ n) : PyData.strOk (txt n) = true := by
  obtain ⟨m, rfl⟩ := Int.eq_ofNat_of_zero_le h0
  unfold PyData.strOk
  have e : (txt (m : Int)).cps.toList = TL.numL m := TL.tl_num m
  rw [← Array.all_toList, e]
  refine List.all_eq_true.mpr fun c hc => ?_
  have := TL.numL_digits m c hc
  rw [decide_eq_true_eq]
  omega
theorem sok_term {c i : Int} (c0 : 0 ≤ c) (i0 : 0 ≤ i) : PyData.strOk (termZ c i) = true := by
  unfold termZ
  split
  · exact ok_txt c0
  · refine ok_app ?_ ?_
    · split
      · decide +kernel
      · exact ok_app (ok_txt c0) (by decide +kernel)
    · split
      · decide +kernel
      · exact ok_app (by decide +kernel) (ok_txt i0)
theorem lay_dt : ∀ ys : List Str, (∀ y ∈ ys, PyData.strOk y = true) → PyData.canLayAll0 (dt ys) = true
  | [], _ => rfl
  | y :: ys, h => by
    show (PyData.strOk y && PyData.canLayAll0 (dt ys)) = true
    rw [lay_dt ys fun z hz => h z (List.mem_cons_of_mem _ hz), h y List.mem_cons_self]
    rfl
theorem line_ok {ns : List Int} (h : okT ns) (i : Nat) : ∀ y ∈ lineZ ns i, PyData.strOk y = true := fun y hy => by
  unfold lineZ at hy
  obtain ⟨j, _, rfl⟩ := List.mem_map.mp hy
  exact sok_term (co_okT h j).1 (by omega)
theorem depth_dt : ∀ ys : List Str, PyData.depthAll (dt ys) = 0
  | [] => rfl
  | y :: ys => by
    show max 0 (PyData.depthAll (dt ys)) = 0
    rw [depth_dt ys]
    rfl
theorem shaped_dt {ys : List Str} (h : ∀ y ∈ ys, PyData.strOk y = true) : SeqAt.shaped (.list (dt ys)) = true := by
  show (PyData.canLayAll0 (dt ys) && decide (PyData.depthAll (dt ys) + 1 ≤ 64)) = true
  rw [lay_dt ys h, depth_dt]
  rfl
theorem eqv_dt_nil (ys : List Str) : PyData.eqv (.list (dt ys)) (.list []) = decide (ys = []) := by
  cases ys with
  | nil => rfl
  | cons n ns => simp [PyData.eqv, PyData.eqvAll, dt]
def nameZ (i : Int) : Str := if i = 0 then Str.ofString "" else if i = 1 then Str.ofString "n" else Str.ofString "n^" ++ txt i
theorem name_goes {σ : L2.St} {H : Hp} {Q : VK} {i : Int} (i0 : 0 ≤ i) (i1 : i < 1000) (hj : σ[2]? = some (some (.int i))) (q : Q (.str (nameZ i)) H) : tIf (tTest (tOp rEq (tVar 2) (tC (.int 0)))) (tC (.str ""))
    (tIf (tTest (tOp rEq (tVar 2) (tC (.int 1)))) (tC (.str "n")) (tOp (fun x y H Q => ∃ i j, x = .str i ∧ y = .str j ∧ i.length + j.length ≤ sizeLine ∧ Q (.str (i ++ j)) H) (tC (.str "n^")) (tCB (fun xs H Q => ∃ i, xs = [.int i] ∧ i.natAbs.log2 < 1920 ∧ Q (.str (toString i)) H) (tCons (tVar 2) tNil)))) σ H Q := by
  unfold nameZ at q
  have ti := txt_len (k := 3) i0 (by decide) (Int.lt_of_lt_of_le i1 (by decide))
  by_cases h0 : i = 0
  · rw [if_pos h0] at q
    exact ⟨_, hj, rfl, _, rfl, if_yes (by simp [h0]) q⟩
  · rw [if_neg h0] at q
    refine ⟨_, hj, rfl, _, rfl, if_no (by simp [h0]) ?_⟩
    by_cases h1 : i = 1
    · rw [if_pos h1] at q
      exact ⟨_, hj, rfl, _, rfl, if_yes (by simp [h1]) q⟩
    · rw [if_neg h1] at q
      refine ⟨_, hj, rfl, _, rfl, if_no (by simp [h1]) ⟨_, hj, i, rfl, log_lt i0 (Int.lt_trans i1 (by decide)), _, _, rfl, rfl, ?_, q⟩⟩
      show (Str.ofString "n^").length + (txt i).length ≤ sizeLine
      have : (Str.ofString "n^").length = 2 := rfl
      rw [sizeLine_eq]
      omega
theorem name_len {i : Int} (i0 : 0 ≤ i) (i1 : i < 1000) : (nameZ i).length ≤ 5 := by
  have ti := txt_len (k := 3) i0 (by decide) (Int.lt_of_lt_of_le i1 (by decide))
  have e0 : (Str.ofString "").length = 0 := rfl
  have e1 : (Str.ofString "n").length = 1 := rfl
  have e2 : (Str.ofString "n^").length = 2 := rfl
  unfold nameZ
  split
  · omega
  · split
    · omega
    · rw [str_len_append]
      omega
theorem name_ne {i : Int} (h : i ≠ 0) : nameZ i ≠ Str.ofString "" := fun e => by
  have l := congrArg Str.length e
  have e0 : (Str.ofString "").length = 0 := rfl
  have e1 : (Str.ofString "n").length = 1 := rfl
  have e2 : (Str.ofString "n^").length = 2 := rfl
  unfold nameZ at l
  rw [if_neg h] at l
  split at l
  · omega
  · rw [str_len_append] at l
    omega
theorem value_goes {σ : L2.St} {H : Hp} {Q : VK} {c i : Int} (c0 : 0 ≤ c) (c1 : c < 10 ^ 60) (i0 : 0 ≤ i) (i1 : i < 1000) (h3 : σ[3]? = some (some (.int c))) (h4 : σ[4]? = some (some (.str (nameZ i)))) (q : Q (.str (termZ c i)) H) :
    tIf (tTest (tOp rEq (tVar 4) (tC (.str "")))) (tCB (fun xs H Q => ∃ i, xs = [.int i] ∧ i.natAbs.log2 < 1920 ∧ Q (.str (toString i)) H) (tCons (tVar 3) tNil))
    (tIf (tTest (tOp rEq (tVar 3) (tC (.int 1)))) (tVar 4) (tOp (fun x y H Q => ∃ i j, x = .str i ∧ y = .str j ∧ i.length + j.length ≤ sizeLine ∧ Q (.str (i ++ j)) H) (tOp (fun x y H Q => ∃ i j, x = .str i ∧ y = .str j ∧ i.length + j.length ≤ sizeLine ∧ Q (.str (i ++ j)) H)
      (tCB (fun xs H Q => ∃ i, xs = [.int i] ∧ i.natAbs.log2 < 1920 ∧ Q (.str (toString i)) H) (tCons (tVar 3) tNil)) (tC (.str " "))) (tVar 4))) σ H Q := by
  have tl := txt_len c0 (by decide) c1
  have nl := name_len i0 i1
  have e3 : (Str.ofString " ").length = 1 := rfl
  unfold termZ at q
  by_cases h0 : i = 0
  · rw [if_pos h0] at q
    refine ⟨_, h4, rfl, _, rfl, if_yes ?_ ⟨_, h3, c, rfl, log_lt c0 c1, q⟩⟩
    rw [decide_eq_true_eq]
    show V.str (nameZ i) = V.str (Str.ofString "")
    unfold nameZ
    rw [if_pos h0]
  · rw [if_neg h0] at q
    refine ⟨_, h4, rfl, _, rfl, if_no ?_ ?_⟩
    · rw [decide_eq_true_eq]
      intro e
      exact name_ne h0 (V.str.inj e)
    have en : (if i = 1 then Str.ofString "n" else Str.ofString "n^" ++ txt i) = nameZ i := by
      unfold nameZ
      rw [if_neg h0]
    rw [en] at q
    by_cases h1 : c = 1
    · rw [if_pos h1, emp_app] at q
      exact ⟨_, h3, rfl, _, rfl, if_yes (by simp [h1]) ⟨_, h4, q⟩⟩
    · rw [if_neg h1] at q
      refine ⟨_, h3, rfl, _, rfl, if_no (by simp [h1]) ⟨_, h3, c, rfl, log_lt c0 c1, _, _, rfl, rfl, ?_, _, h4, _, _, rfl, rfl, ?_, q⟩⟩
      · show (txt c).length + (Str.ofString " ").length ≤ sizeLine
        rw [sizeLine_eq]
        omega
      · show (txt c ++ Str.ofString " ").length + (nameZ i).length ≤ sizeLine
        rw [str_len_append, sizeLine_eq]
        omega
def spLine (K : PySem.W.Frag) : Sp := fun vs H Q _ => ∃ (a : Addr) (ns : List Int), vs = [.ref a] ∧ SqT K H a (iv ns) ∧ okT ns ∧ ∀ H', Same H H' → Q (.str (strZ ns)) H'
section
variable {P : Program} {w : World} {K : PySem.W.Frag} {mg : Str → Option Value} {base : Heap}
end
end Qp

/-! own classes by Python's signs: ==, != -/
namespace QN
open PySem PySem.Spec PyProof.Rows L2
section
variable {prog : Program} {w : World} {A : Around} {E : Value → Shared → Prop} {s : Shared} {K : PySem.W.Frag} {x C f : Addr} {b tb : Value} {ox : Obj} {od : Option Obj}
/-- o != b by the class's own ==: what object's != makes of it -/
theorem ne_road (hu : A.units + 1 < cLine) (KX : K.In s.heap) (I : PySem.W.InstAt s.heap x ox C od) (hb : PySem.W.Looks (model prog w) s.heap (typeOf b) tb) (hn : PySem.W.notFirst K C tb = true) (hm : PySem.W.mroIn K C (.type "object") = some true)
    (hne : PySem.W.findIn K (.ref C) "__ne__" = some (some (.builtin "object.__ne__"))) (heq : PySem.W.findIn K (.ref C) "__eq__" = some (some (.ref f))) (hf : PySem.W.isFn K (.ref f) = true) {Q : Value → Shared → Prop}
    (h : wpAny (model prog w) A.in1 (call (.ref f) [.ref x, b]) (fun v s' => ∃ c, v = .bool c ∧ Q (.bool (!c)) s') E s) : wpAny (model prog w) A (richCompare .NotEq (.ref x) b) Q E s := by
  have inner : wpAny (model prog w) A (call (.builtin "object.__ne__") [.ref x, b]) (fun v s' => ∃ c, v = .bool (!c) ∧ Q (.bool (!c)) s') E s := by
    refine wpAny_call (codeAny_call_builtin PySem.F.cmp_object.ne.plain PySem.F.cmpEntry_ne (PySem.W.check_slot PySem.F.cmpKind_ne PySem.F.cmpSplit_ne (I.type.andThen (PySem.W.looks_mroIn KX hm)) (PySem.F.cmpArgs_ne _ _) ?_))
    unfold Builtin.«object.__ne__»
    repeat (first
      | with_reducible refine wpAny_cRoomFor hu ?_
      | (refine wpAny_bind (m := callSpecialIfBound? (.ref x) (Str.ofString "__eq__") [b]) (PySem.W.ifBound_K KX I heq hf (wpAny_mono h (fun r s' got => ?_) fun _ _ z => z))
         obtain ⟨c, rfl, q⟩ := got)
      | (refine wpAny_bind (m := truthy (.bool _)) (wpAny_truthy_bool ?_))
      | wp_step)
    exact ⟨_, rfl, q⟩
  have bound : wpAny (model prog w) A (callSpecialIfBound? (.ref x) "__ne__" [b]) (fun r s' => ∃ c, r = some (.bool (!c)) ∧ Q (.bool (!c)) s') E s := by
    simp only [callSpecialIfBound?, bindSpecialIfBound?]
    have last : wpAny (model prog w) A (call (.builtin "object.__ne__") ([.ref x] ++ [b]) >>= fun v => pure (some v)) (fun r s' => ∃ c, r = some (.bool (!c)) ∧ Q (.bool (!c)) s') E s :=
      wpAny_bind (wpAny_mono inner (fun v s' ⟨c, e, q⟩ => wpAny_pure ⟨c, by rw [e], q⟩) fun _ _ z => z)
    refine wpAny_holding (wpAny_bind (wpAny_bind (wpAny_bind (I.type.here ((PySem.W.looks_findIn KX hne).here (wpAny_bind (wpAny_askSetting (wpAny_ite ?_))))))))
    split
    · exact wpAny_bind (wpAny_of_eq (PySem.F.cmp_object.ne.bind _) (wpAny_pure (by exact last)))
    · exact wpAny_tryCatch (wpAny_bind (wpAny_of_eq (PySem.F.cmp_object.ne.bind _) (wpAny_pure (by exact last))))
  have tried : wpAny (model prog w) A (tryCompare (.ref x) "__ne__" b) (fun r s' => ∃ v, r = some v ∧ Q v s') E s := by
    unfold tryCompare
    exact wpAny_bind (wpAny_mono bound (fun r s' ⟨c, e, q⟩ => by subst e; exact wpAny_pure ⟨_, rfl, q⟩) fun _ _ z => z)
  unfold richCompare
  simp only [oneThing_ref, cmpInfo_NotEq]
  refine wpAny_holding (wpAny_bind (wpAny_cRoomFor (Nat.lt_of_succ_lt hu) (wpAny_bind (I.type.here (wpAny_bind (hb.here ?_))))))
  split
  · rename_i differ
    have below : PySem.W.subIn K tb (.ref C) = some false := by
      rcases Bool.or_eq_true_iff.mp hn with e | e
      · rw [beq_iff_eq.mp e] at differ
        simp at differ
      · exact beq_iff_eq.mp e
    refine wpAny_bind ((PySem.W.looks_subIn KX below).here ?_)
    simp only [Bool.false_eq_true, if_false]
    exact wpAny_bind (wpAny_mono tried (fun r s' ⟨v, e, q⟩ => by subst e; exact wpAny_pure q) fun _ _ z => z)
  · refine wpAny_bind (wpAny_pure ?_)
    simp only [Bool.false_eq_true, if_false]
    exact wpAny_bind (wpAny_mono tried (fun r s' ⟨v, e, q⟩ => by subst e; exact wpAny_pure q) fun _ _ z => z)
end
section
variable {X : Cx} {CX : CXT} {k : Nat} {C g : Addr} {sp : Sp} {E : XK}
/-- the other side of a sign: a value of another kind, or an instance of C itself -/
def Side (K : PySem.W.Frag) (C : Addr) (H : Hp) (y : V) : Prop := (∃ t, TyX K H y t ∧ PySem.W.subIn K t (.ref C) = some false) ∨ ∃ b, y = .ref b ∧ OAt C H b
theorem Side.looks {pins : List (Addr × Obj)} {σ : L2.St} {H : Hp} {s : Shared} {y : V} {u : Value} (I : Inv X pins σ H s) (ry : L2.RelV y u) (h : Side X.K C H y) :
    ∃ t, PySem.W.Looks (model X.prog X.w) s.heap (typeOf u) t ∧ PySem.W.notFirst X.K C t = true := by
  rcases h with ⟨t, ty, hs⟩ | ⟨b, rfl, hb⟩
  · obtain ⟨P, Z, hP, _⟩ := kit_of I ry ty
    refine ⟨t, Z.ty _ _ I.kIn hP, ?_⟩
    unfold PySem.W.notFirst
    rw [hs]
    simp
  · obtain ⟨ox, od, J⟩ := OAt.inst I hb
    obtain rfl : u = Value.ref b := ry
    exact ⟨.ref C, J.type, by simp [PySem.W.notFirst]⟩
def rEqO (K : PySem.W.Frag) (C : Addr) (sp : Sp) (E : XK) (yes : Bool) : R2 := fun x y H Q => ∃ a, x = .ref a ∧ OAt C H a ∧ Side K C H y ∧ sp [.ref a, y] H (fun u H' => ∃ b, u = .bl b ∧ Q (.bl (if yes then b else !b)) H') E
/-- o == y -/
theorem op_eqO (M : OMeth X.K C "__eq__" g) (F : FnR X.prog X.w X.K X.mg X.base CX k g sp) (hr : Room k X.A) (hx : Passes CX X E) : OpR X (compareOp .Eq) (rEqO X.K C sp E true) := by
  intro pins s σ H x y v u Q I rx ry h
  obtain ⟨a, rfl, ha, hy, q⟩ := h
  obtain rfl : v = Value.ref a := rx
  obtain ⟨ox, od, J⟩ := OAt.inst I ha
  obtain ⟨m, fr⟩ := I.fr
  obtain ⟨t, ht, hn⟩ := Side.looks I ry hy
  refine PySem.W.cmp_K (op := .Eq) hr.units0 fr I.ok.mod.kin J ht hn M.at_ M.fn (wpAny_mono (run_deep F hr I.env0 hx I (.cons (rv_ref _) (.cons ry .nil)) q) (fun w1 s1 got => ?_) fun _ _ z => z)
  obtain ⟨v1, H1, I1, r1, b, rfl, q1⟩ := got
  obtain rfl : w1 = Value.bool b := r1
  exact ⟨.bl b, H1, I1, rfl, q1⟩
/-- o != y -/
theorem op_neO (M : OMeth X.K C "__eq__" g) (hm : PySem.W.mroIn X.K C (.type "object") = some true) (hne : PySem.W.findIn X.K (.ref C) "__ne__" = some (some (.builtin "object.__ne__"))) (F : FnR X.prog X.w X.K X.mg X.base CX k g sp) (hr : Room (k + 1) X.A)
    (hx : Passes CX X E) : OpR X (compareOp .NotEq) (rEqO X.K C sp E false) := by
  intro pins s σ H x y v u Q I rx ry h
  obtain ⟨a, rfl, ha, hy, q⟩ := h
  obtain rfl : v = Value.ref a := rx
  obtain ⟨ox, od, J⟩ := OAt.inst I ha
  obtain ⟨t, ht, hn⟩ := Side.looks I ry hy
  have hu : X.A.units + 1 < cLine := hu_of hr
  refine ne_road hu I.kIn J ht hn hm hne M.at_ M.fn (wpAny_mono (run_deep F hr.in1 I.env0.in1 hx I (.cons (rv_ref _) (.cons ry .nil)) q) (fun w1 s1 got => ?_) fun _ _ z => z)
  obtain ⟨v1, H1, I1, r1, b, rfl, q1⟩ := got
  obtain rfl : w1 = Value.bool b := r1
  exact ⟨b, rfl, .bl !b, H1, I1, rfl, q1⟩
end
end QN

/-! own classes by Python's signs: + and the like -/
namespace QN
open PySem PySem.Spec PyProof.Rows L2
section
variable {prog : Program} {w : World} {A : Around} {E : Value → Shared → Prop} {s : Shared} {K : PySem.W.Frag} {x y C f : Addr} {ox oy : Obj} {od oe : Option Obj}
/-- o op p, both of one own class -/
theorem bin_same {op : Operator} {Q : Value → Shared → Prop} (KX : K.In s.heap) (I : PySem.W.InstAt s.heap x ox C od) (J : PySem.W.InstAt s.heap y oy C oe) (hc : PySem.W.selfFirst K C = true)
    (hs : PySem.W.findIn K (.ref C) (PySem.dunder op.info.2) = some (some (.ref f))) (hf : PySem.W.isFn K (.ref f) = true)
    (h : wpAny (model prog w) A (call (.ref f) [.ref x, .ref y]) (PySem.W.CmpBack Q) E s) : wpAny (model prog w) A (binaryOp op (.ref x) (.ref y)) Q E s := by
  obtain ⟨cd, rest, hcd, hm⟩ := PySem.W.ksp_first hc
  rcases hi : op.info with ⟨sym, nm'⟩
  rw [hi] at hs
  dsimp only at hs
  have tried := PySem.W.ksp_try KX I hs hf h
  have lx : PySem.W.Looks (model prog w) s.heap (typeOf (.ref x)) (.ref C) := I.type
  have ly : PySem.W.Looks (model prog w) s.heap (typeOf (.ref y)) (.ref C) := J.type
  have lf : PySem.W.Looks (model prog w) s.heap (fillsNumberSlot (.ref C) nm') true := PySem.W.fills_K KX hcd hm hs
  simp only [binaryOp, hi]
  refine wpAny_holding (wpAny_bind ?_)
  unfold binaryOp1
  refine wpAny_bind (lx.here (wpAny_bind (ly.here (wpAny_bind (lf.here ?_)))))
  simp only [beq_self_eq_true, if_true]
  refine wpAny_bind (wpAny_pure ?_)
  simp only [Bool.and_false, Bool.false_eq_true, if_false, Bool.false_and, if_true]
  refine wpAny_bind (wpAny_pure ?_)
  simp only [Bool.and_false, Bool.false_eq_true, if_false, Bool.false_and, if_true]
  exact wpAny_bind (wpAny_mono tried (fun r s' ⟨v, e, q⟩ => by subst e; exact wpAny_pure (wpAny_pure q)) fun _ _ z => z)
end
section
variable {X : Cx} {CX : CXT} {k : Nat} {C g : Addr} {sp : Sp} {E : XK}
/-- what a sign gives back: no NotImplemented stands among the values told -/
theorem back_ok {pins : List (Addr × Obj)} {σ : L2.St} {Q : VK} {u : Value} {s' : Shared} (h : EP X pins σ Q u s') : PySem.W.CmpBack (fun w s'' => EP X pins σ Q w s'') u s' := by
  obtain ⟨v, H1, I1, r1, q1⟩ := h
  cases u with
  | notImplemented => cases v <;> first | (obtain ⟨_, z⟩ := r1; cases z; done) | (cases r1; done) | exact r1.elim
  | _ => exact ⟨v, H1, I1, r1, q1⟩
def rBinO (C : Addr) (sp : Sp) (E : XK) : R2 := fun x y H Q => ∃ a b, x = .ref a ∧ y = .ref b ∧ OAt C H a ∧ OAt C H b ∧ sp [.ref a, .ref b] H Q E
/-- o + p and the like, both of one own class -/
theorem op_binO {op : Operator} (hc : PySem.W.selfFirst X.K C = true) (M : OMeth X.K C (PySem.dunder op.info.2) g) (F : FnR X.prog X.w X.K X.mg X.base CX k g sp) (hr : Room k X.A) (hx : Passes CX X E) : OpR X (binaryOp op) (rBinO C sp E) := by
  intro pins s σ H x y v u Q I rx ry h
  obtain ⟨a, b, rfl, rfl, ha, hb, q⟩ := h
  obtain rfl : v = Value.ref a := rx
  obtain rfl : u = Value.ref b := ry
  obtain ⟨ox, od, J⟩ := OAt.inst I ha
  obtain ⟨oy, oe, J2⟩ := OAt.inst I hb
  exact bin_same I.kIn J J2 hc M.at_ M.fn (wpAny_mono (run_deep F hr I.env0 hx I (.cons (rv_ref _) (.cons (rv_ref _) .nil)) q) (fun w1 s1 got => back_ok got) fun _ _ z => z)
end
end QN

/-! own classes by Python's signs: 3 + o and the like -/
namespace QN
open PySem PySem.Spec PyProof.Rows L2
theorem int_add_own (a : Int) (t : Tok) (l : Addr) (c : Value) (dd : Option Addr) (sl : Array (Option Value)) :
    Meets (Builtin.«int.__add__» ⟨[.int a t, .ref l], []⟩) (fun _ R s => s.heap.get? l = some { cls := c, dict := dd, data := .plain, slots := sl } ∧ R (.ok (.ret Value.notImplemented)) s) :=
  .of_wp fun prog w A R s h => by
    obtain ⟨hp, g, d, tk, os⟩ := s
    obtain ⟨there, h⟩ := h
    wp_walk using wpAny_loadPart' there
    exact ⟨_, rfl, h⟩
theorem int_mul_own (a : Int) (t : Tok) (l : Addr) (c : Value) (dd : Option Addr) (sl : Array (Option Value)) :
    Meets (Builtin.«int.__mul__» ⟨[.int a t, .ref l], []⟩) (fun _ R s => s.heap.get? l = some { cls := c, dict := dd, data := .plain, slots := sl } ∧ R (.ok (.ret Value.notImplemented)) s) :=
  .of_wp fun prog w A R s h => by
    obtain ⟨hp, g, d, tk, os⟩ := s
    obtain ⟨there, h⟩ := h
    wp_walk using wpAny_loadPart' there
    exact ⟨_, rfl, h⟩
section
variable {prog : Program} {w : World} {A : Around} {E : Value → Shared → Prop} {s : Shared} {K : PySem.W.Frag} {y C f f0 : Addr} {oy : Obj} {oe : Option Obj}
/-- n op o: the number lets it be, the class's reflected method is asked -/
theorem bin_refl {op : Operator} {n : Int} {t : Tok} {fo ro : Option Value} {Q : Value → Shared → Prop} (KX : K.In s.heap) (J : PySem.W.InstAt s.heap y oy C oe) (hc : PySem.W.selfFirst K C = true)
    (hs : PySem.W.findIn K (.ref C) (PySem.dunder op.info.2) = some (some (.ref f0))) (hr : PySem.W.findIn K (.ref C) (dunderR op.info.2) = some (some (.ref f))) (hf : PySem.W.isFn K (.ref f) = true)
    (h1 : PySem.W.findIn K (.type "int") (PySem.dunder op.info.2) = some fo) (h2 : PySem.W.findIn K (.type "int") (dunderR op.info.2) = some ro) (hl : ((fo.isSome && !isSeqSlot fo) || (ro.isSome && !isSeqSlot ro)) = true)
    (hsub : PySem.W.subIn K (.ref C) (.type "int") = some false) (first_ : wpAny (model prog w) A (tryMethod (.int n t) (PySem.dunder op.info.2) (.ref y)) (fun r s' => r = none ∧ s' = s) E s)
    (h : wpAny (model prog w) A (call (.ref f) [.ref y, .int n t]) (PySem.W.CmpBack Q) E s) : wpAny (model prog w) A (binaryOp op (.int n t) (.ref y)) Q E s := by
  obtain ⟨cd, rest, hcd, hm⟩ := PySem.W.ksp_first hc
  rcases hi : op.info with ⟨sym, nm'⟩
  rw [hi] at hs hr h1 h2 first_
  dsimp only at hs hr h1 h2 first_
  have tried := PySem.W.ksp_try KX J hr hf h
  have lx : PySem.W.Looks (model prog w) s.heap (typeOf (.int n t)) (.type "int") := PySem.W.Looks.of_pure rfl
  have ly : PySem.W.Looks (model prog w) s.heap (typeOf (.ref y)) (.ref C) := J.type
  have lf : PySem.W.Looks (model prog w) s.heap (fillsNumberSlot (.ref C) nm') true := PySem.W.fills_K KX hcd hm hs
  have li : PySem.W.Looks (model prog w) s.heap (fillsNumberSlot (.type "int") nm') true := by
    rw [← hl]
    exact PySem.W.ksp_fillsT KX h1 h2
  have lp : PySem.W.Looks (model prog w) s.heap (numberSlotInPython (.type "int") nm') false := PySem.W.Looks.of_pure rfl
  have ls : PySem.W.Looks (model prog w) s.heap (isSubtype (.ref C) (.type "int")) false := PySem.W.looks_subIn KX hsub
  have diff : (Value.type "int" == Value.ref C) = false := Bool.eq_false_iff.mpr fun q => by cases beq_iff_eq.mp q
  simp only [binaryOp, hi]
  refine wpAny_holding (wpAny_bind ?_)
  unfold binaryOp1
  refine wpAny_bind (lx.here (wpAny_bind (ly.here (wpAny_bind (li.here ?_)))))
  simp only [diff, Bool.false_eq_true, if_false]
  refine wpAny_bind (lf.here ?_)
  simp only [Bool.and_self, if_true, Bool.not_false, Bool.and_true]
  refine wpAny_bind (ls.here ?_)
  simp only [Bool.false_eq_true, if_false]
  refine wpAny_bind (wpAny_pure ?_)
  simp only [Bool.false_eq_true, if_false, Bool.not_false, if_true, Bool.and_true]
  refine wpAny_bind (wpAny_mono first_ (fun r s' ⟨e1, e2⟩ => ?_) fun _ _ z => z)
  subst e1 e2
  exact wpAny_bind (wpAny_mono tried (fun r s' ⟨v, e, q⟩ => by subst e; exact wpAny_bind (wpAny_rule (wpAny_pure (wpAny_pure q)))) fun _ _ z => z)
end
section
variable {X : Cx} {CX : CXT} {k : Nat} {C g f0 : Addr} {sp : Sp} {E : XK}
/-- what is asked of a class beside ints -/
structure BesideInt (K : PySem.W.Frag) (C : Addr) (nm : String) : Prop where
  first : PySem.W.selfFirst K C = true
  below : PySem.W.subIn K (.ref C) (.type "int") = some false
  above : PySem.W.subIn K (.type "int") (.ref C) = some false
  at_ : ∃ fo, PySem.W.findIn K (.type "int") (PySem.dunder nm) = some fo ∧ ∃ ro, PySem.W.findIn K (.type "int") (dunderR nm) = some ro ∧ ((fo.isSome && !isSeqSlot fo) || (ro.isSome && !isSeqSlot ro)) = true
def rReflO (C : Addr) (sp : Sp) (E : XK) : R2 := fun x y H Q => ∃ (n : Int) (b : Addr), x = .int n ∧ y = .ref b ∧ OAt C H b ∧ sp [.ref b, .int n] H Q E
theorem refl_run {op : Operator} {id : String} {B : Builtin} (slot : Slot "int" (PySem.dunder op.info.2) id) (entry : entryFor table id = some B) (args : ∀ a b, argsOk id ⟨[a, b], []⟩)
    (lets : ∀ (a : Int) (t : Tok) (l : Addr) (c : Value) (dd : Option Addr) (sl : Array (Option Value)), Meets (B ⟨[.int a t, .ref l], []⟩) (fun _ R s => s.heap.get? l = some { cls := c, dict := dd, data := .plain, slots := sl } ∧ R (.ok (.ret Value.notImplemented)) s))
    (T : BesideInt X.K C op.info.2) (M0 : OMeth X.K C (PySem.dunder op.info.2) f0) (M : OMeth X.K C (dunderR op.info.2) g) (F : FnR X.prog X.w X.K X.mg X.base CX k g sp) (hr : Room k X.A) (hx : Passes CX X E) : OpR X (binaryOp op) (rReflO C sp E) := by
  intro pins s σ H x y v u Q I rx ry h
  obtain ⟨n, b, rfl, rfl, hb, q⟩ := h
  obtain ⟨t, rfl⟩ := (show ∃ t, v = Value.int n t from rx)
  obtain rfl : u = Value.ref b := ry
  obtain ⟨⟨cls, dd, data, sl⟩, oe, J, hd⟩ := StX.insC_at I (.inr hb)
  simp only at hd
  subst hd
  obtain ⟨fo, h1, ro, h2, hl⟩ := T.at_
  refine bin_refl I.kIn J T.first M0.at_ M.at_ M.fn h1 h2 hl T.below (wpAny_tryMethod_declines (typeIs_int s n t) slot (call_meets slot (typeIs_int s n t) entry (args _ _) (lets n t b cls dd sl) ⟨J.at_, rfl, rfl, rfl⟩)) ?_
  exact wpAny_mono (run_deep F hr I.env0 hx I (.cons (rv_ref _) (.cons (show L2.RelV (.int n) (.int n t) from ⟨_, rfl⟩) .nil)) q) (fun w1 s1 got => back_ok got) fun _ _ z => z
/-- n + o -/
theorem op_raddO (T : BesideInt X.K C "add") (M0 : OMeth X.K C "__add__" f0) (M : OMeth X.K C "__radd__" g) (F : FnR X.prog X.w X.K X.mg X.base CX k g sp) (hr : Room k X.A) (hx : Passes CX X E) : OpR X (binaryOp .Add) (rReflO C sp E) :=
  refl_run (op := .Add) PySem.F.slot_int_add PySem.F.entry_int_add (fun a b => PySem.F.args_int_add_2 a b) int_add_own T M0 M F hr hx
/-- n * o -/
theorem op_rmulO (T : BesideInt X.K C "mul") (M0 : OMeth X.K C "__mul__" f0) (M : OMeth X.K C "__rmul__" g) (F : FnR X.prog X.w X.K X.mg X.base CX k g sp) (hr : Room k X.A) (hx : Passes CX X E) : OpR X (binaryOp .Mult) (rReflO C sp E) :=
  refl_run (op := .Mult) PySem.F.slot_int_mul PySem.F.entry_int_mul (fun a b => PySem.F.args_int_mul_2 a b) int_mul_own T M0 M F hr hx
def rBinI (C : Addr) (sp : Sp) (E : XK) : R2 := fun x y H Q => ∃ (a : Addr) (n : Int), x = .ref a ∧ y = .int n ∧ OAt C H a ∧ sp [.ref a, .int n] H Q E
/-- o + n and the like -/
theorem op_binI {op : Operator} {rc : Option Value} (T : BesideInt X.K C op.info.2) (M : OMeth X.K C (PySem.dunder op.info.2) g) (hr0 : PySem.W.findIn X.K (.ref C) (dunderR op.info.2) = some rc) (hp : rc = none ∨ ∃ g' : Addr, rc = some (.ref g'))
    (F : FnR X.prog X.w X.K X.mg X.base CX k g sp) (hr : Room k X.A) (hx : Passes CX X E) : OpR X (binaryOp op) (rBinI C sp E) := by
  intro pins s σ H x y v u Q I rx ry h
  obtain ⟨a, n, rfl, rfl, ha, q⟩ := h
  obtain rfl : v = Value.ref a := rx
  obtain ⟨t, rfl⟩ := (show ∃ t, u = Value.int n t from ry)
  obtain ⟨ox, od, J⟩ := OAt.inst I ha
  obtain ⟨m, fr⟩ := I.fr
  obtain ⟨fo, h1, ro, h2, _⟩ := T.at_
  exact PySem.W.ksp_binT fr I.ok.mod.kin J (T := "int") rfl T.first M.at_ M.fn hr0 hp h1 h2 T.above (wpAny_mono (run_deep F hr I.env0 hx I (.cons (rv_ref _) (.cons (show L2.RelV (.int n) (.int n t) from ⟨_, rfl⟩) .nil)) q) (fun w1 s1 got => back_ok got) fun _ _ z => z)
end
end QN

/-! all that is known of the class, in one -/
namespace Qp
open PySem PySem.Spec PyProof.Rows L2 QN
structure Kt (P : Program) (w : World) (K : PySem.W.Frag) (mg : Str → Option Value) (base : Heap) (C : Addr) where
  T : PolyC K mg C
  O : PolyO K C
  fI : Addr
  M : Mk K C fI
  GI : FnR P w K mg base CX0 3 fI (spInit K C)
  CR : ClX.CRead K C (.type "type")
  pO : Addr
  fO : Addr
  CM : ClX.CMet K C (.type "type") "of" pO fO
  GO : FnR P w K mg base CX0 5 fO (spOf K C)
  pC : Addr
  fC : Addr
  PC : PropOf K C "coefficients" pC fC
  fdC : FuncData
  GC : FnOk P w K mg base CX0 1 fC fdC ["self"] (spCo K C)
  bC : L2.Binds K fdC ["self"] []
  pD : Addr
  fD : Addr
  PD : PropOf K C "degree" pD fD
  fdD : FuncData
  GD : FnOk P w K mg base CX0 1 fD fdD ["self"] (spDeg K C)
  bD : L2.Binds K fdD ["self"] []
  fCl : Addr
  CO : StX.CallO K C fCl
  GCl : FnR P w K mg base CX0 4 fCl (spCl K C)
  fG : Addr
  MG : OMeth K C "__getitem__" fG
  iG : PySem.W.fnIn K fG = true
  GG : FnR P w K mg base CX0 3 fG (spGet K C)
  fIt : Addr
  fdIt : FuncData
  MIt : OMeth K C "__iter__" fIt
  GIt : FnN P w K mg base 1 fIt fdIt ["self"] (spIterT (itsPoly K C))
  bIt : L2.Binds K fdIt ["self"] []
  fL : Addr
  ML : OMeth K C "__len__" fL
  GL : FnR P w K mg base CX0 1 fL (spLen K C)
  fB : Addr
  MB : OMeth K C "__bool__" fB
  GB : FnR P w K mg base CX0 1 fB (spBool K C)
  fE : Addr
  ME : OMeth K C "__eq__" fE
  GE : FnR P w K mg base CX0 1 fE (spEq K C)
  ne : PySem.W.findIn K (.ref C) "__ne__" = some (some (.builtin "object.__ne__"))
  fS : Addr
  MS : OMeth K C "__str__" fS
  GS : FnR P w K mg base CX0 3 fS (spStr K C)
  fA : Addr
  MA : OMeth K C "__add__" fA
  GA : FnR P w K mg base CX0 5 fA (spBin sumZ K C)
  fRA : Addr
  MRA : OMeth K C "__radd__" fRA
  GRA : FnR P w K mg base CX0 5 fRA (spBin sumZ K C)
  fM : Addr
  MM : OMeth K C "__mul__" fM
  GM : FnR P w K mg base CX0 5 fM (spBin prodZ K C)
  fRM : Addr
  MRM : OMeth K C "__rmul__" fRM
  GRM : FnR P w K mg base CX0 5 fRM (spBin prodZ K C)
  fP : Addr
  MP : OMeth K C "__pow__" fP
  GP : FnR P w K mg base CX0 5 fP (spPow K C)
  fAt : Addr
  MAt : Meth K C "at" fAt
  GAt : FnR P w K mg base CX0 5 fAt (spAt K C)
  sf : PySem.W.selfFirst K C = true
  BA : BesideInt K C "add"
  BM : BesideInt K C "mul"
  BP : BesideInt K C "pow"
  noRP : PySem.W.findIn K (.ref C) "__rpow__" = some none
  sd : ∀ T : String, T ∈ ["int", "NoneType", "str", "list", "tuple"] → PySem.W.subIn K (.type T) (.ref C) = some false
  kt : ∀ T : String, T ∈ ["int", "NoneType", "str", "list", "tuple"] → PySem.W.kitOne K (.type T) (.ref C) = some false
structure BltV (mg : Str → Option Value) : Prop where
  P : BltP mg
  two : Blt2 mg
  s : BltS mg
  str : mg "str" = none
  min : mg "min" = none
theorem polyAt_O {K : PySem.W.Frag} {C : Addr} {H : Hp} {p : Addr} {ns : List Int} (h : PolyAt K C H p ns) : OAt C H p := by
  obtain ⟨dx, t, h1, _⟩ := h
  exact ⟨dx, _, h1⟩
theorem polyAt_ne {K : PySem.W.Frag} {C : Addr} {H : Hp} {p q : Addr} {ns : List Int} {l : List V} (h : PolyAt K C H p ns) (hq : H q = some (.lst l)) : p ≠ q := fun c => by
  obtain ⟨dx, t, h1, _⟩ := h
  rw [c, hq] at h1
  cases h1
theorem polyAt_but {K : PySem.W.Frag} {C : Addr} {H H' : Hp} {p q : Addr} {ns : List Int} {l : List V} (b : But q H H') (hq : H q = some (.lst l)) (h : PolyAt K C H p ns) : PolyAt K C H' p ns := by
  have ne := polyAt_ne h hq
  obtain ⟨dx, t, h1, h2⟩ := h
  refine ⟨dx, t, b _ _ ne h1, ?_⟩
  rcases h2 with (h2 | ⟨o, h2⟩) | h2
  · exact .inl (.inl (b _ _ (fun c => by rw [c, hq] at h2; cases h2) h2))
  · exact .inl (.inr ⟨o, b _ _ (fun c => by rw [c, hq] at h2; cases h2) h2⟩)
  · exact .inr h2
end Qp

/-! values of sums, products, powers, and of one at another one -/
namespace Qp
open PySem PySem.Spec PyProof.Rows L2 QN
theorem co_cons0 (c : Int) (ns : List Int) : co (c :: ns) 0 = c := rfl
theorem co_consS (c : Int) (ns : List Int) (i : Nat) : co (c :: ns) (i + 1) = co ns i := rfl
theorem val_eqv {a b : List Int} (h : Eqv a b) (n : Int) : val a n = val b n := by
  rw [← val_cut n a, ← val_cut n b, cut_of_eqv h]
theorem co_nil (i : Nat) : co [] i = 0 := co_out (Nat.zero_le i)
theorem val_sum (n : Int) : ∀ a b : List Int, val (sumZ a b) n = val a n + val b n
  | [], b => by
    have h : Eqv (sumZ [] b) b := fun i => by rw [co_sum, co_nil, Int.zero_add]
    rw [val_eqv h]
    show val b n = 0 + val b n
    omega
  | x :: a, [] => by
    have h : Eqv (sumZ (x :: a) []) (x :: a) := fun i => by rw [co_sum, co_nil, Int.add_zero]
    rw [val_eqv h]
    show val (x :: a) n = val (x :: a) n + 0
    omega
  | x :: a, y :: b => by
    have h : Eqv (sumZ (x :: a) (y :: b)) ((x + y) :: sumZ a b) := fun i => by
      rw [co_sum]
      cases i with
      | zero => rfl
      | succ i => rw [co_consS, co_consS, co_consS, co_sum]
    rw [val_eqv h, val_cons, val_cons, val_cons, val_sum n a b, Int.add_mul]
    omega
def sc (c : Int) (b : List Int) : List Int := b.map (c * ·)
theorem co_sc (c : Int) (b : List Int) (i : Nat) : co (sc c b) i = c * co b i := by
  by_cases h : i < b.length
  · unfold sc
    conv => lhs; unfold co
    rw [List.getD_eq_getElem?_getD, List.getElem?_map, co_get h]
    rfl
  · rw [co_out (by unfold sc; rw [List.length_map]; omega), co_out (by omega), Int.mul_zero]
theorem val_sc (c n : Int) : ∀ b : List Int, val (sc c b) n = c * val b n
  | [] => by
    show (0 : Int) = c * 0
    rw [Int.mul_zero]
  | x :: b => by
    show val (c * x :: sc c b) n = _
    rw [val_cons, val_cons, val_sc c n b, Int.mul_add, Int.mul_assoc]
theorem sf_first (f : Nat → Int) : ∀ m, sf f (m + 1) = f 0 + sf (fun i => f (i + 1)) m
  | 0 => by
    rw [sf_succ]
    show 0 + f 0 = f 0 + 0
    omega
  | m + 1 => by
    rw [sf_succ, sf_first f m, sf_succ (fun i => f (i + 1)) m]
    omega
theorem prod_cons (c : Int) (a b : List Int) : Eqv (prodZ (c :: a) b) (sumZ (sc c b) (0 :: prodZ a b)) := fun k => by
  rw [co_sum, co_sc, co_prod]
  unfold cnv
  rw [sf_first]
  have h0 : cf (c :: a) b k 0 = c * co b k := by
    unfold cf
    rw [if_pos (Nat.zero_le k), co_cons0, Nat.sub_zero]
  rw [h0]
  cases k with
  | zero => rfl
  | succ k =>
    rw [co_consS, co_prod]
    unfold cnv
    congr 1
    refine sf_congr fun i hi => ?_
    unfold cf
    rw [if_pos (by omega), if_pos (by omega), co_consS, show k + 1 - (i + 1) = k - i by omega]
theorem val_prod (n : Int) (b : List Int) : ∀ a : List Int, val (prodZ a b) n = val a n * val b n
  | [] => by
    rw [val_eqv (prod_nil b)]
    show (0 : Int) = 0 * val b n
    rw [Int.zero_mul]
  | c :: a => by
    rw [val_eqv (prod_cons c a b), val_sum, val_sc, val_cons, val_cons, val_prod n b a, Int.add_mul, Int.add_zero]
    have e : val a n * n * val b n = val a n * val b n * n := by
      rw [Int.mul_assoc, Int.mul_comm n, ← Int.mul_assoc]
    rw [e]
    omega
theorem val_pow (n : Int) (ns : List Int) : ∀ e, val (powZ ns e) n = val ns n ^ e
  | 0 => by
    rw [Int.pow_zero]
    show 0 * n + 1 = (1 : Int)
    omega
  | e + 1 => by
    show val (prodZ (powZ ns e) ns) n = _
    rw [val_prod, val_pow n ns e, Int.pow_succ]
theorem val_at (n : Int) (fs : List Int) : ∀ ns : List Int, val (atZ fs ns) n = val ns (val fs n)
  | [] => rfl
  | c :: ns => by
    show val (sumZ (prodZ (atZ fs ns) fs) [c]) n = _
    rw [val_sum, val_prod, val_at n fs ns, val_cons, val_cons]
    show val ns (val fs n) * val fs n + (0 * n + c) = val ns (val fs n) * val fs n + c
    omega
/-- the greatest of these numbers -/
theorem val_inj : ∀ (a b : List Int) (B : Int), (∀ c ∈ a, 0 ≤ c ∧ c < B) → (∀ c ∈ b, 0 ≤ c ∧ c < B) → val a B = val b B → Eqv a b
  | [], [], _, _, _, _ => Eqv.refl _
  | [], y :: b, B, ha, hb, e => by
    have hy := hb y List.mem_cons_self
    have hb' : ∀ c ∈ b, 0 ≤ c ∧ c < B := fun c h => hb c (List.mem_cons_of_mem _ h)
    rw [val_cons] at e
    have e' : (0 : Int) = val b B * B + y := e
    have m : y = 0 := by
      have h1 : (val b B * B + y) % B = y := by
        rw [Int.add_comm, Int.add_mul_emod_self_right, Int.emod_eq_of_lt hy.1 hy.2]
      rw [← e', Int.zero_emod] at h1
      exact h1.symm
    have z : val [] B = val b B := by
      have h2 : val b B * B = 0 := by omega
      rcases Int.mul_eq_zero.mp h2 with h3 | h3
      · exact h3.symm
      · omega
    have ih := val_inj [] b B (fun c h => by cases h) hb' z
    intro i
    cases i with
    | zero => rw [co_cons0, m, co_nil]
    | succ i => rw [co_consS, ← ih i, co_nil, co_nil]
  | x :: a, [], B, ha, hb, e => by
    have hx := ha x List.mem_cons_self
    have ha' : ∀ c ∈ a, 0 ≤ c ∧ c < B := fun c h => ha c (List.mem_cons_of_mem _ h)
    rw [val_cons] at e
    have e' : val a B * B + x = 0 := e
    have m : x = 0 := by
      have h1 : (val a B * B + x) % B = x := by
        rw [Int.add_comm, Int.add_mul_emod_self_right, Int.emod_eq_of_lt hx.1 hx.2]
      rw [e', Int.zero_emod] at h1
      exact h1.symm
    have z : val a B = val [] B := by
      have h2 : val a B * B = 0 := by omega
      rcases Int.mul_eq_zero.mp h2 with h3 | h3
      · exact h3
      · omega
    have ih := val_inj a [] B ha' (fun c h => by cases h) z
    intro i
    cases i with
    | zero => rw [co_cons0, m, co_nil]
    | succ i => rw [co_consS, ih i, co_nil, co_nil]
  | x :: a, y :: b, B, ha, hb, e => by
    have hx := ha x List.mem_cons_self
    have hy := hb y List.mem_cons_self
    rw [val_cons, val_cons] at e
    have m : x = y := by
      have h1 : (val a B * B + x) % B = x := by
        rw [Int.add_comm, Int.add_mul_emod_self_right, Int.emod_eq_of_lt hx.1 hx.2]
      have h2 : (val b B * B + y) % B = y := by
        rw [Int.add_comm, Int.add_mul_emod_self_right, Int.emod_eq_of_lt hy.1 hy.2]
      rw [e, h2] at h1
      exact h1.symm
    have z : val a B = val b B := by
      have h2 : (val a B - val b B) * B = 0 := by
        rw [Int.sub_mul]
        omega
      rcases Int.mul_eq_zero.mp h2 with h3 | h3
      · omega
      · omega
    have ih := val_inj a b B (fun c h => ha c (List.mem_cons_of_mem _ h)) (fun c h => hb c (List.mem_cons_of_mem _ h)) z
    intro i
    cases i with
    | zero => rw [co_cons0, co_cons0, m]
    | succ i => rw [co_consS, co_consS, ih i]
end Qp

/-! a polynomial told by its values -/
namespace Qp
/-- the coefficients are known by what they are worth at each natural number: f; the worth at 1 is below 2 ^ M; at most L of them -/
structure Tell (f : Int → Int) (M L : Nat) (ns : List Int) : Prop where
  cut : cutZ ns = ns
  nn : NN ns
  val : ∀ n, val ns n = f n
  one : f 1 < 2 ^ M
  len : ns.length ≤ L
theorem val_one_ge : ∀ {ns : List Int}, NN ns → ∀ c ∈ ns, c ≤ Qp.val ns 1
  | [], _, c, h => by cases h
  | x :: ns, hn, c, h => by
    rw [val_cons]
    have ht : NN ns := fun y hy => hn y (List.mem_cons_of_mem _ hy)
    have h0 := val_nn0 (x := 1) (by decide) ht
    have hx := hn x List.mem_cons_self
    rcases List.mem_cons.mp h with rfl | h
    · omega
    · have := val_one_ge ht c h
      omega
theorem Tell.bd {f : Int → Int} {M L : Nat} {ns : List Int} (T : Tell f M L ns) : Bd M ns := fun c hc =>
  ⟨T.nn c hc, Int.lt_of_le_of_lt (val_one_ge T.nn c hc) (by rw [T.val]; exact T.one)⟩
theorem Tell.f0 {f : Int → Int} {M L : Nat} {ns : List Int} (T : Tell f M L ns) {n : Int} (hn : 0 ≤ n) : 0 ≤ f n := by
  rw [← T.val]
  exact val_nn0 hn T.nn
theorem Tell.mono {f : Int → Int} {M L M' L' : Nat} {ns : List Int} (T : Tell f M L ns) (hM : M ≤ M') (hL : L ≤ L') : Tell f M' L' ns :=
  ⟨T.cut, T.nn, T.val, Int.lt_of_lt_of_le T.one (pow_mono2 hM), Nat.le_trans T.len hL⟩
theorem Tell.to {f g : Int → Int} {M L : Nat} {ns : List Int} (T : Tell f M L ns) (e : ∀ n, f n = g n) : Tell g M L ns :=
  ⟨T.cut, T.nn, fun n => (T.val n).trans (e n), by rw [← e]; exact T.one, T.len⟩
theorem cut_nn {ns : List Int} (h : NN ns) : NN (cutZ ns) := fun c hc => h c (cut_mem hc)
theorem Tell.sum {f g : Int → Int} {M M' L L' : Nat} {as bs : List Int} (A : Tell f M L as) (B : Tell g M' L' bs) : Tell (fun n => f n + g n) (M + M' + 1) (L + L') (cutZ (sumZ as bs)) := by
  refine ⟨cut_cut _, cut_nn (sum_nn A.bd B.bd), fun n => by rw [val_cut, val_sum, A.val, B.val], ?_, ?_⟩
  · have h1 := Int.lt_of_lt_of_le A.one (pow_mono2 (show M ≤ M + M' by omega))
    have h2 := Int.lt_of_lt_of_le B.one (pow_mono2 (show M' ≤ M + M' by omega))
    rw [Int.pow_succ]
    omega
  · have := cut_len (sumZ as bs)
    rw [sum_len] at this
    have := A.len
    have := B.len
    omega
theorem Tell.prod {f g : Int → Int} {M M' L L' : Nat} {as bs : List Int} (A : Tell f M L as) (B : Tell g M' L' bs) : Tell (fun n => f n * g n) (M + M') (L + L') (cutZ (prodZ as bs)) := by
  refine ⟨cut_cut _, cut_nn (prod_nn A.bd B.bd), fun n => by rw [val_cut, val_prod, A.val, B.val], ?_, ?_⟩
  · have h1 := A.one
    have h2 := B.one
    have h3 := A.f0 (n := 1) (by decide)
    have h4 := B.f0 (n := 1) (by decide)
    rw [Int.pow_add]
    have p1 : (0 : Int) < 2 ^ M := Int.pow_pos (by decide)
    have p2 : (0 : Int) < 2 ^ M' := Int.pow_pos (by decide)
    have h5 : f 1 * g 1 ≤ f 1 * (2 ^ M') := Int.mul_le_mul_of_nonneg_left (by omega) h3
    have h6 : f 1 * (2 ^ M') < (2 ^ M) * (2 ^ M') := Int.mul_lt_mul_of_pos_right h1 p2
    show f 1 * g 1 < _
    omega
  · have := cut_len (prodZ as bs)
    rw [prod_len] at this
    have := A.len
    have := B.len
    omega
theorem pow_nn {ns : List Int} {M : Nat} (h : Bd M ns) : ∀ e, ∃ m, Bd m (powZ ns e)
  | 0 => ⟨1, fun c hc => by cases List.mem_singleton.mp hc; decide⟩
  | e + 1 => by
    obtain ⟨m, hm⟩ := pow_nn h e
    have nn : NN (prodZ (powZ ns e) ns) := prod_nn hm h
    exact bd_ex nn
where
  bd_ex : ∀ {l : List Int}, NN l → ∃ m, Bd m l
  | [], _ => ⟨0, fun c h => by cases h⟩
  | x :: l, h => by
    obtain ⟨m, hm⟩ := bd_ex (l := l) fun y hy => h y (List.mem_cons_of_mem _ hy)
    have hx := h x List.mem_cons_self
    have lx : x < 2 ^ (x.toNat) := by
      have h2 := Nat.lt_two_pow_self (n := x.toNat)
      have h3 : ((x.toNat : Nat) : Int) < ((2 ^ x.toNat : Nat) : Int) := Int.ofNat_lt.mpr h2
      rw [Int.toNat_of_nonneg hx] at h3
      simpa using h3
    refine ⟨m + x.toNat, fun c hc => ⟨h c hc, ?_⟩⟩
    rcases List.mem_cons.mp hc with rfl | hc
    · exact Int.lt_of_lt_of_le lx (pow_mono2 (by omega))
    · exact Int.lt_of_lt_of_le (hm c hc).2 (pow_mono2 (by omega))
theorem pow_lenB {ns : List Int} {L : Nat} (hl : ns.length ≤ L) : ∀ e, (powZ ns e).length ≤ e * L + 1
  | 0 => by
    show ([1] : List Int).length ≤ _
    simp
  | e + 1 => by
    show (prodZ (powZ ns e) ns).length ≤ _
    rw [prod_len, Nat.add_mul]
    have := pow_lenB hl e
    omega
theorem pow_lt {x : Int} {M : Nat} (h0 : 0 ≤ x) (h : x < 2 ^ M) : ∀ e : Nat, 0 ≤ x ^ e ∧ x ^ e < 2 ^ (M * e + 1)
  | 0 => by
    rw [Int.pow_zero, Nat.mul_zero]
    decide
  | e + 1 => by
    obtain ⟨h1, h2⟩ := pow_lt h0 h e
    have p1 : (0 : Int) < 2 ^ (M * e + 1) := Int.pow_pos (by decide)
    rw [Int.pow_succ, show M * (e + 1) + 1 = M * e + 1 + M by rw [Nat.mul_add]; omega, Int.pow_add]
    refine ⟨Int.mul_nonneg h1 h0, ?_⟩
    have h5 : x ^ e * x ≤ 2 ^ (M * e + 1) * x := Int.mul_le_mul_of_nonneg_right (by omega) h0
    have h6 : 2 ^ (M * e + 1) * x < 2 ^ (M * e + 1) * 2 ^ M := Int.mul_lt_mul_of_pos_left h p1
    omega
theorem Tell.pow {f : Int → Int} {M L : Nat} {as : List Int} (A : Tell f M L as) (e : Nat) : Tell (fun n => f n ^ e) (M * e + 1) (e * L + 1) (cutZ (powZ as e)) := by
  obtain ⟨m, hm⟩ := pow_nn A.bd e
  refine ⟨cut_cut _, cut_nn fun c hc => (hm c hc).1, fun n => by rw [val_cut, val_pow, A.val], (pow_lt (A.f0 (by decide)) A.one e).2, Nat.le_trans (cut_len _) (pow_lenB A.len e)⟩
theorem at_nn {fs : List Int} {M : Nat} (h : Bd M fs) : ∀ {ns : List Int}, NN ns → NN (atZ fs ns)
  | [], _ => fun c hc => by cases hc
  | c :: ns, hn => by
    have ih := at_nn h (ns := ns) fun y hy => hn y (List.mem_cons_of_mem _ hy)
    obtain ⟨m, hm⟩ := pow_nn.bd_ex ih
    have h2 : NN (prodZ (atZ fs ns) fs) := prod_nn hm h
    obtain ⟨m2, hm2⟩ := pow_nn.bd_ex h2
    have h3 : NN [c] := fun y hy => by cases List.mem_singleton.mp hy; exact hn _ List.mem_cons_self
    obtain ⟨m3, hm3⟩ := pow_nn.bd_ex h3
    exact sum_nn hm2 hm3
theorem at_lenB {fs : List Int} {L : Nat} (hf : fs.length ≤ L) : ∀ ns : List Int, (atZ fs ns).length ≤ ns.length * L + 1
  | [] => by
    show 0 ≤ _
    omega
  | c :: ns => by
    show (sumZ (prodZ (atZ fs ns) fs) [c]).length ≤ _
    rw [sum_len, prod_len]
    have := at_lenB hf ns
    simp only [List.length_cons, List.length_nil, Nat.add_mul]
    omega
/-- a value at x is at most the value at 1 and x times for each place -/
theorem val_le_one {x : Int} {M : Nat} (h0 : 0 ≤ x) (hx : x < 2 ^ M) : ∀ {ns : List Int}, NN ns → Qp.val ns x ≤ Qp.val ns 1 * 2 ^ (ns.length * M)
  | [], _ => by
    show (0 : Int) ≤ 0 * _
    rw [Int.zero_mul]
    exact Int.le_refl 0
  | c :: ns, h => by
    have ht : NN ns := fun y hy => h y (List.mem_cons_of_mem _ hy)
    have ih := val_le_one h0 hx ht
    have hc := h c List.mem_cons_self
    have v1 := val_nn0 (x := 1) (by decide) ht
    have vx := val_nn0 h0 ht
    rw [val_cons, val_cons, List.length_cons, Nat.add_mul, Nat.one_mul, Int.pow_add, Int.mul_one, Int.add_mul]
    have p1 : (0 : Int) < 2 ^ (ns.length * M) := Int.pow_pos (by decide)
    have p2 : (0 : Int) < 2 ^ M := Int.pow_pos (by decide)
    have h1 : Qp.val ns x * x ≤ Qp.val ns x * 2 ^ M := Int.mul_le_mul_of_nonneg_left (by omega) vx
    have h2 : Qp.val ns x * 2 ^ M ≤ Qp.val ns 1 * 2 ^ (ns.length * M) * 2 ^ M := Int.mul_le_mul_of_nonneg_right ih (by omega)
    have h3 : 1 ≤ (2 : Int) ^ (ns.length * M) * 2 ^ M := Int.mul_pos p1 p2
    have h4 : c * 1 ≤ c * ((2 : Int) ^ (ns.length * M) * 2 ^ M) := Int.mul_le_mul_of_nonneg_left h3 hc
    rw [Int.mul_one] at h4
    rw [Int.mul_assoc] at h2
    omega
theorem Tell.at {f g : Int → Int} {M M' L L' : Nat} {as bs : List Int} (A : Tell f M L as) (B : Tell g M' L' bs) : Tell (fun n => f (g n)) (M + L * M') (L * L' + 1) (cutZ (atZ bs as)) := by
  refine ⟨cut_cut _, cut_nn (at_nn B.bd A.nn), fun n => by rw [val_cut, val_at, B.val, A.val], ?_, ?_⟩
  · have g0 := B.f0 (n := 1) (by decide)
    have h1 := val_le_one g0 B.one A.nn
    rw [A.val, A.val] at h1
    show f (g 1) < _
    refine Int.lt_of_le_of_lt h1 ?_
    rw [Int.pow_add]
    have p1 : (0 : Int) < 2 ^ (as.length * M') := Int.pow_pos (by decide)
    have h2 : f 1 * 2 ^ (as.length * M') < 2 ^ M * 2 ^ (as.length * M') := Int.mul_lt_mul_of_pos_right A.one p1
    have h3 : (2 : Int) ^ (as.length * M') ≤ 2 ^ (L * M') := pow_mono2 (Nat.mul_le_mul_right _ A.len)
    have h4 : (2 : Int) ^ M * 2 ^ (as.length * M') ≤ 2 ^ M * 2 ^ (L * M') := Int.mul_le_mul_of_nonneg_left h3 (Int.le_of_lt (Int.pow_pos (by decide)))
    omega
  · refine Nat.le_trans (cut_len _) (Nat.le_trans (at_lenB B.len as) ?_)
    have := Nat.mul_le_mul_right L' A.len
    omega
/-- two that are worth the same are the same -/
theorem Tell.eq {f g : Int → Int} {M M' L L' : Nat} {as bs : List Int} (A : Tell f M L as) (B : Tell g M' L' bs) (e : ∀ n, f n = g n) : as = bs := by
  have h := val_inj as bs (2 ^ (M + M')) (fun c hc => ⟨(A.bd c hc).1, Int.lt_of_lt_of_le (A.bd c hc).2 (pow_mono2 (by omega))⟩) (fun c hc => ⟨(B.bd c hc).1, Int.lt_of_lt_of_le (B.bd c hc).2 (pow_mono2 (by omega))⟩) (by rw [A.val, B.val, e])
  rw [← A.cut, ← B.cut]
  exact cut_of_eqv h
/-- equal at a base that is greater than all of them: equal -/
theorem eq_at_base {as bs : List Int} {M : Nat} {B : Int} (ha : Bd M as) (hb : Bd M bs) (ca : cutZ as = as) (cb : cutZ bs = bs) (hB : 2 ^ M ≤ B) : decide (as = bs) = decide (val as B = val bs B) := by
  by_cases c : as = bs
  · subst c
    simp
  · rw [decide_eq_false c, eq_comm, decide_eq_false_iff_not]
    intro e
    refine c ?_
    rw [← ca, ← cb]
    exact cut_of_eqv (val_inj as bs B (fun c hc => ⟨(ha c hc).1, Int.lt_of_lt_of_le (ha c hc).2 hB⟩) (fun c hc => ⟨(hb c hc).1, Int.lt_of_lt_of_le (hb c hc).2 hB⟩) e)
/-- the digits at such a base: one step -/
theorem dig_step {c B : Int} {ns : List Int} (h0 : 0 ≤ c) (h1 : c < B) : val (c :: ns) B % B = c ∧ val (c :: ns) B / B = val ns B := by
  rw [val_cons]
  constructor
  · rw [Int.add_comm, Int.add_mul_emod_self_right, Int.emod_eq_of_lt h0 h1]
  · rw [Int.add_comm, Int.add_mul_ediv_right _ _ (by omega), Int.ediv_eq_zero_of_lt h0 h1, Int.zero_add]
theorem dig_pos {B : Int} (hB : 1 ≤ B) {x : Int} (hx : 1 ≤ x) : ∀ {r : List Int}, NN r → 1 ≤ val (r ++ [x]) B
  | [], _ => by
    show 1 ≤ 0 * B + x
    omega
  | c :: r, h => by
    rw [List.cons_append, val_cons]
    have h1 := dig_pos hB hx (r := r) fun y hy => h y (List.mem_cons_of_mem _ hy)
    have h2 := h c List.mem_cons_self
    have h3 : 1 * 1 ≤ val (r ++ [x]) B * B := Int.mul_le_mul h1 hB (by decide) (by omega)
    omega
/-- of one without zeros at the end: what is left behind i is worth 0 only at its end -/
theorem dig_left {ns : List Int} {B : Int} (hB : 1 ≤ B) (hn : NN ns) (hc : cutZ ns = ns) {i : Nat} (hi : i < ns.length) : 0 < val (ns.drop i) B := by
  rcases cut_last ns with e | ⟨r, x, e, nx⟩
  · rw [hc] at e
    rw [e] at hi
    exact absurd hi (Nat.not_lt_zero _)
  · rw [hc] at e
    subst e
    have hx := hn x (by simp)
    rw [List.length_append, List.length_singleton] at hi
    rw [List.drop_append_of_le_length (by omega)]
    exact dig_pos hB (by omega) fun y hy => hn y (List.mem_append_left _ (List.mem_of_mem_drop hy))
/-- a value is at least what any place tells -/
theorem val_strict {ns : List Int} (hn : NN ns) (hc : cutZ ns = ns) (hl : 2 ≤ ns.length) {a b : Int} (h0 : 0 ≤ a) (h : a < b) : val ns a < val ns b := by
  rcases cut_last ns with e | ⟨r, x, e, nx⟩
  · rw [hc] at e
    rw [e] at hl
    exact absurd hl (by decide)
  · rw [hc] at e
    subst e
    have hx := hn x (by simp)
    cases r with
    | nil => exact absurd hl (by simp)
    | cons c r =>
      have hr : NN r := fun y hy => hn y (by simp [hy])
      have key : ∀ {r : List Int}, NN r → val (r ++ [x]) a ≤ val (r ++ [x]) b := fun {r} hr => by
        induction r with
        | nil => exact Int.le_of_eq (show 0 * a + x = 0 * b + x by omega)
        | cons d r ih =>
          have ih := ih fun y hy => hr y (List.mem_cons_of_mem _ hy)
          have hp : NN (r ++ [x]) := fun y hy => by
            rcases List.mem_append.mp hy with hy | hy
            · exact hr y (List.mem_cons_of_mem _ hy)
            · rw [List.mem_singleton.mp hy]; exact hx
          have v0 := val_nn0 h0 hp
          rw [List.cons_append, val_cons, val_cons]
          have h2 : val (r ++ [x]) a * a ≤ val (r ++ [x]) b * b := Int.mul_le_mul ih (by omega) h0 (Int.le_trans v0 ih)
          omega
      have k := key hr
      have p := dig_pos (B := b) (by omega) (x := x) (by omega) hr
      rw [List.cons_append, val_cons, val_cons]
      have h2 : val (r ++ [x]) a * a ≤ val (r ++ [x]) b * a := Int.mul_le_mul_of_nonneg_right k h0
      have h3 : val (r ++ [x]) b * a < val (r ++ [x]) b * b := Int.mul_lt_mul_of_pos_left h (by omega)
      omega
theorem mul_len {c : Int} {ms : List Int} (hc : 0 < c) (hn : NN ms) (hm : cutZ ms = ms) (hv : ∀ n, val (prodZ [c] ms) n = c * val ms n) (hnn : NN (cutZ (prodZ [c] ms))) : (cutZ (prodZ [c] ms)).length = ms.length := by
  have nz : NN (sc c ms) := fun y hy => by
    obtain ⟨z, hz, rfl⟩ := List.mem_map.mp hy
    exact Int.mul_nonneg (by omega) (hn z hz)
  have cz : cutZ (sc c ms) = sc c ms := by
    rcases cut_last ms with e | ⟨r, x, e, nx⟩
    · rw [hm] at e
      subst e
      rfl
    · rw [hm] at e
      subst e
      unfold sc
      rw [List.map_append]
      exact cutZ_snoc _ (by
        intro z
        rcases Int.mul_eq_zero.mp z with z | z
        · omega
        · exact nx z)
  have vs : ∀ n, val (sc c ms) n = c * val ms n := fun n => by
    clear cz nz hm hv hnn
    induction ms with
    | nil => show (0 : Int) = c * 0; rw [Int.mul_zero]
    | cons x ms ih =>
      show val (c * x :: sc c ms) n = _
      rw [val_cons, val_cons, ih fun y hy => hn y (List.mem_cons_of_mem _ hy), Int.mul_add, Int.mul_assoc]
  obtain ⟨m1, b1⟩ := pow_nn.bd_ex nz
  obtain ⟨m2, b2⟩ := pow_nn.bd_ex hnn
  have e := val_inj _ _ (2 ^ (m1 + m2)) (fun c hc => ⟨(b2 c hc).1, Int.lt_of_lt_of_le (b2 c hc).2 (pow_mono2 (show m2 ≤ m1 + m2 by omega))⟩) (fun c hc => ⟨(b1 c hc).1, Int.lt_of_lt_of_le (b1 c hc).2 (pow_mono2 (show m1 ≤ m1 + m2 by omega))⟩) (by rw [val_cut, hv, vs])
  have := cut_of_eqv e
  rw [cut_cut, cz] at this
  rw [this]
  unfold sc
  rw [List.length_map]
end Qp

/-! the digits of a value at a great base -/
namespace Qp
open PySem PySem.Spec PyProof.Rows L2 QN
abbrev sDg : Stmt := top 35 -- _law_digits
theorem scDg : FnScope ["_law_number", "_law_base", "_law_found"] ["_law_number", "_law_base"] (defScope sDg) := ⟨rfl, rfl, rfl, by decide +kernel, rfl, by decide +kernel, by decide +kernel⟩
def spDg (K : PySem.W.Frag) : Sp := fun vs H Q _ => ∃ (ns : List Int) (B : Int), vs = [.int (val ns B), .int B] ∧ cutZ ns = ns ∧ (∀ c ∈ ns, 0 ≤ c ∧ c < B) ∧ 1 ≤ B ∧ B.natAbs.log2 < 9000 ∧ ns.length ≤ 1000 ∧
  ∀ (q : Addr) (H' : Hp), Same H H' → SqT K H' q (iv ns) → Q (.ref q) H'
section
variable {P : Program} {w : World} {K : PySem.W.Frag} {mg : Str → Option Value} {base : Heap}
theorem ok_dg {f : Addr} {fd : FuncData} (F : Fun K "_law_digits" "_law_digits" sDg f fd) (B : Blt mg) (B2 : Blt2 mg) : FnOk P w K mg base CX0 1 f fd ["_law_number", "_law_base"] (spDg K) := by
  refine F.ok scDg (fun vs H Q E h => ?_) (fun cdv A outer s H vs Q E hr h => ?_)
  · obtain ⟨ns, B, rfl, _⟩ := h
    rfl
  · obtain ⟨ns, D, rfl, hcut, hb, hB, hB2, hl, k⟩ := h
    have nn : NN ns := fun c hc => (hb c hc).1
    refine ⟨_, pss_cons (ps_set (i := 2) scDg.nd rfl (.inl rfl) (pe_lst pa_nil))
      (pss_cons (ps_while PassesOwn.never (pt_cmpR op_gt (pv 0) pe_int (nomark _))
        (pss_cons (ps_expr (pe_bm PySem.F.plainAttrs_list PySem.F.slot_list_append PySem.F.type_list_append mt_append (pv 2) (pa_cons (pe_op op_mod (pe_callTy call_int1 (by rfl) B.int (by decide +kernel) (pa_cons (pv 0) pa_nil)) (pv 1)) pa_nil)))
        (pss_one (ps_set (i := 0) scDg.nd rfl (.inl rfl) (pe_op op_fdivW (pv 0) (pv 1))))))
      (pss_one (ps_ret (pe_callTy call_tuple_of (by rfl) B2.tu (by decide +kernel) (pa_cons (pv 2) pa_nil))))), ?_⟩
    refine ⟨by decide, fun L hL => ?_⟩
    refine ⟨fun m σ H' => ∃ i, i ≤ ns.length ∧ m = ns.length - i ∧ σ = [some (.int (val (ns.drop i) D)), some (.int D), some (.ref L)] ∧ H' L = some (.lst (iv (ns.take i))) ∧ Same H H', ⟨_, 0, Nat.zero_le _, rfl, rfl, upd_same, same_new hL⟩, ?_⟩
    rintro m σ H' ⟨i, hi, rfl, rfl, hL', sm⟩
    refine ⟨_, rfl, _, _, rfl, rfl, _, rfl, ?_⟩
    by_cases c : i < ns.length
    · have pos := dig_left (i := i) hB nn hcut c
      have e : ns.drop i = ns[i] :: ns.drop (i + 1) := List.drop_eq_getElem_cons c
      have hx := hb ns[i] (List.getElem_mem c)
      obtain ⟨d1, d2⟩ := dig_step (ns := ns.drop (i + 1)) hx.1 hx.2
      refine if_yes (decide_eq_true pos) ⟨fun σ' H2 => σ' = [some (.int (val (ns.drop (i + 1)) D)), some (.int D), some (.ref L)] ∧ H2 L = some (.lst (iv (ns.take (i + 1)))) ∧ Same H H2, fun σ' H2 ⟨h1, h2, h3⟩ => ⟨ns.length - (i + 1), by omega, i + 1, c, rfl, h1, h2, h3⟩, ?_⟩
      refine ⟨.ref L, rfl, .inl ⟨rfl, _, .inl (.inl hL')⟩, _, rfl, .inl ⟨_, rfl, _, rfl, _, _, rfl, rfl, (by show 0 < D; omega), L, _, _, rfl, rfl, hL', ?_, ?_⟩⟩
      · rw [iv_len, List.length_take, sizeLine_eq]
        omega
      · refine ⟨_, rfl, _, rfl, _, _, rfl, rfl, ⟨(by show 0 < D; omega), hB2⟩, ?_, ?_, same_upd hL sm⟩
        · show [some (V.int (val (ns.drop i) D / D)), some (V.int D), some (V.ref L)] = _
          rw [e, d2]
        · rw [upd_same]
          show some (HO.lst (iv (List.take i ns) ++ [V.int (val (ns.drop i) D % D)])) = _
          rw [e, d1, List.take_add_one, List.getElem?_eq_getElem c, iv_snoc]
          rfl
    · have z : val (ns.drop i) D = 0 := by
        rw [List.drop_of_length_le (by omega)]
        rfl
      refine if_no (by rw [z]; decide) ?_
      refine ⟨.ref L, rfl, L, _, rfl, .inl ⟨.inl (.inl hL'), fun q hq => ?_⟩⟩
      refine k q _ (sm.trans (same_new hq)) (.inl (.inl ?_))
      rw [upd_same, List.take_of_length_le (by omega)]
end
end Qp

/-! items in a drawn order -/
namespace Qp
open PySem PySem.Spec PyProof.Rows L2 QN
abbrev sMixed : Stmt := top 33 -- _law_mixed
abbrev mixNames : List Str := ["_law_dice_here", "_law_items", "_law_left", "_law_turn"]
theorem scMixed : FnScope mixNames ["_law_dice_here", "_law_items"] (defScope sMixed) := ⟨rfl, rfl, rfl, by decide +kernel, rfl, by decide +kernel, by decide +kernel⟩
theorem sqLsm {K : PySem.W.Frag} {H H' : Hp} {q : Addr} {xs : List V} (e : Same H H') (a : SqL K H q xs) : SqL K H' q xs := by
  rcases a with (a | ⟨u, a⟩) | a
  · exact .inl (.inl (e _ _ a))
  · exact .inl (.inr ⟨u, e _ _ a⟩)
  · exact .inr a
theorem erase_perm {α : Type} : ∀ (l : List α) (j : Nat) (h : j < l.length), (l[j] :: l.eraseIdx j).Perm l
  | [], _, h => absurd h (Nat.not_lt_zero _)
  | x :: l, 0, _ => List.Perm.refl _
  | x :: l, j + 1, h => (List.Perm.swap x (l[j]'(Nat.lt_of_succ_lt_succ h)) _).trans (List.Perm.cons x (erase_perm l j (Nat.lt_of_succ_lt_succ h)))
def spMixed (K : PySem.W.Frag) : Sp := fun vs H Q _ => ∃ (p q : Addr) (x y z : Int) (its : List V), vs = [.ref p, .ref q] ∧ H p = some (.lst (hand x y z)) ∧ (SqL K H q its ∨ SqT K H q its) ∧ its.length < 1000000 ∧
  ∀ (r : Addr) (ys : List V) (x' y' z' : Int) (H' : Hp), ys.Perm its → H' r = some (.lst ys) → H' p = some (.lst (hand x' y' z')) → But p H H' → Q (.ref r) H'
def rLenM (K : PySem.W.Frag) : List V → Hp → VK → Prop := fun xs H Q => ∃ p ys, xs = [V.ref p] ∧ (SqL K H p ys ∨ SqT K H p ys) ∧ Q (V.int ys.length) H
section
variable {P : Program} {w : World} {K : PySem.W.Frag} {mg : Str → Option Value} {base : Heap}
theorem ok_mixed {f fR : Addr} {fd fdR : FuncData} (F : Fun K "_law_mixed" "_law_mixed" sMixed f fd) (GR : FnOk P w K mg base CX0 1 fR fdR ["_law_dice_here", "_law_total"] spRoll) (kR : PySem.W.keepIn K (.ref fR) = true) (bR : L2.Binds K fdR ["_law_dice_here", "_law_total"] []) (gR : mg "_law_roll" = some (.ref fR)) (B : Blt mg) (B2 : Blt2 mg) :
    FnOk P w K mg base CX0 2 f fd ["_law_dice_here", "_law_items"] (spMixed K) := by
  refine F.ok scMixed (fun vs H Q E h => ?_) (fun cdv A outer s H vs Q E hr h => ?_)
  · obtain ⟨p, q, x, y, z, its, rfl, _⟩ := h
    rfl
  · obtain ⟨p, q, x, y, z, its, rfl, hp, hq, hl, k⟩ := h
    refine ⟨_, pss_cons (ps_set (i := 2) scMixed.nd rfl (.inr rfl) (pe_callTy call_list_of (by rfl) B2.li (by decide +kernel) (pa_cons (pv 1) pa_nil)))
      (pss_one (ps_ret (pe_lc (own := [("_law_turn", 3)]) (g := gName 3) (tt := tYes)
        (te := tBM K "list" rPopAt (tVar 2) (tCons (tCall spRoll [] L2.E0 (tCons (tVar 0) (tCons (tCB (rLenM K) (tCons (tVar 2) tNil)) tNil))) tNil)) rfl scMixed.nd (pi_range1 (by rfl) B2.rg (pa_cons (pe_callB call_len_seq (by rfl) B.len PySem.boot_len (pa_cons (pv 1) pa_nil)) pa_nil)) (blkOk_by (N := mixNames) (sc := defScope sMixed) (by decide +kernel))
        (fun _ _ _ _ _ => pg_name (i := 3) scMixed.nd rfl (.inl rfl) (hf := .inr rfl)) (fun _ _ _ _ _ => pts_nil)
        (fun _ _ _ _ _ => pe_bm PySem.F.plainAttrs_list PySem.F.slot_list_pop PySem.F.type_list_pop mt_popAt (pv 2) (pa_cons (pe_call GR hr (by rfl) gR kR bR .nil pass0 (pa_cons (pv 0) (pa_cons (pe_callB call_len_seq (by rfl) B.len PySem.boot_len (pa_cons (pv 2) pa_nil)) pa_nil))) pa_nil))))), ?_⟩
    refine ⟨.ref q, rfl, q, _, rfl, hq, fun L hL => ?_⟩
    have hL1 : (upd H L (.lst its)) L = some (.lst its) := upd_same
    have sL := same_new (o := .lst its) hL
    have nLp : L ≠ p := (fun c => by rw [c, hp] at hL; cases hL)
    refine ⟨.ref q, rfl, q, its, rfl, hq.elim (fun a => .inl (sqLsm sL a)) (fun a => .inr (sqT_same sL a)), _, rfl, by omega, by omega, fun D hD => ?_⟩
    have nDp : D ≠ p := (fun c => by rw [c, sL _ _ hp] at hD; cases hD)
    have nDL : D ≠ L := (fun c => by rw [c, hL1] at hD; cases hD)
    refine lc_range (fun i H' => ∃ ms rest x y z, H' D = some (.lst ms) ∧ H' L = some (.lst rest) ∧ (ms ++ rest).Perm its ∧ ms.length = i ∧ H' p = some (.lst (hand x y z)) ∧ But p H H')
      ⟨[], its, x, y, z, upd_same, by rw [upd_ne nDL.symm]; exact hL1, List.Perm.refl _, rfl, by rw [upd_ne nDp.symm]; exact sL _ _ hp, same_but (sL.trans (same_new hD))⟩ (fun i H' hi hV => ?_) fun H' hV => ?_
    · rw [Int.toNat_natCast] at hi
      obtain ⟨ms, rest, x1, y1, z1, hD1, hL1', pm, hm, hp1, b1⟩ := hV
      have len := pm.length_eq
      rw [List.length_append] at len
      refine ⟨rfl, .ref L, rfl, .inl ⟨rfl, _, .inl (.inl hL1')⟩, .ref p, rfl, .ref L, rfl, L, rest, rfl, .inl (.inl (.inl hL1')), p, x1, y1, z1, _, rfl, hp1, by omega, by omega, fun t x2 y2 z2 H2 t0 t1 hp2 b2 => ?_⟩
      obtain ⟨j, rfl⟩ := Int.eq_ofNat_of_zero_le t0
      have hj : j < rest.length := by omega
      have hL2 := b2 _ _ nLp hL1'
      refine ⟨L, rest, _, j, rest[j], rfl, rfl, hL2, by omega, by omega, ?_, List.getElem?_eq_getElem hj, _, by rw [upd_ne nDL]; exact b2 _ _ nDp hD1, ?_, ms ++ [rest[j]], rest.eraseIdx j, x2, y2, z2, upd_same, by rw [upd_ne nDL.symm]; exact upd_same, ?_, ?_, ?_, ?_⟩
      · exact PySem.StrLaws.seqIndex_nonneg (i := (j : Int)) t0 (by omega)
      · rw [sizeLine_eq]
        omega
      · refine List.Perm.trans ?_ pm
        rw [List.append_assoc]
        refine List.Perm.append_left ms ?_
        exact erase_perm rest j hj
      · rw [List.length_append, hm]
        rfl
      · rw [upd_ne nDp.symm, upd_ne nLp.symm]
        exact hp2
      · intro b o nb e
        have e2 := b2 b o nb (b1 b o nb e)
        by_cases c : b = L
        · rw [c, hL] at e
          cases e
        by_cases c2 : b = D
        · rw [c2] at e
          rw [sL _ _ e] at hD
          cases hD
        · rw [upd_ne c2, upd_ne c]
          exact e2
    · obtain ⟨ms, rest, x1, y1, z1, hD1, hL1', pm, hm, hp1, b1⟩ := hV
      rw [Int.toNat_natCast] at hm
      have len := pm.length_eq
      rw [List.length_append] at len
      have hr0 : rest = [] := List.length_eq_zero_iff.mp (by omega)
      rw [hr0, List.append_nil] at pm
      exact k D ms x1 y1 z1 H' pm hD1 hp1 b1
end
end Qp

/-! sum([o, p, ..]) of objects of an own class: 0 + o by the reflected method, then + -/
namespace QN
open PySem PySem.Spec PyProof.Rows L2
section
variable {X : Cx} {pins : List (Addr × Obj)} {σ : L2.St} {H : Hp} {s : Shared} {k : Nat} {C g : Addr} {sp : Sp} {Q : VK} {us : List Value} {vs : List V}
/-- a def that raises nothing, called in a deeper place -/
theorem run_deep0 {A' : Around} {E' : Value → Shared → Prop} (F : FnR X.prog X.w X.K X.mg X.base L2.CX0 k g sp) (hr : Room k A') (e0 : Env0 X.prog X.w X.K X.mg X.base A' X.stack s H) (I : Inv X pins σ H s) (r : Vals vs us) (h : sp vs H Q L2.E0) :
    wpAny (model X.prog X.w) A' (call (.ref g) us) (EP X pins σ Q) E' s := by
  refine wpAny_call (codeAny_mono (F A' X.stack s H us vs Q L2.E0 hr e0 r h) fun out s' got => ?_)
  match out, got with
  | .error e, got => exact got.elim
  | .ok (.ret u), got => exact I.after got
  | .ok .next, got => exact got.elim
  | .ok .brk, got => exact got.elim
  | .ok .cont, got => exact got.elim
end
/-- what is left to add to the object at b; S: where the sum is kept, a: the list -/
def chainS (K : PySem.W.Frag) (C S a : Addr) (xs : List V) (spA : Sp) (Q : VK) : List Addr → Addr → Hp → Prop
  | [], b, H => SqL K H a xs ∧ H S = some (.lst [.ref b]) ∧ Q (.ref b) H
  | p :: ps, b, H => SqL K H a xs ∧ H S = some (.lst [.ref b]) ∧ OAt C H b ∧ OAt C H p ∧
      spA [.ref b, .ref p] H (fun v' H' => ∃ b', v' = .ref b' ∧ H' S = some (.lst [.ref b]) ∧ chainS K C S a xs spA Q ps b' (upd H' S (.lst [.ref b']))) L2.E0
section
variable {X : Cx} {kR kA : Nat} {C gR gA : Addr} {spR spA : Sp}
theorem EP.in_ {pins : List (Addr × Obj)} {σ : L2.St} {Q : VK} {u : Value} {s : Shared} (h : EP X pins σ Q u s) : ∃ v H', Inv X pins σ H' s ∧ L2.RelV v u ∧ Q v H' := h
theorem sum_loopO (hc : PySem.W.selfFirst X.K C = true) (MA : OMeth X.K C "__add__" gA) (FA : FnR X.prog X.w X.K X.mg X.base L2.CX0 kA gA spA) (hrA : Room (kA + 1) X.A) {S a it : Addr} {xs : List V} {pins : List (Addr × Obj)} {σ : L2.St} {Q : VK} {R : Result → Shared → Prop}
    (hR : ∀ u s', EP X pins σ Q u s' → R (.ok (.ret u)) s') :
    ∀ (ps : List Addr) (i : Nat) (b : Addr) (s : Shared) (H : Hp), Inv X pins σ H s → s.heap.IsListIter it a i → FpOk X pins H it → xs.drop i = ps.map V.ref → chainS X.K C S a xs spA Q ps b H →
      codeAny (model X.prog X.w) X.A (.builtin "sum.loop" ⟨[.ref it, .ref S, rawInt 2, rawInt 0], []⟩) R s := by
  intro ps
  induction ps with
  | nil =>
    intro i b s H I hit hf hx ch
    obtain ⟨hS, hb, q⟩ := ch
    obtain ⟨its, rv, pl, hz⟩ := I.list hS
    obtain ⟨z, its2, n, r2, _, e2⟩ := I.lstM hb
    obtain ⟨u, rfl, ru⟩ := r2.one
    obtain rfl : u = Value.ref b := ru
    refine codeAny_builtin PySem.F.entry_sum_loop ?_
    rw [Around.under_plainId PySem.F.plain_sum_loop _]
    show wpAny _ X.A.in1 (seqItems? (.ref S) >>= _) _ _ s
    refine wpAny_bind (wpAny_seqItems e2 rfl ?_)
    show wpAny _ X.A.in1 (tryCatch (pyNext (.ref it)) _ >>= _) _ _ s
    have hl := rv.length
    have hn : xs.length ≤ i := by
      have := congrArg List.length hx
      rw [List.length_drop, List.length_map, List.length_nil] at this
      omega
    obtain ⟨f0, f1, f2, f3, f4, f5⟩ := hf
    refine wpAny_bind (wpAny_tryCatch (wpAny_pyNext_list_end (A := X.A.in1) hrA.hd hit pl.isList (by simp; omega) fun h' eb => ?_))
    exact wpAny_pure (hR _ _ ⟨.ref b, H, I.turned (t' := s.toks) (fun c o hb' e => eb c o hb' e) f0 f1 f3 f4 f5, rfl, q⟩)
  | cons p ps ih =>
    intro i b s H I hit hf hx ch
    obtain ⟨hS, hb, ob, op, q⟩ := ch
    obtain ⟨its, rv, pl, hz⟩ := I.list hS
    obtain ⟨z, its2, n, r2, _, e2⟩ := I.lstM hb
    obtain ⟨u, rfl, ru⟩ := r2.one
    obtain rfl : u = Value.ref b := ru
    refine codeAny_builtin PySem.F.entry_sum_loop ?_
    rw [Around.under_plainId PySem.F.plain_sum_loop _]
    show wpAny _ X.A.in1 (seqItems? (.ref S) >>= _) _ _ s
    refine wpAny_bind (wpAny_seqItems e2 rfl ?_)
    show wpAny _ X.A.in1 (tryCatch (pyNext (.ref it)) _ >>= _) _ _ s
    have hxi : xs[i]? = some (.ref p) := by
      have := congrArg (fun l => l[0]?) hx
      simpa using this
    obtain ⟨w, hw, rw_⟩ := rv.get hxi
    obtain rfl : w = Value.ref p := rw_
    obtain ⟨f0, f1, f2, f3, f4, f5⟩ := id hf
    refine wpAny_bind (wpAny_tryCatch (wpAny_pyNext_list_item (A := X.A.in1) hit pl.isList (x := Value.ref p) (by simpa using hw) fun h' st' sb => ?_))
    have I1 : Inv X pins σ H { s with heap := h' } := I.turned (t' := s.toks) (fun c o hb' e => (sb.2 c hb').trans e) f0 f1 f3 f4 f5
    show wpAny _ X.A.in1 ((holding [Value.ref p] (binaryOp .Add (.ref b) (.ref p))).attempt >>= _) _ _ _
    have hob : ∀ c ∈ [it], ∃ o, h'.get? c = some o ∧ ∀ v, o.data ≠ .cell v := fun c hc' => by
      obtain rfl := List.mem_singleton.mp hc'
      obtain ⟨o, e, _, d⟩ := st'
      exact ⟨o, e, fun v z => by rw [d] at z; cases z⟩
    have I2 := I1.pinned (fp := [it]) (fun c hc' => by rw [List.mem_singleton.mp hc']; exact hf) hob
    obtain ⟨ox, od, J⟩ := OAt.inst I2 ob
    obtain ⟨oy, oe, J2⟩ := OAt.inst I2 op
    refine wpAny_bind (wpAny_attempt (wpAny_holding (bin_same I2.kIn J J2 hc MA.at_ MA.fn (wpAny_mono (run_deep0 FA hrA.in1 I2.env0.in1 I2 (.cons (rv_ref _) (.cons (rv_ref _) .nil)) q) (fun w1 s1 got => ?_) fun _ _ z => z))))
    obtain ⟨v1, H1, I3, r1, b', rfl, hb1, ch1⟩ := got
    obtain rfl : w1 = Value.ref b' := r1
    obtain ⟨z3, its3, n3, r3, _, e3⟩ := I3.lstM hb1
    obtain ⟨u3, rfl, ru3⟩ := r3.one
    show wpAny _ X.A.in1 (updateSeq S (fun _ => #[Value.ref b']) >>= _) _ _ _
    have I4 := I3.lset (f := fun _ => #[Value.ref b']) (its' := [Value.ref b']) (t' := s1.toks) hb1 e3 rfl (.cons (show L2.RelV (.ref b') (.ref b') from rfl) .nil) (by show 1 ≤ sizeLine; decide)
    refine wpAny_bind (wpAny_updateSeq e3 rfl ?_)
    refine wpAny_bind (wpAny_letGo ?_)
    have hb4 : (upd H1 S (.lst [.ref b'])) S = some (.lst [.ref b']) := upd_same
    obtain ⟨z4, its4, n4, r4, _, e4⟩ := I4.lstM hb4
    obtain ⟨u4, rfl, ru4⟩ := r4.one
    obtain rfl : u4 = Value.ref b' := ru4
    have I5 := I4.lset (f := fun _ => #[Value.ref b']) (its' := [Value.ref b']) (t' := s1.toks) hb4 e4 rfl (.cons (show L2.RelV (.ref b') (.ref b') from rfl) .nil) (by show 1 ≤ sizeLine; decide)
    rw [show upd (upd H1 S (.lst [.ref b'])) S (.lst [.ref b']) = upd H1 S (.lst [.ref b']) from by funext c; by_cases hc' : c = S <;> simp [upd, hc']] at I5
    refine wpAny_bind (wpAny_updateSeq e4 rfl (wpAny_pure ⟨plainId_quiet PySem.F.plain_sum_loop _, ?_⟩))
    obtain ⟨oi, ei, ci, di⟩ := id st'
    have hpin := I5.pin (it, oi) (List.mem_append_right _ (List.mem_append_right _ (mem_pinsAt (List.mem_singleton.mpr rfl) ei)))
    refine ih (i + 1) b' _ _ I5.unpinned ⟨oi, hpin.1, ci, di⟩ ⟨hpin.2.1, f1, f2, f3, f4, f5⟩ ?_ ch1
    rw [← List.drop_drop, hx]
    rfl
theorem sqL_new {K : PySem.W.Frag} {H : Hp} {a p : Addr} {o : HO} {xs : List V} (hp : H p = none) (h : SqL K H a xs) : SqL K (upd H p o) a xs := by
  have ne : ∀ {u}, H a = some u → a ≠ p := fun e c => by rw [c, hp] at e; cases e
  rcases h with (h | ⟨u, h⟩) | h
  · exact .inl (.inl (by rw [upd_ne (ne h)]; exact h))
  · exact .inl (.inr ⟨u, by rw [upd_ne (ne h)]; exact h⟩)
  · exact .inr h
/-- sum([o, p, ..]) -/
def rSumO (K : PySem.W.Frag) (C : Addr) (spR spA : Sp) : List V → Hp → VK → Prop := fun vs H Q => ∃ (a p : Addr) (ps : List Addr), vs = [.ref a] ∧ SqL K H a (.ref p :: ps.map V.ref) ∧
  ∀ S, H S = none → OAt C (upd H S (.lst [.int 0])) p ∧ spR [.ref p, .int 0] (upd H S (.lst [.int 0])) (fun v' H' => ∃ b', v' = .ref b' ∧ H' S = some (.lst [.int 0]) ∧ chainS K C S a (.ref p :: ps.map V.ref) spA Q ps b' (upd H' S (.lst [.ref b']))) L2.E0
theorem cr_sumO (T : BesideInt X.K C "add") (MA : OMeth X.K C "__add__" gA) (FA : FnR X.prog X.w X.K X.mg X.base L2.CX0 kA gA spA) (hrA : Room (kA + 1) X.A) (MR : OMeth X.K C "__radd__" gR) (FR : FnR X.prog X.w X.K X.mg X.base L2.CX0 kR gR spR) (hrR : Room (kR + 1) X.A) :
    CallR X (.builtin "sum") (rSumO X.K C spR spA) := by
  intro pins s σ H vs us Q I r h
  obtain ⟨a, p, ps, rfl, hS, h⟩ := h
  obtain ⟨u, rfl, ru⟩ := vals1 r
  obtain rfl : u = Value.ref a := ru
  obtain ⟨its, rv, pl, hz⟩ := I.list hS
  refine call_function_tree PySem.F.kind_sum PySem.F.plain_sum PySem.F.entry_sum (PySem.F.args_sum1 _) ?_
  unfold Builtin.«sum»
  simp only [List.length_cons, List.length_nil]
  rw [if_neg (by decide)]
  refine wpAny_bind (wpAny_of_eq (show Builtin.Builtins.bindParams "sum" ["start"] 0 { } = pure [none] from rfl) ?_)
  refine wpAny_bind (wpAny_pyIter_list pl.isList ?_)
  refine wpAny_bind (wpAny_mkInt ?_)
  refine wpAny_bind (wpAny_pure ?_)
  simp only [List.forIn_cons, List.forIn_nil]
  refine wpAny_bind (wpAny_bind (wpAny_bind (wpAny_isInstance (T := "int") (b := false) (typeIs_int _ _ _) PySem.sub_int_str ?_)))
  simp only [Bool.false_eq_true, if_false]
  refine wpAny_pure (wpAny_bind (wpAny_bind (wpAny_isInstance (T := "int") (b := false) (typeIs_int _ _ _) PySem.sub_int_bytes ?_)))
  simp only [Bool.false_eq_true, if_false]
  refine wpAny_pure (wpAny_bind (wpAny_bind (wpAny_isInstance (T := "int") (b := false) (typeIs_int _ _ _) PySem.sub_int_bytearray ?_)))
  simp only [Bool.false_eq_true, if_false]
  refine wpAny_pure (wpAny_pure ?_)
  refine wpAny_bind (wpAny_newObj_type ?_)
  have Ia : Inv X pins σ H { s with heap := s.heap.push { cls := .type "list_iterator", data := .fields #[.ref a, .int 0 0] }, toks := s.toks + 1 } := I.kept (t' := s.toks + 1) fun b o e => Heap.get?_push_of_some _ e
  have hit : (s.heap.push { cls := .type "list_iterator", data := .fields #[.ref a, .int 0 0] }).IsListIter s.heap.objs.size a 0 := ⟨_, Heap.get?_push_size _ rfl, rfl, rfl⟩
  have hnS := Ia.hok.fresh (Nat.le_refl _)
  have Ib := Ia.laid (a := (s.heap.push { cls := .type "list_iterator", data := .fields #[.ref a, .int 0 0] }).objs.size) (o := .lst [.int 0]) (t' := s.toks + 1)
    (h' := (s.heap.push { cls := .type "list_iterator", data := .fields #[.ref a, .int 0 0] }).push { cls := .type "list", data := .seq #[.int 0 s.toks] }) (fun b o e => Heap.get?_push_of_some _ e) (Nat.le_refl _)
    (show _ ∧ _ from ⟨by show 1 ≤ sizeLine; decide, [.int 0 s.toks], 0, .cons (show L2.RelV (.int 0) (.int 0 s.toks) from ⟨_, rfl⟩) .nil, Heap.get?_push_size _ rfl⟩)
  have hf : FpOk X pins (upd H (s.heap.push { cls := .type "list_iterator", data := .fields #[.ref a, .int 0 0] }).objs.size (.lst [.int 0])) s.heap.objs.size := I.fpOk (Nat.le_refl _) (by
    rw [upd_ne (by rw [Heap.size_push]; exact Nat.ne_of_lt (Nat.lt_succ_self _))]
    exact I.hok.fresh (Nat.le_refl _))
  have hit2 : ((s.heap.push { cls := .type "list_iterator", data := .fields #[.ref a, .int 0 0] }).push { cls := .type "list", data := .seq #[.int 0 s.toks] }).IsListIter s.heap.objs.size a 0 := by
    obtain ⟨o, e, c, d⟩ := hit
    exact ⟨o, Heap.get?_push_of_some _ e, c, d⟩
  generalize (s.heap.push { cls := .type "list_iterator", data := .fields #[.ref a, .int 0 0] }).objs.size = S at Ib hf hnS
  obtain ⟨oR, qR⟩ := h S hnS
  have SL : SqL X.K H a (.ref p :: ps.map V.ref) := hS
  obtain ⟨its1, rv1, pl1, hz1⟩ := Ib.list (show SqL X.K (upd H S (.lst [.int 0])) a (.ref p :: ps.map V.ref) from sqL_new hnS hS)
  refine wpAny_pure ⟨plainId_quiet PySem.F.plain_sum_loop _, ?_⟩
  refine codeAny_builtin PySem.F.entry_sum_loop ?_
  rw [Around.under_plainId PySem.F.plain_sum_loop _]
  obtain ⟨z2, its2, n2, r2, _, e2⟩ := Ib.lstM upd_same
  obtain ⟨u2, rfl, ru2⟩ := r2.one
  obtain ⟨t2, rfl⟩ := (show ∃ t, u2 = Value.int 0 t from ru2)
  show wpAny _ X.A.in1 (seqItems? (.ref S) >>= _) _ _ _
  refine wpAny_bind (wpAny_seqItems e2 rfl ?_)
  show wpAny _ X.A.in1 (tryCatch (pyNext (.ref s.heap.objs.size)) _ >>= _) _ _ _
  obtain ⟨w, hw, rw_⟩ := rv1.get (i := 0) (x := .ref p) rfl
  obtain rfl : w = Value.ref p := rw_
  obtain ⟨f0, f1, f2, f3, f4, f5⟩ := id hf
  refine wpAny_bind (wpAny_tryCatch (wpAny_pyNext_list_item (A := X.A.in1) hit2 pl1.isList (x := Value.ref p) (by simpa using hw) fun h' st' sb => ?_))
  have I1 := Ib.turned (t' := s.toks + 1) (fun c o hb' e => (sb.2 c hb').trans e) f0 f1 f3 f4 f5
  show wpAny _ X.A.in1 ((holding [Value.ref p] (binaryOp .Add (.int 0 t2) (.ref p))).attempt >>= _) _ _ _
  have hob : ∀ c ∈ [s.heap.objs.size], ∃ o, h'.get? c = some o ∧ ∀ v, o.data ≠ .cell v := fun c hc' => by
    obtain rfl := List.mem_singleton.mp hc'
    obtain ⟨o, e, _, d⟩ := st'
    exact ⟨o, e, fun v z => by rw [d] at z; cases z⟩
  have I2 := I1.pinned (fp := [s.heap.objs.size]) (fun c hc' => by rw [List.mem_singleton.mp hc']; exact hf) hob
  obtain ⟨⟨cls, dd, data, sl⟩, oe, J, hd⟩ := StX.insC_at I2 (.inr oR)
  simp only at hd
  subst hd
  obtain ⟨fo, h1, ro, h2, hl⟩ := T.at_
  refine wpAny_bind (wpAny_attempt (wpAny_holding (bin_refl (op := .Add) I2.kIn J T.first MA.at_ MR.at_ MR.fn h1 h2 hl T.below (wpAny_tryMethod_declines (typeIs_int _ 0 t2) PySem.F.slot_int_add (call_meets PySem.F.slot_int_add (typeIs_int _ 0 t2) PySem.F.entry_int_add (PySem.F.args_int_add_2 _ _) (int_add_own 0 t2 p cls dd sl) ⟨J.at_, rfl, rfl, rfl⟩))
    (wpAny_mono (run_deep0 FR hrR.in1 I2.env0.in1 I2 (.cons (rv_ref _) (.cons (show L2.RelV (.int 0) (.int 0 t2) from ⟨_, rfl⟩) .nil)) qR) (fun w1 s1 got => ?_) fun _ _ z => z))))
  obtain ⟨v1, H1, I3, r1, b', rfl, hb1, ch1⟩ := got
  obtain rfl : w1 = Value.ref b' := r1
  obtain ⟨z3, its3, n3, r3, _, e3⟩ := I3.lstM hb1
  obtain ⟨u3, rfl, ru3⟩ := r3.one
  show wpAny _ X.A.in1 (updateSeq S (fun _ => #[Value.ref b']) >>= _) _ _ _
  have I4 := I3.lset (f := fun _ => #[Value.ref b']) (its' := [Value.ref b']) (t' := s1.toks) hb1 e3 rfl (.cons (show L2.RelV (.ref b') (.ref b') from rfl) .nil) (by show 1 ≤ sizeLine; decide)
  refine wpAny_bind (wpAny_updateSeq e3 rfl ?_)
  refine wpAny_bind (wpAny_letGo ?_)
  have hb4 : (upd H1 S (.lst [.ref b'])) S = some (.lst [.ref b']) := upd_same
  obtain ⟨z4, its4, n4, r4, _, e4⟩ := I4.lstM hb4
  obtain ⟨u4, rfl, ru4⟩ := r4.one
  obtain rfl : u4 = Value.ref b' := ru4
  have I5 := I4.lset (f := fun _ => #[Value.ref b']) (its' := [Value.ref b']) (t' := s1.toks) hb4 e4 rfl (.cons (show L2.RelV (.ref b') (.ref b') from rfl) .nil) (by show 1 ≤ sizeLine; decide)
  rw [show upd (upd H1 S (.lst [.ref b'])) S (.lst [.ref b']) = upd H1 S (.lst [.ref b']) from by funext c; by_cases hc' : c = S <;> simp [upd, hc']] at I5
  refine wpAny_bind (wpAny_updateSeq e4 rfl (wpAny_pure ⟨plainId_quiet PySem.F.plain_sum_loop _, ?_⟩))
  obtain ⟨oi, ei, ci, di⟩ := id st'
  have hpin := I5.pin (s.heap.objs.size, oi) (List.mem_append_right _ (List.mem_append_right _ (mem_pinsAt (List.mem_singleton.mpr rfl) ei)))
  exact sum_loopO T.first MA FA hrA (fun u s' z => z) ps 1 b' _ _ I5.unpinned ⟨oi, hpin.1, ci, di⟩ ⟨hpin.2.1, f1, f2, f3, f4, f5⟩ rfl ch1
end
end QN

/-! questions opened one construct at a time -/
namespace QN
open PySem PySem.Spec PyProof.Rows L2
section
variable {σ : L2.St} {H : Hp} {D : Ends} {t u : TS} {te ta tb : TE} {tl tr : TA} {g : TG} {r : R2} {rc : List V → Hp → VK → Prop} {K : PySem.W.Frag} {T : String} {rm : V → List V → Hp → VK → Prop} {Q : VK} {QA : List V → Hp → Prop} {sp : Sp} {dvs : List V} {E : XK}
theorem q_seq (h : t { D with nx := u D } σ H) : tSeq t u D σ H := h
theorem q_asg (h : te σ H fun x H1 => g x σ H1 D.nx) : tAsg te g D σ H := h
theorem q_drop (h : te σ H fun _ H1 => D.nx σ H1) : tDrop te D σ H := h
theorem q_ret (h : te σ H D.rt) : tRet te D σ H := h
theorem q_lst (h : tl σ H fun xs H1 => xs.length ≤ sizeLine ∧ ∀ p, H1 p = none → Q (.ref p) (upd H1 p (.lst xs))) : tLst tl σ H Q := h
theorem q_tup (h : tl σ H fun xs H1 => xs.length ≤ sizeLine ∧ ∀ p, H1 p = none → Q (.ref p) (upd H1 p (.tup xs))) : tTup tl σ H Q := h
theorem q_cons (h : ta σ H fun x H1 => tr σ H1 fun xs H2 => QA (x :: xs) H2) : tCons ta tr σ H QA := h
theorem q_nil (h : QA [] H) : tNil σ H QA := h
theorem q_op (h : ta σ H fun x H1 => tb σ H1 fun y H2 => r x y H2 Q) : tOp r ta tb σ H Q := h
theorem q_cb (h : tl σ H fun vs H1 => rc vs H1 Q) : tCB rc tl σ H Q := h
theorem q_call (h : tl σ H fun vs H1 => sp (vs ++ dvs) H1 Q E) : tCall sp dvs E tl σ H Q := h
theorem q_bm (h : te σ H fun x H1 => tyV K T x H1 ∧ tl σ H1 fun xs H2 => rm x xs H2 Q) : tBM K T rm te tl σ H Q := h
end
section
variable {σ : L2.St} {H : Hp} {D : Ends} {t u : TS} {c d : TT} {te : TE} {QT : Bool → Hp → Prop}
theorem q_ifs (h : c σ H fun b H1 => if b = true then t D σ H1 else u D σ H1) : tIfS c t u D σ H := h
theorem q_or (h : c σ H fun b H1 => if b = true then QT true H1 else d σ H1 QT) : tOr c d σ H QT := h
theorem q_and (h : c σ H fun b H1 => if b = true then d σ H1 QT else QT false H1) : tAnd c d σ H QT := h
theorem q_not (h : c σ H fun b H1 => QT (!b) H1) : tNot c σ H QT := h
theorem q_tb (h : te σ H fun x H1 => ∃ b, x = .bl b ∧ QT b H1) : tB te σ H QT := h
theorem q_test (h : te σ H fun x H1 => ∃ k, x = .bl k ∧ QT k H1) : tTest te σ H QT := h
end
end QN

/-! polynomials told by their values, by signs -/
namespace Qp
open PySem PySem.Spec PyProof.Rows L2 QN
theorem te_fac {K : PySem.W.Frag} {C : Addr} {H : Hp} {q : Addr} {bs : List Int} (h : PolyAt K C H q bs) : FacOf K C H (.ref q) bs := .inl ⟨q, rfl, h⟩
/-- one that stands at p, its values told -/
def TP (K : PySem.W.Frag) (C : Addr) (H : Hp) (p : Addr) (f : Int → Int) (M L : Nat) : Prop := ∃ ns, PolyAt K C H p ns ∧ Tell f M L ns
theorem TP.same {K : PySem.W.Frag} {C : Addr} {H H' : Hp} {p : Addr} {f : Int → Int} {M L : Nat} (h : TP K C H p f M L) (s : Same H H') : TP K C H' p f M L := by
  obtain ⟨ns, h1, h2⟩ := h
  exact ⟨ns, polyAt_same s h1, h2⟩
theorem TP.O {K : PySem.W.Frag} {C : Addr} {H : Hp} {p : Addr} {f : Int → Int} {M L : Nat} (h : TP K C H p f M L) : OAt C H p := by
  obtain ⟨ns, h1, _⟩ := h
  exact polyAt_O h1
theorem TP.mono {K : PySem.W.Frag} {C : Addr} {H : Hp} {p : Addr} {f : Int → Int} {M L M' L' : Nat} (h : TP K C H p f M L) (hM : M ≤ M') (hL : L ≤ L') : TP K C H p f M' L' := by
  obtain ⟨ns, h1, h2⟩ := h
  exact ⟨ns, h1, h2.mono hM hL⟩
theorem TP.to {K : PySem.W.Frag} {C : Addr} {H : Hp} {p : Addr} {f g : Int → Int} {M L : Nat} (h : TP K C H p f M L) (e : ∀ n, f n = g n) : TP K C H p g M L := by
  obtain ⟨ns, h1, h2⟩ := h
  exact ⟨ns, h1, h2.to e⟩
/-- the constant -/
theorem tell_const {n : Int} (h0 : 0 ≤ n) {M : Nat} (h : n < 2 ^ M) : Tell (fun _ => n) M 1 (cutZ [n]) := by
  refine ⟨cut_cut _, fun c hc => ?_, fun x => ?_, h, Nat.le_trans (cut_len _) (by simp)⟩
  · rw [List.mem_singleton.mp (cut_mem hc)]
    exact h0
  · rw [val_cut]
    show 0 * x + n = n
    omega
/-- what + and * are asked -/
theorem sum_goes {K : PySem.W.Frag} {C p : Addr} {v : V} {H : Hp} {Q : VK} {E : XK} {f g : Int → Int} {M L M' L' : Nat} {fs : List Int} (A : TP K C H p f M L) (hf : FacOf K C H v fs) (B : Tell g M' L' fs) (l1 : L ≤ 500) (l2 : L' ≤ 500) (h1 : 0 < M) (h2 : 0 < M') (hm : M + M' ≤ 1000000)
    (k : ∀ q H', Same H H' → TP K C H' q (fun n => f n + g n) (M + M' + 1) (L + L') → Q (.ref q) H') : spBin sumZ K C [.ref p, v] H Q E := by
  obtain ⟨ns, hp, T⟩ := A
  exact ⟨p, v, ns, fs, M, M', rfl, hp, hf, Nat.le_trans T.len l1, Nat.le_trans B.len l2, T.bd, B.bd, hm, h1, h2, fun q H' s h => k q H' s ⟨_, h, T.sum B⟩⟩
theorem prod_goes {K : PySem.W.Frag} {C p : Addr} {v : V} {H : Hp} {Q : VK} {E : XK} {f g : Int → Int} {M L M' L' : Nat} {fs : List Int} (A : TP K C H p f M L) (hf : FacOf K C H v fs) (B : Tell g M' L' fs) (l1 : L ≤ 500) (l2 : L' ≤ 500) (h1 : 0 < M) (h2 : 0 < M') (hm : M + M' ≤ 1000000)
    (k : ∀ q H', Same H H' → TP K C H' q (fun n => f n * g n) (M + M') (L + L') → Q (.ref q) H') : spBin prodZ K C [.ref p, v] H Q E := by
  obtain ⟨ns, hp, T⟩ := A
  exact ⟨p, v, ns, fs, M, M', rfl, hp, hf, Nat.le_trans T.len l1, Nat.le_trans B.len l2, T.bd, B.bd, hm, h1, h2, fun q H' s h => k q H' s ⟨_, h, T.prod B⟩⟩
theorem pow_goes {K : PySem.W.Frag} {C p : Addr} {H : Hp} {Q : VK} {E : XK} {f : Int → Int} {M L : Nat} {e : Nat} (A : TP K C H p f M L) (l1 : L ≤ 40) (h1 : 0 < M) (hm : M ≤ 10000) (he : e ≤ 20)
    (k : ∀ q H', Same H H' → TP K C H' q (fun n => f n ^ e) (M * e + 1) (e * L + 1) → Q (.ref q) H') : spPow K C [.ref p, .int (e : Int)] H Q E := by
  obtain ⟨ns, hp, T⟩ := A
  exact ⟨p, e, ns, M, rfl, hp, he, Nat.le_trans T.len l1, T.bd, h1, hm, fun q H' s h => k q H' s ⟨_, h, T.pow e⟩⟩
theorem at_goes2 {K : PySem.W.Frag} {C p r : Addr} {H : Hp} {Q : VK} {E : XK} {f g : Int → Int} {M L M' L' : Nat} (A : TP K C H p f M L) (B : TP K C H r g M' L') (l1 : L ≤ 40) (l2 : L' ≤ 20) (h1 : 0 < M) (h2 : 0 < M') (hm : M + M' ≤ 10000)
    (k : ∀ q H', Same H H' → TP K C H' q (fun n => f (g n)) (M + L * M') (L * L' + 1) → Q (.ref q) H') : spAt K C [.ref p, .ref r] H Q E := by
  obtain ⟨ns, hp, T⟩ := A
  obtain ⟨fs, hr, U⟩ := B
  exact ⟨p, r, ns, fs, M + M', rfl, hp, hr, Nat.le_trans T.len l1, Nat.le_trans U.len l2, (T.mono (Nat.le_add_right _ _) (Nat.le_refl _)).bd, (U.mono (Nat.le_add_left _ _) (Nat.le_refl _)).bd, by omega, hm, fun q H' s h => k q H' s ⟨_, h, T.at U⟩⟩
theorem call_goes {K : PySem.W.Frag} {C p : Addr} {H : Hp} {Q : VK} {E : XK} {f : Int → Int} {M L m : Nat} {n : Int} (A : TP K C H p f M L) (n0 : 0 ≤ n) (n1 : n < 2 ^ m) (hm : 0 < M) (m0 : 0 < m) (hs : M + L * (m + 1) + m ≤ 1000000) (k : ∀ H', Same H H' → Q (.int (f n)) H') : spCl K C [.ref p, .int n] H Q E := by
  obtain ⟨ns, hp, T⟩ := A
  refine ⟨p, ns, n, rfl, hp, ⟨n0, M, m, T.bd, n1, hm, m0, ?_⟩, fun H' s => ?_⟩
  · have := Nat.mul_le_mul_right (m + 1) T.len
    omega
  · rw [T.val]
    exact k H' s
end Qp

/-! expressions that make polynomials -/
namespace Qp
open PySem PySem.Spec PyProof.Rows L2 QN
theorem TP.but {K : PySem.W.Frag} {C p q : Addr} {H H' : Hp} {f : Int → Int} {M L : Nat} {l : List V} (h : TP K C H p f M L) (b : But q H H') (hq : H q = some (.lst l)) : TP K C H' p f M L := by
  obtain ⟨ns, h1, h2⟩ := h
  exact ⟨ns, polyAt_but b hq h1, h2⟩
abbrev eAdd (K : PySem.W.Frag) (C : Addr) (a b : TE) : TE := tOp (rBinO C (spBin sumZ K C) L2.E0) a b
abbrev eMul (K : PySem.W.Frag) (C : Addr) (a b : TE) : TE := tOp (rBinO C (spBin prodZ K C) L2.E0) a b
abbrev eAddI (K : PySem.W.Frag) (C : Addr) (a : TE) (c : Int) : TE := tOp (rBinI C (spBin sumZ K C) L2.E0) a (tC (.int c))
abbrev eMulI (K : PySem.W.Frag) (C : Addr) (a : TE) (c : Int) : TE := tOp (rBinI C (spBin prodZ K C) L2.E0) a (tC (.int c))
abbrev eRAdd (K : PySem.W.Frag) (C : Addr) (c : Int) (a : TE) : TE := tOp (rReflO C (spBin sumZ K C) L2.E0) (tC (.int c)) a
abbrev eRMul (K : PySem.W.Frag) (C : Addr) (c : Int) (a : TE) : TE := tOp (rReflO C (spBin prodZ K C) L2.E0) (tC (.int c)) a
abbrev ePow (K : PySem.W.Frag) (C : Addr) (a : TE) (c : Int) : TE := tOp (rBinI C (spPow K C) L2.E0) a (tC (.int c))
abbrev eAt (K : PySem.W.Frag) (C : Addr) (a b : TE) : TE := tMethR C "at" (spAt K C) L2.E0 a (tCons b tNil)
/-- the term makes a polynomial of these values -/
def GoesP (K : PySem.W.Frag) (C : Addr) (te : TE) (σ : L2.St) (H : Hp) (f : Int → Int) (M L : Nat) : Prop := ∀ Q : VK, (∀ q H', Same H H' → TP K C H' q f M L → Q (.ref q) H') → te σ H Q
section
variable {K : PySem.W.Frag} {C : Addr} {σ : L2.St} {H : Hp} {f g : Int → Int} {M L M' L' : Nat} {ta tb : TE}
theorem GoesP.mono {te : TE} (a : GoesP K C te σ H f M L) (h1 : M ≤ M') (h2 : L ≤ L') : GoesP K C te σ H f M' L' := fun Q k => a Q fun q H' s t => k q H' s (t.mono h1 h2)
theorem gp_var {i : Nat} {p : Addr} (h : σ[i]? = some (some (.ref p))) (hp : TP K C H p f M L) : GoesP K C (tVar i) σ H f M L := fun Q k => ⟨_, h, k p H (Same.refl _) hp⟩
theorem gp_add (ha : GoesP K C ta σ H f M L) (hb : ∀ H', Same H H' → GoesP K C tb σ H' g M' L') (l1 : L ≤ 500) (l2 : L' ≤ 500) (h1 : 0 < M) (h2 : 0 < M') (hm : M + M' ≤ 1000000) : GoesP K C (tOp (rBinO C (spBin sumZ K C) L2.E0) ta tb) σ H (fun n => f n + g n) (M + M' + 1) (L + L') :=
  fun Q k => ha _ fun p H1 s1 hp => hb H1 s1 _ fun q H2 s2 ⟨ms, hq, U⟩ => ⟨p, q, rfl, rfl, (hp.same s2).O, polyAt_O hq, sum_goes (E := L2.E0) (hp.same s2) (te_fac hq) U l1 l2 h1 h2 hm fun r H3 s3 hr => k r H3 (s1.trans (s2.trans s3)) hr⟩
theorem gp_mul (ha : GoesP K C ta σ H f M L) (hb : ∀ H', Same H H' → GoesP K C tb σ H' g M' L') (l1 : L ≤ 500) (l2 : L' ≤ 500) (h1 : 0 < M) (h2 : 0 < M') (hm : M + M' ≤ 1000000) : GoesP K C (tOp (rBinO C (spBin prodZ K C) L2.E0) ta tb) σ H (fun n => f n * g n) (M + M') (L + L') :=
  fun Q k => ha _ fun p H1 s1 hp => hb H1 s1 _ fun q H2 s2 ⟨ms, hq, U⟩ => ⟨p, q, rfl, rfl, (hp.same s2).O, polyAt_O hq, prod_goes (E := L2.E0) (hp.same s2) (te_fac hq) U l1 l2 h1 h2 hm fun r H3 s3 hr => k r H3 (s1.trans (s2.trans s3)) hr⟩
theorem fac_int {H : Hp} {n : Int} (h : 0 ≤ n) : FacOf K C H (.int n) (cutZ [n]) := .inr ⟨n, rfl, h, rfl⟩
theorem gp_addI {c : Int} (ha : GoesP K C ta σ H f M L) (c0 : 0 ≤ c) (c1 : c < 2 ^ 4) (l1 : L ≤ 500) (h1 : 0 < M) (hm : M ≤ 1000000 - 4) : GoesP K C (tOp (rBinI C (spBin sumZ K C) L2.E0) ta (tC (.int c))) σ H (fun n => f n + c) (M + 4 + 1) (L + 1) :=
  fun Q k => ha _ fun p H1 s1 hp => ⟨p, c, rfl, rfl, hp.O, sum_goes (E := L2.E0) hp (fac_int c0) (tell_const c0 c1) l1 (by decide) h1 (by decide) (by omega) fun r H3 s3 hr => k r H3 (s1.trans s3) hr⟩
theorem gp_mulI {c : Int} (ha : GoesP K C ta σ H f M L) (c0 : 0 ≤ c) (c1 : c < 2 ^ 4) (l1 : L ≤ 500) (h1 : 0 < M) (hm : M ≤ 1000000 - 4) : GoesP K C (tOp (rBinI C (spBin prodZ K C) L2.E0) ta (tC (.int c))) σ H (fun n => f n * c) (M + 4) (L + 1) :=
  fun Q k => ha _ fun p H1 s1 hp => ⟨p, c, rfl, rfl, hp.O, prod_goes (E := L2.E0) hp (fac_int c0) (tell_const c0 c1) l1 (by decide) h1 (by decide) (by omega) fun r H3 s3 hr => k r H3 (s1.trans s3) hr⟩
theorem gp_raddI {c : Int} (ha : GoesP K C ta σ H f M L) (c0 : 0 ≤ c) (c1 : c < 2 ^ 4) (l1 : L ≤ 500) (h1 : 0 < M) (hm : M ≤ 1000000 - 4) : GoesP K C (tOp (rReflO C (spBin sumZ K C) L2.E0) (tC (.int c)) ta) σ H (fun n => f n + c) (M + 4 + 1) (L + 1) :=
  fun Q k => ha _ fun p H1 s1 hp => ⟨c, p, rfl, rfl, hp.O, sum_goes (E := L2.E0) hp (fac_int c0) (tell_const c0 c1) l1 (by decide) h1 (by decide) (by omega) fun r H3 s3 hr => k r H3 (s1.trans s3) hr⟩
theorem gp_rmulI {c : Int} (ha : GoesP K C ta σ H f M L) (c0 : 0 ≤ c) (c1 : c < 2 ^ 4) (l1 : L ≤ 500) (h1 : 0 < M) (hm : M ≤ 1000000 - 4) : GoesP K C (tOp (rReflO C (spBin prodZ K C) L2.E0) (tC (.int c)) ta) σ H (fun n => f n * c) (M + 4) (L + 1) :=
  fun Q k => ha _ fun p H1 s1 hp => ⟨c, p, rfl, rfl, hp.O, prod_goes (E := L2.E0) hp (fac_int c0) (tell_const c0 c1) l1 (by decide) h1 (by decide) (by omega) fun r H3 s3 hr => k r H3 (s1.trans s3) hr⟩
theorem gp_pow {e : Nat} {c : Int} (ec : c = (e : Int)) (ha : GoesP K C ta σ H f M L) (l1 : L ≤ 40) (h1 : 0 < M) (hm : M ≤ 10000) (he : e ≤ 20) : GoesP K C (tOp (rBinI C (spPow K C) L2.E0) ta (tC (.int c))) σ H (fun n => f n ^ e) (M * e + 1) (e * L + 1) :=
  fun Q k => ha _ fun p H1 s1 hp => ⟨p, c, rfl, rfl, hp.O, by rw [ec]; exact pow_goes (E := L2.E0) hp l1 h1 hm he fun r H3 s3 hr => k r H3 (s1.trans s3) hr⟩
theorem gp_at (ha : GoesP K C ta σ H f M L) (hb : ∀ H', Same H H' → GoesP K C tb σ H' g M' L') (l1 : L ≤ 40) (l2 : L' ≤ 20) (h1 : 0 < M) (h2 : 0 < M') (hm : M + M' ≤ 10000) : GoesP K C (tMethR C "at" (spAt K C) L2.E0 ta (tCons tb tNil)) σ H (fun n => f (g n)) (M + L * M') (L * L' + 1) :=
  fun Q k => ha _ fun p H1 s1 hp => by
    obtain ⟨ns, ⟨dx, t, e1, e2⟩, T⟩ := id hp
    refine ⟨p, dx, _, rfl, e1, rfl, hb H1 s1 _ fun q H2 s2 hq => at_goes2 (E := L2.E0) (hp.same s2) hq l1 l2 h1 h2 hm fun r H3 s3 hr => k r H3 (s1.trans (s2.trans s3)) hr⟩
theorem gp_zero {E : XK} : GoesP K C (tMakeR0 C (spInit K C) E) σ H (fun _ => 0) 1 1 := fun Q k =>
  fun x dx hx hd ne => ⟨x, dx, [], rfl, upd_same, (fun c h => by cases h), (by show 0 ≤ 1000; decide), fun t H1 h1 h2 b => ⟨rfl, k x H1 (same_made hx hd b) ⟨[], ⟨dx, t, h1, h2⟩, ⟨rfl, (fun c h => by cases h), fun _ => rfl, by decide, by decide⟩⟩⟩⟩
/-- sum([o, p, q]) -/
theorem sum3_goes {h3 : Int → Int} {a p q r : Addr} {Q : VK} (hl : SqL K H a [.ref p, .ref q, .ref r]) (hp : TP K C H p f 72 3) (hq : TP K C H q g 72 3) (hr : TP K C H r h3 72 3) (k : ∀ b H', Same H H' → TP K C H' b (fun n => f n + 0 + g n + h3 n) 400 20 → Q (.ref b) H') :
    rSumO K C (spBin sumZ K C) (spBin sumZ K C) [.ref a] H Q := by
  refine ⟨a, p, [q, r], rfl, hl, fun S hS => ?_⟩
  have s0 := same_new (o := .lst [.int 0]) hS
  refine ⟨(hp.same s0).O, sum_goes (E := L2.E0) (hp.same s0) (fac_int (by decide)) (tell_const (M := 4) (by decide) (by decide)) (by decide) (by decide) (by decide) (by decide) (by decide) fun b1 H1 s1 t1 => ⟨b1, rfl, s1 _ _ upd_same, ?_⟩⟩
  have e1 := s1 _ _ (upd_same (a := S) (o := .lst [.int 0]))
  have sA : Same H (upd H1 S (.lst [.ref b1])) := same_upd hS (s0.trans s1)
  have tA := t1.but (H' := upd H1 S (.lst [.ref b1])) but_upd e1
  have eA : (upd H1 S (.lst [.ref b1])) S = some (.lst [.ref b1]) := upd_same
  generalize upd H1 S (.lst [.ref b1]) = HA at sA tA eA
  refine ⟨sqL_same sA hl, eA, tA.O, (hq.same sA).O, ?_⟩
  obtain ⟨ms, hq2, U⟩ := hq.same sA
  refine sum_goes (E := L2.E0) tA (te_fac hq2) U (by decide) (by decide) (by decide) (by decide) (by decide) fun b2 H2 s2 t2 => ⟨b2, rfl, s2 _ _ eA, ?_⟩
  have e2 := s2 _ _ eA
  have sB : Same H (upd H2 S (.lst [.ref b2])) := same_upd hS (sA.trans s2)
  have tB := t2.but (H' := upd H2 S (.lst [.ref b2])) but_upd e2
  have eB : (upd H2 S (.lst [.ref b2])) S = some (.lst [.ref b2]) := upd_same
  generalize upd H2 S (.lst [.ref b2]) = HB at sB tB eB
  refine ⟨sqL_same sB hl, eB, tB.O, (hr.same sB).O, ?_⟩
  obtain ⟨ms3, hr2, U3⟩ := hr.same sB
  refine sum_goes (E := L2.E0) tB (te_fac hr2) U3 (by decide) (by decide) (by decide) (by decide) (by decide) fun b3 H3 s3 t3 => ⟨b3, rfl, s3 _ _ eB, ?_⟩
  have e3 := s3 _ _ eB
  have sC : Same H (upd H3 S (.lst [.ref b3])) := same_upd hS (sB.trans s3)
  refine ⟨sqL_same sC hl, upd_same, k b3 _ sC ?_⟩
  exact (t3.but but_upd e3).mono (by decide) (by decide)
end
end Qp

/-! values of what is built -/
namespace Qp
open PySem PySem.Spec PyProof.Rows L2 QN
abbrev sVa : Stmt := top 37 -- _law_values_right
abbrev nmVa : List Str := ["_law_dice_here", "_law_one", "_law_other", "_law_n", "_law_first", "_law_second", "_law_told"]
theorem scVa : FnScope nmVa ["_law_dice_here", "_law_one", "_law_other"] (defScope sVa) := ⟨rfl, rfl, rfl, by decide +kernel, rfl, by decide +kernel, by decide +kernel⟩
/-- o(n) -/
theorem co_goes {X : Cx} {K : PySem.W.Frag} {C : Addr} {σ : L2.St} {H : Hp} {f : Int → Int} {M L m i : Nat} {tf : TE} {n : Int} {Q : VK} (hf : GoesP K C tf σ H f M L) (hi : σ[i]? = some (some (.int n))) (n0 : 0 ≤ n) (n1 : n < 2 ^ m) (hm : 0 < M) (m0 : 0 < m) (hs : M + L * (m + 1) + m ≤ 1000000)
    (k : ∀ H', Same H H' → Q (.int (f n)) H') : StX.tCallO X C (spCl K C) L2.E0 tf (tCons (tVar i) tNil) σ H Q :=
  hf _ fun p H1 s1 hp => ⟨p, rfl, _, hi, .inr hp.O, call_goes (E := L2.E0) hp n0 n1 hm m0 hs fun H' s => k H' (s1.trans s)⟩
def spVa (K : PySem.W.Frag) (C : Addr) : Sp := fun vs H Q _ => ∃ (p a b : Addr) (x y z : Int) (fa fb : Int → Int), vs = [.ref p, .ref a, .ref b] ∧ H p = some (.lst (hand x y z)) ∧ TP K C H a fa 72 3 ∧ TP K C H b fb 72 3 ∧
  ∀ (x' y' z' : Int) (H' : Hp), H' p = some (.lst (hand x' y' z')) → But p H H' → Q (.bl true) H'
theorem TP.lt {K : PySem.W.Frag} {C p : Addr} {H : Hp} {f : Int → Int} {M L m : Nat} {n : Int} (h : TP K C H p f M L) (n0 : 0 ≤ n) (n1 : n < 2 ^ m) : 0 ≤ f n ∧ f n < 2 ^ (M + L * (m + 1)) := by
  obtain ⟨ns, _, T⟩ := h
  refine ⟨T.f0 n0, ?_⟩
  rw [← T.val]
  refine Int.lt_of_lt_of_le (valB_lt n0 n1 T.bd) (pow_mono2 ?_)
  have := Nat.mul_le_mul_right (m + 1) T.len
  omega
section
variable {P : Program} {w : World} {K : PySem.W.Frag} {mg : Str → Option Value} {base : Heap} {C : Addr}
theorem ok_va {f fR : Addr} {fd fdR : FuncData} (F : Fun K "_law_values_right" "_law_values_right" sVa f fd) (Z : Kt P w K mg base C) (VB : BltV mg)
    (GR : FnOk P w K mg base CX0 1 fR fdR ["_law_dice_here", "_law_total"] spRoll) (kR : PySem.W.keepIn K (.ref fR) = true) (bR : L2.Binds K fdR ["_law_dice_here", "_law_total"] []) (gR : mg "_law_roll" = some (.ref fR)) :
    FnOk P w K mg base CX0 10 f fd ["_law_dice_here", "_law_one", "_law_other"] (spVa K C) := by
  refine F.ok scVa (fun vs H Q E h => ?_) (fun cdv A outer s H vs Q E hr h => ?_)
  · obtain ⟨p, a, b, x, y, z, fa, fb, rfl, _⟩ := h
    rfl
  · obtain ⟨p, a, b, x, y, z, fa, fb, rfl, hp, ha, hb, k⟩ := h
    have hu : (A.deeper (envOfC "_law_values_right" (defScope sVa) s.heap.objs.size f cdv)).units + 64 < cLine := by
      have := hr.un
      omega
    have r1 := hr.mono (by decide : 1 ≤ 9)
    have r4 := hr.mono (by decide : 4 ≤ 9)
    have r5 := hr.mono (by decide : 5 ≤ 9)
    refine ⟨_, (pss_cons (ps_for PassesOwn.never rfl (pi_tup (pe_tup (pa_cons pe_int (pa_cons pe_int (pa_cons (pe_call GR r1 (by rfl) gR kR bR .nil pass0 (pa_cons (pv 0) (pa_cons pe_int pa_nil))) (pa_cons (pe_op op_add (pe_op op_pow pe_int pe_int) (pe_call GR r1 (by rfl) gR kR bR .nil pass0 (pa_cons (pv 0) (pa_cons pe_int pa_nil)))) pa_nil)))))) (pg_name (i := 3) scVa.nd rfl (.inl rfl))
      (pss_cons (ps_par (i := 4) (j := 5) rfl scVa.nd rfl rfl (by decide) rfl rfl (pa_cons (StX.pe_callO (pv 1) Z.CO Z.GCl r4 pass0 (pa_cons (pv 3) pa_nil)) (pa_cons (StX.pe_callO (pv 2) Z.CO Z.GCl r4 pass0 (pa_cons (pv 3) pa_nil)) pa_nil)) rfl)
      (pss_cons (ps_set (i := 6) scVa.nd rfl (.inl rfl) (pe_lst (pa_cons (StX.pe_callO (pe_op (op_binO (op := .Add) Z.sf Z.MA Z.GA r5 pass0) (pv 1) (pv 2)) Z.CO Z.GCl r4 pass0 (pa_cons (pv 3) pa_nil)) (pa_cons (StX.pe_callO (pe_op (op_binO (op := .Mult) Z.sf Z.MM Z.GM r5 pass0) (pv 1) (pv 2)) Z.CO Z.GCl r4 pass0 (pa_cons (pv 3) pa_nil)) (pa_cons (StX.pe_callO (pe_op (op_binI (op := .Pow) Z.BP Z.MP Z.noRP (.inl rfl) Z.GP r5 pass0) (pv 1) pe_int) Z.CO Z.GCl r4 pass0 (pa_cons (pv 3) pa_nil)) (pa_cons (StX.pe_callO (pe_methR (pv 1) Z.T.cls Z.MAt Z.GAt r5 pass0 (pa_cons (pv 2) pa_nil)) Z.CO Z.GCl r4 pass0 (pa_cons (pv 3) pa_nil)) pa_nil))))))
      (pss_one (ps_if (pt_cmpR (op_neD hu) (pv 6) (pe_lst (pa_cons (pe_op op_add (pv 4) (pv 5)) (pa_cons (pe_op op_mulW (pv 4) (pv 5)) (pa_cons (pe_op op_mulW (pv 4) (pv 4)) (pa_cons (StX.pe_callO (pv 1) Z.CO Z.GCl r4 pass0 (pa_cons (pv 5) pa_nil)) pa_nil))))) (nomark _)) (pss_one (ps_ret pe_bl)) pss_nil)))))
      (pss_one (ps_ret pe_bl))), ?_⟩
    refine ⟨.ref p, rfl, p, x, y, z, 20, rfl, hp, by decide, by decide, fun r x1 y1 z1 H1 r0 r1' hp1 b1 => ⟨_, _, rfl, rfl, ⟨by decide, by decide, by decide⟩, .ref p, rfl, p, x1, y1, z1, 9, rfl, hp1, by decide, by decide, fun t x2 y2 z2 H2 t0 t1 hp2 b2 => ⟨_, _, rfl, rfl, (by show 4 ≤ sizeLine; decide), fun tv htv => ?_⟩⟩⟩
    have b02 : But p H H2 := but_trans b1 b2
    have sv := same_new (o := .tup [.int 0, .int 1, .int r, .int ((10 : Int) ^ (12 : Int).toNat + t)]) htv
    have ha2 := (ha.but b02 hp).same sv
    have hb2 := (hb.but b02 hp).same sv
    have b03 : But p H (upd H2 tv (.tup [.int 0, .int 1, .int r, .int ((10 : Int) ^ (12 : Int).toNat + t)])) := but_trans b02 (same_but sv)
    have hp3 := sv _ _ hp2
    have htv3 : (upd H2 tv (.tup [.int 0, .int 1, .int r, .int ((10 : Int) ^ (12 : Int).toNat + t)])) tv = some (.tup [.int 0, .int 1, .int r, .int ((10 : Int) ^ (12 : Int).toNat + t)]) := upd_same
    have hvals : ∀ v ∈ [V.int 0, .int 1, .int r, .int ((10 : Int) ^ (12 : Int).toNat + t)], ∃ n : Int, v = .int n ∧ 0 ≤ n ∧ n < 2 ^ 50 := fun v hv => by
      have e12 : (10 : Int) ^ (12 : Int).toNat = 1000000000000 := by decide
      simp only [List.mem_cons, List.not_mem_nil, or_false] at hv
      rcases hv with rfl | rfl | rfl | rfl
      · exact ⟨0, rfl, by decide, by decide⟩
      · exact ⟨1, rfl, by decide, by decide⟩
      · exact ⟨r, rfl, r0, by omega⟩
      · exact ⟨_, rfl, by omega, by omega⟩
    generalize upd H2 tv (.tup [.int 0, .int 1, .int r, .int ((10 : Int) ^ (12 : Int).toNat + t)]) = H3 at ha2 hb2 b03 hp3 htv3
    refine ⟨tv, rfl, ⟨_, .inl (.inl htv3)⟩, for_tup (xs := [V.int 0, .int 1, .int r, .int ((10 : Int) ^ (12 : Int).toNat + t)]) (fun i σ H' => ∃ y3 y4 y5 y6, σ = [some (.ref p), some (.ref a), some (.ref b), y3, y4, y5, y6] ∧ Same H3 H') ⟨_, _, _, _, rfl, Same.refl _⟩ (fun i σ H' _ ⟨_, _, _, _, _, s'⟩ => .inl (.inl (s' _ _ htv3))) ?_ ?_⟩
    · rintro i v σ H' hv ⟨y3, y4, y5, y6, rfl, s4⟩
      obtain ⟨n, rfl, n0, n1⟩ := hvals v (List.mem_of_getElem? hv)
      have ha4 := ha2.same s4
      have hb4 := hb2.same s4
      have lA := ha4.lt n0 n1
      have lB := hb4.lt n0 n1
      dsimp only [gName]
      refine ⟨_, rfl, a, rfl, _, rfl, .inr ha4.O, call_goes (E := L2.E0) ha4 n0 n1 (by decide) (by decide) (by decide) fun H5 s5 => ?_⟩
      refine ⟨_, rfl, b, rfl, _, rfl, .inr (hb4.same s5).O, call_goes (E := L2.E0) (hb4.same s5) n0 n1 (by decide) (by decide) (by decide) fun H6 s6 => ⟨_, _, rfl, ?_⟩⟩
      have s56 := s5.trans s6
      have ha6 := ha4.same s56
      have hb6 := hb4.same s56
      dsimp only
      refine q_seq (q_asg (q_lst (q_cons ?_)))
      refine co_goes (f := fun n => fa n + fb n) (gp_add (gp_var rfl ha6) (fun H' s => by exact gp_var rfl (hb6.same s)) (by decide) (by decide) (by decide) (by decide) (by decide)) rfl n0 n1 (by decide) (by decide) (by decide) fun H7 s7 => q_cons ?_
      have ha7 := ha6.same s7
      have hb7 := hb6.same s7
      refine co_goes (f := fun n => fa n * fb n) (gp_mul (gp_var rfl ha7) (fun H' s => by exact gp_var rfl (hb7.same s)) (by decide) (by decide) (by decide) (by decide) (by decide)) rfl n0 n1 (by decide) (by decide) (by decide) fun H8 s8 => q_cons ?_
      have ha8 := ha7.same s8
      have hb8 := hb7.same s8
      refine co_goes (f := fun n => fa n ^ 2) (gp_pow (e := 2) rfl (gp_var rfl ha8) (by decide) (by decide) (by decide) (by decide)) rfl n0 n1 (by decide) (by decide) (by decide) fun H9 s9 => q_cons ?_
      have ha9 := ha8.same s9
      have hb9 := hb8.same s9
      refine co_goes (f := fun n => fa (fb n)) (gp_at (gp_var rfl ha9) (fun H' s => by exact gp_var rfl (hb9.same s)) (by decide) (by decide) (by decide) (by decide) (by decide)) rfl n0 n1 (by decide) (by decide) (by decide) fun Ha sa => ?_
      have haa := ha9.same sa
      refine ⟨by show 4 ≤ sizeLine; decide, fun L hL => ?_⟩
      dsimp only [gName]
      have sL := same_new (o := .lst (iv [fa n + fb n, fa n * fb n, fa n ^ 2, fa (fb n)])) hL
      have eL : (upd Ha L (.lst (iv [fa n + fb n, fa n * fb n, fa n ^ 2, fa (fb n)]))) L = some (.lst (iv [fa n + fb n, fa n * fb n, fa n ^ 2, fa (fb n)])) := upd_same
      have hab := haa.same sL
      have s0b := s4.trans (s56.trans (s7.trans (s8.trans (s9.trans (sa.trans sL)))))
      have e0 : (upd Ha L (.lst [V.int (fa n + fb n), .int (fa n * fb n), .int (fa n ^ 2), .int (fa (fb n))])) = upd Ha L (.lst (iv [fa n + fb n, fa n * fb n, fa n ^ 2, fa (fb n)])) := rfl
      rw [e0]
      generalize upd Ha L (.lst (iv [fa n + fb n, fa n * fb n, fa n ^ 2, fa (fb n)])) = Hb at eL hab s0b
      have mAB : CMulW (fa n) (fb n) := wide_mul (abs_lt lA.1 lA.2) (abs_lt lB.1 lB.2) (by decide) (by decide) (by decide)
      have mAA : CMulW (fa n) (fa n) := wide_mul (abs_lt lA.1 lA.2) (abs_lt lA.1 lA.2) (by decide) (by decide) (by decide)
      refine ⟨_, rfl, _, rfl, _, rfl, _, _, rfl, rfl, _, rfl, _, rfl, _, _, rfl, rfl, mAB, _, rfl, _, rfl, _, _, rfl, rfl, mAA, ?_⟩
      refine ⟨_, rfl, a, rfl, _, rfl, .inr hab.O, call_goes (E := L2.E0) hab lB.1 lB.2 (by decide) (by decide) (by decide) fun Hc sc => ⟨by show 4 ≤ sizeLine; decide, fun N hN => ?_⟩⟩
      have sN := same_new (o := .lst (iv [fa n + fb n, fa n * fb n, fa n * fa n, fa (fb n)])) hN
      have eq2 : fa n ^ 2 = fa n * fa n := by rw [Int.pow_succ, Int.pow_succ, Int.pow_zero, Int.one_mul]
      rw [eq2] at eL
      have eLv : ∀ a b : List Int, PyData.eqv (.list (ds a)) (.list (ds b)) = decide (a = b) := eqvAll_ds
      refine ⟨.list (ds [fa n + fb n, fa n * fb n, fa n * fa n, fa (fb n)]), .list (ds [fa n + fb n, fa n * fb n, fa n * fa n, fa (fb n)]), .lst (.inl (.inl (sN _ _ (sc _ _ eL)))) (dps _), .lst (.inl (.inl upd_same)) (show DpAll K _ (iv [fa n + fb n, fa n * fb n, fa n * fa n, fa (fb n)]) _ from dps _), shaped_lst _, shaped_lst _, _, rfl, if_no (by rw [eLv]; simp) ?_⟩
      exact ⟨_, _, _, _, rfl, s0b.trans (sc.trans sN)⟩
    · rintro σ H' ⟨y3, y4, y5, y6, rfl, s4⟩
      exact k _ _ _ _ (s4 _ _ hp3) (but_trans b03 (same_but s4))
end
end Qp

/-! built in two ways -/
namespace Qp
open PySem PySem.Spec PyProof.Rows L2 QN
abbrev sBW : Stmt := top 36 -- _law_built_ways
abbrev bwNames : List Str := ["_law_dice_here", "_law_one", "_law_other", "_law_third", "_law_found"]
theorem scBW : FnScope bwNames ["_law_dice_here", "_law_one", "_law_other", "_law_third"] (defScope sBW) := ⟨rfl, rfl, rfl, by decide +kernel, rfl, by decide +kernel, by decide +kernel⟩
/-- two equal ones -/
def PairAt (K : PySem.W.Frag) (C : Addr) (H : Hp) (v : V) : Prop := ∃ (t p q : Addr) (ns : List Int), v = .ref t ∧ SqT K H t [.ref p, .ref q] ∧ PolyAt K C H p ns ∧ PolyAt K C H q ns ∧ cutZ ns = ns ∧ Bd 2000 ns ∧ ns.length ≤ 40
theorem PairAt.same {K : PySem.W.Frag} {C : Addr} {H H' : Hp} {v : V} (h : PairAt K C H v) (s : Same H H') : PairAt K C H' v := by
  obtain ⟨t, p, q, ns, e, h1, h2, h3, h4⟩ := h
  exact ⟨t, p, q, ns, e, sqT_same s h1, polyAt_same s h2, polyAt_same s h3, h4⟩
theorem sqT_butL {K : PySem.W.Frag} {H H' : Hp} {p q : Addr} {l : List V} {xs : List V} (b : But p H H') (hp : H p = some (.lst l)) (h : SqT K H q xs) : SqT K H' q xs := by
  rcases h with (h | ⟨o, h⟩) | h
  · exact .inl (.inl (b _ _ (fun c => by rw [c, hp] at h; cases h) h))
  · exact .inl (.inr ⟨o, b _ _ (fun c => by rw [c, hp] at h; cases h) h⟩)
  · exact .inr h
theorem PairAt.but {K : PySem.W.Frag} {C a : Addr} {H H' : Hp} {v : V} {l : List V} (h : PairAt K C H v) (b : But a H H') (ha : H a = some (.lst l)) : PairAt K C H' v := by
  obtain ⟨t, p, q, ns, e, h1, h2, h3, h4⟩ := h
  exact ⟨t, p, q, ns, e, sqT_butL b ha h1, polyAt_but b ha h2, polyAt_but b ha h3, h4⟩
theorem pair_goes {K : PySem.W.Frag} {C : Addr} {σ : L2.St} {H : Hp} {f g : Int → Int} {M L M' L' : Nat} {ta tb : TE} {Q : VK} (ha : GoesP K C ta σ H f M L) (hb : ∀ H', Same H H' → GoesP K C tb σ H' g M' L') (e : ∀ n, f n = g n) (h1 : M ≤ 2000) (h2 : L ≤ 40)
    (k : ∀ t H', Same H H' → PairAt K C H' (.ref t) → Q (.ref t) H') : tTup (tCons ta (tCons tb tNil)) σ H Q :=
  ha _ fun p H1 s1 hp => hb H1 s1 _ fun q H2 s2 ⟨ms, hq, U⟩ => by
    obtain ⟨ns, hp2, T⟩ := hp.same s2
    have en := T.eq U e
    subst en
    refine ⟨by show 2 ≤ sizeLine; decide, fun t ht => ?_⟩
    have s3 := same_new (o := .tup [.ref p, .ref q]) ht
    exact k t _ (s1.trans (s2.trans s3)) ⟨t, p, q, ns, rfl, .inl (.inl upd_same), polyAt_same s3 hp2, polyAt_same s3 hq, T.cut, (T.mono h1 h2).bd, Nat.le_trans T.len h2⟩
def spBW (K : PySem.W.Frag) (C : Addr) : Sp := fun vs H Q _ => ∃ (p a b c : Addr) (x y z : Int) (fa fb fc : Int → Int), vs = [.ref p, .ref a, .ref b, .ref c] ∧ H p = some (.lst (hand x y z)) ∧ TP K C H a fa 72 3 ∧ TP K C H b fb 72 3 ∧ TP K C H c fc 72 3 ∧
  ∀ (r : Addr) (ys : List V) (x' y' z' : Int) (H' : Hp), H' r = some (.lst ys) → (∀ v ∈ ys, PairAt K C H' v) → H' p = some (.lst (hand x' y' z')) → But p H H' → Q (.ref r) H'
theorem cube (x : Int) : (x + 1) ^ 3 = x ^ 3 + x ^ 2 * 3 + x * 3 + 1 := by
  have e3 : ∀ y : Int, y ^ 3 = y * y * y := fun y => by rw [Int.pow_succ, Int.pow_succ, Int.pow_succ, Int.pow_zero, Int.one_mul]
  have e2 : ∀ y : Int, y ^ 2 = y * y := fun y => by rw [Int.pow_succ, Int.pow_succ, Int.pow_zero, Int.one_mul]
  rw [e3, e3, e2]
  simp only [Int.add_mul, Int.mul_add, Int.one_mul, Int.mul_one]
  omega
section
variable {K : PySem.W.Frag} {C : Addr} {σ : L2.St} {H : Hp} {f g h : Int → Int} {p q r : Addr}
variable (h1 : σ[1]? = some (some (.ref p))) (h2 : σ[2]? = some (some (.ref q))) (h3 : σ[3]? = some (some (.ref r))) (hp : TP K C H p f 72 3) (hq : TP K C H q g 72 3) (hr : TP K C H r h 72 3)
include h1 h2 h3 hp hq hr
theorem bw11 : GoesP K C (eMul K C (eAdd K C (tVar 1) (tVar 2)) (tVar 3)) σ H (fun n => (f n + g n) * h n) 2000 40 :=
  GoesP.mono (gp_mul (gp_add (gp_var h1 hp) (fun H' s => gp_var h2 (hq.same s)) (by decide) (by decide) (by decide) (by decide) (by decide)) (fun H' s => gp_var h3 (hr.same s)) (by decide) (by decide) (by decide) (by decide) (by decide)) (by decide) (by decide)
theorem bw12 : GoesP K C (eAdd K C (eMul K C (tVar 3) (tVar 1)) (eMul K C (tVar 3) (tVar 2))) σ H (fun n => h n * f n + h n * g n) 2000 40 :=
  GoesP.mono (gp_add (gp_mul (gp_var h3 hr) (fun H' s => gp_var h1 (hp.same s)) (by decide) (by decide) (by decide) (by decide) (by decide)) (fun H' s => gp_mul (gp_var h3 (hr.same s)) (fun H2 s2 => gp_var h2 ((hq.same s).same s2)) (by decide) (by decide) (by decide) (by decide) (by decide)) (by decide) (by decide) (by decide) (by decide) (by decide)) (by decide) (by decide)
theorem bw21 : GoesP K C (eAt K C (eAt K C (tVar 1) (tVar 2)) (tVar 3)) σ H (fun n => f (g (h n))) 2000 40 :=
  GoesP.mono (gp_at (f := fun n => f (g n)) (gp_at (gp_var h1 hp) (fun H' s => gp_var h2 (hq.same s)) (by decide) (by decide) (by decide) (by decide) (by decide)) (fun H' s => gp_var h3 (hr.same s)) (by decide) (by decide) (by decide) (by decide) (by decide)) (by decide) (by decide)
theorem bw22 : GoesP K C (eAt K C (tVar 1) (eAt K C (tVar 2) (tVar 3))) σ H (fun n => f (g (h n))) 2000 40 :=
  GoesP.mono (gp_at (g := fun n => g (h n)) (gp_var h1 hp) (fun H' s => gp_at (gp_var h2 (hq.same s)) (fun H2 s2 => gp_var h3 ((hr.same s).same s2)) (by decide) (by decide) (by decide) (by decide) (by decide)) (by decide) (by decide) (by decide) (by decide) (by decide)) (by decide) (by decide)
theorem bw31 : GoesP K C (eAt K C (eMul K C (tVar 1) (tVar 2)) (tVar 3)) σ H (fun n => f (h n) * g (h n)) 2000 40 :=
  GoesP.mono (gp_at (f := fun n => f n * g n) (gp_mul (gp_var h1 hp) (fun H' s => gp_var h2 (hq.same s)) (by decide) (by decide) (by decide) (by decide) (by decide)) (fun H' s => gp_var h3 (hr.same s)) (by decide) (by decide) (by decide) (by decide) (by decide)) (by decide) (by decide)
theorem bw32 : GoesP K C (eMul K C (eAt K C (tVar 1) (tVar 3)) (eAt K C (tVar 2) (tVar 3))) σ H (fun n => f (h n) * g (h n)) 2000 40 :=
  GoesP.mono (gp_mul (f := fun n => f (h n)) (g := fun n => g (h n)) (gp_at (gp_var h1 hp) (fun H' s => gp_var h3 (hr.same s)) (by decide) (by decide) (by decide) (by decide) (by decide)) (fun H' s => gp_at (gp_var h2 (hq.same s)) (fun H2 s2 => gp_var h3 ((hr.same s).same s2)) (by decide) (by decide) (by decide) (by decide) (by decide)) (by decide) (by decide) (by decide) (by decide) (by decide)) (by decide) (by decide)
theorem bw51 : GoesP K C (tCB (rSumO K C (spBin sumZ K C) (spBin sumZ K C)) (tCons (tLst (tCons (tVar 1) (tCons (tVar 2) (tCons (tVar 3) tNil)))) tNil)) σ H (fun n => f n + 0 + g n + h n) 2000 40 :=
  GoesP.mono (M := 400) (L := 20) (fun Q k => ⟨_, h1, _, h2, _, h3, (by show 3 ≤ sizeLine; decide), fun a ha => by
    have s := same_new (o := .lst [.ref p, .ref q, .ref r]) ha
    exact sum3_goes (f := f) (g := g) (h3 := h) (.inl (.inl upd_same)) (hp.same s) (hq.same s) (hr.same s) fun b H' s' t => k b H' (s.trans s') t⟩) (by decide) (by decide)
theorem bw52 : GoesP K C (eAdd K C (tVar 3) (eAdd K C (tVar 2) (tVar 1))) σ H (fun n => h n + (g n + f n)) 2000 40 :=
  GoesP.mono (gp_add (g := fun n => g n + f n) (gp_var h3 hr) (fun H' s => gp_add (gp_var h2 (hq.same s)) (fun H2 s2 => gp_var h1 ((hp.same s).same s2)) (by decide) (by decide) (by decide) (by decide) (by decide)) (by decide) (by decide) (by decide) (by decide) (by decide)) (by decide) (by decide)
omit h2 h3 hq hr
theorem bw41 : GoesP K C (ePow K C (eAddI K C (tVar 1) 1) 3) σ H (fun n => (f n + 1) ^ 3) 2000 40 :=
  GoesP.mono (gp_pow (f := fun n => f n + 1) (e := 3) rfl (gp_addI (gp_var h1 hp) (by decide) (by decide) (by decide) (by decide) (by decide)) (by decide) (by decide) (by decide) (by decide)) (by decide) (by decide)
theorem bw42 : GoesP K C (eAddI K C (eAdd K C (eAdd K C (ePow K C (tVar 1) 3) (eRMul K C 3 (ePow K C (tVar 1) 2))) (eMulI K C (tVar 1) 3)) 1) σ H (fun n => f n ^ 3 + f n ^ 2 * 3 + f n * 3 + 1) 2000 40 :=
  GoesP.mono (gp_addI (f := fun n => f n ^ 3 + f n ^ 2 * 3 + f n * 3) (gp_add (f := fun n => f n ^ 3 + f n ^ 2 * 3) (g := fun n => f n * 3) (gp_add (f := fun n => f n ^ 3) (g := fun n => f n ^ 2 * 3) (gp_pow (e := 3) rfl (gp_var h1 hp) (by decide) (by decide) (by decide) (by decide))
      (fun H' s => gp_rmulI (f := fun n => f n ^ 2) (gp_pow (e := 2) rfl (gp_var h1 (hp.same s)) (by decide) (by decide) (by decide) (by decide)) (by decide) (by decide) (by decide) (by decide) (by decide)) (by decide) (by decide) (by decide) (by decide) (by decide))
    (fun H' s => gp_mulI (gp_var h1 (hp.same s)) (by decide) (by decide) (by decide) (by decide) (by decide)) (by decide) (by decide) (by decide) (by decide) (by decide)) (by decide) (by decide) (by decide) (by decide) (by decide)) (by decide) (by decide)
theorem bw61 {E : XK} : GoesP K C (eAdd K C (eRAdd K C 0 (eMulI K C (tVar 1) 1)) (tMakeR0 C (spInit K C) E)) σ H (fun n => f n * 1 + 0 + 0) 2000 40 :=
  GoesP.mono (gp_add (f := fun n => f n * 1 + 0) (g := fun _ => 0) (gp_raddI (f := fun n => f n * 1) (gp_mulI (gp_var h1 hp) (by decide) (by decide) (by decide) (by decide) (by decide)) (by decide) (by decide) (by decide) (by decide) (by decide)) (fun H' s => gp_zero) (by decide) (by decide) (by decide) (by decide) (by decide)) (by decide) (by decide)
end
theorem step_list {K : PySem.W.Frag} {C L t : Addr} {H H1 H2 : Hp} {xs : List V} (nL : H L = none) (s01 : Same H H1) (eL : H1 L = some (.lst xs)) (al : ∀ v ∈ xs, PairAt K C H1 v) (s12 : Same H1 H2) (pt : PairAt K C H2 (.ref t)) :
    Same H (upd H2 L (.lst (xs ++ [.ref t]))) ∧ (upd H2 L (.lst (xs ++ [.ref t]))) L = some (.lst (xs ++ [.ref t])) ∧ ∀ v ∈ xs ++ [.ref t], PairAt K C (upd H2 L (.lst (xs ++ [.ref t]))) v := by
  refine ⟨same_upd nL (s01.trans s12), upd_same, fun v hv => ?_⟩
  refine PairAt.but (a := L) ?_ but_upd (s12 _ _ eL)
  rcases List.mem_append.mp hv with hv | hv
  · exact (al v hv).same s12
  · rw [List.mem_singleton.mp hv]
    exact pt
section
variable {P : Program} {w : World} {K : PySem.W.Frag} {mg : Str → Option Value} {base : Heap} {C : Addr}
theorem ok_bw {f fM : Addr} {fd fdM : FuncData} (F : Fun K "_law_built_ways" "_law_built_ways" sBW f fd) (Z : Kt P w K mg base C) (VB : BltV mg)
    (GM : FnOk P w K mg base CX0 2 fM fdM ["_law_dice_here", "_law_items"] (spMixed K)) (kM : PySem.W.keepIn K (.ref fM) = true) (bM : L2.Binds K fdM ["_law_dice_here", "_law_items"] []) (gM : mg "_law_mixed" = some (.ref fM)) :
    FnOk P w K mg base CX0 10 f fd ["_law_dice_here", "_law_one", "_law_other", "_law_third"] (spBW K C) := by
  refine F.ok scBW (fun vs H Q E h => ?_) (fun cdv A outer s H vs Q E hr h => ?_)
  · obtain ⟨p, a, b, c, x, y, z, fa, fb, fc, rfl, _⟩ := h
    rfl
  · obtain ⟨p, a, b, c, x, y, z, fa, fb, fc, rfl, hp, ha, hb, hc, k⟩ := h
    have r2 := hr.mono (by decide : 2 ≤ 9)
    have r4 := hr.mono (by decide : 3 + 1 ≤ 9)
    have r5 := hr.mono (by decide : 5 ≤ 9)
    have r6 := hr.mono (by decide : 5 + 1 ≤ 9)
    refine ⟨_, pss_cons (ps_set (i := 4) scBW.nd rfl (.inl rfl) (pe_lst (pa_cons (pe_tup (pa_cons (pe_op (op_binO (op := .Mult) Z.sf Z.MM Z.GM r5 pass0) (pe_op (op_binO (op := .Add) Z.sf Z.MA Z.GA r5 pass0) (pv 1) (pv 2)) (pv 3))
          (pa_cons (pe_op (op_binO (op := .Add) Z.sf Z.MA Z.GA r5 pass0) (pe_op (op_binO (op := .Mult) Z.sf Z.MM Z.GM r5 pass0) (pv 3) (pv 1)) (pe_op (op_binO (op := .Mult) Z.sf Z.MM Z.GM r5 pass0) (pv 3) (pv 2))) pa_nil)))
        (pa_cons (pe_tup (pa_cons (pe_methR (pe_methR (pv 1) Z.T.cls Z.MAt Z.GAt r5 pass0 (pa_cons (pv 2) pa_nil)) Z.T.cls Z.MAt Z.GAt r5 pass0 (pa_cons (pv 3) pa_nil))
          (pa_cons (pe_methR (pv 1) Z.T.cls Z.MAt Z.GAt r5 pass0 (pa_cons (pe_methR (pv 2) Z.T.cls Z.MAt Z.GAt r5 pass0 (pa_cons (pv 3) pa_nil)) pa_nil)) pa_nil))) pa_nil))))
      (pss_cons (ps_expr (pe_bm PySem.F.plainAttrs_list PySem.F.slot_list_append PySem.F.type_list_append mt_append (pv 4) (pa_cons (pe_tup (pa_cons (pe_methR (pe_op (op_binO (op := .Mult) Z.sf Z.MM Z.GM r5 pass0) (pv 1) (pv 2)) Z.T.cls Z.MAt Z.GAt r5 pass0 (pa_cons (pv 3) pa_nil))
          (pa_cons (pe_op (op_binO (op := .Mult) Z.sf Z.MM Z.GM r5 pass0) (pe_methR (pv 1) Z.T.cls Z.MAt Z.GAt r5 pass0 (pa_cons (pv 3) pa_nil)) (pe_methR (pv 2) Z.T.cls Z.MAt Z.GAt r5 pass0 (pa_cons (pv 3) pa_nil))) pa_nil))) pa_nil)))
      (pss_cons (ps_expr (pe_bm PySem.F.plainAttrs_list PySem.F.slot_list_append PySem.F.type_list_append mt_append (pv 4) (pa_cons (pe_tup (pa_cons (pe_op (op_binI (op := .Pow) Z.BP Z.MP Z.noRP (.inl rfl) Z.GP r5 pass0) (pe_op (op_binI (op := .Add) Z.BA Z.MA Z.MRA.at_ (.inr ⟨_, rfl⟩) Z.GA r5 pass0) (pv 1) pe_int) pe_int)
          (pa_cons (pe_op (op_binI (op := .Add) Z.BA Z.MA Z.MRA.at_ (.inr ⟨_, rfl⟩) Z.GA r5 pass0) (pe_op (op_binO (op := .Add) Z.sf Z.MA Z.GA r5 pass0) (pe_op (op_binO (op := .Add) Z.sf Z.MA Z.GA r5 pass0) (pe_op (op_binI (op := .Pow) Z.BP Z.MP Z.noRP (.inl rfl) Z.GP r5 pass0) (pv 1) pe_int)
            (pe_op (op_rmulO Z.BM Z.MM Z.MRM Z.GRM r5 pass0) pe_int (pe_op (op_binI (op := .Pow) Z.BP Z.MP Z.noRP (.inl rfl) Z.GP r5 pass0) (pv 1) pe_int))) (pe_op (op_binI (op := .Mult) Z.BM Z.MM Z.MRM.at_ (.inr ⟨_, rfl⟩) Z.GM r5 pass0) (pv 1) pe_int)) pe_int) pa_nil))) pa_nil)))
      (pss_cons (ps_expr (pe_bm PySem.F.plainAttrs_list PySem.F.slot_list_append PySem.F.type_list_append mt_append (pv 4) (pa_cons (pe_tup (pa_cons (pe_callB (cr_sumO Z.BA Z.MA Z.GA r6 Z.MRA Z.GRA r6) (by rfl) VB.s.sum (by decide +kernel) (pa_cons (pe_lst (pa_cons (pv 1) (pa_cons (pv 2) (pa_cons (pv 3) pa_nil)))) pa_nil))
          (pa_cons (pe_op (op_binO (op := .Add) Z.sf Z.MA Z.GA r5 pass0) (pv 3) (pe_op (op_binO (op := .Add) Z.sf Z.MA Z.GA r5 pass0) (pv 2) (pv 1))) pa_nil))) pa_nil)))
      (pss_cons (ps_expr (pe_bm PySem.F.plainAttrs_list PySem.F.slot_list_append PySem.F.type_list_append mt_append (pv 4) (pa_cons (pe_tup (pa_cons (pe_op (op_binO (op := .Add) Z.sf Z.MA Z.GA r5 pass0) (pe_op (op_raddO Z.BA Z.MA Z.MRA Z.GRA r5 pass0) pe_int (pe_op (op_binI (op := .Mult) Z.BM Z.MM Z.MRM.at_ (.inr ⟨_, rfl⟩) Z.GM r5 pass0) (pv 1) pe_int)) (pe_makeR0 Z.M Z.GI r4 (by rfl) Z.T.gC pass0))
          (pa_cons (pv 1) pa_nil))) pa_nil)))
      (pss_one (ps_ret (pe_call GM r2 (by rfl) gM kM bM .nil pass0 (pa_cons (pv 0) (pa_cons (pv 4) pa_nil))))))))), ?_⟩
    refine q_seq (q_asg (q_lst (q_cons ?_)))
    refine pair_goes (by exact bw11 rfl rfl rfl ha hb hc) (fun H' s => by exact bw12 rfl rfl rfl (ha.same s) (hb.same s) (hc.same s)) (fun n => by show (fa n + fb n) * fc n = fc n * fa n + fc n * fb n; rw [Int.add_mul, Int.mul_comm (fa n), Int.mul_comm (fb n)]) (by decide) (by decide) fun t1 H1 s1 p1 => ?_
    refine q_cons ?_
    refine pair_goes (by exact bw21 rfl rfl rfl (ha.same s1) (hb.same s1) (hc.same s1)) (fun H' s => by exact bw22 rfl rfl rfl ((ha.same s1).same s) ((hb.same s1).same s) ((hc.same s1).same s)) (fun n => rfl) (by decide) (by decide) fun t2 H2 s2 p2 => ?_
    refine ⟨by show 2 ≤ sizeLine; decide, fun L hL => ?_⟩
    have s3 := same_new (o := .lst [.ref t1, .ref t2]) hL
    have s03 := s1.trans (s2.trans s3)
    have eL : (upd H2 L (.lst [.ref t1, .ref t2])) L = some (.lst [.ref t1, .ref t2]) := upd_same
    have al : ∀ v ∈ [V.ref t1, .ref t2], PairAt K C (upd H2 L (.lst [.ref t1, .ref t2])) v := fun v hv => by
      simp only [List.mem_cons, List.not_mem_nil, or_false] at hv
      rcases hv with rfl | rfl
      · exact (p1.same s2).same s3
      · exact p2.same s3
    have nL : H L = none := by
      cases e : H L with
      | none => rfl
      | some o => rw [s2 _ _ (s1 _ _ e)] at hL; cases hL
    generalize upd H2 L (.lst [.ref t1, .ref t2]) = H3 at eL al s03
    clear p1 p2 s1 s2 s3
    -- found.append(..)
    dsimp only [gName]
    refine q_seq (q_drop (q_bm ⟨.ref L, rfl, .inl ⟨rfl, _, .inl (.inl eL)⟩, q_cons ?_⟩))
    refine pair_goes (by exact bw31 rfl rfl rfl (ha.same s03) (hb.same s03) (hc.same s03)) (fun H' s => by exact bw32 rfl rfl rfl ((ha.same s03).same s) ((hb.same s03).same s) ((hc.same s03).same s)) (fun n => rfl) (by decide) (by decide) fun t3 H4 s4 p3 => ⟨L, _, _, rfl, rfl, s4 _ _ eL, (by show 2 < sizeLine; decide), ?_⟩
    obtain ⟨s05, eL5, al5⟩ := step_list nL s03 eL al s4 p3
    generalize upd H4 L _ = H5 at s05 eL5 al5
    dsimp only [gName]
    refine q_seq (q_drop (q_bm ⟨.ref L, rfl, .inl ⟨rfl, _, .inl (.inl eL5)⟩, q_cons ?_⟩))
    refine pair_goes (by exact bw41 rfl (ha.same s05)) (fun H' s => by exact bw42 rfl ((ha.same s05).same s)) (fun n => cube (fa n)) (by decide) (by decide) fun t4 H6 s6 p4 => ⟨L, _, _, rfl, rfl, s6 _ _ eL5, (by show 3 < sizeLine; decide), ?_⟩
    obtain ⟨s07, eL7, al7⟩ := step_list nL s05 eL5 al5 s6 p4
    generalize upd H6 L _ = H7 at s07 eL7 al7
    dsimp only [gName]
    refine q_seq (q_drop (q_bm ⟨.ref L, rfl, .inl ⟨rfl, _, .inl (.inl eL7)⟩, q_cons ?_⟩))
    refine pair_goes (by exact bw51 rfl rfl rfl (ha.same s07) (hb.same s07) (hc.same s07)) (fun H' s => by exact bw52 rfl rfl rfl ((ha.same s07).same s) ((hb.same s07).same s) ((hc.same s07).same s)) (fun n => by show fa n + 0 + fb n + fc n = fc n + (fb n + fa n); omega) (by decide) (by decide) fun t5 H8 s8 p5 => ⟨L, _, _, rfl, rfl, s8 _ _ eL7, (by show 4 < sizeLine; decide), ?_⟩
    obtain ⟨s09, eL9, al9⟩ := step_list nL s07 eL7 al7 s8 p5
    generalize upd H8 L _ = H9 at s09 eL9 al9
    dsimp only [gName]
    refine q_seq (q_drop (q_bm ⟨.ref L, rfl, .inl ⟨rfl, _, .inl (.inl eL9)⟩, q_cons ?_⟩))
    refine pair_goes (by exact bw61 (E := L2.E0) rfl (ha.same s09)) (fun H' s => by exact gp_var rfl ((ha.same s09).same s)) (fun n => by show fa n * 1 + 0 + 0 = fa n; omega) (by decide) (by decide) fun t6 Ha sa p6 => ⟨L, _, _, rfl, rfl, sa _ _ eL9, (by show 5 < sizeLine; decide), ?_⟩
    obtain ⟨s0b, eLb, alb⟩ := step_list nL s09 eL9 al9 sa p6
    generalize upd Ha L _ = Hb at s0b eLb alb
    refine ⟨.ref p, rfl, .ref L, rfl, p, L, x, y, z, _, rfl, s0b _ _ hp, .inl (.inl (.inl eLb)), (by show 6 < 1000000; decide), fun r ys x' y' z' H' pm hr' hp' bb => ?_⟩
    exact k r ys x' y' z' H' hr' (fun v hv => (alb v (pm.mem_iff.mp hv)).but bb (s0b _ _ hp)) hp' (but_same s0b bb)
end
end Qp

/-! whether a reach is right -/
namespace Qp
open PySem PySem.Spec PyProof.Rows L2 QN
theorem fit0 {ns : List Int} (hc : ∀ c ∈ ns, okC c) (hl : ns.length ≤ 6) : Fit ns 0 := ⟨hc, Int.le_refl 0, 1, by decide, by decide, by omega⟩
theorem fitN {ns : List Int} {n : Int} (hc : ∀ c ∈ ns, okC c) (hl : ns.length ≤ 6) (h0 : 0 ≤ n) (h : n < 2 ^ 3000) : Fit ns n := by
  refine ⟨hc, h0, 3000, h, by decide, ?_⟩
  have : ns.length * (3000 + 1) ≤ 6 * 3001 := Nat.mul_le_mul_right _ hl
  omega
def spRR (K : PySem.W.Frag) : Sp := fun vs H Q _ => ∃ (a : Addr) (ns : List Int) (g : Int), vs = [.ref a, .int g] ∧ SqT K H a (iv ns) ∧ (∀ c ∈ ns, okC c) ∧ ns.length ≤ 6 ∧ 0 ≤ g ∧ g < 2 ^ 3000 ∧ ∀ H', Same H H' → Q (.bl true) H'
structure BltR (mg : Str → Option Value) : Prop where
  rp : mg "repr" = none
section
variable {P : Program} {w : World} {K : PySem.W.Frag} {mg : Str → Option Value} {base : Heap}
end
end Qp

/-! what reach calls -/
namespace Qp
open PySem PySem.Spec PyProof.Rows L2 QN
abbrev sSlo : Stmt := top 20 -- _slopes
abbrev sHal : Stmt := top 27 -- _least_by_halves
abbrev sLost : Stmt := top 23 -- _lost_digits
abbrev sFew : Stmt := top 24 -- _few_digits
abbrev sDig : Stmt := top 22 -- _binary_digits
abbrev sShf : Stmt := top 26 -- _shifted
theorem scSlo : FnScope ["coefficients", "at"] ["coefficients"] (defScope sSlo) := ⟨rfl, rfl, rfl, by decide +kernel, rfl, by decide +kernel, by decide +kernel⟩
theorem scHal : FnScope ["coefficients", "goal", "many", "low", "high", "middle"] ["coefficients", "goal", "many"] (defScope sHal) := ⟨rfl, rfl, rfl, by decide +kernel, rfl, by decide +kernel, by decide +kernel⟩
theorem scLost : FnScope ["coefficients"] ["coefficients"] (defScope sLost) := ⟨rfl, rfl, rfl, by decide +kernel, rfl, by decide +kernel, by decide +kernel⟩
theorem scFew : FnScope ["coefficients"] ["coefficients"] (defScope sFew) := ⟨rfl, rfl, rfl, by decide +kernel, rfl, by decide +kernel, by decide +kernel⟩
theorem scDig : FnScope ["coefficients", "goal", "many", "at"] ["coefficients", "goal"] (defScope sDig) := ⟨rfl, rfl, rfl, by decide +kernel, rfl, by decide +kernel, by decide +kernel⟩
theorem scShf : FnScope ["number", "by"] ["number", "by"] (defScope sShf) := ⟨rfl, rfl, rfl, by decide +kernel, rfl, by decide +kernel, by decide +kernel⟩
structure BltN (mg : Str → Option Value) : Prop where
  len : mg "len" = none
  rg : mg "range" = none
  max : mg "max" = none
  min : mg "min" = none
  en : mg "enumerate" = none
def spSlo (K : PySem.W.Frag) (k : Bool) : Sp := fun vs H Q _ => ∃ (a : Addr) (ns : List Int), vs = [.ref a] ∧ SqK k K H a (iv ns) ∧ ns.length ≤ 100000 ∧ ∀ (q : Addr) (H' : Hp), Same H H' → H' q = some (.lst (iv (sloR ns))) → Q (.ref q) H'
def spHal (K : PySem.W.Frag) (k : Bool) : Sp := fun vs H Q _ => ∃ (a : Addr) (ns : List Int) (g : Int) (m S : Nat), vs = [.ref a, .int g, .int (m : Int)] ∧ SqK k K H a (iv ns) ∧ Bdd S ns ∧ 0 < S ∧ S + ns.length * (m + 2) + m + 1 ≤ 1000000 ∧
  ∀ (h : Int) (H' : Hp), Same H H' → 1 ≤ h → h ≤ 2 ^ m → (g ≤ val ns h ∨ h = 2 ^ m) → (val ns (h - 1) < g ∨ h = 1) → Q (.int h) H'
def spLost (K : PySem.W.Frag) : Sp := fun vs H Q _ => ∃ (a : Addr) (xs : List V), vs = [.ref a] ∧ (SqL K H a xs ∨ SqT K H a xs) ∧ Q (.int ((BL (xs.length : Nat) + 2 : Nat) : Int)) H
def spFew (K : PySem.W.Frag) : Sp := fun vs H Q _ => ∃ (a : Addr) (xs : List V), vs = [.ref a] ∧ (SqL K H a xs ∨ SqT K H a xs) ∧ Q (.int ((3 * (BL (xs.length : Nat) + 2) : Nat) : Int)) H
/-- so many binary digits by the coefficient c at the place k -/
def dg (g c : Int) (k : Nat) : Nat := (BL g + 1 - BL c) / k + 1
def spDig (K : PySem.W.Frag) : Sp := fun vs H Q _ => ∃ (a : Addr) (ns : List Int) (g : Int), vs = [.ref a, .int g] ∧ SqT K H a (iv ns) ∧ ns.length ≤ 100000 ∧ (∃ i, 1 ≤ i ∧ i < ns.length ∧ 0 < ns.getD i 0) ∧
  ∀ (m : Nat) (H' : Hp), Same H H' → (∃ i, 1 ≤ i ∧ i < ns.length ∧ 0 < ns.getD i 0 ∧ m = dg g (ns.getD i 0) i) → (∀ i, 1 ≤ i → i < ns.length → 0 < ns.getD i 0 → m ≤ dg g (ns.getD i 0) i) → Q (.int (m : Int)) H'
def spShf : Sp := fun vs H Q _ => ∃ (c b : Int), vs = [.int c, .int b] ∧ (0 < b → CShl c b) ∧ Q (.int (shZ c b)) H
theorem upd_keep {H H' : Hp} {D : Addr} {o : HO} (hD : H D = none) (s : Same H H') : Same H (upd H' D o) := fun x u e => by
  by_cases c : x = D
  · subst c
    rw [hD] at e
    cases e
  · rw [upd_ne c]
    exact s _ _ e
theorem iv_app (ns : List Int) (c : Int) : iv ns ++ [.int c] = iv (ns ++ [c]) := by
  unfold iv
  rw [List.map_append]
  rfl
theorem iv_at {ns : List Int} {i : Nat} (h : i < ns.length) : (iv ns)[i]? = some (.int (ns.getD i 0)) := by
  unfold iv
  rw [List.getElem?_map, get_of h]
  rfl
theorem ix_K {k : Bool} {K : PySem.W.Frag} {H : Hp} {Q : VK} {a : Addr} {ns : List Int} {j : Int} {i : Nat} (ej : j = (i : Int)) (h : SqK k K H a (iv ns)) (hi : i < ns.length) (q : Q (.int (ns.getD i 0)) H) : rIx K (.ref a) (.int j) H Q := by
  subst ej
  have e : atI (iv ns) (i : Int) = some (.int (ns.getD i 0)) := atI_nat (iv_at hi)
  cases k with
  | true => exact .inl ⟨a, _, _, _, rfl, rfl, h, e, q⟩
  | false => exact .inr (.inl ⟨a, _, _, _, rfl, rfl, h, e, q⟩)
theorem small64 {i : Nat} (h : i ≤ 100000) : -(2 ^ 64) < (1 + (i : Int)) ∧ (1 + (i : Int)) < 2 ^ 64 := by omega
section
variable {P : Program} {w : World} {K : PySem.W.Frag} {mg : Str → Option Value} {base : Heap}
theorem ok_slo (kk : Bool) {f : Addr} {fd : FuncData} (F : Fun K "_slopes" "_slopes" sSlo f fd) (B : BltN mg) : FnOk P w K mg base CX0 1 f fd ["coefficients"] (spSlo K kk) := by
  refine F.ok scSlo (fun vs H Q E h => ?_) (fun cdv A outer s H vs Q E hr h => ?_)
  · obtain ⟨a, ns, rfl, _⟩ := h
    rfl
  · obtain ⟨a, ns, rfl, ha, hl, k⟩ := h
    refine ⟨_, pss_one (ps_ret (pe_lc (own := [("at", 1)]) (g := gName 1) (tt := tYes) (te := tOp (rI CMul fun i j => V.int (i * j)) (tVar 1) (tOp (rIx K) (tVar 0) (tVar 1))) rfl scSlo.nd (pi_range2 (by rfl) B.rg (pa_cons pe_int (pa_cons (pe_callB call_len_seq (by rfl) B.len PySem.boot_len (pa_cons (pv 0) pa_nil)) pa_nil)))
        (blkOk_by (N := ["coefficients", "at"]) (sc := defScope sSlo) (by decide +kernel)) (fun _ _ _ _ _ => pg_name (i := 1) scSlo.nd rfl (.inl rfl) (hf := .inr rfl)) (fun _ _ _ _ _ => pts_nil)
        (fun _ _ _ _ _ => pe_op op_mul (pv 1) (pe_ix ix_seq (pv 0) (pv 1) (fun _ _ => rfl))))), ?_⟩
    refine ⟨_, rfl, a, _, rfl, sqK_or ha, _, _, rfl, ⟨by decide, by decide, by rw [iv_len]; omega, by rw [iv_len]; omega⟩, fun D hD => ?_⟩
    have en : ((((iv ns).length : Nat) : Int) - 1).toNat = ns.length - 1 := by
      rw [iv_len]
      omega
    refine lc_range (fun i H' => Same H H' ∧ H' D = some (.lst (iv ((List.range i).map fun i => ((i + 1 : Nat) : Int) * ns.getD (i + 1) 0)))) ⟨same_new hD, upd_same⟩ (fun i H' hi hV => ?_) fun H' hV => ?_
    · obtain ⟨s1, hD1⟩ := hV
      rw [en] at hi
      refine ⟨rfl, _, rfl, _, rfl, _, rfl, ix_K (i := i + 1) (by omega) (sqK_same s1 ha) (by omega) ⟨_, _, rfl, rfl, .inl (small64 (by omega)), _, hD1, ?_, ?_, ?_⟩⟩
      · rw [iv_len, List.length_map, List.length_range, sizeLine_eq]
        omega
      · exact upd_keep hD s1
      · rw [upd_same, List.range_succ, List.map_append, iv_app]
        have e : (1 + (i : Int)) = ((i + 1 : Nat) : Int) := by omega
        rw [e]
        rfl
    · obtain ⟨s1, hD1⟩ := hV
      rw [en] at hD1
      exact k D H' s1 hD1
theorem ok_hal (kk : Bool) {f fV : Addr} {fd fdV : FuncData} (F : Fun K "_least_by_halves" "_least_by_halves" sHal f fd) (GV : FnOk P w K mg base CX0 1 fV fdV ["coefficients", "n"] (spVal K kk)) (kV : PySem.W.keepIn K (.ref fV) = true) (bV : L2.Binds K fdV ["coefficients", "n"] []) (gV : mg "_value" = some (.ref fV)) :
    FnOk P w K mg base CX0 2 f fd ["coefficients", "goal", "many"] (spHal K kk) := by
  refine F.ok scHal (fun vs H Q E h => ?_) (fun cdv A outer s H vs Q E hr h => ?_)
  · obtain ⟨a, ns, g, m, S, rfl, _⟩ := h
    rfl
  · obtain ⟨a, ns, g, m, S, rfl, ha, hb, s0, hs, k⟩ := h
    refine ⟨_, pss_cons (ps_par (i := 3) (j := 4) rfl scHal.nd rfl rfl (by decide) rfl rfl (pa_cons pe_int (pa_cons (pe_op op_oneShl pe_int (pv 2)) pa_nil)) rfl)
      (pss_cons (ps_while PassesOwn.never (pt_cmpR op_gt (pe_op op_sub (pv 4) (pv 3)) pe_int (nomark _))
        (pss_cons (ps_set (i := 5) scHal.nd rfl (.inl rfl) (pe_op op_fdiv (pe_op op_add (pv 3) (pv 4)) pe_int))
        (pss_one (ps_if (pt_cmpR op_ge (pe_call GV hr (by rfl) gV kV bV .nil pass0 (pa_cons (pv 0) (pa_cons (pv 5) pa_nil))) (pv 1) (nomark _))
          (pss_one (ps_set (i := 4) scHal.nd rfl (.inl rfl) (pv 5))) (pss_one (ps_set (i := 3) scHal.nd rfl (.inl rfl) (pv 5)))))))
      (pss_one (ps_ret (pv 4)))), ?_⟩
    have p := two_pos m
    refine ⟨_, rfl, m, rfl, rfl, by omega, _, _, rfl, ?_⟩
    refine ⟨fun t σ H' => ∃ (lo hi : Int) (u : Option V), σ = [some (.ref a), some (.int g), some (.int (m : Int)), some (.int lo), some (.int hi), u] ∧ Same H H' ∧ 0 ≤ lo ∧ lo < hi ∧ hi ≤ 2 ^ m ∧ (g ≤ val ns hi ∨ hi = 2 ^ m) ∧ (val ns lo < g ∨ lo = 0) ∧ t = (hi - lo).toNat,
      ⟨_, 0, 2 ^ m, none, rfl, Same.refl _, Int.le_refl 0, p, Int.le_refl _, .inr rfl, .inr rfl, rfl⟩, ?_⟩
    rintro t σ H' ⟨lo, hi, u, rfl, sm, h0, h1, h2, h3, h4, rfl⟩
    refine ⟨_, rfl, _, rfl, _, _, rfl, rfl, _, _, rfl, rfl, _, rfl, ?_⟩
    by_cases c : hi - lo > 1
    · refine if_yes (decide_eq_true c) ⟨fun σ' H2 => ∃ (lo' hi' : Int) (u : Option V), σ' = [some (.ref a), some (.int g), some (.int (m : Int)), some (.int lo'), some (.int hi'), u] ∧ Same H H2 ∧ 0 ≤ lo' ∧ lo' < hi' ∧ hi' ≤ 2 ^ m ∧ (g ≤ val ns hi' ∨ hi' = 2 ^ m) ∧ (val ns lo' < g ∨ lo' = 0) ∧ hi' - lo' < hi - lo,
        fun σ' H2 ⟨lo', hi', u, e, sm', a1, a2, a3, a4, a5, a6⟩ => ⟨_, ?_, lo', hi', u, e, sm', a1, a2, a3, a4, a5, rfl⟩, ?_⟩
      · omega
      refine ⟨_, rfl, _, rfl, _, _, rfl, rfl, _, _, rfl, rfl, ⟨by decide, by decide⟩, ?_⟩
      have m1 : lo < (lo + hi) / 2 := by omega
      have m2 : (lo + hi) / 2 < hi := by omega
      have fit : FitV ns ((lo + hi) / 2) := ⟨by omega, S, m + 1, hb, Int.lt_of_lt_of_le (by omega : ((lo + hi) / 2) < 2 ^ m) (pow_mono2 (by omega)), s0, by omega, by
        have : ns.length * (m + 1 + 1) = ns.length * (m + 2) := rfl
        omega⟩
      refine ⟨_, rfl, _, rfl, a, ns, ((lo + hi) / 2), rfl, sqK_same sm ha, fit, fun H2 s2 => ⟨_, rfl, _, _, rfl, rfl, _, rfl, ?_⟩⟩
      by_cases d : g ≤ val ns ((lo + hi) / 2)
      · refine if_yes (decide_eq_true d) ⟨_, rfl, lo, ((lo + hi) / 2), some (.int ((lo + hi) / 2)), rfl, sm.trans s2, h0, m1, by omega, .inl d, h4, by omega⟩
      · refine if_no (by simpa using d) ⟨_, rfl, ((lo + hi) / 2), hi, some (.int ((lo + hi) / 2)), rfl, sm.trans s2, by omega, m2, h2, h3, .inl (by omega), by omega⟩
    · refine if_no (by simpa using c) ⟨_, rfl, ?_⟩
      refine k hi H' sm (by omega) h2 h3 ?_
      have e : hi - 1 = lo := by omega
      rw [e]
      rcases h4 with h4 | h4
      · exact .inl h4
      · exact .inr (by omega)
theorem ok_lost {f : Addr} {fd : FuncData} (F : Fun K "_lost_digits" "_lost_digits" sLost f fd) (B : BltN mg) : FnOk P w K mg base CX0 1 f fd ["coefficients"] (spLost K) := by
  refine F.ok scLost (fun vs H Q E h => ?_) (fun cdv A outer s H vs Q E hr h => ?_)
  · obtain ⟨a, xs, rfl, _⟩ := h
    rfl
  · obtain ⟨a, xs, rfl, ha, k⟩ := h
    refine ⟨_, pss_one (ps_ret (pe_op op_add (pe_bits (pe_callB call_len_seq (by rfl) B.len PySem.boot_len (pa_cons (pv 0) pa_nil))) pe_int)), ?_⟩
    exact ⟨_, rfl, a, xs, rfl, ha, _, rfl, _, _, rfl, rfl, k⟩
theorem ok_few {f fL : Addr} {fd fdL : FuncData} (F : Fun K "_few_digits" "_few_digits" sFew f fd) (GL : FnOk P w K mg base CX0 1 fL fdL ["coefficients"] (spLost K)) (kL : PySem.W.keepIn K (.ref fL) = true) (bL : L2.Binds K fdL ["coefficients"] []) (gL : mg "_lost_digits" = some (.ref fL)) : FnOk P w K mg base CX0 2 f fd ["coefficients"] (spFew K) := by
  refine F.ok scFew (fun vs H Q E h => ?_) (fun cdv A outer s H vs Q E hr h => ?_)
  · obtain ⟨a, xs, rfl, _⟩ := h
    rfl
  · obtain ⟨a, xs, rfl, ha, k⟩ := h
    refine ⟨_, pss_one (ps_ret (pe_op op_mul pe_int (pe_call GL hr (by rfl) gL kL bL .nil pass0 (pa_cons (pv 0) pa_nil)))), ?_⟩
    refine ⟨_, rfl, a, xs, rfl, ha, _, _, rfl, rfl, .inl ⟨by decide, by decide⟩, ?_⟩
    have e : (3 : Int) * ((BL (xs.length : Nat) + 2 : Nat) : Int) = ((3 * (BL (xs.length : Nat) + 2) : Nat) : Int) := by omega
    show Q (.int ((3 : Int) * ((BL (xs.length : Nat) + 2 : Nat) : Int))) H
    rw [e]
    exact k
theorem ok_shf {f : Addr} {fd : FuncData} (F : Fun K "_shifted" "_shifted" sShf f fd) : FnOk P w K mg base CX0 1 f fd ["number", "by"] spShf := by
  refine F.ok scShf (fun vs H Q E h => ?_) (fun cdv A outer s H vs Q E hr h => ?_)
  · obtain ⟨c, b, rfl, _⟩ := h
    rfl
  · obtain ⟨c, b, rfl, hc, k⟩ := h
    refine ⟨_, pss_one (ps_ret (pe_ifExp (pt_cmpR op_gt (pv 1) pe_int (nomark _)) (pe_op op_shlW (pv 0) (pv 1)) (pe_op op_shr (pv 0) (pe_un un_neg (pv 1))))), ?_⟩
    refine ⟨_, rfl, _, _, rfl, rfl, _, rfl, ?_⟩
    unfold shZ at k
    by_cases z : 0 < b
    · rw [if_pos z] at k
      exact if_yes (decide_eq_true z) ⟨_, rfl, _, rfl, _, _, rfl, rfl, hc z, k⟩
    · rw [if_neg z] at k
      exact if_no (by simpa using z) ⟨_, rfl, _, rfl, _, rfl, _, _, rfl, rfl, by omega, k⟩
end
end Qp

/-! how many binary digits -/
namespace Qp
open PySem PySem.Spec PyProof.Rows L2 QN
/-- those of the first places behind 0 -/
def dgs (g : Int) (ns : List Int) (i : Nat) : List Int := ((List.range i).filter fun j => decide (0 < ns.getD (j + 1) 0)).map fun j => ((dg g (ns.getD (j + 1) 0) (j + 1) : Nat) : Int)
theorem dgs_succ (g : Int) (ns : List Int) (i : Nat) : dgs g ns (i + 1) = if 0 < ns.getD (i + 1) 0 then dgs g ns i ++ [((dg g (ns.getD (i + 1) 0) (i + 1) : Nat) : Int)] else dgs g ns i := by
  unfold dgs
  rw [List.range_succ, List.filter_append, List.map_append]
  by_cases c : 0 < ns.getD (i + 1) 0
  · rw [if_pos c, List.filter_cons_of_pos (by simpa using c)]
    rfl
  · rw [if_neg c, List.filter_cons_of_neg (by simpa using c)]
    simp
theorem dgs_len (g : Int) (ns : List Int) (i : Nat) : (dgs g ns i).length ≤ i := by
  unfold dgs
  rw [List.length_map]
  exact Nat.le_trans (List.length_filter_le _ _) (by rw [List.length_range]; exact Nat.le_refl i)
theorem dgs_mem {g : Int} {ns : List Int} {i : Nat} {m : Int} : m ∈ dgs g ns i ↔ ∃ j, j < i ∧ 0 < ns.getD (j + 1) 0 ∧ m = ((dg g (ns.getD (j + 1) 0) (j + 1) : Nat) : Int) := by
  unfold dgs
  rw [List.mem_map]
  constructor
  · rintro ⟨j, hj, rfl⟩
    obtain ⟨a, b⟩ := List.mem_filter.mp hj
    exact ⟨j, List.mem_range.mp a, by simpa using b, rfl⟩
  · rintro ⟨j, a, b, rfl⟩
    exact ⟨j, List.mem_filter.mpr ⟨List.mem_range.mpr a, by simpa using b⟩, rfl⟩
def rMax2 : List V → Hp → VK → Prop := fun xs H Q => ∃ i j, xs = [V.int i, V.int j] ∧ Q (V.int (if j > i then j else i)) H
def tDigs (K : PySem.W.Frag) : TE := tOp (rI0 fun i j => V.int (i + j)) (tOp (rI CDiv fun i j => V.int (i / j)) (tCB rMax2 (tCons (tOp (rI0 fun i j => V.int (i - j)) (tVar 2) (tBits (tOp (rIx K) (tVar 0) (tVar 3)))) (tCons (tC (.int 0)) tNil))) (tVar 3)) (tC (.int 1))
section
variable {P : Program} {w : World} {K : PySem.W.Frag} {mg : Str → Option Value} {base : Heap}
theorem ok_dig {f : Addr} {fd : FuncData} (F : Fun K "_binary_digits" "_binary_digits" sDig f fd) (B : BltN mg) : FnOk P w K mg base CX0 1 f fd ["coefficients", "goal"] (spDig K) := by
  refine F.ok scDig (fun vs H Q E h => ?_) (fun cdv A outer s H vs Q E hr h => ?_)
  · obtain ⟨a, ns, g, rfl, _⟩ := h
    rfl
  · obtain ⟨a, ns, g, rfl, ha, hl, ⟨i0, p1, p2, p3⟩, k⟩ := h
    refine ⟨_, pss_cons (ps_set (i := 2) scDig.nd rfl (.inr rfl) (pe_op op_add (pe_bits (pv 1)) pe_int))
      (pss_one (ps_ret (pe_callB (cr_min rfl) (by rfl) B.min (by decide +kernel) (pa_cons (pe_lc (own := [("at", 3)]) (g := gName 3) (tt := tTest (tOp (rI0 fun i j => V.bl (decide (i > j))) (tOp (rIx K) (tVar 0) (tVar 3)) (tC (.int 0)))) (te := tDigs K) rfl scDig.nd (pi_range2 (by rfl) B.rg (pa_cons pe_int (pa_cons (pe_callB call_len_seq (by rfl) B.len PySem.boot_len (pa_cons (pv 0) pa_nil)) pa_nil)))
        (blkOk_by (N := ["coefficients", "goal", "many", "at"]) (sc := defScope sDig) (by decide +kernel)) (fun _ _ _ _ _ => pg_name (i := 3) scDig.nd rfl (.inl rfl) (hf := .inr rfl))
        (fun _ _ _ _ _ => pts_one (pt_cmpR op_gt (pe_ix ix_seq (pv 0) (pv 3) (fun _ _ => rfl)) pe_int (nomark _)))
        (fun _ _ _ _ _ => pe_op op_add (pe_op op_fdiv (pe_callB (call_max2 rfl) (by rfl) B.max (by decide +kernel) (pa_cons (pe_op op_sub (pv 2) (pe_bits (pe_ix ix_seq (pv 0) (pv 3) (fun _ _ => rfl)))) (pa_cons pe_int pa_nil))) (pv 3)) pe_int)) pa_nil)))), ?_⟩
    refine ⟨_, rfl, g, rfl, _, _, rfl, rfl, _, rfl, a, _, rfl, .inr ha, _, _, rfl, ⟨by decide, by decide, by rw [iv_len]; omega, by rw [iv_len]; omega⟩, fun D hD => ?_⟩
    have en : ((((iv ns).length : Nat) : Int) - 1).toNat = ns.length - 1 := by
      rw [iv_len]
      omega
    refine lc_range (fun i H' => Same H H' ∧ H' D = some (.lst (iv (dgs g ns i)))) ⟨same_new hD, upd_same⟩ (fun i H' hi hV => ?_) fun H' hV => ?_
    · obtain ⟨s1, hD1⟩ := hV
      rw [en] at hi
      have at_ : ∀ {Q : VK}, Q (.int (ns.getD (i + 1) 0)) H' → rIx K (.ref a) (.int (1 + i)) H' Q := fun q => ix_K (k := false) (i := i + 1) (by omega) (sqT_same s1 ha) (by omega) q
      refine ⟨rfl, _, rfl, _, rfl, at_ ⟨_, _, rfl, rfl, _, rfl, ?_⟩⟩
      rw [dgs_succ]
      by_cases c : 0 < ns.getD (i + 1) 0
      · refine if_yes (decide_eq_true c) ?_
        rw [if_pos c]
        refine ⟨_, rfl, _, rfl, _, rfl, at_ ⟨_, rfl, _, _, rfl, rfl, _, _, rfl, _, rfl, _, _, rfl, rfl, ⟨by omega, by omega⟩, _, _, rfl, rfl, _, hD1, ?_, ?_, ?_⟩⟩
        · have := dgs_len g ns i
          rw [iv_len, sizeLine_eq]
          omega
        · exact upd_keep hD s1
        · rw [upd_same, iv_app]
          congr 5
          have e1 : (if (0 : Int) > ((BL g : Nat) : Int) + 1 - ((BL (ns.getD (i + 1) 0) : Nat) : Int) then 0 else ((BL g : Nat) : Int) + 1 - ((BL (ns.getD (i + 1) 0) : Nat) : Int)) = ((BL g + 1 - BL (ns.getD (i + 1) 0) : Nat) : Int) := by
            split <;> omega
          have e2 : (1 + (i : Int)) = ((i + 1 : Nat) : Int) := by omega
          show (if (0 : Int) > ((BL g : Nat) : Int) + 1 - ((BL (ns.getD (i + 1) 0) : Nat) : Int) then 0 else ((BL g : Nat) : Int) + 1 - ((BL (ns.getD (i + 1) 0) : Nat) : Int)) / (1 + (i : Int)) + 1 = _
          rw [e1, e2]
          exact congrArg (fun z : Int => z + 1) (Int.natCast_ediv _ _).symm
      · refine if_no (by simpa using c) ?_
        rw [if_neg c]
        exact ⟨s1, hD1⟩
    · obtain ⟨s1, hD1⟩ := hV
      rw [en] at hD1
      have inn : ((dg g (ns.getD i0 0) i0 : Nat) : Int) ∈ dgs g ns (ns.length - 1) := dgs_mem.mpr ⟨i0 - 1, by omega, by rw [Nat.sub_add_cancel p1]; exact p3, by rw [Nat.sub_add_cancel p1]⟩
      refine ⟨D, _, rfl, .inl (.inl hD1), List.length_pos_of_mem inn, fun m hm hmin => ?_⟩
      obtain ⟨j, j1, j2, rfl⟩ := dgs_mem.mp hm
      refine k _ H' s1 ⟨j + 1, by omega, by omega, j2, rfl⟩ fun i q1 q2 q3 => ?_
      have z := hmin _ (dgs_mem.mpr ⟨i - 1, by omega, by rw [Nat.sub_add_cancel q1]; exact q3, rfl⟩)
      rw [Nat.sub_add_cancel q1] at z
      exact Int.ofNat_le.mp z
end
end Qp

/-! a place near the least one -/
namespace Qp
open PySem PySem.Spec PyProof.Rows L2 QN
theorem walk_enumT {K : PySem.W.Frag} {a : Addr} {xs : List V} : Walk (IteT K a) xs.length (fun H => SqT K H a xs) (YPair (fun i => some (.int (i : Nat))) (fun i => xs[i]?)) := by
  refine ⟨fun i _ hi q => ⟨xs, xs[i], q, by simp [hi]⟩, fun _ q => ⟨xs, q, Nat.le_refl _⟩, fun i H v H' _ q y => ?_⟩
  obtain ⟨T, x, h1, h2, h3, h4⟩ := y
  exact ⟨T, .int (i : Nat), x, h1, h2, h3, rfl, h4 xs q⟩
/-- enumerate of a list, or of a tuple -/
def iEnumK (k : Bool) (K : PySem.W.Frag) (ta : TA) : TI := match k with
  | true => iEnum K ta
  | false => iEnumT K ta
theorem pi_enumK (k : Bool) {X : Cx} {e : Expr} {ta : TA} {p pos tpos : Pos} {elts : List Expr} {kk : Nat} (hg : Gl X "enumerate") (hm : X.mg "enumerate" = none) (ha : PA X [e] ta) (hs : starEach [e] X.env = [(false, eval e X.env)] := by rfl) :
    PI X (.Tuple elts kk tpos) (.Call (.Name "enumerate" p) [e] [] pos) (iEnumK k X.K ta) := by
  cases k with
  | true => exact pi_enum hg hm ha hs
  | false => exact pi_enumT hg hm ha hs
theorem enK {k : Bool} {K : PySem.W.Frag} {σ : L2.St} {i : Nat} {H : Hp} {a : Addr} {xs : List V} {R : It → Hp → Prop} (hi : σ[i]? = some (some (.ref a))) (h : SqK k K H a xs)
    (r : ∀ J, Walk J xs.length (fun H => SqK k K H a xs) (YPair (fun i => some (.int (i : Nat))) (fun i => xs[i]?)) → R J H) : iEnumK k K (tCons (tVar i) tNil) σ H R := by
  cases k with
  | true => exact ⟨_, hi, a, xs, rfl, h, r _ walk_enum⟩
  | false => exact ⟨_, hi, a, xs, rfl, h, r _ walk_enumT⟩
theorem nearR_small {d lost G many : Nat} (hd : 2 ≤ d) (hd5 : d ≤ 5) (hl : 2 ≤ lost) (hl5 : lost ≤ 5) (hG : G ≤ 3000) (hm : d * many ≤ 3100) : nearR d lost G many ≤ 3200 ∧ (3 * lost < many → (d + 1) * (many - (many - lost) / 2) + lost + 1 + (many - lost) / 2 ≤ 3199) := by
  have m2 : 2 * many ≤ d * many := Nat.mul_le_mul_right _ hd
  have key : 3 * lost < many → (d + 1) * (many - (many - lost) / 2) + lost + 1 + (many - lost) / 2 ≤ 3199 := fun h => by
    generalize hc : (many - lost) / 2 = cut at *
    have e : (d + 1) * (many - cut) = d * (many - cut) + (many - cut) := by rw [Nat.add_mul, Nat.one_mul]
    have h2 : 2 * (many - cut) ≤ many + 6 := by omega
    have h3 : d * (2 * (many - cut)) ≤ d * (many + 6) := Nat.mul_le_mul_left _ h2
    rw [Nat.mul_add, Nat.mul_left_comm] at h3
    have h4 : d * 6 ≤ 30 := by omega
    omega
  refine ⟨?_, key⟩
  unfold nearR
  split
  · omega
  · have := key (by omega)
    omega
/-- the step by the slope divides well -/
theorem divP {V g x s : Int} (hs : 1 ≤ s) (h0 : 0 ≤ V) (h1 : V ≤ x * s) (hx : 0 ≤ x) (hg : 0 ≤ g) (bx : BL x ≤ 3900) (bg : BL g ≤ 3900) : CDivP (V - g) s := by
  refine divp_ok (by omega) ?_
  have a : BL V ≤ BL x + BL s := by
    apply (bl_lt h0).mpr
    rw [Int.pow_add]
    have p := bl_self hx
    have q := bl_self (x := s) (by omega)
    have r : x * s < 2 ^ BL x * 2 ^ BL s := by
      refine Int.lt_of_lt_of_le (Int.mul_lt_mul_of_pos_right p (by omega)) (Int.mul_le_mul_of_nonneg_left (Int.le_of_lt q) (Int.le_of_lt (two_pos _)))
    omega
  have b : (V - g).natAbs ≤ max V.natAbs g.natAbs := by omega
  have c : BL (V - g) ≤ max (BL V) (BL g) := by
    apply bl_le.mpr
    have p := bl_le.mp (Nat.le_refl (BL V))
    have q := bl_le.mp (Nat.le_refl (BL g))
    have p2 := Nat.pow_le_pow_right (show 2 > 0 by decide) (Nat.le_max_left (BL V) (BL g))
    have q2 := Nat.pow_le_pow_right (show 2 > 0 by decide) (Nat.le_max_right (BL V) (BL g))
    omega
  show BL (V - g) ≤ BL s + 4000
  omega
theorem bl_add {x y : Int} {n : Nat} (hx : 0 ≤ x) (hy : 0 ≤ y) (bx : BL x ≤ n) (by' : BL y ≤ n) : BL (x + y) ≤ n + 1 := by
  apply (bl_lt (by omega)).mpr
  have a := (bl_lt hx).mp bx
  have b := (bl_lt hy).mp by'
  rw [Int.pow_succ]
  omega
/-- values at a place below 2 ^ 3900 -/
theorem fitP {S d : Nat} {r : List Int} {x : Int} (hb : Bdd S r) (s0 : 0 < S) (hS : S ≤ 20003) (hl : r.length ≤ 6) (hx : 0 ≤ x) (bx : BL x ≤ 3900) : FitV r x := by
  refine ⟨hx, S, 3900, hb, (bl_lt hx).mp bx, s0, by decide, ?_⟩
  have : r.length * (3900 + 1) ≤ 6 * 3901 := Nat.mul_le_mul_right _ hl
  omega
theorem slo_bdd {S : Nat} {r : List Int} (hb : Bdd S r) (hl : r.length ≤ 8) : Bdd (S + 3) (sloR r) := fun c hc => ⟨sloR_nn hb.nn c hc, sloR_lt hb.nn (fun x hx => (hb x hx).2) hl c hc⟩
abbrev sNear : Stmt := top 25 -- _near_place
abbrev nearNames : List Str := ["coefficients", "goal", "many", "degree", "lost", "cut", "less", "coarse", "place", "at", "number"]
theorem scNear : FnScope nearNames ["coefficients", "goal", "many"] (defScope sNear) := ⟨rfl, rfl, rfl, by decide +kernel, rfl, by decide +kernel, by decide +kernel⟩
/-- the lost digits -/
def lostD (d : Nat) : Nat := BL ((d + 1 : Nat) : Int) + 2
def nearB (d G many : Nat) : Nat := if d = 1 then 1 else nearR d (lostD d) G many
/-- _near_place, at most n deep -/
def spNear (K : PySem.W.Frag) (k : Bool) : Nat → Sp
  | 0 => fun _ _ _ _ => False
  | n + 1 => fun vs H Q _ => ∃ (a : Addr) (r : List Int) (g : Int) (many S d : Nat), vs = [.ref a, .int g, .int (many : Int)] ∧ SqK k K H a (iv r) ∧ r.length = d + 1 ∧ 1 ≤ d ∧ d ≤ 5 ∧ NearI r g many ∧ NearS S r many ∧ 0 < S ∧ S ≤ 20000 ∧ BL g ≤ 3000 ∧ d * many ≤ 3100 ∧ many ≤ lostD d + 2 ^ n ∧
    ∀ (x : Int) (H' : Hp), Same H H' → 1 ≤ x → BL x ≤ nearB d (BL g) many → Q (.int x) H'
theorem lostD_small {d : Nat} (h1 : 1 ≤ d) (h5 : d ≤ 5) : 4 ≤ lostD d ∧ lostD d ≤ 5 := by
  have e : d = 1 ∨ d = 2 ∨ d = 3 ∨ d = 4 ∨ d = 5 := by omega
  rcases e with rfl | rfl | rfl | rfl | rfl <;> decide +kernel
section
variable {P : Program} {w : World} {K : PySem.W.Frag} {mg : Str → Option Value} {base : Heap}
theorem ok_near0 {kk : Bool} {f : Addr} {fd : FuncData} (F : Fun K "_near_place" "_near_place" sNear f fd) : FnOk P w K mg base CX0 3 f fd ["coefficients", "goal", "many"] (spNear K kk 0) :=
  F.ok scNear (fun vs H Q E h => h.elim) (fun cdv A outer s H vs Q E hr h => h.elim)
theorem ok_near1 {n : Nat} {kk : Bool} {f fV fS fH fL fW fF fN : Addr} {fd fdV fdS fdH fdL fdW fdF fdN : FuncData} (F : Fun K "_near_place" "_near_place" sNear f fd)
    (GV : ∀ kk, FnOk P w K mg base CX0 1 fV fdV ["coefficients", "n"] (spVal K kk)) (kV : PySem.W.keepIn K (.ref fV) = true) (bV : L2.Binds K fdV ["coefficients", "n"] []) (gV : mg "_value" = some (.ref fV))
    (GS : FnOk P w K mg base CX0 1 fS fdS ["coefficients"] (spSlo K kk)) (kS : PySem.W.keepIn K (.ref fS) = true) (bS : L2.Binds K fdS ["coefficients"] []) (gS : mg "_slopes" = some (.ref fS))
    (GH : FnOk P w K mg base CX0 2 fH fdH ["coefficients", "goal", "many"] (spHal K kk)) (kH : PySem.W.keepIn K (.ref fH) = true) (bH : L2.Binds K fdH ["coefficients", "goal", "many"] []) (gH : mg "_least_by_halves" = some (.ref fH))
    (GL : FnOk P w K mg base CX0 1 fL fdL ["coefficients"] (spLost K)) (kL : PySem.W.keepIn K (.ref fL) = true) (bL : L2.Binds K fdL ["coefficients"] []) (gL : mg "_lost_digits" = some (.ref fL))
    (GW : FnOk P w K mg base CX0 2 fW fdW ["coefficients"] (spFew K)) (kW : PySem.W.keepIn K (.ref fW) = true) (bW : L2.Binds K fdW ["coefficients"] []) (gW : mg "_few_digits" = some (.ref fW))
    (GF : FnOk P w K mg base CX0 1 fF fdF ["number", "by"] spShf) (kF : PySem.W.keepIn K (.ref fF) = true) (bF : L2.Binds K fdF ["number", "by"] []) (gF : mg "_shifted" = some (.ref fF))
    (GN : FnOk P w K mg base CX0 (n + 3) fN fdN ["coefficients", "goal", "many"] (spNear K true n)) (kN : PySem.W.keepIn K (.ref fN) = true) (bN : L2.Binds K fdN ["coefficients", "goal", "many"] []) (gN : mg "_near_place" = some (.ref fN)) (B : BltN mg) :
    FnOk P w K mg base CX0 (n + 4) f fd ["coefficients", "goal", "many"] (spNear K kk (n + 1)) := by
  refine F.ok scNear (fun vs H Q E h => ?_) (fun cdv A outer s H vs Q E hr h => ?_)
  · obtain ⟨a, r, g, many, S, d, rfl, _⟩ := h
    rfl
  · obtain ⟨a, r, g, many, S, d, rfl, ha, hd, d1, d5, NI, NS, s0, hS, hG, hm, hn, k⟩ := h
    have r1 := hr.mono (by omega : 1 ≤ n + 3)
    have r2 := hr.mono (by omega : 2 ≤ n + 3)
    refine ⟨_, pss_cons (ps_set (i := 3) scNear.nd rfl (.inl rfl) (pe_op op_sub (pe_callB call_len_seq (by rfl) B.len PySem.boot_len (pa_cons (pv 0) pa_nil)) pe_int))
      (pss_cons (ps_if (pt_cmpR op_eq (pv 3) pe_int (nomark _)) (pss_one (ps_ret pe_int)) pss_nil)
      (pss_cons (ps_if (pt_cmpR op_le (pv 2) (pe_call GW r2 (by rfl) gW kW bW .nil pass0 (pa_cons (pv 0) pa_nil)) (nomark _)) (pss_one (ps_ret (pe_call GH r2 (by rfl) gH kH bH .nil pass0 (pa_cons (pv 0) (pa_cons (pv 1) (pa_cons (pe_op op_add (pv 2) pe_int) pa_nil)))))) pss_nil)
      (pss_cons (ps_set (i := 4) scNear.nd rfl (.inl rfl) (pe_call GL r1 (by rfl) gL kL bL .nil pass0 (pa_cons (pv 0) pa_nil)))
      (pss_cons (ps_set (i := 5) scNear.nd rfl (.inr rfl) (pe_op op_fdiv (pe_op op_sub (pv 2) (pv 4)) pe_int))
      (pss_cons (ps_set (i := 6) scNear.nd rfl (.inr rfl) (pe_callB (call_max2 rfl) (by rfl) B.max (by decide +kernel) (pa_cons (pe_op op_sub (pe_op op_sub (pe_bits (pv 1)) (pe_op op_mul (pe_op op_add (pv 3) pe_int) (pe_op op_sub (pv 2) (pv 5)))) (pv 4)) (pa_cons pe_int pa_nil))))
      (pss_cons (ps_setLc (i := 7) (own := [("at", 9), ("number", 10)]) (g := gTup K 2 (gCons (gName 9) (gCons (gName 10) gNil))) (tt := tYes) rfl scNear.nd rfl rfl (sw_true rfl rfl rfl (by decide +kernel)) (pi_enumK kk (by rfl) B.en (pa_cons (pv 0) pa_nil))
        (blkOk_by (N := nearNames) (sc := defScope sNear) (by decide +kernel)) (fun _ _ _ _ _ => pg_tup rfl (pgs_cons (pg_name (i := 9) scNear.nd rfl (.inl rfl) (hf := .inr rfl)) (pgs_cons (pg_name (i := 10) scNear.nd rfl (.inl rfl) (hf := .inr rfl)) pgs_nil)))
        (fun _ _ _ _ _ => pts_nil) (fun _ _ _ _ _ => pe_call GF r1 (by rfl) gF kF bF .nil pass0 (pa_cons (pv 10) (pa_cons (pe_op op_sub (pe_op op_mul (pv 5) (pv 9)) (pv 6)) pa_nil))))
      (pss_cons (ps_set (i := 8) scNear.nd rfl (.inl rfl) (pe_op op_shlN (pe_call GN hr (by rfl) gN kN bN .nil pass0 (pa_cons (pv 7) (pa_cons (pe_op op_shrN (pv 1) (pv 6)) (pa_cons (pe_op op_sub (pv 2) (pv 5)) pa_nil)))) (pv 5)))
      (pss_one (ps_ret (pe_op op_sub (pv 8) (pe_op op_fdivP (pe_op op_sub (pe_call (GV kk) r1 (by rfl) gV kV bV .nil pass0 (pa_cons (pv 0) (pa_cons (pv 8) pa_nil))) (pv 1)) (pe_call (GV true) r1 (by rfl) gV kV bV .nil pass0 (pa_cons (pe_call GS r1 (by rfl) gS kS bS .nil pass0 (pa_cons (pv 0) pa_nil)) (pa_cons (pv 8) pa_nil)))))))))))))), ?_⟩
    have hlen : (iv r).length = d + 1 := by rw [iv_len]; exact hd
    have L4 := (lostD_small d1 d5).1
    have L5 := (lostD_small d1 d5).2
    have hb : Bdd S r := fun c hc => ⟨NI.nn c hc, NS.lt NI.nn hc⟩
    have g1 := NI.g1
    have e1 : (((iv r).length : Nat) : Int) - 1 = (d : Int) := by rw [hlen]; omega
    -- degree
    refine ⟨_, rfl, a, _, rfl, sqK_or ha, _, _, rfl, rfl, ?_⟩
    dsimp only
    rw [e1]
    refine ⟨_, rfl, rfl, _, rfl, ?_⟩
    by_cases z1 : d = 1
    · refine if_yes (by simp; omega) ?_
      exact k 1 H (Same.refl _) (by decide) (by unfold nearB; rw [if_pos z1]; decide)
    refine if_no (by simp; omega) ?_
    have d2 : 2 ≤ d := by omega
    have hB : ∀ x, x ≤ nearR d (lostD d) (BL g) many → x ≤ nearB d (BL g) many := fun x h => by unfold nearB; rw [if_neg z1]; exact h
    -- few
    have e2 : BL (((iv r).length : Nat) : Int) + 2 = lostD d := by rw [hlen]; rfl
    refine ⟨_, rfl, _, rfl, a, _, rfl, sqK_or ha, _, _, rfl, rfl, _, rfl, ?_⟩
    by_cases z2 : many ≤ 3 * lostD d
    · refine if_yes (decide_eq_true (by omega)) ?_
      refine ⟨_, rfl, _, rfl, _, rfl, _, _, rfl, rfl, a, r, g, many + 1, S, rfl, ha, hb, s0, ?_, fun h H' s1 h1 h2 _ _ => ?_⟩
      · have : r.length * (many + 1 + 2) ≤ 6 * (3 * 5 + 3) := Nat.mul_le_mul (by omega) (by omega)
        omega
      · refine k h H' s1 h1 (hB _ ?_)
        unfold nearR
        rw [if_pos z2]
        apply (bl_lt (by omega)).mpr
        have := two_pos (many + 1)
        rw [show many + 2 = many + 1 + 1 from rfl, Int.pow_succ]
        omega
    refine if_no (by simp; omega) ?_
    -- lost, cut
    obtain ⟨sm1, sm2⟩ := nearR_small d2 d5 (by omega) L5 hG hm
    have nR : nearR d (lostD d) (BL g) many = max (BL g) ((d + 1) * (many - (many - lostD d) / 2) + lostD d + 1 + (many - lostD d) / 2) + 1 := by
      unfold nearR
      rw [if_neg z2]
    have sm2 := sm2 (by omega)
    have sh := NI.coarse (lost := lostD d) (cut := (many - lostD d) / 2) hd (by omega)
    obtain ⟨cut, hcut⟩ : ∃ cut, cut = (many - lostD d) / 2 := ⟨_, rfl⟩
    rw [← hcut] at nR sm2 sh
    obtain ⟨less, hless⟩ : ∃ less, less = BL g - ((d + 1) * (many - cut) + lostD d) := ⟨_, rfl⟩
    rw [← hless] at sh
    have cm : cut < many := by omega
    have c1 : 1 ≤ cut := by omega
    have ecut : ((many : Int) - (lostD d : Nat)) / 2 = (cut : Int) := by omega
    refine ⟨_, rfl, a, _, rfl, sqK_or ha, ?_⟩
    dsimp only
    rw [e2]
    refine ⟨_, rfl, _, rfl, _, _, rfl, rfl, _, _, rfl, rfl, ⟨by decide, by decide⟩, ?_⟩
    dsimp only
    rw [ecut]
    -- less
    refine ⟨_, rfl, g, rfl, _, rfl, _, _, rfl, rfl, _, rfl, _, rfl, _, _, rfl, rfl, _, _, rfl, rfl, .inl ⟨by omega, by omega⟩, _, _, rfl, rfl, _, rfl, _, _, rfl, rfl, _, _, rfl, ?_⟩
    dsimp only
    have eless : (if (0 : Int) > ((BL g : Nat) : Int) - ((d : Int) + 1) * ((many : Int) - (cut : Nat)) - (lostD d : Nat) then 0 else ((BL g : Nat) : Int) - ((d : Int) + 1) * ((many : Int) - (cut : Nat)) - (lostD d : Nat)) = (less : Int) := by
      have e : ((d : Int) + 1) * ((many : Int) - (cut : Nat)) = (((d + 1) * (many - cut) : Nat) : Int) := by
        rw [Int.natCast_mul, Int.ofNat_sub (Nat.le_of_lt cm)]
        rfl
      rw [e]
      split <;> omega
    rw [eless]
    -- coarse
    refine enK rfl ha fun J wJ D hD => ?_
    refine lc_it wJ (fun i H' => Same H H' ∧ H' D = some (.lst (iv ((List.range i).map fun i => shZ (r.getD i 0) (((cut * i : Nat) : Int) - less))))) ⟨same_new hD, upd_same⟩ (fun i H' _ hV => sqK_same hV.1 ha) ?_ ?_
    · rintro i x H1 H2 hi ⟨s1, hD1⟩ ⟨T, u, v, rfl, hT, rfl, eu, ev⟩
      cases eu
      rw [hlen] at hi
      have ev : (iv r)[i]? = some v := ev
      rw [iv_at (by omega)] at ev
      cases ev
      have c0 := NI.nn.getD i
      refine ⟨T, _, rfl, .inl (.inl upd_same), rfl, _, _, rfl, _, _, rfl, rfl, rfl, yes_if ?_⟩
      have em : (cut : Int) * (i : Int) = ((cut * i : Nat) : Int) := (Int.natCast_mul _ _).symm
      refine ⟨_, rfl, _, rfl, _, rfl, _, _, rfl, rfl, .inl ⟨by omega, by omega⟩, _, rfl, _, _, rfl, rfl, r.getD i 0, (cut : Int) * (i : Int) - (less : Int), rfl, fun hp => ⟨by omega, ?_⟩, _, (same_new hT) _ _ hD1, ?_, ?_, ?_⟩
      · have b1 := NS i _ (get_of (by omega))
        have b2 : cut * i ≤ cut * 5 := Nat.mul_le_mul_left _ (by omega)
        have b3 : (2 : Int) ^ 27 = 134217728 := by decide
        show ((BL (r.getD i 0) : Nat) : Int) + _ ≤ _
        omega
      · rw [iv_len, List.length_map, List.length_range, sizeLine_eq]
        omega
      · exact upd_keep hD (s1.trans (same_new hT))
      · rw [upd_same, List.range_succ, List.map_append, iv_app, em]
        rfl
    · rintro H1 ⟨s1, hD1⟩
      rw [hlen] at hD1
      have hD1 : H1 D = some (.lst (iv (coarse r cut less))) := by
        unfold coarse
        rw [hd]
        exact hD1
      have i2 : ((many - cut : Nat) : Int) = (many : Int) - (cut : Int) := Int.ofNat_sub (Nat.le_of_lt cm)
      have GL' := bl_shr (x := g) (by omega) less
      refine ⟨_, rfl, _, rfl, _, rfl, g, less, rfl, rfl, _, rfl, _, rfl, _, _, rfl, rfl, ?_⟩
      cases n with
      | zero => exact absurd hn (by show ¬ many ≤ lostD d + 1; omega)
      | succ n =>
        refine ⟨D, coarse r cut less, g / 2 ^ less, many - cut, S, d, by rw [i2]; rfl, .inl (.inl hD1), by rw [coarse_len]; exact hd, d1, d5, sh, NS.coarse NI.nn (Nat.le_of_lt cm), s0, hS, by omega, ?_, ?_, fun x H2 s2 x1 bx => ?_⟩
        · exact Nat.le_trans (Nat.mul_le_mul_left _ (Nat.sub_le _ _)) hm
        · have : 2 ^ (n + 1) = 2 ^ n * 2 := Nat.pow_succ _ _
          omega
        have bx2 : BL x ≤ nearR d (lostD d) (BL (g / 2 ^ less)) (many - cut) := by
          unfold nearB at bx
          rw [if_neg z1] at bx
          exact bx
        have bx3 := Nat.le_trans bx2 (nearR_le d2 (by omega))
        have bX := bl_shl x1 cut
        have X1 : 1 ≤ x * 2 ^ cut := by
          have := Int.mul_le_mul x1 (show (1 : Int) ≤ 2 ^ cut by have := two_pos cut; omega) (by decide) (by omega)
          omega
        have pl : CShl x (cut : Int) := by
          refine ⟨by omega, ?_⟩
          have b3 : (2 : Int) ^ 27 = 134217728 := by decide
          show ((BL x : Nat) : Int) + _ ≤ _
          omega
        obtain ⟨X, hX⟩ : ∃ X, X = x * 2 ^ cut := ⟨_, rfl⟩
        rw [← hX] at bX X1
        have bX9 : BL X ≤ 3900 := by omega
        have hl6 : r.length ≤ 6 := by omega
        have hb2 := slo_bdd hb (by omega)
        have sl6 : (sloR r).length ≤ 6 := by rw [sloR_eq, slopeZ_len]; omega
        have es := val_sloR r X
        have hs := NI.slo X1
        have nw := newton (g := g) NI.nn (by rw [val_zero]; exact NI.z) X1 g1 es.symm (by rw [es]; exact hs)
        rw [← es] at hs
        refine ⟨_, rfl, x, cut, rfl, rfl, pl, ?_⟩
        dsimp only
        rw [← hX]
        refine ⟨_, rfl, _, rfl, _, rfl, a, r, X, rfl, sqK_same (s1.trans s2) ha, fitP (d := 0) hb s0 (by omega) hl6 (by omega) bX9, fun H3 s3 => ⟨_, rfl, _, _, rfl, rfl, _, rfl, a, r, rfl, sqK_same (s1.trans (s2.trans s3)) ha, by omega, fun q H4 s4 hq => ?_⟩⟩
        refine ⟨_, rfl, q, sloR r, X, rfl, .inl (.inl hq), fitP (d := 0) hb2 (by omega) (by omega) sl6 (by omega) bX9, fun H5 s5 => ?_⟩
        refine ⟨_, _, rfl, rfl, divP hs (val_nn0 (by omega) NI.nn) nw.2.2.2.2 (by omega) (by omega) bX9 (by omega), _, _, rfl, rfl, ?_⟩
        refine k _ H5 (s1.trans (s2.trans (s3.trans (s4.trans s5)))) nw.1 (hB _ ?_)
        rw [nR]
        refine Nat.le_trans (bl_mono (by omega) nw.2.2.1) (bl_add (by omega) (by omega) ?_ (Nat.le_max_left _ _))
        refine Nat.le_trans ?_ (Nat.le_max_right _ _)
        omega
end
end Qp

/-! the least place -/
namespace Qp
open PySem PySem.Spec PyProof.Rows L2 QN
abbrev sLP : Stmt := top 21 -- _least_place
theorem scLP : FnScope ["coefficients", "goal", "raised", "missing", "slopes", "many", "at", "step"] ["coefficients", "goal"] (defScope sLP) := ⟨rfl, rfl, rfl, by decide +kernel, rfl, by decide +kernel, by decide +kernel⟩
def spLP (K : PySem.W.Frag) : Sp := fun vs H Q _ => ∃ (a : Addr) (ns : List Int) (g : Int), vs = [.ref a, .int g] ∧ SqT K H a (iv ns) ∧ (∀ c ∈ ns, okC c) ∧ cutZ ns = ns ∧ ns.length ≤ 6 ∧ 2 ≤ ns.length ∧ val ns 0 < g ∧ g < 2 ^ 3000 ∧
  ∀ (n : Int) (H' : Hp), Same H H' → 1 ≤ n → g ≤ val ns n → val ns (n - 1) < g → Q (.int n) H'
/-- what is asked of the place, without the constant -/
theorem raised_ok {c g : Int} {rest : List Int} (hc : ∀ x ∈ c :: rest, okC x) (hcut : cutZ (c :: rest) = c :: rest) (hl : (c :: rest).length ≤ 6) (h2 : 2 ≤ (c :: rest).length) (h0 : c < g) (hg : g < 2 ^ 3000) :
    1 ≤ g - c ∧ BL (g - c) ≤ 3000 ∧ NN (0 :: rest) ∧ 1 ≤ (0 :: rest).getD ((0 :: rest).length - 1) 0 := by
  have c0 := (hc c List.mem_cons_self).1
  refine ⟨by omega, (bl_lt (by omega)).mpr (by omega), fun x hx => ?_, ?_⟩
  · rcases List.mem_cons.mp hx with rfl | hx
    · exact Int.le_refl 0
    · exact (hc x (List.mem_cons_of_mem _ hx)).1
  · rcases cut_last (c :: rest) with e | ⟨r, x, e, nx⟩
    · rw [hcut] at e
      cases e
    · rw [hcut] at e
      cases r with
      | nil =>
        rw [e] at h2
        exact absurd h2 (by simp)
      | cons y r =>
        have e2 : rest = r ++ [x] := by
          have z := List.tail_eq_of_cons_eq e
          exact z
        subst e2
        have x0 := (hc x (by simp)).1
        show 1 ≤ (0 :: (r ++ [x])).getD ((r ++ [x]).length + 1 - 1) 0
        rw [Nat.add_sub_cancel, List.length_append, List.getD_eq_getElem?_getD]
        have : (0 :: (r ++ [x]))[r.length + [x].length]? = some x := by
          show (0 :: (r ++ [x]))[r.length + 1]? = some x
          rw [List.getElem?_cons_succ, List.getElem?_append_right (Nat.le_refl _), Nat.sub_self]
          rfl
        rw [this]
        show 1 ≤ x
        omega
theorem val_raised (c : Int) (rest : List Int) (n : Int) : val (c :: rest) n = val (0 :: rest) n + c := by
  rw [val_cons, val_cons]
  omega
theorem near_ok {r : List Int} {m : Int} {many : Nat} (nn : NN r) (z : r.getD 0 0 = 0) (m1 : 1 ≤ m) (hm : BL m ≤ 3000) (hl : r.length ≤ 6) (h2 : 2 ≤ r.length) (last : 1 ≤ r.getD (r.length - 1) 0) (lt : ∀ c ∈ r, c < 2 ^ 70)
    (ex : ∃ i, 1 ≤ i ∧ i < r.length ∧ 0 < r.getD i 0 ∧ many = dg m (r.getD i 0) i) (le : ∀ i, 1 ≤ i → i < r.length → 0 < r.getD i 0 → many ≤ dg m (r.getD i 0) i) :
    NearI r m many ∧ NearS 3200 r many ∧ (r.length - 1) * many ≤ 3100 := by
  obtain ⟨i, i1, i2, i3, e⟩ := ex
  have d := le (r.length - 1) (by omega) (by omega) (by omega)
  have b := bl_one last
  have key : (r.length - 1) * many ≤ 3005 := by
    have z1 : (r.length - 1) * many ≤ (r.length - 1) * dg m (r.getD (r.length - 1) 0) (r.length - 1) := Nat.mul_le_mul_left _ d
    unfold dg at z1
    rw [Nat.mul_add, Nat.mul_one] at z1
    have z2 := Nat.mul_div_le (BL m + 1 - BL (r.getD (r.length - 1) 0)) (r.length - 1)
    omega
  refine ⟨⟨nn, z, m1, i, _, i1, get_of i2, by omega, digits_ex i1 e⟩, fun k c hc => ?_, by omega⟩
  have hk := (List.getElem?_eq_some_iff.mp hc).1
  have c0 := nn c (List.mem_of_getElem? hc)
  have b1 : BL c ≤ 70 := (bl_lt c0).mpr (lt c (List.mem_of_getElem? hc))
  have b2 : many * k ≤ (r.length - 1) * many := by
    rw [Nat.mul_comm]
    exact Nat.mul_le_mul_right _ (by omega)
  omega
section
variable {P : Program} {w : World} {K : PySem.W.Frag} {mg : Str → Option Value} {base : Heap}
theorem ok_lp {f fV fS fH fW fD fN : Addr} {fd fdV fdS fdH fdW fdD fdN : FuncData} (F : Fun K "_least_place" "_least_place" sLP f fd)
    (GV : ∀ kk, FnOk P w K mg base CX0 1 fV fdV ["coefficients", "n"] (spVal K kk)) (kV : PySem.W.keepIn K (.ref fV) = true) (bV : L2.Binds K fdV ["coefficients", "n"] []) (gV : mg "_value" = some (.ref fV))
    (GS : FnOk P w K mg base CX0 1 fS fdS ["coefficients"] (spSlo K false)) (kS : PySem.W.keepIn K (.ref fS) = true) (bS : L2.Binds K fdS ["coefficients"] []) (gS : mg "_slopes" = some (.ref fS))
    (GH : FnOk P w K mg base CX0 2 fH fdH ["coefficients", "goal", "many"] (spHal K false)) (kH : PySem.W.keepIn K (.ref fH) = true) (bH : L2.Binds K fdH ["coefficients", "goal", "many"] []) (gH : mg "_least_by_halves" = some (.ref fH))
    (GW : FnOk P w K mg base CX0 2 fW fdW ["coefficients"] (spFew K)) (kW : PySem.W.keepIn K (.ref fW) = true) (bW : L2.Binds K fdW ["coefficients"] []) (gW : mg "_few_digits" = some (.ref fW))
    (GD : FnOk P w K mg base CX0 1 fD fdD ["coefficients", "goal"] (spDig K)) (kD : PySem.W.keepIn K (.ref fD) = true) (bD : L2.Binds K fdD ["coefficients", "goal"] []) (gD : mg "_binary_digits" = some (.ref fD))
    (GN : FnOk P w K mg base CX0 16 fN fdN ["coefficients", "goal", "many"] (spNear K false 13)) (kN : PySem.W.keepIn K (.ref fN) = true) (bN : L2.Binds K fdN ["coefficients", "goal", "many"] []) (gN : mg "_near_place" = some (.ref fN)) :
    FnOk P w K mg base CX0 17 f fd ["coefficients", "goal"] (spLP K) := by
  refine F.ok scLP (fun vs H Q E h => ?_) (fun cdv A outer s H vs Q E hr h => ?_)
  · obtain ⟨a, ns, g, rfl, _⟩ := h
    rfl
  · obtain ⟨a, ns, g, rfl, ha, hc, hcut, hl, h2, h0, hg, k⟩ := h
    have r1 := hr.mono (by decide : 1 ≤ 16)
    have r2 := hr.mono (by decide : 2 ≤ 16)
    refine ⟨_, pss_cons (ps_par (i := 2) (j := 3) rfl scLP.nd rfl rfl (by decide) rfl rfl (pa_cons (pe_op op_catA (pe_tup (pa_cons pe_int pa_nil)) (pe_slice sl_tupA (pv 0) (po_some pe_int) po_none)) (pa_cons (pe_op op_sub (pv 1) (pe_ix ix_tup (pv 0) pe_int (fun _ _ => rfl))) pa_nil)) rfl)
      (pss_cons (ps_set (i := 4) scLP.nd rfl (.inl rfl) (pe_call GS r1 (by rfl) gS kS bS .nil pass0 (pa_cons (pv 2) pa_nil)))
      (pss_cons (ps_set (i := 5) scLP.nd rfl (.inl rfl) (pe_call GD r1 (by rfl) gD kD bD .nil pass0 (pa_cons (pv 2) (pa_cons (pv 3) pa_nil))))
      (pss_cons (ps_if (pt_cmpR op_le (pv 5) (pe_call GW r2 (by rfl) gW kW bW .nil pass0 (pa_cons (pv 2) pa_nil)) (nomark _)) (pss_one (ps_ret (pe_call GH r2 (by rfl) gH kH bH .nil pass0 (pa_cons (pv 2) (pa_cons (pv 3) (pa_cons (pv 5) pa_nil)))))) pss_nil)
      (pss_cons (ps_set (i := 6) scLP.nd rfl (.inl rfl) (pe_call GN hr (by rfl) gN kN bN .nil pass0 (pa_cons (pv 2) (pa_cons (pv 3) (pa_cons (pv 5) pa_nil)))))
      (pss_cons (ps_set (i := 7) scLP.nd rfl (.inl rfl) pe_int)
      (pss_cons (ps_while PassesOwn.never (pt_cmpR op_ne (pv 7) pe_int (nomark _))
        (pss_cons (ps_set (i := 7) scLP.nd rfl (.inl rfl) (pe_op op_fdivP (pe_op op_sub (pe_call (GV false) r1 (by rfl) gV kV bV .nil pass0 (pa_cons (pv 2) (pa_cons (pv 6) pa_nil))) (pv 3)) (pe_call (GV true) r1 (by rfl) gV kV bV .nil pass0 (pa_cons (pv 4) (pa_cons (pv 6) pa_nil)))))
        (pss_one (ps_set (i := 6) scLP.nd rfl (.inl rfl) (pe_op op_sub (pv 6) (pv 7))))))
      (pss_cons (ps_while PassesOwn.never (pt_cmpR op_ge (pe_call (GV false) r1 (by rfl) gV kV bV .nil pass0 (pa_cons (pv 2) (pa_cons (pe_op op_sub (pv 6) pe_int) pa_nil))) (pv 3) (nomark _))
        (pss_one (ps_set (i := 6) scLP.nd rfl (.inl rfl) (pe_op op_sub (pv 6) pe_int))))
      (pss_one (ps_ret (pv 6)))))))))), ?_⟩
    cases ns with
    | nil => exact absurd h2 (by decide)
    | cons c rest =>
    have h0' : c < g := by
      rw [val_zero] at h0
      exact h0
    obtain ⟨m1, hm, nn, last⟩ := raised_ok hc hcut hl h2 h0' hg
    -- raised
    have lc : (iv (c :: rest)).length = rest.length + 1 := by rw [iv_len]; rfl
    have l1 : 1 ≤ rest.length := by
      have : (c :: rest).length = rest.length + 1 := rfl
      omega
    have l5 : rest.length ≤ 5 := by
      have : (c :: rest).length = rest.length + 1 := rfl
      omega
    refine ⟨by decide, fun t ht => ⟨_, rfl, 1, rfl, a, _, rfl, sqT_same (same_new ht) ha, fun z => ?_, fun _ u hu => ?_⟩⟩
    · have z1 := z.1
      rw [show (1 : Int) = ((1 : Nat) : Int) from rfl, HT.sIx_nat] at z1
      omega
    have st := same_new (o := .tup [.int 0]) ht
    have su := same_new (o := .tup (cutV (iv (c :: rest)) (some 1) none)) hu
    have ecut : cutV (iv (c :: rest)) (some 1) none = iv rest := by
      unfold cutV
      rw [show (1 : Int) = ((1 : Nat) : Int) from rfl, HT.sIx_nat, HT.sIx_none, lc, show min 1 (rest.length + 1) = 1 by omega, Nat.add_sub_cancel]
      show ((V.int c :: iv rest).drop 1).take rest.length = iv rest
      rw [List.drop_one, List.tail_cons, ← iv_len rest, List.take_length]
    rw [ecut] at su
    rw [ecut]
    refine ⟨t, u, [.int 0], iv rest, rfl, rfl, .inl (.inl (su _ _ upd_same)), .inl (.inl upd_same), ?_, (fun z => by cases z), fun _ z => ?_, fun _ _ q hq => ?_⟩
    · rw [iv_len, sizeLine_eq]
      show 1 + rest.length ≤ _
      omega
    · have : (iv rest).length = 0 := by rw [z]; rfl
      rw [iv_len] at this
      omega
    have eq0 : [V.int 0] ++ iv rest = iv (0 :: rest) := rfl
    rw [eq0]
    have sq := same_new (o := .tup (iv (0 :: rest))) hq
    have hr0 := upd_same (H := upd (upd H t (.tup [.int 0])) u (.tup (iv rest))) (a := q) (o := .tup (iv (0 :: rest)))
    have S0 := st.trans (su.trans sq)
    generalize upd (upd (upd H t (.tup [.int 0])) u (.tup (iv rest))) q (.tup (iv (0 :: rest))) = H0 at hr0 S0
    -- missing
    refine ⟨_, rfl, _, rfl, a, _, 0, _, rfl, rfl, sqT_same S0 ha, atI_nat (j := 0) (xs := iv (c :: rest)) rfl, _, _, rfl, rfl, _, _, rfl, ?_⟩
    dsimp only
    obtain ⟨m, em⟩ : ∃ m, m = g - c := ⟨_, rfl⟩
    obtain ⟨r, er⟩ : ∃ r, r = 0 :: rest := ⟨_, rfl⟩
    rw [← em] at m1 hm ⊢
    rw [← er] at hr0 nn last
    have lr : r.length = rest.length + 1 := by rw [er]; rfl
    have z0 : r.getD 0 0 = 0 := by rw [er]; rfl
    have v0 : val r 0 = 0 := by rw [val_zero]; exact z0
    have vr : ∀ n, val (c :: rest) n = val r n + c := fun n => by rw [er]; exact val_raised c rest n
    have hb70 : Bdd 70 r := fun x hx => by
      rw [er] at hx
      rcases List.mem_cons.mp hx with rfl | hx
      · exact ⟨Int.le_refl 0, two_pos _⟩
      · exact ⟨(hc x (List.mem_cons_of_mem _ hx)).1, Int.lt_trans (hc x (List.mem_cons_of_mem _ hx)).2 (by decide)⟩
    have hr' : SqT K H0 q (iv r) := .inl (.inl hr0)
    -- slopes, many
    refine ⟨_, rfl, q, r, rfl, hr', by omega, fun u1 H1 s1 hu1 => ?_⟩
    refine ⟨_, rfl, _, rfl, q, r, m, rfl, sqT_same s1 hr', by omega, ⟨r.length - 1, by omega, by omega, by omega⟩, fun many H2 s2 ex le => ?_⟩
    obtain ⟨NI, NS, hd⟩ := near_ok nn z0 m1 hm (by omega) (by omega) last (fun x hx => (hb70 x hx).2) ex le
    have fin : ∀ (n : Int) (H' : Hp), Same H0 H' → 1 ≤ n → m ≤ val r n → val r (n - 1) < m → Q (.int n) H' := fun n H' s' n1 a1 a2 => k n H' (S0.trans s') n1 (by rw [vr]; omega) (by rw [vr]; omega)
    refine ⟨_, rfl, _, rfl, q, _, rfl, .inr (sqT_same (s1.trans s2) hr'), _, _, rfl, rfl, _, rfl, ?_⟩
    have lq : (iv r).length = rest.length + 1 := by rw [iv_len, lr]
    have L5 := (lostD_small l1 l5).2
    have L4 := (lostD_small l1 l5).1
    have e2 : BL (((iv r).length : Nat) : Int) + 2 = lostD rest.length := by rw [lq]; rfl
    by_cases z2 : many ≤ 3 * lostD rest.length
    · refine if_yes (decide_eq_true (by omega)) ?_
      refine ⟨_, rfl, _, rfl, _, rfl, q, r, m, many, 70, rfl, sqT_same (s1.trans s2) hr', hb70, by decide, ?_, fun h H3 s3 h1 h2 h3 h4 => ?_⟩
      · have : r.length * (many + 2) ≤ 6 * (15 + 2) := Nat.mul_le_mul (by omega) (by omega)
        omega
      · refine fin h H3 (s1.trans (s2.trans s3)) h1 ?_ ?_
        · rcases h3 with h3 | h3
          · exact h3
          · rw [h3]
            exact Int.le_of_lt NI.hit
        · rcases h4 with h4 | h4
          · exact h4
          · rw [h4]
            show val r 0 < m
            omega
    refine if_no (by simp; omega) ?_
    refine ⟨_, rfl, _, rfl, _, rfl, q, r, m, many, 3200, rest.length, rfl, sqT_same (s1.trans s2) hr', lr, l1, l5, NI, NS, by decide, by decide, hm, by rw [lr, Nat.add_sub_cancel] at hd; exact hd, ?_, fun x H3 s3 x1 bx => ?_⟩
    · rw [lr, Nat.add_sub_cancel] at hd
      have : 1 * many ≤ rest.length * many := Nat.mul_le_mul_right _ l1
      show many ≤ lostD rest.length + 4096
      omega
    have bx : BL x ≤ 3200 := by
      refine Nat.le_trans bx ?_
      unfold nearB
      by_cases z1 : rest.length = 1
      · rw [if_pos z1]
        decide
      · rw [if_neg z1]
        rw [lr, Nat.add_sub_cancel] at hd
        exact (nearR_small (by omega) l5 (by omega) L5 hm hd).1
    have S3 := s1.trans (s2.trans s3)
    have hb73 := slo_bdd hb70 (by omega)
    have sl6 : (sloR r).length ≤ 6 := by rw [sloR_eq, slopeZ_len]; omega
    refine ⟨fun t σ H' => ∃ at' step : Int, σ = [some (.ref a), some (.int g), some (.ref q), some (.int m), some (.ref u1), some (.int (many : Int)), some (.int at'), some (.int step)] ∧ Same H3 H' ∧ 1 ≤ at' ∧ (BL at' ≤ 3200 ∨ (m ≤ val r at' ∧ BL at' ≤ 3201)) ∧ (step = 0 → m ≤ val r at') ∧
      t = (if step = 0 then 0 else if m ≤ val r at' then at'.toNat + 1 else (at' + m).toNat + 2), ⟨_, x, 1, rfl, Same.refl _, x1, .inl bx, (fun z => by cases z), rfl⟩, ?_⟩
    rintro t σ H' ⟨at', step, rfl, s4, a1, ab, a0, rfl⟩
    refine ⟨_, rfl, rfl, _, rfl, ?_⟩
    by_cases z3 : step = 0
    · refine if_no (by simp; omega) ?_
      have a0 := a0 z3
      refine ⟨fun t σ H' => ∃ at' : Int, σ = [some (.ref a), some (.int g), some (.ref q), some (.int m), some (.ref u1), some (.int (many : Int)), some (.int at'), some (.int step)] ∧ Same H3 H' ∧ 1 ≤ at' ∧ BL at' ≤ 3201 ∧ m ≤ val r at' ∧ t = at'.toNat, ⟨_, at', rfl, s4, a1, by omega, a0, rfl⟩, ?_⟩
      rintro t σ H4 ⟨b', rfl, s5, b1, bb, b0, rfl⟩
      refine ⟨_, rfl, _, rfl, _, _, rfl, rfl, q, r, b' - 1, rfl, sqT_same (S3.trans s5) hr', fitP (d := 0) hb70 (by decide) (by decide) (by omega) (by omega) (Nat.le_trans (bl_mono (by omega) (show b' - 1 ≤ b' by omega)) (by omega)), fun H5 s6 => ?_⟩
      refine ⟨_, rfl, _, _, rfl, rfl, _, rfl, ?_⟩
      by_cases z4 : m ≤ val r (b' - 1)
      · have b2 : 1 ≤ b' - 1 := by
          by_cases y : b' = 1
          · rw [y] at z4
            have z5 : m ≤ val r 0 := z4
            omega
          · omega
        refine if_yes (decide_eq_true z4) ⟨fun σ' H6 => σ' = [some (.ref a), some (.int g), some (.ref q), some (.int m), some (.ref u1), some (.int (many : Int)), some (.int (b' - 1)), some (.int step)] ∧ Same H3 H6,
          fun σ' H6 ⟨e, s7⟩ => ⟨_, ?_, b' - 1, e, s7, b2, Nat.le_trans (bl_mono (by omega) (show b' - 1 ≤ b' by omega)) bb, z4, rfl⟩, _, rfl, _, _, rfl, rfl, rfl, s5.trans s6⟩
        omega
      · refine if_no (by simpa using z4) ⟨_, rfl, ?_⟩
        exact fin b' H5 (S3.trans (s5.trans s6)) b1 b0 (by omega)
    · refine if_yes (by simpa using z3) ?_
      have a9 : BL at' ≤ 3900 := by omega
      have es := val_sloR r at'
      have hs := NI.slo a1
      obtain ⟨w1, w2, w3, w4, w5⟩ := newton (g := m) NI.nn v0 a1 m1 es.symm (by rw [es]; exact hs)
      rw [← es] at hs
      have dv := divP hs (val_nn0 (by omega) NI.nn) w5 (by omega) (by omega) a9 (by omega : BL m ≤ 3900)
      obtain ⟨st, est⟩ : ∃ st, st = (val r at' - m) / val (sloR r) at' := ⟨_, rfl⟩
      rw [← est] at w1 w2 w3 w4
      refine ⟨fun σ' H6 => σ' = [some (.ref a), some (.int g), some (.ref q), some (.int m), some (.ref u1), some (.int (many : Int)), some (.int (at' - st)), some (.int st)] ∧ Same H3 H6,
        fun σ' H6 ⟨e, s7⟩ => ⟨_, ?_, at' - st, st, e, s7, w1, ?_, (fun _ => w2), rfl⟩, ?_⟩
      · rw [if_neg z3, if_pos w2]
        by_cases z5 : m ≤ val r at'
        · rw [if_pos z5]
          have := w4 z5
          split <;> omega
        · rw [if_neg z5]
          split <;> omega
      · refine .inr ⟨w2, ?_⟩
        by_cases z5 : m ≤ val r at'
        · have := w4 z5
          exact Nat.le_trans (bl_mono (by omega) (show at' - st ≤ at' by omega)) (by omega)
        · have b2 : BL at' ≤ 3200 := by
            rcases ab with ab | ab
            · exact ab
            · exact absurd ab.1 z5
          exact Nat.le_trans (bl_mono (by omega) w3) (bl_add (by omega) (by omega) b2 (by omega))
      · refine ⟨_, rfl, _, rfl, q, r, at', rfl, sqT_same (S3.trans s4) hr', fitP (d := 0) hb70 (by decide) (by decide) (by omega) (by omega) a9, fun H5 s5 => ?_⟩
        refine ⟨_, rfl, _, _, rfl, rfl, _, rfl, _, rfl, u1, sloR r, at', rfl, .inl (.inl ((s2.trans (s3.trans (s4.trans s5))) _ _ hu1)), fitP (d := 0) hb73 (by decide) (by decide) sl6 (by omega) a9, fun H6 s6 => ?_⟩
        refine ⟨_, _, rfl, rfl, dv, _, rfl, _, rfl, _, _, rfl, rfl, ?_, s4.trans (s5.trans s6)⟩
        rw [est]
        rfl
end
end Qp

/-! reach itself -/
namespace Qp
open PySem PySem.Spec PyProof.Rows L2 QN
abbrev sReach : Stmt := inClass cPoly 6 -- Polynomial.reach
theorem scReach : FnScope ["self", "goal"] ["self", "goal"] (defScope sReach) := ⟨rfl, rfl, rfl, by decide +kernel, rfl, by decide +kernel, by decide +kernel⟩
section
variable {P : Program} {w : World} {K : PySem.W.Frag} {mg : Str → Option Value} {base : Heap}
theorem ok_reach {f fC fV fL pD fD C : Addr} {fd fdC fdV fdL fdD : FuncData} (F : Fun K "reach" "Polynomial.reach" sReach f fd) (GC : FnOk P w K mg base CX0 3 fC fdC ["number"] spChk) (kC : PySem.W.keepIn K (.ref fC) = true) (bC : L2.Binds K fdC ["number"] []) (gC : mg "check_number" = some (.ref fC))
    (GV : FnOk P w K mg base CX0 1 fV fdV ["coefficients", "n"] (spVal K false)) (kV : PySem.W.keepIn K (.ref fV) = true) (bV : L2.Binds K fdV ["coefficients", "n"] []) (gV : mg "_value" = some (.ref fV))
    (GL : FnOk P w K mg base CX0 17 fL fdL ["coefficients", "goal"] (spLP K)) (kL : PySem.W.keepIn K (.ref fL) = true) (bL : L2.Binds K fdL ["coefficients", "goal"] []) (gL : mg "_least_place" = some (.ref fL))
    (PD : PropOf K C "degree" pD fD) (GD : FnOk P w K mg base CX0 1 fD fdD ["self"] (spDeg K C)) (bD : L2.Binds K fdD ["self"] []) (T : PolyC K mg C) : FnOk P w K mg base CX0 18 f fd ["self", "goal"] (spReach K C) := by
  refine F.ok scReach (fun vs H Q E h => ?_) (fun cdv A outer s H vs Q E hr h => ?_)
  · obtain ⟨a, ns, g, rfl, _⟩ := h
    rfl
  · obtain ⟨p, ns, g, rfl, hp, hc, hcut, hl, g0, g1, k⟩ := h
    have r1 := hr.mono (by decide : 1 ≤ 17)
    have r2 := hr.mono (by decide : 2 ≤ 17)
    have r3 := hr.mono (by decide : 3 ≤ 17)
    refine ⟨_, pss_cons (ps_expr (pe_call GC r3 (by rfl) gC kC bC .nil pass0 (pa_cons (pv 1) pa_nil)))
      (pss_cons (ps_if (pt_cmpR op_ge (pe_call GV r1 (by rfl) gV kV bV .nil pass0 (pa_cons (pe_fld (pv 0) rfl) (pa_cons pe_int pa_nil))) (pv 1) (nomark _)) (pss_one (ps_ret pe_int)) pss_nil)
      (pss_cons (ps_if (pt_cmpR op_lt (pe_prop (pv 0) T.cls PD GD r2 bD .nil pass0 rfl) pe_int (nomark _)) (pss_one (ps_ret pe_non)) pss_nil)
      (pss_one (ps_ret (pe_call GL hr (by rfl) gL kL bL .nil pass0 (pa_cons (pe_fld (pv 0) rfl) (pa_cons (pv 1) pa_nil))))))), ?_⟩
    obtain ⟨dx, t, h1, ht⟩ := id hp
    refine ⟨_, rfl, g, rfl, g0, ?_⟩
    refine ⟨_, rfl, p, C, dx, _, _, rfl, h1, T.cls, T.noF, rfl, t, ns, 0, rfl, ht, (fit0 hc hl).v, fun H1 s1 => ?_⟩
    refine ⟨_, rfl, _, _, rfl, rfl, _, rfl, ?_⟩
    by_cases z : g ≤ val ns 0
    · exact if_yes (decide_eq_true z) (k _ H1 s1 (.inl ⟨z, rfl⟩))
    refine if_no (by simpa using z) ?_
    refine ⟨_, rfl, p, dx, _, rfl, s1 _ _ h1, p, ns, rfl, polyAt_same s1 hp, _, _, rfl, rfl, _, rfl, ?_⟩
    by_cases y : ns.length < 2
    · exact if_yes (decide_eq_true (by omega)) (k _ H1 s1 (.inr (.inl ⟨by omega, y, rfl⟩)))
    refine if_no (by simp; omega) ?_
    refine ⟨_, rfl, p, C, dx, _, _, rfl, s1 _ _ h1, T.cls, T.noF, rfl, _, rfl, t, ns, g, rfl, sqT_same s1 ht, hc, hcut, hl, by omega, by omega, g1, fun n H2 s2 n1 n2 n3 => ?_⟩
    exact k _ H2 (s1.trans s2) (.inr (.inr ⟨by omega, by omega, n, rfl, n1, n2, n3⟩))
end
end Qp

/-! three drawn ones do what their values do -/
namespace Qp
open PySem PySem.Spec PyProof.Rows L2 QN
abbrev sRi : Stmt := top 38 -- _law_right
abbrev nmRi : List Str := ["_law_dice_here", "_law_things", "_law_turn", "_law_base", "_law_first", "_law_second", "_law_one", "_law_other", "_law_n"]
theorem scRi : FnScope nmRi ["_law_dice_here"] (defScope sRi) := ⟨rfl, rfl, rfl, by decide +kernel, rfl, by decide +kernel, by decide +kernel⟩
theorem val_one_le {b : Int} (hb : 0 ≤ b) : ∀ {ns : List Int}, (∀ c ∈ ns, c ≤ b) → Qp.val ns 1 ≤ ns.length * b
  | [], _ => by
    show (0 : Int) ≤ ((0 : Nat) : Int) * b
    simp
  | c :: ns, h => by
    rw [val_cons, List.length_cons]
    have h1 := h c List.mem_cons_self
    have h2 := val_one_le hb (ns := ns) fun x hx => h x (List.mem_cons_of_mem _ hx)
    have e : ((ns.length + 1 : Nat) : Int) * b = (ns.length : Int) * b + b := by
      rw [show ((ns.length + 1 : Nat) : Int) = (ns.length : Int) + 1 from rfl, Int.add_mul, Int.one_mul]
    omega
/-- a drawn one -/
structure Drawn (K : PySem.W.Frag) (C : Addr) (H : Hp) (v : V) (ns : List Int) : Prop where
  at_ : ∃ p, v = .ref p ∧ PolyAt K C H p ns
  ok : ∀ c ∈ ns, okC c
  cut : cutZ ns = ns
  len : ns.length ≤ 3
theorem Drawn.tell {K : PySem.W.Frag} {C : Addr} {H : Hp} {v : V} {ns : List Int} (h : Drawn K C H v ns) : Tell (Qp.val ns) 72 3 ns := by
  refine ⟨h.cut, fun c hc => (h.ok c hc).1, fun _ => rfl, ?_, h.len⟩
  have a := val_one_le (b := 10 ^ 21) (by decide) (ns := ns) fun c hc => Int.le_of_lt (h.ok c hc).2
  have b : (ns.length : Int) * 10 ^ 21 ≤ 3 * 10 ^ 21 := Int.mul_le_mul_of_nonneg_right (by have := h.len; omega) (by decide)
  have c : (3 : Int) * 10 ^ 21 < 2 ^ 72 := by decide
  omega
theorem Drawn.same {K : PySem.W.Frag} {C : Addr} {H H' : Hp} {v : V} {ns : List Int} (h : Drawn K C H v ns) (s : Same H H') : Drawn K C H' v ns := by
  obtain ⟨⟨p, e, h1⟩, h2, h3, h4⟩ := h
  exact ⟨⟨p, e, polyAt_same s h1⟩, h2, h3, h4⟩
theorem Drawn.but {K : PySem.W.Frag} {C q : Addr} {H H' : Hp} {v : V} {ns : List Int} {l : List V} (h : Drawn K C H v ns) (b : But q H H') (hq : H q = some (.lst l)) : Drawn K C H' v ns := by
  obtain ⟨⟨p, e, h1⟩, h2, h3, h4⟩ := h
  exact ⟨⟨p, e, polyAt_but b hq h1⟩, h2, h3, h4⟩
theorem cut_take_ok {ns : List Int} (h : ∀ c ∈ ns, okC c) (k : Nat) : ∀ c ∈ cutZ (ns.take k), okC c := fun c hc => h c (List.mem_of_mem_take (cut_mem hc))
def spRi (K : PySem.W.Frag) : Sp := fun vs H Q _ => ∃ (p : Addr) (x y z : Int), vs = [.ref p] ∧ H p = some (.lst (hand x y z)) ∧
  ∀ (x' y' z' : Int) (H' : Hp), H' p = some (.lst (hand x' y' z')) → But p H H' → Q (.bl true) H'
/-- the great base -/
structure Base9 (D : Int) : Prop where
  lo : 2 ^ 2000 ≤ D
  hi : D < 2 ^ 2999
  lg : D.natAbs.log2 < 9000
theorem base9 : Base9 (((10 : Int) ^ (60 : Int).toNat) ^ (15 : Int).toNat) := ⟨by decide +kernel, by decide +kernel, by decide +kernel⟩
theorem slice3 {K : PySem.W.Frag} {q : Addr} {H : Hp} {Q : VK} {ns : List Int} (h : SqT K H q (iv ns)) (k : ∀ r H', Same H H' → SqT K H' r (iv (ns.take 3)) → Q (.ref r) H') : rSlA K (.ref q) none (some 3) H Q := by
  have e3 : (some (3 : Int)) = some (((3 : Nat) : Int)) := rfl
  refine ⟨q, iv ns, rfl, h, fun w => k q H (Same.refl _) ?_, fun w r hr => k r _ (same_new hr) (.inl (.inl ?_))⟩
  · have z := w.2
    rw [e3, HT.sIx_nat, iv_len] at z
    rw [List.take_of_length_le (by omega)]
    exact h
  · rw [upd_same]
    unfold cutV
    rw [e3, HT.sIx_none, HT.sIx_nat, iv_len, List.drop_zero, Nat.sub_zero]
    unfold iv
    rw [List.map_take]
    congr 3
    by_cases c : 3 ≤ ns.length
    · rw [Nat.min_eq_left c]
    · exact absurd ⟨HT.sIx_none _ _, by rw [e3, HT.sIx_nat, iv_len]; omega⟩ w
theorem deg_case {ns ms : List Int} (hn : NN ns) (hm : NN ms) (cn : cutZ ns = ns) (cm : cutZ ms = ms) (hl : ns.length ≤ 1) {m : Nat} (bn : Bd m ns) (bm : Bd m ms) :
    ((cutZ (prodZ ns ms)).length : Int) - 1 = if (ns.length : Int) - 1 < 0 then -1 else (ms.length : Int) - 1 := by
  match ns, hl with
  | [], _ =>
    have e : cutZ (prodZ [] ms) = [] := cut_of_eqv (prod_nil ms)
    rw [e]
    rfl
  | [c], _ =>
    have hc : 0 < c := by
      have h0 := hn c List.mem_cons_self
      have n0 : c ≠ 0 := fun z => by
        rw [z] at cn
        exact absurd cn (by decide)
      omega
    have e := mul_len hc hm cm (fun n => by rw [val_prod]; show (0 * n + c) * _ = _; rw [Int.zero_mul, Int.zero_add]) (cut_nn (prod_nn bn bm))
    rw [e, if_neg (by show ¬ ((1 : Nat) : Int) - 1 < 0; decide)]
section
variable {P : Program} {w : World} {K : PySem.W.Frag} {mg : Str → Option Value} {base : Heap} {C : Addr}
theorem ok_ri {f fO fC fB fV fDg fRe : Addr} {fd fdO fdC fdB fdV fdDg : FuncData} {kRe : Nat} (F : Fun K "_law_right" "_law_right" sRi f fd) (Z : Kt P w K mg base C) (VB : BltV mg)
    (GO : FnOk P w K mg base CX0 2 fO fdO ["_law_dice_here", "_law_items"] spOne) (kO : PySem.W.keepIn K (.ref fO) = true) (bO : L2.Binds K fdO ["_law_dice_here", "_law_items"] []) (gO : mg "_law_one_of" = some (.ref fO))
    (GC : FnOk P w K mg base CX0 3 fC fdC ["_law_dice_here"] (spCoef K)) (kC : PySem.W.keepIn K (.ref fC) = true) (bC : L2.Binds K fdC ["_law_dice_here"] []) (gC : mg "_law_coefficients" = some (.ref fC))
    (GB : FnOk P w K mg base CX0 10 fB fdB ["_law_dice_here", "_law_one", "_law_other", "_law_third"] (spBW K C)) (kB : PySem.W.keepIn K (.ref fB) = true) (bB : L2.Binds K fdB ["_law_dice_here", "_law_one", "_law_other", "_law_third"] []) (gB : mg "_law_built_ways" = some (.ref fB))
    (GV : FnOk P w K mg base CX0 10 fV fdV ["_law_dice_here", "_law_one", "_law_other"] (spVa K C)) (kV : PySem.W.keepIn K (.ref fV) = true) (bV : L2.Binds K fdV ["_law_dice_here", "_law_one", "_law_other"] []) (gV : mg "_law_values_right" = some (.ref fV))
    (GDg : FnOk P w K mg base CX0 1 fDg fdDg ["_law_number", "_law_base"] (spDg K)) (kDg : PySem.W.keepIn K (.ref fDg) = true) (bDg : L2.Binds K fdDg ["_law_number", "_law_base"] []) (gDg : mg "_law_digits" = some (.ref fDg))
    (MR : Meth K C "reach" fRe) (GRe : FnR P w K mg base CX0 18 fRe (spReach K C)) :
    FnOk P w K mg base CX0 20 f fd ["_law_dice_here"] (spRi K) := by
  refine F.ok scRi (fun vs H Q E h => ?_) (fun cdv A outer s H vs Q E hr h => ?_)
  · obtain ⟨p, x, y, z, rfl, _⟩ := h
    rfl
  · obtain ⟨p, x, y, z, rfl, hp, k⟩ := h
    have hu : (A.deeper (envOfC "_law_right" (defScope sRi) s.heap.objs.size f cdv)).units + 64 < cLine := by
      have := hr.un
      omega
    have r1 := hr.mono (by decide : 1 ≤ 19)
    have r2 := hr.mono (by decide : 2 ≤ 19)
    have r3 := hr.mono (by decide : 3 ≤ 19)
    have r4 := hr.mono (by decide : 4 ≤ 19)
    have r5 := hr.mono (by decide : 5 ≤ 19)
    have r10 := hr.mono (by decide : 10 ≤ 19)
    have rR := hr.mono (by decide : 18 ≤ 19)
    refine ⟨_, (pss_cons (ps_set (i := 1) scRi.nd rfl (.inl rfl) (pe_lst pa_nil))
      (pss_cons (ps_for PassesOwn.never rfl (pi_range1 (by rfl) VB.s.rg (pa_cons pe_int pa_nil)) (pg_name (i := 2) scRi.nd rfl (.inl rfl))
      (pss_one (ps_expr (pe_bm PySem.F.plainAttrs_list PySem.F.slot_list_append PySem.F.type_list_append mt_append (pv 1) (pa_cons (ClX.pe_cmeth (pe_glob (v := .ref C) (by rfl) Z.T.gC rfl) Z.CR Z.CM Z.GO r5 pass0 (pa_cons (pe_slice sl_tupA (pe_call GC r3 (by rfl) gC kC bC .nil pass0 (pa_cons (pv 0) pa_nil)) po_none (po_some pe_int)) pa_nil)) pa_nil)))))
      (pss_cons (ps_set (i := 3) scRi.nd rfl (.inl rfl) (pe_op op_powX (pe_op op_pow pe_int pe_int) pe_int))
      (pss_cons (ps_for PassesOwn.never rfl (pi_list (pe_call GB r10 (by rfl) gB kB bB .nil pass0 (pa_cons (pv 0) (pa_cons (pe_ix ix_seq (pv 1) pe_int (fun _ _ => rfl)) (pa_cons (pe_ix ix_seq (pv 1) pe_int (fun _ _ => rfl)) (pa_cons (pe_ix ix_seq (pv 1) pe_int (fun _ _ => rfl)) pa_nil)))))) (pg_tup rfl (pgs_cons (pg_name (i := 4) scRi.nd rfl (.inl rfl)) (pgs_cons (pg_name (i := 5) scRi.nd rfl (.inl rfl)) pgs_nil)))
      (pss_one (ps_if (PW.pt (pw_or (pt_cmpR (op_neO Z.ME Z.O.c4 Z.ne Z.GE r2 pass0) (pv 4) (pv 5) (nomark _)) (pw_or (pt_cmpR op_ne (StX.pe_callO (pv 4) Z.CO Z.GCl r4 pass0 (pa_cons (pv 3) pa_nil)) (StX.pe_callO (pv 5) Z.CO Z.GCl r4 pass0 (pa_cons (pv 3) pa_nil)) (nomark _)) (pw_or1 (pt_cmpR (op_neD hu) (pe_call GDg r1 (by rfl) gDg kDg bDg .nil pass0 (pa_cons (StX.pe_callO (pv 4) Z.CO Z.GCl r4 pass0 (pa_cons (pv 3) pa_nil)) (pa_cons (pv 3) pa_nil))) (pe_prop (pv 4) Z.T.cls Z.PC Z.GC r2 Z.bC .nil pass0 rfl) (nomark _)))))) (pss_one (ps_ret pe_bl)) pss_nil)))
      (pss_cons (ps_par (i := 6) (j := 7) rfl scRi.nd rfl rfl (by decide) rfl rfl (pa_cons (pe_ix ix_list (pv 1) pe_int (fun _ _ => rfl)) (pa_cons (pe_ix ix_list (pv 1) pe_int (fun _ _ => rfl)) pa_nil)) rfl)
      (pss_cons (ps_if (PW.pt (pw_or (pt_cmpR op_ne (pe_cmpR (op_eqO Z.ME Z.GE r1 pass0) (pv 6) (pv 7) (nomark _)) (pe_cmpR op_eq (StX.pe_callO (pv 6) Z.CO Z.GCl r4 pass0 (pa_cons (pv 3) pa_nil)) (StX.pe_callO (pv 7) Z.CO Z.GCl r4 pass0 (pa_cons (pv 3) pa_nil)) (nomark _)) (nomark _)) (pw_or1 (pt_not (pt_val (pe_call GV r10 (by rfl) gV kV bV .nil pass0 (pa_cons (pv 0) (pa_cons (pv 6) (pa_cons (pv 7) pa_nil))))))))) (pss_one (ps_ret pe_bl)) pss_nil)
      (pss_cons (ps_if (pt_cmpR op_gt (pe_prop (pv 6) Z.T.cls Z.PD Z.GD r2 Z.bD .nil pass0 rfl) pe_int (nomark _)) (pss_cons (ps_set (i := 8) scRi.nd rfl (.inl rfl) (pe_call GO r2 (by rfl) gO kO bO .nil pass0 (pa_cons (pv 0) (pa_cons (pe_lst (pa_cons pe_int (pa_cons pe_int (pa_cons pe_int (pa_cons (pe_op op_pow pe_int pe_int) pa_nil))))) pa_nil))))
      (pss_one (ps_ret (pe_cmpR op_eq (pe_methR (pv 6) Z.T.cls MR GRe rR pass0 (pa_cons (StX.pe_callO (pv 6) Z.CO Z.GCl r4 pass0 (pa_cons (pv 8) pa_nil)) pa_nil)) (pv 8) (nomark _))))) pss_nil)
      (pss_one (ps_ret (pe_cmpR op_eq (pe_prop (pe_op (op_binO (op := .Mult) Z.sf Z.MM Z.GM r5 pass0) (pv 6) (pv 7)) Z.T.cls Z.PD Z.GD r2 Z.bD .nil pass0 rfl) (pe_ifExp (pt_cmpR op_lt (pe_prop (pv 6) Z.T.cls Z.PD Z.GD r2 Z.bD .nil pass0 rfl) pe_int (nomark _)) (pe_un un_neg pe_int) (pe_prop (pv 7) Z.T.cls Z.PD Z.GD r2 Z.bD .nil pass0 rfl)) (nomark _))))))))))), ?_⟩
    refine ⟨by decide, fun L hL => ?_⟩
    have nLp : L ≠ p := (fun c => by rw [c, hp] at hL; cases hL)
    dsimp only [gName]
    refine q_seq ⟨3, rfl, by decide, by decide, for_range (n := 3) (fun i σ H' => ∃ y2 y3 y4 y5 y6 y7 y8, σ = [some (.ref p), some (.ref L), y2, y3, y4, y5, y6, y7, y8] ∧ ∃ (vs : List V) (cs : List (List Int)) (x y z : Int), H' L = some (.lst vs) ∧ vs.length = i ∧ cs.length = i ∧ (∀ j v ns, vs[j]? = some v → cs[j]? = some ns → Drawn K C H' v ns) ∧ H' p = some (.lst (hand x y z)) ∧ But p H H')
      ⟨_, _, _, _, _, _, _, rfl, [], [], x, y, z, upd_same, rfl, rfl, (fun j v ns e _ => by rw [List.getElem?_nil] at e; cases e), by rw [upd_ne nLp.symm]; exact hp, same_but (same_new hL)⟩ ?_ ?_⟩
    · rintro i σ H1 hi ⟨y2, y3, y4, y5, y6, y7, y8, rfl, vs, cs, x1, y1, z1, hL1, lv, lc, al, hp1, b1⟩
      refine ⟨.ref L, rfl, .inl ⟨rfl, _, .inl (.inl hL1)⟩, ?_⟩
      refine ⟨rfl, .ref p, rfl, p, x1, y1, z1, rfl, hp1, fun q ns x2 y2' z2 H2 hok hlen hq hp2 b2 => ?_⟩
      refine ⟨3, rfl, ?_⟩
      show rSlA K (.ref q) none (some 3) H2 _
      refine slice3 hq fun r H3 s3 hr3 => ⟨r, ns.take 3, rfl, hr3, fun c hc => (hok c (List.mem_of_mem_take hc)).1, by rw [List.length_take]; omega, fun a H4 s4 ha => ?_⟩
      have s24 := s3.trans s4
      have hL4 := s24 _ _ (b2 _ _ nLp hL1)
      refine ⟨L, _, _, rfl, rfl, hL4, by rw [sizeLine_eq]; omega, ?_⟩
      have dn : Drawn K C H4 (.ref a) (cutZ (ns.take 3)) := ⟨⟨a, rfl, ha⟩, cut_take_ok hok 3, cut_cut _, Nat.le_trans (cut_len _) (by rw [List.length_take]; omega)⟩
      refine ⟨_, _, _, _, _, _, _, rfl, vs ++ [.ref a], cs ++ [cutZ (ns.take 3)], x2, y2', z2, upd_same, by rw [List.length_append, lv]; rfl, by rw [List.length_append, lc]; rfl, fun j v ms e1 e2 => ?_, by rw [upd_ne nLp.symm]; exact s24 _ _ hp2, fun b o nb e => ?_⟩
      · refine Drawn.but (q := L) ?_ but_upd hL4
        by_cases c : j < i
        · rw [List.getElem?_append_left (by omega)] at e1 e2
          exact ((al j v ms e1 e2).but b2 hp1).same s24
        · rw [List.getElem?_append_right (by omega)] at e1 e2
          have e0 : j - vs.length = 0 := by
            have := (List.getElem?_eq_some_iff.mp e1).1
            simp at this
            exact this
          have e0' : j - cs.length = 0 := by omega
          rw [e0] at e1
          rw [e0'] at e2
          cases e1
          cases e2
          exact dn
      · have nL : b ≠ L := fun c => by
          rw [c] at e
          rw [e] at hL
          cases hL
        rw [upd_ne nL]
        exact s24 _ _ (b2 b o nb (b1 b o nb e))
    · rintro σ H1 ⟨y2, y3, y4, y5, y6, y7, y8, rfl, vs, cs, x1, y1, z1, hL1, lv, lc, al, hp1, b1⟩
      match vs, cs, lv, lc with
      | [v1, v2, v3], [c1, c2, c3], _, _ =>
        have d1 := al 0 v1 c1 rfl rfl
        have d2 := al 1 v2 c2 rfl rfl
        have d3 := al 2 v3 c3 rfl rfl
        clear al
        refine ⟨_, _, rfl, rfl, ⟨by decide, by decide, by decide⟩, _, _, rfl, rfl, ⟨by decide, by decide +kernel⟩, ?_⟩
        have hD := base9
        dsimp only [gName]
        generalize (((10 : Int) ^ (60 : Int).toNat) ^ (15 : Int).toNat) = D at hD
        have D1 : 1 ≤ D := by
          have h1 := hD.lo
          have h2 : (0 : Int) < 2 ^ 2000 := Int.pow_pos (by decide)
          exact Int.le_trans h2 h1
        obtain ⟨⟨a, rfl, pa⟩, oka, cuta, lena⟩ := id d1
        obtain ⟨⟨b, rfl, pb⟩, okb, cutb, lenb⟩ := id d2
        obtain ⟨⟨c, rfl, pc⟩, okc, cutc, lenc⟩ := id d3
        refine q_seq ⟨.ref p, rfl, .ref L, rfl, .inl ⟨L, _, 0, .ref a, rfl, rfl, .inl (.inl hL1), rfl, .ref L, rfl, .inl ⟨L, _, 1, .ref b, rfl, rfl, .inl (.inl hL1), rfl, .ref L, rfl, .inl ⟨L, _, 2, .ref c, rfl, rfl, .inl (.inl hL1), rfl, ?_⟩⟩⟩⟩
        refine ⟨p, a, b, c, x1, y1, z1, val c1, val c2, val c3, rfl, hp1, ⟨c1, pa, d1.tell⟩, ⟨c2, pb, d2.tell⟩, ⟨c3, pc, d3.tell⟩, fun r ys x2 y2' z2 H2 hr2 hys hp2 b2 => ?_⟩
        refine ⟨r, rfl, ⟨_, .inl (.inl hr2)⟩, for_list (xs := ys) (fun i σ H' => ∃ y4 y5, σ = [some (.ref p), some (.ref L), y2, some (.int D), y4, y5, y6, y7, y8] ∧ Same H2 H') ⟨_, _, rfl, Same.refl _⟩ (fun i σ H' _ ⟨_, _, _, s'⟩ => .inl (.inl (s' _ _ hr2))) ?_ ?_⟩
        · rintro i v σ H3 hv ⟨y4, y5, rfl, s3⟩
          obtain ⟨t, u, w', ms, rfl, ht, pu, pw, cutm, bdm, lenm⟩ := (hys v (List.mem_of_getElem? hv)).same s3
          refine ⟨t, _, rfl, ht, rfl, _, _, rfl, _, _, rfl, rfl, ?_⟩
          dsimp only
          have fit : FitV ms D := ⟨by omega, 2000, 2999, bdm, hD.hi, by decide, by decide, by omega⟩
          refine ⟨_, rfl, _, rfl, u, rfl, polyAt_O pu, .inr ⟨w', rfl, polyAt_O pw⟩, u, .ref w', ms, _, rfl, pu, .inl ⟨w', ms, rfl, pw, rfl⟩, _, rfl, _, rfl, if_no (by simp) ?_⟩
          refine ⟨_, rfl, u, rfl, _, rfl, .inr (polyAt_O pu), u, ms, D, rfl, pu, fit, fun H5 s5 => ⟨_, rfl, w', rfl, _, rfl, .inr (polyAt_O (polyAt_same s5 pw)), w', ms, D, rfl, polyAt_same s5 pw, fit, fun H6 s6 => ⟨rfl, _, rfl, if_no (by simp) ?_⟩⟩⟩
          have s56 := s5.trans s6
          have pu6 := polyAt_same s56 pu
          obtain ⟨du, tu, eu1, eu2⟩ := id pu6
          refine ⟨_, rfl, u, rfl, _, rfl, .inr (polyAt_O pu6), u, ms, D, rfl, pu6, fit, fun H7 s7 => ⟨_, rfl, ms, D, rfl, cutm, fun c hc => ⟨(bdm c hc).1, Int.lt_of_lt_of_le (bdm c hc).2 hD.lo⟩, D1, hD.lg, by omega, fun q H8 s8 hq8 => ?_⟩⟩
          have s68 := s7.trans s8
          refine ⟨_, rfl, u, du, _, rfl, s68 _ _ eu1, u, ms, rfl, polyAt_same s68 pu6, fun ct hct => ⟨_, _, .tup hq8 (dps _), .tup hct (dps _), shaped_tup _, shaped_tup _, _, rfl, if_no (by rw [eqv_tup]; simp) ?_⟩⟩
          exact ⟨_, _, rfl, s3.trans (s56.trans s68)⟩
        · rintro σ H3 ⟨y4, y5, rfl, s3⟩
          have b13 : But p H1 H3 := but_trans b2 (same_but s3)
          have b03 : But p H H3 := but_trans b1 b13
          have hp3 := s3 _ _ hp2
          have hL3 := b13 _ _ nLp hL1
          have e1 := d1.but b13 hp1
          have e2 := d2.but b13 hp1
          have pa3 := polyAt_but b13 hp1 pa
          have pb3 := polyAt_but b13 hp1 pb
          clear hys hr2 b2 hp2 s3 d1 d2 d3 pa pb pc b1 hp1 hL1
          refine ⟨.ref L, rfl, L, _, 0, .ref a, rfl, rfl, .inl (.inl hL3), rfl, .ref L, rfl, L, _, 1, .ref b, rfl, rfl, .inl (.inl hL3), rfl, _, _, rfl, ?_⟩
          have fitA : FitV c1 D := ⟨by omega, 72, 2999, e1.tell.bd, hD.hi, by decide, by decide, by omega⟩
          have fitB : FitV c2 D := ⟨by omega, 72, 2999, e2.tell.bd, hD.hi, by decide, by decide, by omega⟩
          dsimp only
          refine ⟨_, rfl, _, rfl, a, rfl, polyAt_O pa3, .inr ⟨b, rfl, polyAt_O pb3⟩, a, .ref b, c1, _, rfl, pa3, .inl ⟨b, c2, rfl, pb3, rfl⟩, _, rfl, ?_⟩
          refine ⟨_, rfl, a, rfl, _, rfl, .inr (polyAt_O pa3), a, c1, D, rfl, pa3, fitA, fun H5 s5 => ⟨_, rfl, b, rfl, _, rfl, .inr (polyAt_O (polyAt_same s5 pb3)), b, c2, D, rfl, polyAt_same s5 pb3, fitB, fun H6 s6 => ?_⟩⟩
          have hle : (2 : Int) ^ 72 ≤ D := Int.le_trans (pow_mono2 (by decide)) hD.lo
          have ev := eq_at_base e1.tell.bd e2.tell.bd cuta cutb hle
          refine ⟨rfl, rfl, _, rfl, if_no ?_ ?_⟩
          · show ¬ (!decide (V.bl (if true = true then decide (c1 = c2) else !decide (c1 = c2)) = V.bl (decide (V.int (val c1 D) = V.int (val c2 D))))) = true
            have e3 : decide (V.int (val c1 D) = V.int (val c2 D)) = decide (val c1 D = val c2 D) := by simp
            rw [e3, ← ev]
            simp
          have s36 := s5.trans s6
          refine ⟨.ref p, rfl, _, rfl, _, rfl, p, a, b, _, _, _, val c1, val c2, rfl, s36 _ _ hp3, ⟨c1, polyAt_same s36 pa3, e1.tell⟩, ⟨c2, polyAt_same s36 pb3, e2.tell⟩, fun x4 y4' z4 H7 hp7 b7 => ⟨_, rfl, if_no (by decide) ?_⟩⟩
          have pa7 := polyAt_but b7 (s36 _ _ hp3) (polyAt_same s36 pa3)
          have pb7 := polyAt_but b7 (s36 _ _ hp3) (polyAt_same s36 pb3)
          have b07 : But p H H7 := but_trans b03 (but_trans (same_but s36) b7)
          clear pa3 pb3 e1 e2 hp3 hL3 b13 b03 s36 s5 s6 b7
          obtain ⟨da, ta, ea1, ea2⟩ := id pa7
          obtain ⟨db, tb, eb1, eb2⟩ := id pb7
          refine ⟨_, rfl, a, da, _, rfl, ea1, a, c1, rfl, pa7, _, _, rfl, rfl, _, rfl, ?_⟩
          by_cases dg : 2 ≤ c1.length
          · refine if_yes (decide_eq_true (by omega)) ?_
            refine ⟨.ref p, rfl, _, _, rfl, rfl, ⟨by decide, by decide, by decide⟩, (by show 4 ≤ sizeLine; decide), fun l hl => ?_⟩
            have nlp : l ≠ p := (fun c => by rw [c, hp7] at hl; cases hl)
            have sl := same_new (o := .lst [.int 0, .int 1, .int 5, .int ((10 : Int) ^ (15 : Int).toNat)]) hl
            refine ⟨p, l, _, _, _, _, rfl, sl _ _ hp7, upd_same, nlp, (by show 0 < 4; decide), (by show 4 < 1073741824; decide), fun v x8 y8' z8 H8 hv hp8 b8 => ?_⟩
            have hv' : ∃ n : Int, v = .int n ∧ 0 ≤ n ∧ n < 2 ^ 50 := by
              simp only [List.mem_cons, List.not_mem_nil, or_false] at hv
              rcases hv with rfl | rfl | rfl | rfl
              all_goals exact ⟨_, rfl, by decide, by decide⟩
            obtain ⟨n, rfl, n0, n1⟩ := hv'
            have pa8 := polyAt_but b8 (sl _ _ hp7) (polyAt_same sl pa7)
            have b08 : But p H H8 := but_trans b07 (but_trans (same_but sl) b8)
            obtain ⟨da8, ta8, ea8, _⟩ := id pa8
            have bd8 : Bd 70 c1 := fun c hc => ⟨(oka c hc).1, Int.lt_trans (oka c hc).2 (by decide)⟩
            dsimp only [gName]
            refine ⟨_, rfl, a, da8, _, rfl, ea8, rfl, _, rfl, a, rfl, _, rfl, .inr (polyAt_O pa8), a, c1, n, rfl, pa8, ⟨n0, 70, 50, bd8, n1, by decide, by decide, by omega⟩, fun H9 s9 => ?_⟩
            have lt := valB_lt n0 n1 bd8
            have nn1 : NN c1 := fun c hc => (oka c hc).1
            refine ⟨a, c1, val c1 n, rfl, polyAt_same s9 pa8, oka, cuta, by omega, val_nn0 n0 nn1, Int.lt_of_lt_of_le lt (pow_mono2 (by omega)), fun v H10 s10 rv => ?_⟩
            have en : v = .int n := by
              by_cases z : n = 0
              · rw [z] at rv ⊢
                exact rv.zero (Int.le_refl _)
              · exact rv.at oka (val_strict nn1 cuta dg (Int.le_refl 0) (by omega)) dg (by omega) (Int.le_refl _) (val_strict nn1 cuta dg (by omega) (by omega))
            subst en
            refine ⟨_, rfl, rfl, ?_⟩
            have fin := k _ _ _ _ (s10 _ _ (s9 _ _ hp8)) (but_trans b08 (same_but (s9.trans s10)))
            show Q (.bl (decide (V.int n = V.int n))) H10
            rw [decide_eq_true rfl]
            exact fin
          · refine if_no (by rw [decide_eq_true_eq]; omega) ?_
            have nn1 : NN c1 := fun c hc => (oka c hc).1
            have nn2 : NN c2 := fun c hc => (okb c hc).1
            have bd1 : Bd 70 c1 := fun c hc => ⟨(oka c hc).1, Int.lt_trans (oka c hc).2 (by decide)⟩
            have bd2 : Bd 70 c2 := fun c hc => ⟨(okb c hc).1, Int.lt_trans (okb c hc).2 (by decide)⟩
            refine ⟨_, rfl, _, rfl, a, b, rfl, rfl, polyAt_O pa7, polyAt_O pb7, a, .ref b, c1, c2, 70, 70, rfl, pa7, te_fac pb7, by omega, by omega, bd1, bd2, by decide, by decide, by decide, fun q H8 s8 hq8 => ?_⟩
            obtain ⟨dq, tq, eq1, eq2⟩ := id hq8
            refine ⟨q, dq, _, rfl, eq1, q, _, rfl, hq8, ?_⟩
            have pa8 := polyAt_same s8 pa7
            have pb8 := polyAt_same s8 pb7
            refine ⟨_, rfl, a, da, _, rfl, s8 _ _ ea1, a, c1, rfl, pa8, _, _, rfl, rfl, _, rfl, ?_⟩
            have dc := deg_case nn1 nn2 cuta cutb (by omega) bd1 bd2
            have fin := k _ _ _ _ (s8 _ _ hp7) (but_trans b07 (same_but s8))
            by_cases z : (c1.length : Int) - 1 < 0
            · refine if_yes (decide_eq_true z) ⟨1, rfl, rfl, ?_⟩
              rw [if_pos z] at dc
              show Q (.bl (decide (V.int (((cutZ (prodZ c1 c2)).length : Int) - 1) = V.int (-1)))) H8
              rw [dc, decide_eq_true rfl]
              exact fin
            · refine if_no (by simpa using z) ⟨_, rfl, b, db, _, rfl, s8 _ _ eb1, b, c2, rfl, pb8, rfl, ?_⟩
              rw [if_neg z] at dc
              show Q (.bl (decide (V.int (((cutZ (prodZ c1 c2)).length : Int) - 1) = V.int ((c2.length : Int) - 1)))) H8
              rw [dc, decide_eq_true rfl]
              exact fin
end
end Qp

/-! the law about whole polynomials -/
namespace Qp
open PySem PySem.Spec PyProof.Rows L2 QN
abbrev sLaw : Stmt := top 39 -- law
abbrev nmLaw : List Str := ["_law_script", "_law_at", "_law_dice_here", "_law_turn", "_law_one"]
theorem scLaw : FnScope nmLaw ["_law_script"] (defScope sLaw) := ⟨rfl, rfl, rfl, by decide +kernel, rfl, by decide +kernel, by decide +kernel⟩
def spLaw (K : PySem.W.Frag) : Sp := fun vs H Q _ => ∃ (a : Addr) (ns : List Int), vs = [.ref a] ∧ SqL K H a (ns.map V.int) ∧ ∀ H', Q (.bl true) H'
/-- the term makes this polynomial -/
def GoesL (K : PySem.W.Frag) (C : Addr) (te : TE) (σ : L2.St) (H : Hp) (ns : List Int) : Prop := ∀ Q : VK, (∀ q H', Same H H' → PolyAt K C H' q ns → Q (.ref q) H') → te σ H Q
section
variable {K : PySem.W.Frag} {C : Addr} {σ : L2.St} {H : Hp} {ns ms : List Int} {m m' : Nat} {ta tb : TE}
theorem gl_var {i : Nat} {p : Addr} (h : σ[i]? = some (some (.ref p))) (hp : PolyAt K C H p ns) : GoesL K C (tVar i) σ H ns := fun Q k => ⟨_, h, k p H (Same.refl _) hp⟩
theorem GoesL.to (a : GoesL K C ta σ H ns) (e : ns = ms) : GoesL K C ta σ H ms := e ▸ a
theorem gl_make2 {a b : Int} (h : ∀ c ∈ [a, b], 0 ≤ c) : GoesL K C (StX.tMakeR C (spInit K C) L2.E0 (tCons (tC (.int a)) (tCons (tC (.int b)) tNil))) σ H (cutZ [a, b]) := fun Q k =>
  fun x dx hx hd ne => ⟨x, dx, [a, b], rfl, upd_same, h, (by show 2 ≤ 1000; decide), fun t H1 h1 h2 bb => ⟨rfl, k x H1 (same_made hx hd bb) ⟨dx, t, h1, h2⟩⟩⟩
theorem bd1 {c : Int} (c0 : 0 ≤ c) (c1 : c < 2 ^ 4) : Bd 4 (cutZ [c]) := fun x hx => by
  rw [List.mem_singleton.mp (cut_mem hx)]
  exact ⟨c0, c1⟩
theorem gl_addI {c : Int} (a : GoesL K C ta σ H ns) (bn : Bd m ns) (l : ns.length ≤ 40) (c0 : 0 ≤ c) (c1 : c < 2 ^ 4) (m0 : 0 < m) (hm : m ≤ 1000) : GoesL K C (eAddI K C ta c) σ H (cutZ (sumZ ns (cutZ [c]))) := fun Q k =>
  a _ fun p H1 s1 hp => ⟨p, c, rfl, rfl, polyAt_O hp, p, .int c, ns, cutZ [c], m, 4, rfl, hp, fac_int c0, by omega, Nat.le_trans (cut_len _) (by show 1 ≤ 500; decide), bn, bd1 c0 c1, by omega, m0, by decide, fun q H2 s2 hq => k q H2 (s1.trans s2) hq⟩
theorem gl_raddI {c : Int} (a : GoesL K C ta σ H ns) (bn : Bd m ns) (l : ns.length ≤ 40) (c0 : 0 ≤ c) (c1 : c < 2 ^ 4) (m0 : 0 < m) (hm : m ≤ 1000) : GoesL K C (eRAdd K C c ta) σ H (cutZ (sumZ ns (cutZ [c]))) := fun Q k =>
  a _ fun p H1 s1 hp => ⟨c, p, rfl, rfl, polyAt_O hp, p, .int c, ns, cutZ [c], m, 4, rfl, hp, fac_int c0, by omega, Nat.le_trans (cut_len _) (by show 1 ≤ 500; decide), bn, bd1 c0 c1, by omega, m0, by decide, fun q H2 s2 hq => k q H2 (s1.trans s2) hq⟩
theorem gl_mulI {c : Int} (a : GoesL K C ta σ H ns) (bn : Bd m ns) (l : ns.length ≤ 40) (c0 : 0 ≤ c) (c1 : c < 2 ^ 4) (m0 : 0 < m) (hm : m ≤ 1000) : GoesL K C (eMulI K C ta c) σ H (cutZ (prodZ ns (cutZ [c]))) := fun Q k =>
  a _ fun p H1 s1 hp => ⟨p, c, rfl, rfl, polyAt_O hp, p, .int c, ns, cutZ [c], m, 4, rfl, hp, fac_int c0, by omega, Nat.le_trans (cut_len _) (by show 1 ≤ 500; decide), bn, bd1 c0 c1, by omega, m0, by decide, fun q H2 s2 hq => k q H2 (s1.trans s2) hq⟩
theorem gl_mul (a : GoesL K C ta σ H ns) (b : ∀ H', Same H H' → GoesL K C tb σ H' ms) (bn : Bd m ns) (bm : Bd m' ms) (l : ns.length ≤ 40) (l' : ms.length ≤ 40) (m0 : 0 < m) (m1 : 0 < m') (hm : m + m' ≤ 1000) : GoesL K C (eMul K C ta tb) σ H (cutZ (prodZ ns ms)) := fun Q k =>
  a _ fun p H1 s1 hp => b H1 s1 _ fun r H2 s2 hr => ⟨p, r, rfl, rfl, polyAt_O (polyAt_same s2 hp), polyAt_O hr, p, .ref r, ns, ms, m, m', rfl, polyAt_same s2 hp, te_fac hr, by omega, by omega, bn, bm, by omega, m0, m1, fun q H3 s3 hq => k q H3 (s1.trans (s2.trans s3)) hq⟩
theorem gl_pow {e : Nat} {c : Int} (ec : c = (e : Int)) (a : GoesL K C ta σ H ns) (bn : Bd m ns) (l : ns.length ≤ 40) (he : e ≤ 20) (m0 : 0 < m) (hm : m ≤ 1000) : GoesL K C (ePow K C ta c) σ H (cutZ (powZ ns e)) := fun Q k =>
  a _ fun p H1 s1 hp => ⟨p, c, rfl, rfl, polyAt_O hp, p, e, ns, m, by rw [ec], hp, he, l, bn, m0, by omega, fun q H2 s2 hq => k q H2 (s1.trans s2) hq⟩
theorem gl_at (a : GoesL K C ta σ H ns) (b : ∀ H', Same H H' → GoesL K C tb σ H' ms) (bn : Bd m ns) (bm : Bd m ms) (l : ns.length ≤ 40) (l' : ms.length ≤ 20) (m0 : 0 < m) (hm : m ≤ 1000) : GoesL K C (eAt K C ta tb) σ H (cutZ (atZ ms ns)) := fun Q k =>
  a _ fun p H1 s1 hp => by
    obtain ⟨dx, t, e1, e2⟩ := id hp
    exact ⟨p, dx, _, rfl, e1, rfl, b H1 s1 _ fun r H2 s2 hr => ⟨p, r, ns, ms, m, rfl, polyAt_same s2 hp, hr, l, l', bn, bm, m0, by omega, fun q H3 s3 hq => k q H3 (s1.trans (s2.trans s3)) hq⟩⟩
end
theorem q_andv {σ : L2.St} {H : Hp} {Q : VK} {ta tb : TE} (h : ta σ H fun x H1 => ∃ c, x = .bl c ∧ if c = true then tb σ H1 Q else Q (.bl false) H1) : tAndV ta tb σ H Q := h
theorem q_co {X : Cx} {C : Addr} {sp : Sp} {E : XK} {σ : L2.St} {H : Hp} {Q : VK} {tf : TE} {t : TA} (h : tf σ H fun y H1 => ∃ a, y = V.ref a ∧ t σ H1 fun vs H2 => StX.InsC X H2 a C ∧ sp (V.ref a :: vs) H2 Q E) : StX.tCallO X C sp E tf t σ H Q := h
def bdB (m : Nat) (ns : List Int) : Bool := ns.all fun c => decide (0 ≤ c) && decide (c < 2 ^ m)
theorem bd_of {m : Nat} {ns : List Int} (h : bdB m ns = true) : Bd m ns := fun c hc => by
  have z := List.all_eq_true.mp h c hc
  simp only [Bool.and_eq_true, decide_eq_true_eq] at z
  exact z
section
variable {P : Program} {w : World} {K : PySem.W.Frag} {mg : Str → Option Value} {base : Heap} {C : Addr}
theorem ok_law {f fD fRi : Addr} {fd fdD fdRi : FuncData} (F : Fun K "law" "law" sLaw f fd) (Z : Kt P w K mg base C) (VB : BltV mg)
    (GD : FnOk P w K mg base CX0 1 fD fdD ["_law_script", "_law_at"] (spDice K)) (kD : PySem.W.keepIn K (.ref fD) = true) (bD : L2.Binds K fdD ["_law_script", "_law_at"] []) (gD : mg "_law_dice" = some (.ref fD))
    (GRi : FnOk P w K mg base CX0 20 fRi fdRi ["_law_dice_here"] (spRi K)) (kRi : PySem.W.keepIn K (.ref fRi) = true) (bRi : L2.Binds K fdRi ["_law_dice_here"] []) (gRi : mg "_law_right" = some (.ref fRi)) :
    FnOk P w K mg base CX0 21 f fd ["_law_script"] (spLaw K) := by
  refine F.ok scLaw (fun vs H Q E h => ?_) (fun cdv A outer s H vs Q E hr h => ?_)
  · obtain ⟨a, ns, rfl, _⟩ := h
    rfl
  · obtain ⟨a, ns, rfl, hS, fin⟩ := h
    have hu : (A.deeper (envOfC "law" (defScope sLaw) s.heap.objs.size f cdv)).units + 64 < cLine := by
      have := hr.un
      omega
    have r1 := hr.mono (by decide : 1 ≤ 20)
    have r4 := hr.mono (by decide : 3 + 1 ≤ 20)
    have r5 := hr.mono (by decide : 5 ≤ 20)
    have r5' := hr.mono (by decide : 3 + 2 ≤ 20)
    refine ⟨_, (pss_cons (ps_for PassesOwn.never rfl (pi_range1 (by rfl) VB.s.rg (pa_cons (pe_callB (call_max2 rfl) (by rfl) VB.s.max (by decide +kernel) (pa_cons pe_int (pa_cons (pe_callB (call_min2 rfl) (by rfl) VB.min (by decide +kernel) (pa_cons pe_int (pa_cons (pe_callB call_len_seq (by rfl) VB.P.len PySem.boot_len (pa_cons (pv 0) pa_nil)) pa_nil))) pa_nil))) pa_nil)) (pg_name (i := 1) scLaw.nd rfl (.inl rfl))
      (pss_cons (ps_set (i := 2) scLaw.nd rfl (.inl rfl) (pe_call GD r1 (by rfl) gD kD bD .nil pass0 (pa_cons (pv 0) (pa_cons (pv 1) pa_nil))))
      (pss_one (ps_for PassesOwn.never rfl (pi_range1 (by rfl) VB.s.rg (pa_cons pe_int pa_nil)) (pg_name (i := 3) scLaw.nd rfl (.inl rfl))
      (pss_one (ps_if (pt_not (pt_val (pe_call GRi hr (by rfl) gRi kRi bRi .nil pass0 (pa_cons (pv 2) pa_nil)))) (pss_one (ps_ret pe_bl)) pss_nil))))))
      (pss_cons (ps_set (i := 4) scLaw.nd rfl (.inl rfl) (pe_op (op_binI (op := .Add) Z.BA Z.MA Z.MRA.at_ (.inr ⟨_, rfl⟩) Z.GA r5 pass0) (StX.pe_makeR Z.M Z.GI r4 (by rfl) Z.T.gC pass0 (pa_cons pe_int (pa_cons pe_int pa_nil))) pe_int))
      (pss_cons (ps_if (PW.pt (pw_or (pt_cmpR op_ne (pe_callTy (call_strO Z.MS Z.GS r5' pass0) (by rfl) VB.str (by decide +kernel) (pa_cons (pe_op (op_binI (op := .Pow) Z.BP Z.MP Z.noRP (.inl rfl) Z.GP r5 pass0) (pv 4) pe_int) pa_nil)) pe_str (nomark _)) (pw_or1 (pt_cmpR op_ne (pe_callTy (call_strO Z.MS Z.GS r5' pass0) (by rfl) VB.str (by decide +kernel) (pa_cons (pe_op (op_binO (op := .Mult) Z.sf Z.MM Z.GM r5 pass0) (pe_methR (pv 4) Z.T.cls Z.MAt Z.GAt r5 pass0 (pa_cons (pe_op (op_binI (op := .Mult) Z.BM Z.MM Z.MRM.at_ (.inr ⟨_, rfl⟩) Z.GM r5 pass0) (pv 4) pe_int) pa_nil)) (StX.pe_makeR Z.M Z.GI r4 (by rfl) Z.T.gC pass0 (pa_cons pe_int (pa_cons pe_int pa_nil)))) pa_nil)) pe_str (nomark _))))) (pss_one (ps_ret pe_bl)) pss_nil)
      (pss_one (ps_ret (pe_and (pe_cmpR op_eq (StX.pe_callO (pe_op (op_binO (op := .Mult) Z.sf Z.MM Z.GM r5 pass0) (pv 4) (pv 4)) Z.CO Z.GCl r4 pass0 (pa_cons pe_int pa_nil)) pe_int (nomark _)) (pe_one (pe_cmpR (op_eqO Z.ME Z.GE r1 pass0) (pe_op (op_binI (op := .Pow) Z.BP Z.MP Z.noRP (.inl rfl) Z.GP r5 pass0) (pv 4) pe_int) (pe_op (op_binO (op := .Mult) Z.sf Z.MM Z.GM r5 pass0) (pv 4) (pe_op (op_raddO Z.BA Z.MA Z.MRA Z.GRA r5 pass0) pe_int (StX.pe_makeR Z.M Z.GI r4 (by rfl) Z.T.gC pass0 (pa_cons pe_int (pa_cons pe_int pa_nil))))) (nomark _))))))))), ?_⟩
    refine ⟨_, rfl, a, _, rfl, .inl hS, _, _, rfl, _, _, rfl, _, rfl, ?_, ?_, ?_⟩
    · split <;> split <;> omega
    · split <;> split <;> omega
    refine for_range (fun i σ H' => ∃ y1 y2 y3 y4, σ = [some (.ref a), y1, y2, y3, y4] ∧ Same H H') ⟨none, none, none, none, rfl, Same.refl _⟩ ?_ ?_
    · rintro i σ H' hi ⟨y1, y2, y3, y4, rfl, sm⟩
      refine ⟨_, rfl, _, rfl, a, ns, i, by rw [Int.zero_add]; rfl, sqL_same sm hS, fun p x y z np => ?_⟩
      refine ⟨3, rfl, by decide, by decide, for_range (n := 3) (fun j σ H2 => ∃ z1 z3 z4, σ = [some (.ref a), z1, some (.ref p), z3, z4] ∧ Same H' H2 ∧ (∃ x y z : Int, H2 p = some (.lst (hand x y z)))) ⟨_, _, _, rfl, same_new np, ⟨x, y, z, upd_same⟩⟩ ?_ ?_⟩
      · rintro j σ H2 hj ⟨z1, z3, z4, rfl, sm2, ⟨x2, y2', z2, hp2⟩⟩
        refine ⟨_, rfl, p, x2, y2', z2, rfl, hp2, fun x6 y6' z6' H6 hp6 b6 => ⟨_, rfl, if_no (by decide) ?_⟩⟩
        refine ⟨_, _, _, rfl, fun b o e => ?_, ⟨x6, y6', z6', hp6⟩⟩
        have nb : b ≠ p := fun c => by rw [c, np] at e; cases e
        exact b6 _ _ nb (sm2 _ _ e)
      · rintro σ H2 ⟨z1, z3, z4, rfl, sm2, _⟩
        exact ⟨_, _, _, _, rfl, sm.trans sm2⟩
    · rintro σ H' ⟨y1, y2, y3, y4, rfl, sm⟩
      dsimp only
      refine q_seq (q_asg ?_)
      refine GoesL.to (ms := [1, 1]) (gl_addI (gl_make2 (by decide)) (m := 2) (bd_of (by decide +kernel)) (by decide) (by decide) (by decide) (by decide) (by decide)) (by decide +kernel) _ fun t H1 s1 ht => ?_
      dsimp only [gName]
      have g1 : ∀ H', Same H1 H' → GoesL K C (tVar 4) [some (.ref a), y1, y2, y3, some (.ref t)] H' [1, 1] := fun H' s => gl_var rfl (polyAt_same s ht)
      have B2 : Bd 2 [1, 1] := bd_of (by decide +kernel)
      refine q_seq (q_ifs (q_or (q_test (q_op (q_cb (q_cons ?_))))))
      refine GoesL.to (ms := [1, 3, 3, 1]) (gl_pow (e := 3) rfl (g1 H1 (Same.refl _)) B2 (by decide) (by decide) (by decide) (by decide)) (by decide +kernel) _ fun t2 H2 s2 h2 => ?_
      refine ⟨t2, rfl, polyAt_O h2, t2, _, rfl, h2, ⟨by decide +kernel, by decide +kernel⟩, fun H3 s3 => ⟨_, rfl, rfl, _, rfl, if_no ?_ ?_⟩⟩
      · decide +kernel
      have s13 := s2.trans s3
      refine q_test (q_op (q_cb (q_cons ?_)))
      refine GoesL.to (ms := [0, 15, 10]) (gl_mul (gl_at (ns := [1, 1]) (ms := [2, 2]) (m := 3) (g1 H3 s13) (fun H' s => GoesL.to (gl_mulI (g1 H' (s13.trans s)) B2 (by decide) (by decide) (by decide) (by decide) (by decide)) (by decide +kernel)) (bd_of (by decide +kernel)) (bd_of (by decide +kernel)) (by decide) (by decide) (by decide) (by decide)) (fun H' s => gl_make2 (by decide)) (m := 5) (m' := 5) (bd_of (by decide +kernel)) (bd_of (by decide +kernel)) (by decide +kernel) (by decide +kernel) (by decide) (by decide) (by decide)) (by decide +kernel) _ fun t4 H4 s4 h4 => ?_
      refine ⟨t4, rfl, polyAt_O h4, t4, _, rfl, h4, ⟨by decide +kernel, by decide +kernel⟩, fun H5 s5 => ⟨_, rfl, rfl, _, rfl, if_no ?_ ?_⟩⟩
      · decide +kernel
      have s15 := s13.trans (s4.trans s5)
      dsimp only [tNext]
      refine q_ret (q_andv (q_op (q_co ?_)))
      refine GoesL.to (ms := [1, 2, 1]) (gl_mul (g1 H5 s15) (fun H' s => g1 H' (s15.trans s)) B2 B2 (by decide) (by decide) (by decide) (by decide) (by decide)) (by decide +kernel) _ fun t6 H6 s6 h6 => ?_
      refine ⟨t6, rfl, .inr (polyAt_O h6), t6, [1, 2, 1], 99, rfl, h6, ⟨by decide, 4, 7, bd_of (by decide +kernel), by decide, by decide, by decide, by decide⟩, fun H7 s7 => ⟨rfl, _, rfl, if_yes (by decide +kernel) ?_⟩⟩
      have s17 := s15.trans (s6.trans s7)
      refine q_op ?_
      refine GoesL.to (ms := [1, 2, 1]) (gl_pow (e := 2) rfl (g1 H7 s17) B2 (by decide) (by decide) (by decide) (by decide)) (by decide +kernel) _ fun t8 H8 s8 h8 => ?_
      have s18 := s17.trans s8
      refine GoesL.to (ms := [1, 2, 1]) (gl_mul (g1 H8 s18) (fun H' s => GoesL.to (ms := [1, 1]) (gl_raddI (gl_make2 (by decide)) (m := 2) (bd_of (by decide +kernel)) (by decide) (by decide) (by decide) (by decide) (by decide)) (by decide +kernel)) B2 B2 (by decide) (by decide) (by decide) (by decide) (by decide)) (by decide +kernel) _ fun t9 H9 s9 h9 => ?_
      have h89 := polyAt_same s9 h8
      refine ⟨t8, rfl, polyAt_O h89, .inr ⟨t9, rfl, polyAt_O h9⟩, t8, .ref t9, [1, 2, 1], _, rfl, h89, .inl ⟨t9, _, rfl, h9, rfl⟩, _, rfl, ?_⟩
      have e : (if true = true then decide (([1, 2, 1] : List Int) = [1, 2, 1]) else !decide (([1, 2, 1] : List Int) = [1, 2, 1])) = true := by decide
      show Q (.bl (if true = true then decide (([1, 2, 1] : List Int) = [1, 2, 1]) else !decide (([1, 2, 1] : List Int) = [1, 2, 1]))) H9
      rw [e]
      exact fin H9
end
end Qp

/-! what the top has written -/
namespace Qp
open PySem PySem.Spec PySem.W PyProof.Rows L2 QN
def freeNames : List Str := ["len", "int", "abs", "max", "min", "isinstance", "bool", "tuple", "list", "range", "all", "sum", "str", "iter", "enumerate", "repr"]
def freeLook (K : Frag) : Bool := freeNames.all fun x => nsIn K mainGlobals x == some none
theorem free_of {K : Frag} {h : Heap} {mg : Str → Option Value} (X : K.In h) (G : h.Ns mainGlobals mg) (e : freeLook K = true) {x : Str} (hx : x ∈ freeNames) : mg x = none := by
  have z := List.all_eq_true.mp e x hx
  exact mg_none_of X G (beq_iff_eq.mp z)
def besLook (K : Frag) (nm : String) : Bool := match findIn K (.type "int") (dunder nm), findIn K (.type "int") (dunderR nm) with
  | some fo, some ro => (fo.isSome && !isSeqSlot fo || ro.isSome && !isSeqSlot ro)
  | _, _ => false
theorem bes_of {K : Frag} {nm : String} (h : besLook K nm = true) : ∃ fo, findIn K (.type "int") (dunder nm) = some fo ∧ ∃ ro, findIn K (.type "int") (dunderR nm) = some ro ∧ (fo.isSome && !isSeqSlot fo || ro.isSome && !isSeqSlot ro) = true := by
  unfold besLook at h
  split at h
  · rename_i fo ro e1 e2
    exact ⟨fo, e1, ro, e2, h⟩
  · cases h
def clsLook (K : Frag) (C : Addr) : Bool :=
  plainGet K C Str.empty && hasDictIn K C && plainOver K C && findIn K (.ref C) "__setattr__" == some (some (.builtin "object.__setattr__")) && findIn K (.ref C) "_coefficients" == some none &&
  makesIn K C && keepIn K (.ref C) && readsIn K C (.type "type") && specialIn K (.ref C) "__getattribute__" == some (some (.builtin "type.__getattribute__"))
def objLook (K : Frag) (C : Addr) : Bool :=
  kitOne K (.ref C) (.ref C) == some true && kitOne K (.type "int") (.ref C) == some false && findIn K (.ref C) "__class__" == some (some (.builtin "object.__class__")) &&
  specialIn K (.builtin "object.__class__") "__get__" == some (some (.builtin "getset_descriptor.__get__")) && takesIn K (.builtin "object.__class__") == some true && mroIn K C (.type "object") == some true
def binLook (K : Frag) (C : Addr) : Bool :=
  selfFirst K C && subIn K (.ref C) (.type "int") == some false && subIn K (.type "int") (.ref C) == some false && besLook K "add" && besLook K "mul" && besLook K "pow" && findIn K (.ref C) "__rpow__" == some none &&
  findIn K (.ref C) "__ne__" == some (some (.builtin "object.__ne__"))
def tyNames : List String := ["int", "NoneType", "str", "list", "tuple"]
def tyLook (K : Frag) (C : Addr) : Bool := (tyNames.all fun T => subIn K (.type T) (.ref C) == some false) && tyNames.all fun T => kitOne K (.type T) (.ref C) == some false
def fnLook (K : Frag) (fs : List Addr) : Bool := fs.all fun f => isFn K (.ref f)
def propLook (K : Frag) (p : Addr) : Bool := specialIn K (.ref p) "__get__" == some (some (.builtin "property.__get__")) && takesIn K (.ref p) == some true

def allLook (K : Frag) (C pC pD gO gG gCl : Addr) (fs : List Addr) : Bool := freeLook K && clsLook K C && objLook K C && binLook K C && tyLook K C && fnLook K fs && propLook K pC && propLook K pD && fnIn K gO && fnIn K gG && fnIn K gCl
def spLawT (K : PySem.W.Frag) (_ : List (Addr × Addr)) : Sp := spLaw K
theorem all_mk {p : Program} {w : World} {K : Frag} {h : Heap} {mg : Str → Option Value} {fa C pO pC pD : Addr} {rO rC rD : List Value} {tm tp : Tok} (X : K.In h) (G : h.Ns mainGlobals mg) (hfa : mg "law" = some (.ref fa))
    {g0 : Addr} {od0 an0 : Option Addr} {sl0 : Array (Option Value)} {oc0 kV0 dc0 pm0 cd0 ct0 : Value}
    {g1 : Addr} {od1 an1 : Option Addr} {sl1 : Array (Option Value)} {oc1 kV1 dc1 pm1 cd1 ct1 : Value}
    {g2 : Addr} {od2 an2 : Option Addr} {sl2 : Array (Option Value)} {oc2 kV2 dc2 pm2 cd2 ct2 : Value}
    {g3 : Addr} {od3 an3 : Option Addr} {sl3 : Array (Option Value)} {oc3 kV3 dc3 pm3 cd3 ct3 : Value}
    {g4 : Addr} {od4 an4 : Option Addr} {sl4 : Array (Option Value)} {oc4 kV4 dc4 pm4 cd4 ct4 : Value}
    {g5 : Addr} {od5 an5 : Option Addr} {sl5 : Array (Option Value)} {oc5 kV5 dc5 pm5 cd5 ct5 : Value}
    {g6 : Addr} {od6 an6 : Option Addr} {sl6 : Array (Option Value)} {oc6 kV6 dc6 pm6 cd6 ct6 : Value}
    {g7 : Addr} {od7 an7 : Option Addr} {sl7 : Array (Option Value)} {oc7 kV7 dc7 pm7 cd7 ct7 : Value}
    {g8 : Addr} {od8 an8 : Option Addr} {sl8 : Array (Option Value)} {oc8 kV8 dc8 pm8 cd8 ct8 : Value}
    {g9 : Addr} {od9 an9 : Option Addr} {sl9 : Array (Option Value)} {oc9 kV9 dc9 pm9 cd9 ct9 : Value}
    {g10 : Addr} {od10 an10 : Option Addr} {sl10 : Array (Option Value)} {oc10 kV10 dc10 pm10 cd10 ct10 : Value}
    {g11 : Addr} {od11 an11 : Option Addr} {sl11 : Array (Option Value)} {oc11 kV11 dc11 pm11 cd11 ct11 : Value}
    {g12 : Addr} {od12 an12 : Option Addr} {sl12 : Array (Option Value)} {oc12 kV12 dc12 pm12 cd12 ct12 : Value}
    {g13 : Addr} {od13 an13 : Option Addr} {sl13 : Array (Option Value)} {oc13 kV13 dc13 pm13 cd13 ct13 : Value}
    {g14 : Addr} {od14 an14 : Option Addr} {sl14 : Array (Option Value)} {oc14 kV14 dc14 pm14 cd14 ct14 : Value}
    {g15 : Addr} {od15 an15 : Option Addr} {sl15 : Array (Option Value)} {oc15 kV15 dc15 pm15 cd15 ct15 : Value}
    {g16 : Addr} {od16 an16 : Option Addr} {sl16 : Array (Option Value)} {oc16 kV16 dc16 pm16 cd16 ct16 : Value}
    {g17 : Addr} {od17 an17 : Option Addr} {sl17 : Array (Option Value)} {oc17 kV17 dc17 pm17 cd17 ct17 : Value}
    {g18 : Addr} {od18 an18 : Option Addr} {sl18 : Array (Option Value)} {oc18 kV18 dc18 pm18 cd18 ct18 : Value}
    {g19 : Addr} {od19 an19 : Option Addr} {sl19 : Array (Option Value)} {oc19 kV19 dc19 pm19 cd19 ct19 : Value}
    {g20 : Addr} {od20 an20 : Option Addr} {sl20 : Array (Option Value)} {oc20 kV20 dc20 pm20 cd20 ct20 : Value}
    {g21 : Addr} {od21 an21 : Option Addr} {sl21 : Array (Option Value)} {oc21 kV21 dc21 pm21 cd21 ct21 : Value}
    {g22 : Addr} {od22 an22 : Option Addr} {sl22 : Array (Option Value)} {oc22 kV22 dc22 pm22 cd22 ct22 : Value}
    {g23 : Addr} {od23 an23 : Option Addr} {sl23 : Array (Option Value)} {oc23 kV23 dc23 pm23 cd23 ct23 : Value}
    {g24 : Addr} {od24 an24 : Option Addr} {sl24 : Array (Option Value)} {oc24 kV24 dc24 pm24 cd24 ct24 : Value}
    {g25 : Addr} {od25 an25 : Option Addr} {sl25 : Array (Option Value)} {oc25 kV25 dc25 pm25 cd25 ct25 : Value}
    {g26 : Addr} {od26 an26 : Option Addr} {sl26 : Array (Option Value)} {oc26 kV26 dc26 pm26 cd26 ct26 : Value}
    {g27 : Addr} {od27 an27 : Option Addr} {sl27 : Array (Option Value)} {oc27 kV27 dc27 pm27 cd27 ct27 : Value}
    {g28 : Addr} {od28 an28 : Option Addr} {sl28 : Array (Option Value)} {oc28 kV28 dc28 pm28 cd28 ct28 : Value}
    {g29 : Addr} {od29 an29 : Option Addr} {sl29 : Array (Option Value)} {oc29 kV29 dc29 pm29 cd29 ct29 : Value}
    {g30 : Addr} {od30 an30 : Option Addr} {sl30 : Array (Option Value)} {oc30 kV30 dc30 pm30 cd30 ct30 : Value}
    {g31 : Addr} {od31 an31 : Option Addr} {sl31 : Array (Option Value)} {oc31 kV31 dc31 pm31 cd31 ct31 : Value}
    {g32 : Addr} {od32 an32 : Option Addr} {sl32 : Array (Option Value)} {oc32 kV32 dc32 pm32 cd32 ct32 : Value}
    {g33 : Addr} {od33 an33 : Option Addr} {sl33 : Array (Option Value)} {oc33 kV33 dc33 pm33 cd33 ct33 : Value}
    {g34 : Addr} {od34 an34 : Option Addr} {sl34 : Array (Option Value)} {oc34 kV34 dc34 pm34 cd34 ct34 : Value}
    {g35 : Addr} {od35 an35 : Option Addr} {sl35 : Array (Option Value)} {oc35 kV35 dc35 pm35 cd35 ct35 : Value}
    {g36 : Addr} {od36 an36 : Option Addr} {sl36 : Array (Option Value)} {oc36 kV36 dc36 pm36 cd36 ct36 : Value}
    {g37 : Addr} {od37 an37 : Option Addr} {sl37 : Array (Option Value)} {oc37 kV37 dc37 pm37 cd37 ct37 : Value}
    {g38 : Addr} {od38 an38 : Option Addr} {sl38 : Array (Option Value)} {oc38 kV38 dc38 pm38 cd38 ct38 : Value}
    {g39 : Addr} {od39 an39 : Option Addr} {sl39 : Array (Option Value)} {oc39 kV39 dc39 pm39 cd39 ct39 : Value}
    {g40 : Addr} {od40 an40 : Option Addr} {sl40 : Array (Option Value)} {oc40 kV40 dc40 pm40 cd40 ct40 : Value}
    {g41 : Addr} {od41 an41 : Option Addr} {sl41 : Array (Option Value)} {oc41 kV41 dc41 pm41 cd41 ct41 : Value}
    {g42 : Addr} {od42 an42 : Option Addr} {sl42 : Array (Option Value)} {oc42 kV42 dc42 pm42 cd42 ct42 : Value}
    {g43 : Addr} {od43 an43 : Option Addr} {sl43 : Array (Option Value)} {oc43 kV43 dc43 pm43 cd43 ct43 : Value}
    {g44 : Addr} {od44 an44 : Option Addr} {sl44 : Array (Option Value)} {oc44 kV44 dc44 pm44 cd44 ct44 : Value}
    {g45 : Addr} {od45 an45 : Option Addr} {sl45 : Array (Option Value)} {oc45 kV45 dc45 pm45 cd45 ct45 : Value}
    (nC : nsIn K mainGlobals "Polynomial" = some (some (.ref C))) (nM : nsIn K mainGlobals "_MAX_EXPONENT" = some (some (.int 20 tm))) (nP : nsIn K mainGlobals "_PIECE" = some (some (.int (10 ^ 60) tp)))
    (a0 : nsIn K mainGlobals "_law_dice" = some (some (.ref g0))) (l0 : K.lookup g0 = some ⟨oc0, od0, .func (fnOf "_law_dice" "_law_dice" (defArgs sDice) (defBody sDice) (defScope sDice) .none kV0 dc0 pm0 an0 cd0 ct0), sl0⟩) (u0 : codeIn K cd0 "_law_dice" = true) (k0 : keepIn K (.ref g0) = true)
    (a1 : nsIn K mainGlobals "_law_roll" = some (some (.ref g1))) (l1 : K.lookup g1 = some ⟨oc1, od1, .func (fnOf "_law_roll" "_law_roll" (defArgs sRoll) (defBody sRoll) (defScope sRoll) .none kV1 dc1 pm1 an1 cd1 ct1), sl1⟩) (u1 : codeIn K cd1 "_law_roll" = true) (k1 : keepIn K (.ref g1) = true)
    (a2 : nsIn K mainGlobals "_law_one_of" = some (some (.ref g2))) (l2 : K.lookup g2 = some ⟨oc2, od2, .func (fnOf "_law_one_of" "_law_one_of" (defArgs sOne) (defBody sOne) (defScope sOne) .none kV2 dc2 pm2 an2 cd2 ct2), sl2⟩) (u2 : codeIn K cd2 "_law_one_of" = true) (k2 : keepIn K (.ref g2) = true)
    (a3 : nsIn K mainGlobals "_law_mixed" = some (some (.ref g3))) (l3 : K.lookup g3 = some ⟨oc3, od3, .func (fnOf "_law_mixed" "_law_mixed" (defArgs sMixed) (defBody sMixed) (defScope sMixed) .none kV3 dc3 pm3 an3 cd3 ct3), sl3⟩) (u3 : codeIn K cd3 "_law_mixed" = true) (k3 : keepIn K (.ref g3) = true)
    (a4 : nsIn K mainGlobals "_law_coefficients" = some (some (.ref g4))) (l4 : K.lookup g4 = some ⟨oc4, od4, .func (fnOf "_law_coefficients" "_law_coefficients" (defArgs sCoef) (defBody sCoef) (defScope sCoef) .none kV4 dc4 pm4 an4 cd4 ct4), sl4⟩) (u4 : codeIn K cd4 "_law_coefficients" = true) (k4 : keepIn K (.ref g4) = true)
    (a5 : nsIn K mainGlobals "_law_digits" = some (some (.ref g5))) (l5 : K.lookup g5 = some ⟨oc5, od5, .func (fnOf "_law_digits" "_law_digits" (defArgs sDg) (defBody sDg) (defScope sDg) .none kV5 dc5 pm5 an5 cd5 ct5), sl5⟩) (u5 : codeIn K cd5 "_law_digits" = true) (k5 : keepIn K (.ref g5) = true)
    (a6 : nsIn K mainGlobals "_law_built_ways" = some (some (.ref g6))) (l6 : K.lookup g6 = some ⟨oc6, od6, .func (fnOf "_law_built_ways" "_law_built_ways" (defArgs sBW) (defBody sBW) (defScope sBW) .none kV6 dc6 pm6 an6 cd6 ct6), sl6⟩) (u6 : codeIn K cd6 "_law_built_ways" = true) (k6 : keepIn K (.ref g6) = true)
    (a7 : nsIn K mainGlobals "_law_values_right" = some (some (.ref g7))) (l7 : K.lookup g7 = some ⟨oc7, od7, .func (fnOf "_law_values_right" "_law_values_right" (defArgs sVa) (defBody sVa) (defScope sVa) .none kV7 dc7 pm7 an7 cd7 ct7), sl7⟩) (u7 : codeIn K cd7 "_law_values_right" = true) (k7 : keepIn K (.ref g7) = true)
    (a8 : nsIn K mainGlobals "_law_right" = some (some (.ref g8))) (l8 : K.lookup g8 = some ⟨oc8, od8, .func (fnOf "_law_right" "_law_right" (defArgs sRi) (defBody sRi) (defScope sRi) .none kV8 dc8 pm8 an8 cd8 ct8), sl8⟩) (u8 : codeIn K cd8 "_law_right" = true) (k8 : keepIn K (.ref g8) = true)
    (a9 : nsIn K mainGlobals "law" = some (some (.ref g9))) (l9 : K.lookup g9 = some ⟨oc9, od9, .func (fnOf "law" "law" (defArgs sLaw) (defBody sLaw) (defScope sLaw) .none kV9 dc9 pm9 an9 cd9 ct9), sl9⟩) (u9 : codeIn K cd9 "law" = true) (k9 : keepIn K (.ref g9) = true)
    (a10 : nsIn K mainGlobals "is_integer" = some (some (.ref g10))) (l10 : K.lookup g10 = some ⟨oc10, od10, .func (fnOf "is_integer" "is_integer" (defArgs sIsI) (defBody sIsI) (defScope sIsI) .none kV10 dc10 pm10 an10 cd10 ct10), sl10⟩) (u10 : codeIn K cd10 "is_integer" = true) (k10 : keepIn K (.ref g10) = true)
    (a11 : nsIn K mainGlobals "is_natural" = some (some (.ref g11))) (l11 : K.lookup g11 = some ⟨oc11, od11, .func (fnOf "is_natural" "is_natural" (defArgs sIsN) (defBody sIsN) (defScope sIsN) .none kV11 dc11 pm11 an11 cd11 ct11), sl11⟩) (u11 : codeIn K cd11 "is_natural" = true) (k11 : keepIn K (.ref g11) = true)
    (a12 : nsIn K mainGlobals "decimal" = some (some (.ref g12))) (l12 : K.lookup g12 = some ⟨oc12, od12, .func (fnOf "decimal" "decimal" (defArgs sDec) (defBody sDec) (defScope sDec) .none kV12 dc12 pm12 an12 cd12 ct12), sl12⟩) (u12 : codeIn K cd12 "decimal" = true) (k12 : keepIn K (.ref g12) = true)
    (a13 : nsIn K mainGlobals "check_number" = some (some (.ref g13))) (l13 : K.lookup g13 = some ⟨oc13, od13, .func (fnOf "check_number" "check_number" (defArgs sChk) (defBody sChk) (defScope sChk) .none kV13 dc13 pm13 an13 cd13 ct13), sl13⟩) (u13 : codeIn K cd13 "check_number" = true) (k13 : keepIn K (.ref g13) = true)
    (a14 : nsIn K mainGlobals "_without_zeros" = some (some (.ref g14))) (l14 : K.lookup g14 = some ⟨oc14, od14, .func (fnOf "_without_zeros" "_without_zeros" (defArgs sWz) (defBody sWz) (defScope sWz) .none kV14 dc14 pm14 an14 cd14 ct14), sl14⟩) (u14 : codeIn K cd14 "_without_zeros" = true) (k14 : keepIn K (.ref g14) = true)
    (a15 : nsIn K mainGlobals "_sums" = some (some (.ref g15))) (l15 : K.lookup g15 = some ⟨oc15, od15, .func (fnOf "_sums" "_sums" (defArgs sSums) (defBody sSums) (defScope sSums) .none kV15 dc15 pm15 an15 cd15 ct15), sl15⟩) (u15 : codeIn K cd15 "_sums" = true) (k15 : keepIn K (.ref g15) = true)
    (a16 : nsIn K mainGlobals "_products" = some (some (.ref g16))) (l16 : K.lookup g16 = some ⟨oc16, od16, .func (fnOf "_products" "_products" (defArgs sProds) (defBody sProds) (defScope sProds) .none kV16 dc16 pm16 an16 cd16 ct16), sl16⟩) (u16 : codeIn K cd16 "_products" = true) (k16 : keepIn K (.ref g16) = true)
    (a17 : nsIn K mainGlobals "_factor" = some (some (.ref g17))) (l17 : K.lookup g17 = some ⟨oc17, od17, .func (fnOf "_factor" "_factor" (defArgs sFac) (defBody sFac) (defScope sFac) .none kV17 dc17 pm17 an17 cd17 ct17), sl17⟩) (u17 : codeIn K cd17 "_factor" = true) (k17 : keepIn K (.ref g17) = true)
    (a18 : nsIn K mainGlobals "_term" = some (some (.ref g18))) (l18 : K.lookup g18 = some ⟨oc18, od18, .func (fnOf "_term" "_term" (defArgs sTerm) (defBody sTerm) (defScope sTerm) .none kV18 dc18 pm18 an18 cd18 ct18), sl18⟩) (u18 : codeIn K cd18 "_term" = true) (k18 : keepIn K (.ref g18) = true)
    (a19 : nsIn K mainGlobals "_value" = some (some (.ref g19))) (l19 : K.lookup g19 = some ⟨oc19, od19, .func (fnOf "_value" "_value" (defArgs sVal) (defBody sVal) (defScope sVal) .none kV19 dc19 pm19 an19 cd19 ct19), sl19⟩) (u19 : codeIn K cd19 "_value" = true) (k19 : keepIn K (.ref g19) = true)
    (a20 : nsIn K mainGlobals "_slopes" = some (some (.ref g20))) (l20 : K.lookup g20 = some ⟨oc20, od20, .func (fnOf "_slopes" "_slopes" (defArgs sSlo) (defBody sSlo) (defScope sSlo) .none kV20 dc20 pm20 an20 cd20 ct20), sl20⟩) (u20 : codeIn K cd20 "_slopes" = true) (k20 : keepIn K (.ref g20) = true)
    (a21 : nsIn K mainGlobals "_least_place" = some (some (.ref g21))) (l21 : K.lookup g21 = some ⟨oc21, od21, .func (fnOf "_least_place" "_least_place" (defArgs sLP) (defBody sLP) (defScope sLP) .none kV21 dc21 pm21 an21 cd21 ct21), sl21⟩) (u21 : codeIn K cd21 "_least_place" = true) (k21 : keepIn K (.ref g21) = true)
    (a22 : nsIn K mainGlobals "_binary_digits" = some (some (.ref g22))) (l22 : K.lookup g22 = some ⟨oc22, od22, .func (fnOf "_binary_digits" "_binary_digits" (defArgs sDig) (defBody sDig) (defScope sDig) .none kV22 dc22 pm22 an22 cd22 ct22), sl22⟩) (u22 : codeIn K cd22 "_binary_digits" = true) (k22 : keepIn K (.ref g22) = true)
    (a23 : nsIn K mainGlobals "_lost_digits" = some (some (.ref g23))) (l23 : K.lookup g23 = some ⟨oc23, od23, .func (fnOf "_lost_digits" "_lost_digits" (defArgs sLost) (defBody sLost) (defScope sLost) .none kV23 dc23 pm23 an23 cd23 ct23), sl23⟩) (u23 : codeIn K cd23 "_lost_digits" = true) (k23 : keepIn K (.ref g23) = true)
    (a24 : nsIn K mainGlobals "_few_digits" = some (some (.ref g24))) (l24 : K.lookup g24 = some ⟨oc24, od24, .func (fnOf "_few_digits" "_few_digits" (defArgs sFew) (defBody sFew) (defScope sFew) .none kV24 dc24 pm24 an24 cd24 ct24), sl24⟩) (u24 : codeIn K cd24 "_few_digits" = true) (k24 : keepIn K (.ref g24) = true)
    (a25 : nsIn K mainGlobals "_near_place" = some (some (.ref g25))) (l25 : K.lookup g25 = some ⟨oc25, od25, .func (fnOf "_near_place" "_near_place" (defArgs sNear) (defBody sNear) (defScope sNear) .none kV25 dc25 pm25 an25 cd25 ct25), sl25⟩) (u25 : codeIn K cd25 "_near_place" = true) (k25 : keepIn K (.ref g25) = true)
    (a26 : nsIn K mainGlobals "_shifted" = some (some (.ref g26))) (l26 : K.lookup g26 = some ⟨oc26, od26, .func (fnOf "_shifted" "_shifted" (defArgs sShf) (defBody sShf) (defScope sShf) .none kV26 dc26 pm26 an26 cd26 ct26), sl26⟩) (u26 : codeIn K cd26 "_shifted" = true) (k26 : keepIn K (.ref g26) = true)
    (a27 : nsIn K mainGlobals "_least_by_halves" = some (some (.ref g27))) (l27 : K.lookup g27 = some ⟨oc27, od27, .func (fnOf "_least_by_halves" "_least_by_halves" (defArgs sHal) (defBody sHal) (defScope sHal) .none kV27 dc27 pm27 an27 cd27 ct27), sl27⟩) (u27 : codeIn K cd27 "_least_by_halves" = true) (k27 : keepIn K (.ref g27) = true)
    (a28 : findIn K (.ref C) "__init__" = some (some (.ref g28))) (l28 : K.lookup g28 = some ⟨oc28, od28, .func (fnOf "__init__" "Polynomial.__init__" (defArgs sInit) (defBody sInit) (defScope sInit) .none kV28 dc28 pm28 an28 cd28 ct28), sl28⟩) (u28 : codeIn K cd28 "Polynomial.__init__" = true) (k28 : keepIn K (.ref g28) = true)
    (a29 : findCls K (.ref C) (.type "type") "of" = some (.get (.builtin "classmethod.__get__") (.ref pO) .none (.ref C))) (r29 : recIn K pO "classmethod" = some (.ref g29 :: rO)) (l29 : K.lookup g29 = some ⟨oc29, od29, .func (fnOf "of" "Polynomial.of" (defArgs sOf) (defBody sOf) (defScope sOf) .none kV29 dc29 pm29 an29 cd29 ct29), sl29⟩) (u29 : codeIn K cd29 "Polynomial.of" = true) (k29 : keepIn K (.ref g29) = true)
    (a30 : findIn K (.ref C) "coefficients" = some (some (.ref pC))) (r30 : recIn K pC "property" = some (.ref g30 :: rC)) (l30 : K.lookup g30 = some ⟨oc30, od30, .func (fnOf "coefficients" "Polynomial.coefficients" (defArgs sCo) (defBody sCo) (defScope sCo) .none kV30 dc30 pm30 an30 cd30 ct30), sl30⟩) (u30 : codeIn K cd30 "Polynomial.coefficients" = true) (k30 : keepIn K (.ref g30) = true)
    (a31 : findIn K (.ref C) "degree" = some (some (.ref pD))) (r31 : recIn K pD "property" = some (.ref g31 :: rD)) (l31 : K.lookup g31 = some ⟨oc31, od31, .func (fnOf "degree" "Polynomial.degree" (defArgs sDeg) (defBody sDeg) (defScope sDeg) .none kV31 dc31 pm31 an31 cd31 ct31), sl31⟩) (u31 : codeIn K cd31 "Polynomial.degree" = true) (k31 : keepIn K (.ref g31) = true)
    (a32 : findIn K (.ref C) "__call__" = some (some (.ref g32))) (l32 : K.lookup g32 = some ⟨oc32, od32, .func (fnOf "__call__" "Polynomial.__call__" (defArgs sCall) (defBody sCall) (defScope sCall) .none kV32 dc32 pm32 an32 cd32 ct32), sl32⟩) (u32 : codeIn K cd32 "Polynomial.__call__" = true) (k32 : keepIn K (.ref g32) = true)
    (a33 : findIn K (.ref C) "__getitem__" = some (some (.ref g33))) (l33 : K.lookup g33 = some ⟨oc33, od33, .func (fnOf "__getitem__" "Polynomial.__getitem__" (defArgs sGet) (defBody sGet) (defScope sGet) .none kV33 dc33 pm33 an33 cd33 ct33), sl33⟩) (u33 : codeIn K cd33 "Polynomial.__getitem__" = true) (k33 : keepIn K (.ref g33) = true)
    (a34 : findIn K (.ref C) "__add__" = some (some (.ref g34))) (l34 : K.lookup g34 = some ⟨oc34, od34, .func (fnOf "__add__" "Polynomial.__add__" (defArgs sAdd) (defBody sAdd) (defScope sAdd) .none kV34 dc34 pm34 an34 cd34 ct34), sl34⟩) (u34 : codeIn K cd34 "Polynomial.__add__" = true) (k34 : keepIn K (.ref g34) = true)
    (a35 : findIn K (.ref C) "__radd__" = some (some (.ref g35))) (l35 : K.lookup g35 = some ⟨oc35, od35, .func (fnOf "__radd__" "Polynomial.__radd__" (defArgs sRadd) (defBody sRadd) (defScope sRadd) .none kV35 dc35 pm35 an35 cd35 ct35), sl35⟩) (u35 : codeIn K cd35 "Polynomial.__radd__" = true) (k35 : keepIn K (.ref g35) = true)
    (a36 : findIn K (.ref C) "__mul__" = some (some (.ref g36))) (l36 : K.lookup g36 = some ⟨oc36, od36, .func (fnOf "__mul__" "Polynomial.__mul__" (defArgs sMul) (defBody sMul) (defScope sMul) .none kV36 dc36 pm36 an36 cd36 ct36), sl36⟩) (u36 : codeIn K cd36 "Polynomial.__mul__" = true) (k36 : keepIn K (.ref g36) = true)
    (a37 : findIn K (.ref C) "__rmul__" = some (some (.ref g37))) (l37 : K.lookup g37 = some ⟨oc37, od37, .func (fnOf "__rmul__" "Polynomial.__rmul__" (defArgs sRmul) (defBody sRmul) (defScope sRmul) .none kV37 dc37 pm37 an37 cd37 ct37), sl37⟩) (u37 : codeIn K cd37 "Polynomial.__rmul__" = true) (k37 : keepIn K (.ref g37) = true)
    (a38 : findIn K (.ref C) "__pow__" = some (some (.ref g38))) (l38 : K.lookup g38 = some ⟨oc38, od38, .func (fnOf "__pow__" "Polynomial.__pow__" (defArgs sPow) (defBody sPow) (defScope sPow) .none kV38 dc38 pm38 an38 cd38 ct38), sl38⟩) (u38 : codeIn K cd38 "Polynomial.__pow__" = true) (k38 : keepIn K (.ref g38) = true)
    (a39 : findIn K (.ref C) "at" = some (some (.ref g39))) (l39 : K.lookup g39 = some ⟨oc39, od39, .func (fnOf "at" "Polynomial.at" (defArgs sAt) (defBody sAt) (defScope sAt) .none kV39 dc39 pm39 an39 cd39 ct39), sl39⟩) (u39 : codeIn K cd39 "Polynomial.at" = true) (k39 : keepIn K (.ref g39) = true)
    (a40 : findIn K (.ref C) "__iter__" = some (some (.ref g40))) (l40 : K.lookup g40 = some ⟨oc40, od40, .func (fnOf "__iter__" "Polynomial.__iter__" (defArgs sIter) (defBody sIter) (defScope sIter) .none kV40 dc40 pm40 an40 cd40 ct40), sl40⟩) (u40 : codeIn K cd40 "Polynomial.__iter__" = true) (k40 : keepIn K (.ref g40) = true)
    (a41 : findIn K (.ref C) "__len__" = some (some (.ref g41))) (l41 : K.lookup g41 = some ⟨oc41, od41, .func (fnOf "__len__" "Polynomial.__len__" (defArgs sLen) (defBody sLen) (defScope sLen) .none kV41 dc41 pm41 an41 cd41 ct41), sl41⟩) (u41 : codeIn K cd41 "Polynomial.__len__" = true) (k41 : keepIn K (.ref g41) = true)
    (a42 : findIn K (.ref C) "__bool__" = some (some (.ref g42))) (l42 : K.lookup g42 = some ⟨oc42, od42, .func (fnOf "__bool__" "Polynomial.__bool__" (defArgs sBool) (defBody sBool) (defScope sBool) .none kV42 dc42 pm42 an42 cd42 ct42), sl42⟩) (u42 : codeIn K cd42 "Polynomial.__bool__" = true) (k42 : keepIn K (.ref g42) = true)
    (a43 : findIn K (.ref C) "__eq__" = some (some (.ref g43))) (l43 : K.lookup g43 = some ⟨oc43, od43, .func (fnOf "__eq__" "Polynomial.__eq__" (defArgs sEq) (defBody sEq) (defScope sEq) .none kV43 dc43 pm43 an43 cd43 ct43), sl43⟩) (u43 : codeIn K cd43 "Polynomial.__eq__" = true) (k43 : keepIn K (.ref g43) = true)
    (a44 : findIn K (.ref C) "__str__" = some (some (.ref g44))) (l44 : K.lookup g44 = some ⟨oc44, od44, .func (fnOf "__str__" "Polynomial.__str__" (defArgs sStr) (defBody sStr) (defScope sStr) .none kV44 dc44 pm44 an44 cd44 ct44), sl44⟩) (u44 : codeIn K cd44 "Polynomial.__str__" = true) (k44 : keepIn K (.ref g44) = true)
    (a45 : findIn K (.ref C) "reach" = some (some (.ref g45))) (l45 : K.lookup g45 = some ⟨oc45, od45, .func (fnOf "reach" "Polynomial.reach" (defArgs sReach) (defBody sReach) (defScope sReach) .none kV45 dc45 pm45 an45 cd45 ct45), sl45⟩) (u45 : codeIn K cd45 "Polynomial.reach" = true) (k45 : keepIn K (.ref g45) = true)
    (look : allLook K C pC pD g29 g33 g32 [g28, g32, g33, g34, g35, g36, g37, g38, g39, g40, g41, g42, g43, g44, g45] = true) :
    ∃ (fd : FuncData) (cs : List (Addr × Addr)), (∀ b ∈ cs.map (·.2), h.get? b = some emptyTab) ∧ (∀ b ∈ cs.map (·.2), K.lookup b = none) ∧ (∀ p ∈ cs, PySem.W.CodeHd h p.1 p.2) ∧ (∀ (s : Shared) (u : Value), BindsTo s fd ⟨[u], []⟩ [("_law_script", u)]) ∧
        (∀ (H : Hp) (a : Addr) (ns : List Int), ns.length ≤ 63 → (∀ z ∈ ns, Builtin.Int.intBits z ≤ 1048576) → (∀ p ∈ cs, H p.2 = some (.tbl #[])) → SqL K H a (ns.map V.int) → spLawT K cs [.ref a] H (fun v _ => v = .bl true) fun _ _ _ => False) ∧
        ∀ base : Heap, K.In base → base.Ns mainGlobals mg → (∀ p ∈ cs, LamX.TabB base mg p.1 p.2) → FnG p w K mg base 21 fa fd ["_law_script"] (spLawT K cs) := by
  have e := hfa.symm.trans (mg_of X G a9)
  cases e
  unfold allLook at look
  simp only [Bool.and_eq_true] at look
  obtain ⟨⟨⟨⟨⟨⟨⟨⟨⟨⟨q1, q2⟩, q3⟩, q4⟩, q5⟩, q6⟩, q7⟩, q8⟩, q9⟩, q10⟩, q11⟩ := look
  unfold clsLook at q2
  unfold objLook at q3
  unfold binLook at q4
  unfold tyLook at q5
  unfold fnLook at q6
  unfold propLook at q7 q8
  simp only [Bool.and_eq_true, beq_iff_eq] at q2 q3 q4 q5 q7 q8
  obtain ⟨⟨⟨⟨⟨⟨⟨⟨c1, c2⟩, c3⟩, c4⟩, c5⟩, c6⟩, c7⟩, c8⟩, c9⟩ := q2
  obtain ⟨⟨⟨⟨⟨i1, i2⟩, i3⟩, i4⟩, i5⟩, i6⟩ := q3
  obtain ⟨⟨⟨⟨⟨⟨⟨b1, b2⟩, b3⟩, b4⟩, b5⟩, b6⟩, b7⟩, b8⟩ := q4
  have fn : ∀ {f : Addr}, f ∈ [g28, g32, g33, g34, g35, g36, g37, g38, g39, g40, g41, g42, g43, g44, g45] → isFn K (.ref f) = true := fun {f} hf => List.all_eq_true.mp q6 f hf
  have fr : ∀ {x : Str}, x ∈ freeNames → mg x = none := fun {x} hx => free_of X G q1 hx
  have B1 : Blt mg := ⟨fr (by decide), fr (by decide), fr (by decide), fr (by decide)⟩
  have BP : BltP mg := ⟨fr (by decide), fr (by decide), fr (by decide), fr (by decide), fr (by decide), fr (by decide)⟩
  have B2 : Blt2 mg := ⟨fr (by decide), fr (by decide), fr (by decide)⟩
  have BS : BltS mg := ⟨fr (by decide), fr (by decide), fr (by decide)⟩
  have BN : BltN mg := ⟨fr (by decide), fr (by decide), fr (by decide), fr (by decide), fr (by decide)⟩
  have VB : BltV mg := ⟨BP, B2, BS, fr (by decide), fr (by decide)⟩
  have T : PolyC K mg C := ⟨mg_of X G nC, ⟨c1, c2, c3, c4⟩, c5⟩
  have O : PolyO K C := ⟨i1, i2, i3, i4, i5, i6⟩
  have h0 := mg_of X G a0
  have F0 := fun_mk (st := sDice) l0 u0 k0
  have bi0 := F0.binds (ps := ["_law_script", "_law_at"]) fun _ _ _ _ _ _ us hl => match us, hl with | [_, _], _ => rfl
  have h1 := mg_of X G a1
  have F1 := fun_mk (st := sRoll) l1 u1 k1
  have bi1 := F1.binds (ps := ["_law_dice_here", "_law_total"]) fun _ _ _ _ _ _ us hl => match us, hl with | [_, _], _ => rfl
  have h2 := mg_of X G a2
  have F2 := fun_mk (st := sOne) l2 u2 k2
  have bi2 := F2.binds (ps := ["_law_dice_here", "_law_items"]) fun _ _ _ _ _ _ us hl => match us, hl with | [_, _], _ => rfl
  have h3 := mg_of X G a3
  have F3 := fun_mk (st := sMixed) l3 u3 k3
  have bi3 := F3.binds (ps := ["_law_dice_here", "_law_items"]) fun _ _ _ _ _ _ us hl => match us, hl with | [_, _], _ => rfl
  have h4 := mg_of X G a4
  have F4 := fun_mk (st := sCoef) l4 u4 k4
  have bi4 := F4.binds (ps := ["_law_dice_here"]) fun _ _ _ _ _ _ us hl => match us, hl with | [_], _ => rfl
  have h5 := mg_of X G a5
  have F5 := fun_mk (st := sDg) l5 u5 k5
  have bi5 := F5.binds (ps := ["_law_number", "_law_base"]) fun _ _ _ _ _ _ us hl => match us, hl with | [_, _], _ => rfl
  have h6 := mg_of X G a6
  have F6 := fun_mk (st := sBW) l6 u6 k6
  have bi6 := F6.binds (ps := ["_law_dice_here", "_law_one", "_law_other", "_law_third"]) fun _ _ _ _ _ _ us hl => match us, hl with | [_, _, _, _], _ => rfl
  have h7 := mg_of X G a7
  have F7 := fun_mk (st := sVa) l7 u7 k7
  have bi7 := F7.binds (ps := ["_law_dice_here", "_law_one", "_law_other"]) fun _ _ _ _ _ _ us hl => match us, hl with | [_, _, _], _ => rfl
  have h8 := mg_of X G a8
  have F8 := fun_mk (st := sRi) l8 u8 k8
  have bi8 := F8.binds (ps := ["_law_dice_here"]) fun _ _ _ _ _ _ us hl => match us, hl with | [_], _ => rfl
  have h9 := mg_of X G a9
  have F9 := fun_mk (st := sLaw) l9 u9 k9
  have h10 := mg_of X G a10
  have F10 := fun_mk (st := sIsI) l10 u10 k10
  have bi10 := F10.binds (ps := ["value"]) fun _ _ _ _ _ _ us hl => match us, hl with | [_], _ => rfl
  have h11 := mg_of X G a11
  have F11 := fun_mk (st := sIsN) l11 u11 k11
  have bi11 := F11.binds (ps := ["value"]) fun _ _ _ _ _ _ us hl => match us, hl with | [_], _ => rfl
  have h12 := mg_of X G a12
  have F12 := fun_mk (st := sDec) l12 u12 k12
  have bi12 := F12.binds (ps := ["number"]) fun _ _ _ _ _ _ us hl => match us, hl with | [_], _ => rfl
  have h13 := mg_of X G a13
  have F13 := fun_mk (st := sChk) l13 u13 k13
  have bi13 := F13.binds (ps := ["number"]) fun _ _ _ _ _ _ us hl => match us, hl with | [_], _ => rfl
  have h14 := mg_of X G a14
  have F14 := fun_mk (st := sWz) l14 u14 k14
  have bi14 := F14.binds (ps := ["coefficients"]) fun _ _ _ _ _ _ us hl => match us, hl with | [_], _ => rfl
  have h15 := mg_of X G a15
  have F15 := fun_mk (st := sSums) l15 u15 k15
  have bi15 := F15.binds (ps := ["one", "two"]) fun _ _ _ _ _ _ us hl => match us, hl with | [_, _], _ => rfl
  have h16 := mg_of X G a16
  have F16 := fun_mk (st := sProds) l16 u16 k16
  have bi16 := F16.binds (ps := ["one", "two"]) fun _ _ _ _ _ _ us hl => match us, hl with | [_, _], _ => rfl
  have h17 := mg_of X G a17
  have F17 := fun_mk (st := sFac) l17 u17 k17
  have bi17 := F17.binds (ps := ["value"]) fun _ _ _ _ _ _ us hl => match us, hl with | [_], _ => rfl
  have h18 := mg_of X G a18
  have F18 := fun_mk (st := sTerm) l18 u18 k18
  have bi18 := F18.binds (ps := ["many", "power"]) fun _ _ _ _ _ _ us hl => match us, hl with | [_, _], _ => rfl
  have h19 := mg_of X G a19
  have F19 := fun_mk (st := sVal) l19 u19 k19
  have bi19 := F19.binds (ps := ["coefficients", "n"]) fun _ _ _ _ _ _ us hl => match us, hl with | [_, _], _ => rfl
  have h20 := mg_of X G a20
  have F20 := fun_mk (st := sSlo) l20 u20 k20
  have bi20 := F20.binds (ps := ["coefficients"]) fun _ _ _ _ _ _ us hl => match us, hl with | [_], _ => rfl
  have h21 := mg_of X G a21
  have F21 := fun_mk (st := sLP) l21 u21 k21
  have bi21 := F21.binds (ps := ["coefficients", "goal"]) fun _ _ _ _ _ _ us hl => match us, hl with | [_, _], _ => rfl
  have h22 := mg_of X G a22
  have F22 := fun_mk (st := sDig) l22 u22 k22
  have bi22 := F22.binds (ps := ["coefficients", "goal"]) fun _ _ _ _ _ _ us hl => match us, hl with | [_, _], _ => rfl
  have h23 := mg_of X G a23
  have F23 := fun_mk (st := sLost) l23 u23 k23
  have bi23 := F23.binds (ps := ["coefficients"]) fun _ _ _ _ _ _ us hl => match us, hl with | [_], _ => rfl
  have h24 := mg_of X G a24
  have F24 := fun_mk (st := sFew) l24 u24 k24
  have bi24 := F24.binds (ps := ["coefficients"]) fun _ _ _ _ _ _ us hl => match us, hl with | [_], _ => rfl
  have h25 := mg_of X G a25
  have F25 := fun_mk (st := sNear) l25 u25 k25
  have bi25 := F25.binds (ps := ["coefficients", "goal", "many"]) fun _ _ _ _ _ _ us hl => match us, hl with | [_, _, _], _ => rfl
  have h26 := mg_of X G a26
  have F26 := fun_mk (st := sShf) l26 u26 k26
  have bi26 := F26.binds (ps := ["number", "by"]) fun _ _ _ _ _ _ us hl => match us, hl with | [_, _], _ => rfl
  have h27 := mg_of X G a27
  have F27 := fun_mk (st := sHal) l27 u27 k27
  have bi27 := F27.binds (ps := ["coefficients", "goal", "many"]) fun _ _ _ _ _ _ us hl => match us, hl with | [_, _, _], _ => rfl
  have F29 := fun_mk (st := sOf) l29 u29 k29
  have bi29 := F29.binds (ps := ["cls", "coefficients"]) fun _ _ _ _ _ _ us hl => match us, hl with | [_, _], _ => rfl
  have F30 := fun_mk (st := sCo) l30 u30 k30
  have bi30 := F30.binds (ps := ["self"]) fun _ _ _ _ _ _ us hl => match us, hl with | [_], _ => rfl
  have F31 := fun_mk (st := sDeg) l31 u31 k31
  have bi31 := F31.binds (ps := ["self"]) fun _ _ _ _ _ _ us hl => match us, hl with | [_], _ => rfl
  have F32 := fun_mk (st := sCall) l32 u32 k32
  have bi32 := F32.binds (ps := ["self", "n"]) fun _ _ _ _ _ _ us hl => match us, hl with | [_, _], _ => rfl
  have F33 := fun_mk (st := sGet) l33 u33 k33
  have bi33 := F33.binds (ps := ["self", "at"]) fun _ _ _ _ _ _ us hl => match us, hl with | [_, _], _ => rfl
  have F34 := fun_mk (st := sAdd) l34 u34 k34
  have bi34 := F34.binds (ps := ["self", "other"]) fun _ _ _ _ _ _ us hl => match us, hl with | [_, _], _ => rfl
  have F35 := fun_mk (st := sRadd) l35 u35 k35
  have bi35 := F35.binds (ps := ["self", "other"]) fun _ _ _ _ _ _ us hl => match us, hl with | [_, _], _ => rfl
  have F36 := fun_mk (st := sMul) l36 u36 k36
  have bi36 := F36.binds (ps := ["self", "other"]) fun _ _ _ _ _ _ us hl => match us, hl with | [_, _], _ => rfl
  have F37 := fun_mk (st := sRmul) l37 u37 k37
  have bi37 := F37.binds (ps := ["self", "other"]) fun _ _ _ _ _ _ us hl => match us, hl with | [_, _], _ => rfl
  have F38 := fun_mk (st := sPow) l38 u38 k38
  have bi38 := F38.binds (ps := ["self", "other"]) fun _ _ _ _ _ _ us hl => match us, hl with | [_, _], _ => rfl
  have F39 := fun_mk (st := sAt) l39 u39 k39
  have bi39 := F39.binds (ps := ["self", "inner"]) fun _ _ _ _ _ _ us hl => match us, hl with | [_, _], _ => rfl
  have F40 := fun_mk (st := sIter) l40 u40 k40
  have bi40 := F40.binds (ps := ["self"]) fun _ _ _ _ _ _ us hl => match us, hl with | [_], _ => rfl
  have F41 := fun_mk (st := sLen) l41 u41 k41
  have bi41 := F41.binds (ps := ["self"]) fun _ _ _ _ _ _ us hl => match us, hl with | [_], _ => rfl
  have F42 := fun_mk (st := sBool) l42 u42 k42
  have bi42 := F42.binds (ps := ["self"]) fun _ _ _ _ _ _ us hl => match us, hl with | [_], _ => rfl
  have F43 := fun_mk (st := sEq) l43 u43 k43
  have bi43 := F43.binds (ps := ["self", "other"]) fun _ _ _ _ _ _ us hl => match us, hl with | [_, _], _ => rfl
  have F44 := fun_mk (st := sStr) l44 u44 k44
  have bi44 := F44.binds (ps := ["self"]) fun _ _ _ _ _ _ us hl => match us, hl with | [_], _ => rfl
  have F45 := fun_mk (st := sReach) l45 u45 k45
  have bi45 := F45.binds (ps := ["self", "goal"]) fun _ _ _ _ _ _ us hl => match us, hl with | [_, _], _ => rfl
  refine ⟨fnOf "law" "law" (defArgs sLaw) (defBody sLaw) (defScope sLaw) .none kV9 dc9 pm9 an9 cd9 ct9, [], (fun b hb => by cases hb), (fun b hb => by cases hb), (fun b hb => by cases hb), fun s v => .of_eq rfl, fun H a ns _ _ _ hS => ⟨a, ns, rfl, hS, fun _ => rfl⟩, fun base _ _ _ => ?_⟩
  have raw : ∀ {sp : Sp} {vs : List V} {H : Hp} {Q : VK} {E : XK}, sp vs H Q E → sp (vs ++ []) H Q E := fun z => by rw [List.append_nil]; exact z
  have GN := ok_isN (P := p) (w := w) (base := base) F11 F10 bi10 h10 BP
  have GK := ok_chk (P := p) (w := w) (base := base) F13 GN k11 bi11 h11
  have GZ := ok_wz (P := p) (w := w) (base := base) F14 BP
  have GI := ok_init (P := p) (w := w) (base := base) l28 u28 GN k11 bi11 h11 GZ k14 bi14 h14 BP T
  have MI : Mk K C g28 := ⟨c6, a28, fn (by simp), c7⟩
  have GQs := ok_sums (P := p) (w := w) (base := base) F15 BP BS
  have GPr := ok_prods (P := p) (w := w) (base := base) F16 BP BS
  have PC : PropOf K C "coefficients" pC g30 := ⟨a30, q7.1, q7.2, rC, r30⟩
  have PD : PropOf K C "degree" pD g31 := ⟨a31, q8.1, q8.2, rD, r31⟩
  have GCo := ok_co (P := p) (w := w) (base := base) F30 T
  have GDe := ok_deg (P := p) (w := w) (base := base) F31 BP T
  have GFa := ok_fac (P := p) (w := w) (base := base) F17 T O BP PC GCo bi30 GN k11 bi11 h11 GZ k14 bi14 h14
  have GDc := ok_dec (P := p) (w := w) (base := base) F12 ⟨_, mg_of X G nP⟩ (fr (by decide))
  have GTe := ok_term (P := p) (w := w) (base := base) F18 GDc k12 bi12 h12
  have ROf : FnR p w K mg base CX0 5 g29 (spOf K C) := FnR.imp ((ok_of F29 MI GI BP).raw bi29 .nil) fun vs H Q E z => raw z
  have GVa := ok_val (P := p) (w := w) (mg := mg) (base := base) false F19
  have RCl : FnR p w K mg base CX0 4 g32 (spCl K C) := FnR.imp ((ok_call F32 GK k13 bi13 h13 GVa k19 bi19 h19 T).raw bi32 .nil) fun vs H Q E z => raw z
  have RGe : FnR p w K mg base CX0 3 g33 (spGet K C) := FnR.imp ((ok_get F33 T BP GN k11 bi11 h11).raw bi33 .nil) fun vs H Q E z => raw z
  have RAd : FnR p w K mg base CX0 5 g34 (spBin sumZ K C) := FnR.imp ((ok_add F34 T MI GI GQs k15 bi15 h15 GFa k17 bi17 h17).raw bi34 .nil) fun vs H Q E z => raw z
  have RRa : FnR p w K mg base CX0 5 g35 (spBin sumZ K C) := FnR.imp ((ok_radd F35 T MI GI GQs k15 bi15 h15 GFa k17 bi17 h17).raw bi35 .nil) fun vs H Q E z => raw z
  have RMu : FnR p w K mg base CX0 5 g36 (spBin prodZ K C) := FnR.imp ((ok_mul F36 T MI GI GPr k16 bi16 h16 GFa k17 bi17 h17).raw bi36 .nil) fun vs H Q E z => raw z
  have RRm : FnR p w K mg base CX0 5 g37 (spBin prodZ K C) := FnR.imp ((ok_rmul F37 T MI GI GPr k16 bi16 h16 GFa k17 bi17 h17).raw bi37 .nil) fun vs H Q E z => raw z
  have RPo : FnR p w K mg base CX0 5 g38 (spPow K C) := FnR.imp ((ok_pow F38 T MI GI GPr k16 bi16 h16 GN k11 bi11 h11 ⟨_, mg_of X G nM⟩ (fr (by decide))).raw bi38 .nil) fun vs H Q E z => raw z
  have RAt : FnR p w K mg base CX0 5 g39 (spAt K C) := FnR.imp ((ok_at F39 T O MI GI GQs k15 bi15 h15 GPr k16 bi16 h16 PC GCo bi30 BP).raw bi39 .nil) fun vs H Q E z => raw z
  have RLe : FnR p w K mg base CX0 1 g41 (spLen K C) := FnR.imp ((ok_len F41 T BP).raw bi41 .nil) fun vs H Q E z => raw z
  have RBo : FnR p w K mg base CX0 1 g42 (spBool K C) := FnR.imp ((ok_bool F42 T BP).raw bi42 .nil) fun vs H Q E z => raw z
  have REq : FnR p w K mg base CX0 1 g43 (spEq K C) := FnR.imp ((ok_eq F43 T O BP).raw bi43 .nil) fun vs H Q E z => raw z
  have RSt : FnR p w K mg base CX0 3 g44 (spStr K C) := FnR.imp ((ok_str F44 T BP (fr (by decide)) GTe k18 bi18 h18).raw bi44 .nil) fun vs H Q E z => raw z
  have Z : Kt p w K mg base C := { T := T, O := O, fI := _, M := MI, GI := GI, CR := ⟨c8, c9⟩, pO := _, fO := _, CM := ⟨a29, ⟨rO, r29⟩, q9⟩, GO := ROf, pC := _, fC := _, PC := PC, fdC := _, GC := GCo, bC := bi30, pD := _, fD := _, PD := PD, fdD := _, GD := GDe, bD := bi31, fCl := _, CO := ⟨a32, fn (by simp), q11⟩, GCl := RCl, fG := _, MG := ⟨a33, fn (by simp)⟩, iG := q10, GG := RGe, fIt := _, fdIt := _, MIt := ⟨a40, fn (by simp)⟩, GIt := ok_iter F40 T (fr (by decide)), bIt := bi40, fL := _, ML := ⟨a41, fn (by simp)⟩, GL := RLe, fB := _, MB := ⟨a42, fn (by simp)⟩, GB := RBo, fE := _, ME := ⟨a43, fn (by simp)⟩, GE := REq, ne := b8, fS := _, MS := ⟨a44, fn (by simp)⟩, GS := RSt, fA := _, MA := ⟨a34, fn (by simp)⟩, GA := RAd, fRA := _, MRA := ⟨a35, fn (by simp)⟩, GRA := RRa, fM := _, MM := ⟨a36, fn (by simp)⟩, GM := RMu, fRM := _, MRM := ⟨a37, fn (by simp)⟩, GRM := RRm, fP := _, MP := ⟨a38, fn (by simp)⟩, GP := RPo, fAt := _, MAt := ⟨a39, fn (by simp), k39⟩, GAt := RAt, sf := b1, BA := ⟨b1, b2, b3, bes_of b4⟩, BM := ⟨b1, b2, b3, bes_of b5⟩, BP := ⟨b1, b2, b3, bes_of b6⟩, noRP := b7, sd := fun t ht => beq_iff_eq.mp (List.all_eq_true.mp q5.1 t ht), kt := fun t ht => beq_iff_eq.mp (List.all_eq_true.mp q5.2 t ht) }
  have GVk : ∀ kk, FnOk p w K mg base CX0 1 g19 _ ["coefficients", "n"] (spVal K kk) := fun kk => ok_val (P := p) (w := w) (mg := mg) (base := base) kk F19
  have GSl : ∀ kk, FnOk p w K mg base CX0 1 g20 _ ["coefficients"] (spSlo K kk) := fun kk => ok_slo (P := p) (w := w) (base := base) kk F20 BN
  have GHa : ∀ kk, FnOk p w K mg base CX0 2 g27 _ ["coefficients", "goal", "many"] (spHal K kk) := fun kk => ok_hal (P := p) (w := w) (base := base) kk F27 (GVk kk) k19 bi19 h19
  have GLo := ok_lost (P := p) (w := w) (base := base) F23 BN
  have GFe := ok_few (P := p) (w := w) (base := base) F24 GLo k23 bi23 h23
  have GSh := ok_shf (P := p) (w := w) (mg := mg) (base := base) F26
  have GDi := ok_dig (P := p) (w := w) (base := base) F22 BN
  have GNe : ∀ n, FnOk p w K mg base CX0 (n + 3) g25 (fnOf "_near_place" "_near_place" (defArgs sNear) (defBody sNear) (defScope sNear) .none kV25 dc25 pm25 an25 cd25 ct25) ["coefficients", "goal", "many"] (spNear K true n) := by
    intro n; induction n with
    | zero => exact ok_near0 F25
    | succ n ih => exact ok_near1 F25 GVk k19 bi19 h19 (GSl true) k20 bi20 h20 (GHa true) k27 bi27 h27 GLo k23 bi23 h23 GFe k24 bi24 h24 GSh k26 bi26 h26 ih k25 bi25 h25 BN
  have GN0 := ok_near1 (n := 12) (kk := false) F25 GVk k19 bi19 h19 (GSl false) k20 bi20 h20 (GHa false) k27 bi27 h27 GLo k23 bi23 h23 GFe k24 bi24 h24 GSh k26 bi26 h26 (GNe 12) k25 bi25 h25 BN
  have GLp := ok_lp F21 GVk k19 bi19 h19 (GSl false) k20 bi20 h20 (GHa false) k27 bi27 h27 GFe k24 bi24 h24 GDi k22 bi22 h22 GN0 k25 bi25 h25
  have RRe : FnR p w K mg base CX0 18 g45 (spReach K C) := FnR.imp ((ok_reach F45 GK k13 bi13 h13 (GVk false) k19 bi19 h19 GLp k21 bi21 h21 PD GDe bi31 T).raw bi45 .nil) fun vs H Q E z => raw z
  have GD := ok_dice (P := p) (w := w) (base := base) F0 B1
  have GR := ok_roll (P := p) (w := w) (base := base) F1 B1
  have GO := ok_one (P := p) (w := w) (base := base) F2 F1 bi1 h1 B1
  have GMx := ok_mixed (P := p) (w := w) (base := base) F3 GR k1 bi1 h1 B1 B2
  have GCf := ok_coef (P := p) (w := w) (base := base) F4 F1 bi1 h1 F2 bi2 h2 B1 B2
  have GDg := ok_dg (P := p) (w := w) (base := base) F5 B1 B2
  have GBW := ok_bw F6 Z VB GMx k3 bi3 h3
  have GVa2 := ok_va F7 Z VB GR k1 bi1 h1
  have GRi := ok_ri (kRe := 18) F8 Z VB GO k2 bi2 h2 GCf k4 bi4 h4 GBW k6 bi6 h6 GVa2 k7 bi7 h7 GDg k5 bi5 h5 ⟨a45, fn (by simp), k45⟩ RRe
  exact FnG.of (ok_law F9 Z VB GD k0 bi0 h0 GRi k8 bi8 h8)
end Qp

open PySem PySem.W PyProof.Rows
set_option maxRecDepth 100000 in
set_option maxHeartbeats 0 in
theorem PySem.Challenge.cw_loopgrowth_k59_whole_polynomials_are_the_holds : PySem.Challenge.rw_loopgrowth_k59_whole_polynomials_are_the.Holds := by
  w_on; o_law; k_head; (case hw => w_witness2)
  k_fill
  refine QN.row_goesT (l := PySem.Challenge.rw_loopgrowth_k59_whole_polynomials_are_the) (n := 63) (k := 21) (x := "_law_script") (sp := Qp.spLawT) rfl (by decide) rfl ⟨rfl, by decide, by decide⟩ (fun w h Y => PySem.W.kIn_of Y) ?F
  case F =>
    intro w mg mb fa h Y KX T hmg
    obtain ⟨lo, mean, T⟩ := T
    refine' Qp.all_mk KX T.g hmg ?nC ?nM ?nP ?a0 ?l0 ?u0 ?k0 ?a1 ?l1 ?u1 ?k1 ?a2 ?l2 ?u2 ?k2 ?a3 ?l3 ?u3 ?k3 ?a4 ?l4 ?u4 ?k4 ?a5 ?l5 ?u5 ?k5 ?a6 ?l6 ?u6 ?k6 ?a7 ?l7 ?u7 ?k7 ?a8 ?l8 ?u8 ?k8 ?a9 ?l9 ?u9 ?k9 ?a10 ?l10 ?u10 ?k10 ?a11 ?l11 ?u11 ?k11 ?a12 ?l12 ?u12 ?k12 ?a13 ?l13 ?u13 ?k13 ?a14 ?l14 ?u14 ?k14 ?a15 ?l15 ?u15 ?k15 ?a16 ?l16 ?u16 ?k16 ?a17 ?l17 ?u17 ?k17 ?a18 ?l18 ?u18 ?k18 ?a19 ?l19 ?u19 ?k19 ?a20 ?l20 ?u20 ?k20 ?a21 ?l21 ?u21 ?k21 ?a22 ?l22 ?u22 ?k22 ?a23 ?l23 ?u23 ?k23 ?a24 ?l24 ?u24 ?k24 ?a25 ?l25 ?u25 ?k25 ?a26 ?l26 ?u26 ?k26 ?a27 ?l27 ?u27 ?k27 ?a28 ?l28 ?u28 ?k28 ?a29 ?r29 ?l29 ?u29 ?k29 ?a30 ?r30 ?l30 ?u30 ?k30 ?a31 ?r31 ?l31 ?u31 ?k31 ?a32 ?l32 ?u32 ?k32 ?a33 ?l33 ?u33 ?k33 ?a34 ?l34 ?u34 ?k34 ?a35 ?l35 ?u35 ?k35 ?a36 ?l36 ?u36 ?k36 ?a37 ?l37 ?u37 ?k37 ?a38 ?l38 ?u38 ?k38 ?a39 ?l39 ?u39 ?k39 ?a40 ?l40 ?u40 ?k40 ?a41 ?l41 ?u41 ?k41 ?a42 ?l42 ?u42 ?k42 ?a43 ?l43 ?u43 ?k43 ?a44 ?l44 ?u44 ?k44 ?a45 ?l45 ?u45 ?k45 ?look
    (case nC => k_is)
    (case nM => k_is)
    (case nP => k_is)
    (case a0 => k_is)
    (case l0 => k_is)
    (case u0 => k_is)
    (case k0 => k_is)
    (case a1 => k_is)
    (case l1 => k_is)
    (case u1 => k_is)
    (case k1 => k_is)
    (case a2 => k_is)
    (case l2 => k_is)
    (case u2 => k_is)
    (case k2 => k_is)
    (case a3 => k_is)
    (case l3 => k_is)
    (case u3 => k_is)
    (case k3 => k_is)
    (case a4 => k_is)
    (case l4 => k_is)
    (case u4 => k_is)
    (case k4 => k_is)
    (case a5 => k_is)
    (case l5 => k_is)
    (case u5 => k_is)
    (case k5 => k_is)
    (case a6 => k_is)
    (case l6 => k_is)
    (case u6 => k_is)
    (case k6 => k_is)
    (case a7 => k_is)
    (case l7 => k_is)
    (case u7 => k_is)
    (case k7 => k_is)
    (case a8 => k_is)
    (case l8 => k_is)
    (case u8 => k_is)
    (case k8 => k_is)
    (case a9 => k_is)
    (case l9 => k_is)
    (case u9 => k_is)
    (case k9 => k_is)
    (case a10 => k_is)
    (case l10 => k_is)
    (case u10 => k_is)
    (case k10 => k_is)
    (case a11 => k_is)
    (case l11 => k_is)
    (case u11 => k_is)
    (case k11 => k_is)
    (case a12 => k_is)
    (case l12 => k_is)
    (case u12 => k_is)
    (case k12 => k_is)
    (case a13 => k_is)
    (case l13 => k_is)
    (case u13 => k_is)
    (case k13 => k_is)
    (case a14 => k_is)
    (case l14 => k_is)
    (case u14 => k_is)
    (case k14 => k_is)
    (case a15 => k_is)
    (case l15 => k_is)
    (case u15 => k_is)
    (case k15 => k_is)
    (case a16 => k_is)
    (case l16 => k_is)
    (case u16 => k_is)
    (case k16 => k_is)
    (case a17 => k_is)
    (case l17 => k_is)
    (case u17 => k_is)
    (case k17 => k_is)
    (case a18 => k_is)
    (case l18 => k_is)
    (case u18 => k_is)
    (case k18 => k_is)
    (case a19 => k_is)
    (case l19 => k_is)
    (case u19 => k_is)
    (case k19 => k_is)
    (case a20 => k_is)
    (case l20 => k_is)
    (case u20 => k_is)
    (case k20 => k_is)
    (case a21 => k_is)
    (case l21 => k_is)
    (case u21 => k_is)
    (case k21 => k_is)
    (case a22 => k_is)
    (case l22 => k_is)
    (case u22 => k_is)
    (case k22 => k_is)
    (case a23 => k_is)
    (case l23 => k_is)
    (case u23 => k_is)
    (case k23 => k_is)
    (case a24 => k_is)
    (case l24 => k_is)
    (case u24 => k_is)
    (case k24 => k_is)
    (case a25 => k_is)
    (case l25 => k_is)
    (case u25 => k_is)
    (case k25 => k_is)
    (case a26 => k_is)
    (case l26 => k_is)
    (case u26 => k_is)
    (case k26 => k_is)
    (case a27 => k_is)
    (case l27 => k_is)
    (case u27 => k_is)
    (case k27 => k_is)
    (case a28 => k_is)
    (case l28 => k_is)
    (case u28 => k_is)
    (case k28 => k_is)
    (case a29 => k_is)
    (case r29 => k_is)
    (case l29 => k_is)
    (case u29 => k_is)
    (case k29 => k_is)
    (case a30 => k_is)
    (case r30 => k_is)
    (case l30 => k_is)
    (case u30 => k_is)
    (case k30 => k_is)
    (case a31 => k_is)
    (case r31 => k_is)
    (case l31 => k_is)
    (case u31 => k_is)
    (case k31 => k_is)
    (case a32 => k_is)
    (case l32 => k_is)
    (case u32 => k_is)
    (case k32 => k_is)
    (case a33 => k_is)
    (case l33 => k_is)
    (case u33 => k_is)
    (case k33 => k_is)
    (case a34 => k_is)
    (case l34 => k_is)
    (case u34 => k_is)
    (case k34 => k_is)
    (case a35 => k_is)
    (case l35 => k_is)
    (case u35 => k_is)
    (case k35 => k_is)
    (case a36 => k_is)
    (case l36 => k_is)
    (case u36 => k_is)
    (case k36 => k_is)
    (case a37 => k_is)
    (case l37 => k_is)
    (case u37 => k_is)
    (case k37 => k_is)
    (case a38 => k_is)
    (case l38 => k_is)
    (case u38 => k_is)
    (case k38 => k_is)
    (case a39 => k_is)
    (case l39 => k_is)
    (case u39 => k_is)
    (case k39 => k_is)
    (case a40 => k_is)
    (case l40 => k_is)
    (case u40 => k_is)
    (case k40 => k_is)
    (case a41 => k_is)
    (case l41 => k_is)
    (case u41 => k_is)
    (case k41 => k_is)
    (case a42 => k_is)
    (case l42 => k_is)
    (case u42 => k_is)
    (case k42 => k_is)
    (case a43 => k_is)
    (case l43 => k_is)
    (case u43 => k_is)
    (case k43 => k_is)
    (case a44 => k_is)
    (case l44 => k_is)
    (case u44 => k_is)
    (case k44 => k_is)
    (case a45 => k_is)
    (case l45 => k_is)
    (case u45 => k_is)
    (case k45 => k_is)
    (case look => kernel_rfl)

