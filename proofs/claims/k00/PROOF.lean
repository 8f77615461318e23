import PyProof.Rows.All
import Wide.All
import OpenK.AllK
import Wide.FinOn
import KE.KExcSuper
import KE.KExcIs
import KE.RegKSuper
import HandS.ForMost
import HandS.Exc
import HandS.ExcOwn
import HandS.ExcValue
import HandS.ExcInit
import PySem.Challenge.RW_loopgrowth_k00_errors
set_option Elab.async false
set_option linter.all false
set_option maxRecDepth 100000
set_option maxHeartbeats 4000000
namespace Q0
open PySem PySem.Spec PyProof.Rows L2
def top (i : Nat) : Stmt := PySem.Challenge.pw_loopgrowth_k00_errors.main.body.getD i (.Pass ⟨0, 0, 0, 0⟩)
abbrev sDice : Stmt := top 16
abbrev sRoll : Stmt := top 17
abbrev sOne : Stmt := top 18
theorem scDice : FnScope ["_law_script", "_law_at", "_law_cell", "_law_great", "_law_mixed"] ["_law_script", "_law_at"] (defScope sDice) := ⟨rfl, rfl, rfl, by decide +kernel, rfl, by decide +kernel, by decide +kernel⟩
theorem scRoll : FnScope ["_law_dice_here", "_law_total", "_law_found", "_law_one", "_law_two"] ["_law_dice_here", "_law_total"] (defScope sRoll) := ⟨rfl, rfl, rfl, by decide +kernel, rfl, by decide +kernel, by decide +kernel⟩
theorem scOne : FnScope ["_law_dice_here", "_law_items"] ["_law_dice_here", "_law_items"] (defScope sOne) := ⟨rfl, rfl, rfl, by decide +kernel, rfl, by decide +kernel, by decide +kernel⟩
/-- the three numbers of a drawing hand -/
def hand (x y z : Int) : List V := [.int x, .int y, .int z]
/-- three numbers lie at p -/
def HandAt (H : Hp) (p : Addr) : Prop := ∃ x y z : Int, H p = some (.lst (hand x y z))
/-- what the built-in names still mean -/
structure Blt (mg : Str → Option Value) : Prop where
  len : mg "len" = none
  int : mg "int" = none
  abs : mg "abs" = none
  max : mg "max" = none
/-- all but p as it was -/
def But (p : Addr) (H H' : Hp) : Prop := ∀ b o, b ≠ p → H b = some o → H' b = some o
theorem but_upd {p : Addr} {H : Hp} {o : HO} : But p H (upd H p o) := fun b u n e => by
  rw [upd_ne n]
  exact e
def spRoll : Sp := fun vs H Q _ => ∃ (p : Addr) (x y z t : Int), vs = [.ref p, .int t] ∧ H p = some (.lst (hand x y z)) ∧ 0 < t ∧ t < 1073741824 ∧
  ∀ (r x' y' z' : Int) (H' : Hp), 0 ≤ r → r < t → H' p = some (.lst (hand x' y' z')) → But p H H' → Q (.int r) H'
def spOne : Sp := fun vs H Q _ => ∃ (p q : Addr) (x y z : Int) (its : List V), vs = [.ref p, .ref q] ∧ H p = some (.lst (hand x y z)) ∧ H q = some (.lst its) ∧ q ≠ p ∧ 0 < its.length ∧ its.length < 1073741824 ∧
  ∀ (v : V) (x' y' z' : Int) (H' : Hp), v ∈ its → H' p = some (.lst (hand x' y' z')) → But p H H' → Q v H'
def spDice (K : PySem.W.Frag) : Sp := fun vs H Q _ => ∃ (a : Addr) (ns : List Int) (j : Nat), vs = [.ref a, .int (j : Int)] ∧ SqL K H a (ns.map V.int) ∧
  ∀ (p : Addr) (x y z : Int), H p = none → Q (.ref p) (upd H p (.lst (hand x y z)))
section
variable {P : Program} {w : World} {K : PySem.W.Frag} {mg : Str → Option Value} {base : Heap}
theorem ix3 {K : PySem.W.Frag} {H : Hp} {p : Addr} {x y z : Int} (h : H p = some (.lst (hand x y z))) : SqL K H p (hand x y z) := .inl (.inl h)
theorem ok_roll {f : Addr} {fd : FuncData} (F : Fun K "_law_roll" "_law_roll" sRoll f fd) (B : Blt mg) : FnOk P w K mg base CX0 1 f fd ["_law_dice_here", "_law_total"] spRoll := by
  refine F.ok scRoll (fun vs H Q E h => ?_) (fun cdv A outer s H vs Q E hr h => ?_)
  · obtain ⟨p, x, y, z, t, rfl, _⟩ := h
    rfl
  · obtain ⟨p, x, y, z, t, rfl, hp, ht, ht2, k⟩ := h
    refine ⟨_, pss_cons (ps_if (pt_cmpR op_gt (pe_ix ix_list (pv 0) pe_int (fun _ _ => rfl)) pe_int (nomark _))
        (pss_cons (ps_set (i := 2) scRoll.nd rfl (.inl rfl) (pe_op op_mod (pe_callTy call_int1 (by rfl) B.int (by decide +kernel) (pa_cons (pe_ix ix_list (pv 0) pe_int (fun _ _ => rfl)) pa_nil)) (pv 1)))
        (pss_cons (ps_asg (pe_op op_fdiv (pe_ix ix_list (pv 0) pe_int (fun _ _ => rfl)) (pv 1)) (pg_sub (pv 0) pe_int set_list))
        (pss_one (ps_ret (pv 2))))) pss_nil)
      (pss_cons (ps_asg (pe_op op_add (pe_ix ix_list (pv 0) pe_int (fun _ _ => rfl)) pe_int) (pg_sub (pv 0) pe_int set_list))
      (pss_cons (ps_set (i := 3) scRoll.nd rfl (.inl rfl) (pe_op op_mod (pe_callTy call_int1 (by rfl) B.int (by decide +kernel) (pa_cons (pe_op op_add (pe_ix ix_list (pv 0) pe_int (fun _ _ => rfl)) (pe_op op_mul pe_int (pe_ix ix_list (pv 0) pe_int (fun _ _ => rfl)))) pa_nil)) pe_int))
      (pss_cons (ps_set (i := 4) scRoll.nd rfl (.inl rfl) (pe_op op_add (pe_op op_mul (pe_op op_mod (pe_callTy call_int1 (by rfl) B.int (by decide +kernel) (pa_cons (pe_op op_mul (pv 3) (pv 3)) pa_nil)) pe_int) (pv 3)) (pe_op op_mul pe_int (pe_ix ix_list (pv 0) pe_int (fun _ _ => rfl)))))
      (pss_cons (ps_set (i := 4) scRoll.nd rfl (.inl rfl) (pe_op op_mod (pe_callTy call_int1 (by rfl) B.int (by decide +kernel) (pa_cons (pv 4) pa_nil)) pe_int))
      (pss_one (ps_ret (pe_op op_mod (pe_callTy call_int1 (by rfl) B.int (by decide +kernel) (pa_cons (pe_op op_fdiv (pv 4) pe_int) pa_nil)) (pv 1)))))))), ?_⟩
    -- if hand[0] > 0
    refine ⟨_, rfl, p, hand x y z, 0, .int x, rfl, rfl, ix3 hp, rfl, x, 0, rfl, rfl, _, rfl, ite2 (fun c => ?_) (fun c => ?_)⟩
    · -- found = int(hand[0]) % total
      refine ⟨_, rfl, p, hand x y z, 0, .int x, rfl, rfl, ix3 hp, rfl, .inl ⟨x, rfl, .int t, rfl, x, t, rfl, rfl, ht, ?_⟩⟩
      -- hand[0] = hand[0] // total
      refine ⟨_, rfl, p, hand x y z, 0, .int x, rfl, rfl, ix3 hp, rfl, .int t, rfl, x, t, rfl, rfl, ⟨ht, ht2⟩, _, rfl, p, hand x y z, 0, 0, rfl, rfl, hp, rfl, ?_⟩
      exact ⟨_, rfl, k (x % t) (x / t) y z _ (Int.emod_nonneg _ (by omega)) (Int.emod_lt_of_pos _ ht) upd_same but_upd⟩
    · -- hand[2] = hand[2] + 1
      refine ⟨_, rfl, p, hand x y z, 2, .int z, rfl, rfl, ix3 hp, rfl, z, 1, rfl, rfl, _, rfl, p, hand x y z, 2, 2, rfl, rfl, hp, rfl, ?_⟩
      have hp2 : (upd H p (.lst (hand x y (z + 1)))) p = some (.lst (hand x y (z + 1))) := upd_same
      -- one = ..
      refine ⟨_, rfl, p, hand x y (z + 1), 1, .int y, rfl, rfl, ix3 hp2, rfl, _, rfl, p, hand x y (z + 1), 2, .int (z + 1), rfl, rfl, ix3 hp2, rfl, _, _, rfl, rfl, .inl ⟨by decide, by decide⟩, _, _, rfl, rfl, .inl ⟨_, rfl, _, _, rfl, rfl, (by show (0 : Int) < 2305843009213693951; decide), ?_⟩⟩
      have hb : ∀ g : Int, -(2 ^ 64) < g % 2305843009213693951 ∧ g % 2305843009213693951 < 2 ^ 64 := fun g => ⟨by omega, by omega⟩
      -- two = ..
      refine ⟨_, rfl, _, rfl, _, _, rfl, rfl, .inl (hb _), .inl ⟨_, rfl, _, _, rfl, rfl, (by show (0 : Int) < 2305843009213693921; decide), _, rfl, _, _, rfl, rfl, .inr (hb _), ?_⟩⟩
      refine ⟨_, rfl, p, hand x y (z + 1), 2, .int (z + 1), rfl, rfl, ix3 hp2, rfl, _, _, rfl, rfl, .inl ⟨by decide, by decide⟩, _, _, rfl, rfl, ?_⟩
      -- two = int(two) % ..
      refine ⟨_, rfl, .inl ⟨_, rfl, _, _, rfl, rfl, (by show (0 : Int) < 2305843009213693907; decide), ?_⟩⟩
      -- return int(two // 8192) % total
      refine ⟨_, rfl, _, _, rfl, rfl, ⟨by decide, by decide⟩, .inl ⟨_, rfl, .int t, rfl, _, t, rfl, rfl, ht, ?_⟩⟩
      exact k _ x y (z + 1) _ (Int.emod_nonneg _ (by omega)) (Int.emod_lt_of_pos _ ht) upd_same but_upd
theorem op_powX {X : Cx} : OpR X (binaryOp .Pow) (rI (fun i j => 0 ≤ j ∧ (Builtin.Int.intBits i : Int) * j ≤ 2 ^ 27) fun i j => .int (i ^ j.toNat)) := opI fun _ _ _ _ _ _ _ hc q => pow_int hc.1 hc.2 q
theorem ok_dice {f : Addr} {fd : FuncData} (F : Fun K "_law_dice" "_law_dice" sDice f fd) (B : Blt mg) : FnOk P w K mg base CX0 1 f fd ["_law_script", "_law_at"] (spDice K) := by
  refine F.ok scDice (fun vs H Q E h => ?_) (fun cdv A outer s H vs Q E hr h => ?_)
  · obtain ⟨a, ns, j, rfl, _⟩ := h
    rfl
  · obtain ⟨a, ns, j, rfl, hS, k⟩ := h
    refine ⟨_, pss_cons (ps_set (i := 2) scDice.nd rfl (.inl rfl) (pe_op op_add (pe_op op_mul pe_int (pv 1)) pe_int))
      (pss_cons (ps_if (pt_cmpR op_lt (pv 1) (pe_callB call_len_seq (by rfl) B.len PySem.boot_len (pa_cons (pv 0) pa_nil)) (nomark _))
        (pss_one (ps_set (i := 2) scDice.nd rfl (.inl rfl) (pe_ix ix_list (pv 0) (pv 1) (fun _ _ => rfl)))) pss_nil)
      (pss_cons (ps_set (i := 3) scDice.nd rfl (.inl rfl) (pe_op op_mod (pe_callTy call_int1 (by rfl) B.int (by decide +kernel) (pa_cons (pe_callB call_abs (by rfl) B.abs (by decide +kernel) (pa_cons (pv 2) pa_nil)) pa_nil)) (pe_op op_powX (pe_op op_pow pe_int pe_int) pe_int)))
      (pss_cons (ps_set (i := 4) scDice.nd rfl (.inl rfl) (pe_op op_add (pe_op op_add (pe_op op_add (pe_op op_mul (pe_op op_mod (pe_callTy call_int1 (by rfl) B.int (by decide +kernel) (pa_cons (pv 3) pa_nil)) pe_int) pe_int) (pe_op op_mul pe_int (pv 1)))
          (pe_op op_mul pe_int (pe_callTy call_int1 (by rfl) B.int (by decide +kernel) (pa_cons (pe_cmpR op_lt (pv 2) pe_int (nomark _)) pa_nil)))) pe_int))
      (pss_one (ps_ret (pe_lst (pa_cons (pe_callB (call_max2 rfl) (by rfl) B.max (by decide +kernel) (pa_cons pe_int (pa_cons (pe_op op_sub (pv 3) (pe_op op_pow pe_int pe_int)) pa_nil)))
        (pa_cons (pe_op op_mod (pe_callTy call_int1 (by rfl) B.int (by decide +kernel) (pa_cons (pv 4) pa_nil)) pe_int) (pa_cons pe_int pa_nil))))))))), ?_⟩
    -- cell = 23 * at + 5
    refine ⟨_, rfl, _, _, rfl, rfl, .inl ⟨by decide, by decide⟩, _, _, rfl, rfl, ?_⟩
    -- if at < len(script)
    refine ⟨_, rfl, .ref a, rfl, a, _, rfl, .inl hS, _, _, rfl, rfl, _, rfl, ite2 (fun e => ?inside) (fun _ => ?beyond)⟩
    case' inside =>
      have hj : j < ns.length := by
        have e2 := of_decide_eq_true e
        rw [List.length_map] at e2
        omega
      have hx : (ns.map V.int)[j]? = some (.int ns[j]) := by
        rw [List.getElem?_map, List.getElem?_eq_getElem hj]
        rfl
      refine ⟨_, rfl, _, rfl, a, _, _, _, rfl, rfl, hS, atI_nat hx, ?_⟩
    all_goals
      -- great
      refine ⟨_, rfl, _, rfl, .inl ⟨_, rfl, _, _, rfl, rfl, ⟨by decide, by decide, by decide⟩, _, _, rfl, rfl, ⟨by decide, by decide +kernel⟩, _, _, rfl, rfl, Int.pow_pos (Int.pow_pos (by decide)), ?_⟩⟩
      -- mixed
      refine ⟨_, rfl, .inl ⟨_, rfl, _, _, rfl, rfl, (by show (0 : Int) < 2147483587; decide), _, _, rfl, rfl, .inr ⟨by decide, by decide⟩, _, rfl, _, _, rfl, rfl, .inl ⟨by decide, by decide⟩, _, _, rfl, rfl, ?_⟩⟩
      refine ⟨_, rfl, _, _, rfl, rfl, .inr ⟨_, rfl, _, _, rfl, rfl, .inl ⟨by decide, by decide⟩, _, _, rfl, rfl, _, _, rfl, rfl, ?_⟩⟩
      -- the three numbers
      refine ⟨_, rfl, _, _, rfl, rfl, ⟨by decide, by decide, by decide⟩, _, _, rfl, rfl, _, _, rfl, ?_⟩
      refine ⟨_, rfl, .inl ⟨_, rfl, _, _, rfl, rfl, (by show (0 : Int) < 2147483563; decide), (by show 3 ≤ sizeLine; decide), fun p hp => ?_⟩⟩
      exact k p _ _ _ hp
theorem ok_one {f fR : Addr} {fd fdR : FuncData} (F : Fun K "_law_one_of" "_law_one_of" sOne f fd) (FR : Fun K "_law_roll" "_law_roll" sRoll fR fdR) (bR : Binds K fdR ["_law_dice_here", "_law_total"] []) (gR : mg "_law_roll" = some (.ref fR)) (B : Blt mg) :
    FnOk P w K mg base CX0 2 f fd ["_law_dice_here", "_law_items"] spOne := by
  have GR : FnOk P w K mg base CX0 1 fR fdR ["_law_dice_here", "_law_total"] spRoll := ok_roll FR B
  refine F.ok scOne (fun vs H Q E h => ?_) (fun cdv A outer s H vs Q E hr h => ?_)
  · obtain ⟨p, q, x, y, z, its, rfl, _⟩ := h
    rfl
  · obtain ⟨p, q, x, y, z, its, rfl, hp, hq, nqp, hl, hl2, k⟩ := h
    refine ⟨_, pss_one (ps_ret (pe_ix ix_list (pv 1) (pe_call GR hr (by rfl) gR FR.kp bR .nil pass0 (pa_cons (pv 0) (pa_cons (pe_callB call_len_seq (by rfl) B.len PySem.boot_len (pa_cons (pv 1) pa_nil)) pa_nil))) (fun _ _ => rfl))), ?_⟩
    refine ⟨.ref q, rfl, .ref p, rfl, .ref q, rfl, q, its, rfl, .inl (.inl (.inl hq)), p, x, y, z, _, rfl, hp, by omega, by omega, fun r x' y' z' H' h0 h1 hp' bt => ?_⟩
    obtain ⟨j, rfl⟩ := Int.eq_ofNat_of_zero_le h0
    have hj : j < its.length := by omega
    refine ⟨q, its, _, its[j], rfl, rfl, .inl (.inl (bt q _ nqp hq)), atI_nat (List.getElem?_eq_getElem hj), ?_⟩
    exact k _ x' y' z' H' (List.getElem_mem hj) hp' bt
end
end Q0
/-! An own error whose __init__ calls super().__init__ and keeps one value, made as a value; over any built-in base, KeyError too. -/
namespace Q0
open PySem PySem.W PySem.Calls PyProof.Rows
/-! ### 1. KeyError's own facts (its __new__ is LookupError's) -/
theorem keyInitSlot : Slot "KeyError" "__init__" "KeyError.__init__" :=
  Slot.of (owner := "KeyError") (n := "__init__") (by rw [typeLookup_type, builtinLookup_eq_fast]; kernel_rfl)
    (by decide +kernel) (by decide +kernel) (by decide +kernel)
    (by first | exact Or.inl (by decide +kernel) | exact Or.inr (by decide +kernel)) (by rw [isSubtype_type]; kernel_rfl)
theorem keyInitEntry : entryFor table "KeyError.__init__" = some Builtin.«BaseException.__init__» :=
  entryFor_alias (id' := "BaseException.__init__") (by rw [fastTable_eq_tree]; kernel_rfl)
    (by first | rfl | decide +kernel) (by decide +kernel) (by rw [fastTable_eq_tree]; kernel_rfl)
theorem keySuper : KxsFacts "KeyError" "KeyError.__init__" := by
  constructor
  · show builtinType _ = _
    rw [builtinType_eq_fast]; kernel_rfl
  · first | kernel_rfl | rfl
theorem keyStore : StoreFacts "KeyError" [.type "KeyError", .type "LookupError", .type "Exception", .type "BaseException", .type "object"] "object.__setattr__" "object" := by
  refine { mro := ?_, slot := ?_, entry := F.entry_object_sa, kind := ?_, split := ?_, hasOwner := ?_, args := ?_, passes := ?_ }
  · kernel_rfl
  · exact Slot.of (owner := "object") (n := "__setattr__") (by rw [typeLookup_type, builtinLookup_eq_fast]; kernel_rfl)
      (by decide +kernel) (by decide +kernel) (by decide +kernel)
      (by first | exact Or.inl (by decide +kernel) | exact Or.inr (by decide +kernel)) (by rw [isSubtype_type]; kernel_rfl)
  · decide +kernel
  · decide +kernel
  · decide +kernel
  · intro a b c; unfold argsOk; kernel_rfl
  · intro me; kernel_rfl
/-- what the built-in __init__ that super() finds must say: its base's name, its signature -/
structure Ini (B i : String) : Prop where
  kx : KxsFacts B i
  slot : Slot B "__init__" i
  entry : entryFor table i = some Builtin.«BaseException.__init__»
  split : splitId i = some (B, "__init__")
  kind : builtinKind i = some .slot
  row : Manifest.signature? i = some ⟨.positional, "*", B, .self, [⟨"args", .varPos, false⟩]⟩
  star : (B != "*") = true
theorem Ini.of {B n i : String} (c : ExcCallFacts B n i) (k : KxsFacts B i) : Ini B i := ⟨k, c.init, c.initEntry, c.initSplit, c.initKind, c.initRow, c.noStar⟩
theorem iniKey : Ini "KeyError" "KeyError.__init__" := ⟨keySuper, keyInitSlot, keyInitEntry, by kernel_rfl, by kernel_rfl, by kernel_rfl, by decide +kernel⟩
/-! ### 2. C(v, ..) where C has an own __init__: the object, its arguments, then __init__ -/
section
variable {prog : Program} {w : World} {M : Model} {A : Around} {E : Value → Shared → Prop} {R : Result → Shared → Prop} {hp : Heap} {gs : Array GenState} {dr : Drawn} {tk : Nat} {os : OsState}
variable {nm qn : Str} {C nsA : Addr} {bases tail bmF : List Value} {hasD : Bool} {sns : List Str} {subs : List Value} {abst : Bool} {coll : Option Bool} {dcl : Option Addr} {s0 s1 s2 s3 s5 : Option Value} {Bn newId iF : String}
/-- what of the class's tail is asked: it has Bn (whose __new__ makes it), and is neither an AttributeError nor a NameError -/
structure Tail (tail : List Value) (Bn : String) : Prop where
  has : tail.contains (.type Bn) = true
  noA : tail.contains (.type "AttributeError") = false
  noN : tail.contains (.type "NameError") = false
theorem new_checked (F : ExcBaseFacts Bn newId iF bmF) (T : Tail tail Bn) {more : List Value} {Q : Unit → Shared → Prop}
    (hC : hp.get? C = some (excClassObj nm qn C nsA bases tail hasD sns subs abst coll dcl s0 s1 s2 s3 s5 newId)) (hq : Q () ⟨hp, gs, dr, tk, os⟩) :
    wpAny M A (checkBuiltinCall newId ⟨.ref C :: more, []⟩) Q E ⟨hp, gs, dr, tk, os⟩ := by
  have inB : (Value.ref C :: tail).contains (.type Bn) = true := by
    rw [List.contains_cons, T.has, Bool.or_true]
  have st := F.noStar
  simp only [checkBuiltinCall, F.newKind, F.newSplit, F.newRow]
  repeat (first
    | refine wpAny_loadPart_at hC ?_
    | (refine wpAny_isSubtype_exc hC ?_; rw [inB])
    | refine wpAny_staticBase_exc hC ?_
    | refine wpAny_madeBy_exc hC ?_
    | simp only [bne_self_eq_false, Bool.false_eq_true, if_false]
    | wp_step)
  exact hq
theorem new_done (F : ExcBaseFacts Bn newId iF bmF) (T : Tail tail Bn) {more : List Value}
    (hC : hp.get? C = some (excClassObj nm qn C nsA bases tail hasD sns subs abst coll dcl s0 s1 s2 s3 s5 newId)) (hz : more.length ≤ sizeLine)
    (hq : R (.ok (.ret (.ref (hp.objs.size + 1)))) ⟨(hp.push (kdv_tup more)).push (HandSPX.excO C hp.objs.size), gs, dr, tk, os⟩) :
    codeAny (model prog w) A (.builtin newId ⟨.ref C :: more, []⟩) R ⟨hp, gs, dr, tk, os⟩ := by
  have ends := F.ends
  have inB : (Value.ref C :: tail).contains (.type Bn) = true := by
    rw [List.contains_cons, T.has, Bool.or_true]
  have inA : (Value.ref C :: tail).contains (.type "AttributeError") = false := by
    rw [List.contains_cons, T.noA]; rfl
  have inN : (Value.ref C :: tail).contains (.type "NameError") = false := by
    rw [List.contains_cons, T.noN]; rfl
  refine codeAny_builtinAt F.entry ?_
  unfold Builtin.«BaseException.__new__»
  refine _root_.PySem.wpAt_bind ?_
  show _root_.PySem.wpAt _ _ _ (stack >>= _) _ _ _
  refine _root_.PySem.wpAt_bind (_root_.PySem.wpAt_stack fun _ _ => _root_.PySem.wpAt_of_wpAny ?_)
  wp_walk
  refine _root_.PySem.wpAt_of_wpAny ?_
  rw [F.owner]
  repeat (first
    | with_reducible refine wpAny_madeHere_exc F.canon hC ?_
    | with_reducible refine wpAny_loadPart_at hC ?_
    | (with_reducible refine wpAny_isSubtype_exc hC ?_; first | rw [inB] | rw [inA] | rw [inN])
    | wp_step)
  show R _ _
  rw [Heap.size_push]
  exact hq
theorem type_done (F : ExcBaseFacts Bn newId iF bmF) (T : Tail tail Bn) {more : List Value} {fI : Addr} {Q : Fin → Shared → Prop}
    (hC : hp.get? C = some (excClassObj nm qn C nsA bases tail hasD sns subs abst coll dcl s0 s1 s2 s3 s5 newId)) (hz : more.length ≤ sizeLine)
    (hi : Looks (model prog w) hp (typeLookup (.ref C) "__init__") (some (.ref fI)))
    (hb : ∀ me, Looks (model prog w) hp (bindSpecial (.ref fI) me) (.ref fI, [me]))
    (hq : codeAny (model prog w) A (.call (.ref fI) ⟨.ref (hp.objs.size + 1) :: more, []⟩)
      (fun r s' => match r with | .ok (.ret v) => v = .none ∧ Q (.done (.ret (.ref (hp.objs.size + 1)))) s' | .ok _ => False | .error e => E e s')
      ⟨(hp.push (kdv_tup more)).push (HandSPX.excO C hp.objs.size), gs, dr, tk, os⟩) :
    wpAny (model prog w) A (Builtin.«type.__call__» ⟨.ref C :: more, []⟩) Q E ⟨hp, gs, dr, tk, os⟩ := by
  repeat (first
    | with_reducible refine wpAny_loadPart_at hC ?_
    | with_reducible refine wpAny_madeBy_exc hC ?_
    | wp_step)
  refine codeAny_call_builtin_code (Code.quiet_builtin _ F.quiet) (new_checked F T hC ?_)
  refine new_done F T hC hz ?_
  show wpAny _ _ _ _ _ _
  have up : ∀ b o, hp.get? b = some o → ((hp.push (kdv_tup more)).push (HandSPX.excO C hp.objs.size)).get? b = some o :=
    fun b o e => Heap.get?_push_of_some _ (Heap.get?_push_of_some _ e)
  have hC' := up _ _ hC
  have hme : ((hp.push (kdv_tup more)).push (HandSPX.excO C hp.objs.size)).get? (hp.objs.size + 1) = some (HandSPX.excO C hp.objs.size) := by heap_get
  have inC : (Value.ref C :: tail).contains (.ref C) = true := by simp
  have li := hi.keeps up
  have lb := (hb (.ref (hp.objs.size + 1))).keeps up
  unfold isInstance
  repeat (first
    | with_reducible refine wpAny_loadPart_at hme ?_
    | (with_reducible refine wpAny_isSubtype_exc hC' ?_; rw [inC])
    | wp_step)
  show wpAny _ _ (typeLookup (.ref C) _) _ _ _
  refine li.at ?_
  refine wpAny_holding (wpAny_bind (lb.at ?_))
  refine wpAny_bind (wpAny_call (codeAny_mono hq fun r s' z => ?_))
  rcases r with e | (v | _ | _ | _) <;> first | exact z | exact z.elim | skip
  obtain ⟨rfl, z⟩ := z
  first
    | exact wpAny_pure (wpAny_pure z)
    | (wp_walk; exact z)
theorem call_done (F : ExcBaseFacts Bn newId iF bmF) (T : Tail tail Bn) {more : List Value} {fI : Addr}
    (hC : hp.get? C = some (excClassObj nm qn C nsA bases tail hasD sns subs abst coll dcl s0 s1 s2 s3 s5 newId)) (hz : more.length ≤ sizeLine)
    (hi : Looks (model prog w) hp (typeLookup (.ref C) "__init__") (some (.ref fI)))
    (hb : ∀ me, Looks (model prog w) hp (bindSpecial (.ref fI) me) (.ref fI, [me]))
    (hq : codeAny (model prog w) (A.under (.builtin "type.__call__" ⟨.ref C :: more, []⟩)) (.call (.ref fI) ⟨.ref (hp.objs.size + 1) :: more, []⟩) (InitBack (hp.objs.size + 1) R)
      ⟨(hp.push (kdv_tup more)).push (HandSPX.excO C hp.objs.size), gs, dr, tk, os⟩) :
    codeAny (model prog w) A (.call (.ref C) ⟨more, []⟩) R ⟨hp, gs, dr, tk, os⟩ := by
  have l1 := tc_lookup
  have l2 := tc_bind (.ref C)
  have ty : (⟨hp, gs, dr, tk, os⟩ : Shared).TypeIs (.ref C) "type" := ⟨_, hC, rfl⟩
  refine codeAny_of_tree ?_
  show wpAny _ _ (callAny (.ref C) _) _ _ _
  repeat (any_goals (first
    | assumption
    | with_reducible refine wpAny_loadPart_at hC ?_
    | wp_step))
  refine ⟨rfl, ?_⟩
  refine codeAny_call_builtin_at (Code.quiet_builtin _ (by decide +kernel)) entry_typeCall
    (wpAny_check_type_call_sub hC (type_done F T hC hz hi hb ?_))
  refine codeAny_mono hq fun r s' z => ?_
  rcases r with e | (v | _ | _ | _) <;> exact z
end
end Q0
/-! ### 3. def __init__(self, f): super().__init__('..'); self.f = f -/
namespace Q0
open PySem PySem.W PySem.Calls Builtin.ObjectAttr
def iA (f : Str) (p1 p2 : Pos) : Arguments :=
  { posonlyargs := [], args := [{ arg := "self", annotation := none, pos := p1 }, { arg := f, annotation := none, pos := p2 }], vararg := none, kwonlyargs := [], kw_defaults := [], kwarg := none, defaults := [] }
def iB (f msg : Str) (q : Nat → Pos) : List Stmt :=
  [.Expr (.Call (.Attribute (.Call (.Name "super" (q 0)) [] [] (q 1)) "__init__" (q 2)) [.Constant (.str msg) 0 (q 3)] [] (q 4)) (q 5),
   .Assign [.Attribute (.Name "self" (q 6)) f (q 7)] (.Name f (q 8)) (q 9)]
def iS (f : Str) : Scope :=
  { kind := .function, names := [(PySem.Str.ofString "self", .local), (f, .local), (PySem.Str.ofString "__class__", .free), (PySem.Str.ofString "super", .globalImplicit)], isGenerator := false, isCoroutine := false, more := [] }
/-- how its first line is evaluated -/
def LineOk (msg : Str) (q : Nat → Pos) : Prop := ∃ pl : Sem Bool, ∀ env : Env,
  eval (.Call (.Attribute (.Call (.Name "super" (q 0)) [] [] (q 1)) "__init__" (q 2)) [.Constant (.str msg) 0 (q 3)] [] (q 4)) env = (do
    let o ← attributeBase (.Call (.Name "super" (q 0)) [] [] (q 1)) "__init__" env (eval (.Call (.Name "super" (q 0)) [] [] (q 1)) env)
    standAt (q 2).atName
    let (m, first) ← holding [o] (getMethod o "__init__" pl)
    callWith (q 4) m first (backTo (q 4) (starEach [.Constant (.str msg) 0 (q 3)] env)) [])
/-- how its arguments are bound -/
def BindOk (f : Str) : Prop := ∀ (qual msg : Str) (p1 p2 : Pos) (q : Nat → Pos) (kV doc pm cdv ct me u : Value) (an : Option Addr) (cc : Addr),
  bindArgs (ksFn "__init__" qual (iA f p1 p2) (iB f msg q) (iS f) .none kV doc pm an cdv ct cc) ⟨[me, u], []⟩ = pure [(("self" : Str), me), (f, u)]
/-- the names of such a def mean what they should -/
structure NameOk (f : Str) : Prop where
  self : (iS f).names.lookup ("self" : Str) = some .local
  own : (iS f).names.lookup f = some .local
  cls : (iS f).names.lookup ("__class__" : Str) = some .free
  sup : (iS f).names.lookup ("super" : Str) = some .globalImplicit
  dbg : (f == ("__debug__" : Str)) = false
  ne : ("self" : Str) ≠ f
  bind : BindOk f
/-- what the top has written of the class at C (its base Bi, whose __init__ is ii; the base whose __new__ makes it Bn), of its __init__ at fI, the code's record at cd, the cell of the class at cc -/
structure ValT (P : Program) (K : Frag) (mg : Str → Option Value) (Bi ii Bn newId iF : String) (bmB bmF : List Value) (C fI cd cc : Addr) (f : Str) : Prop where
  base : ExcBaseFacts Bn newId iF bmF
  ini : Ini Bi ii
  st : StoreFacts Bi bmB "object.__setattr__" "object"
  ok : NameOk f
  q : excInitIn K C bmB newId = true
  ov : excOver K C bmB = true
  has : bmB.contains (.type Bn) = true
  noA : bmB.contains (.type "AttributeError") = false
  noN : bmB.contains (.type "NameError") = false
  hi : findIn K (.ref C) "__init__" = some (some (.ref fI))
  hf : isFn K (.ref fI) = true
  sa : findIn K (.ref C) "__setattr__" = some (some (.builtin "object.__setattr__"))
  tk : takerIn K C f = some none
  hd : hasDictIn K C = true
  sB : subIn K (.ref C) (.type Bi) = some true
  me : mroIn K C (.ref C) = some true
  kp : keepIn K (.ref C) = true
  fn : ∃ (qual msg : Str) (p1 p2 : Pos) (q : Nat → Pos) (oc doc pm ct kV : Value) (od an : Option Addr) (osl : Array (Option Value)),
    K.lookup fI = some ⟨oc, od, .func (ksFn "__init__" qual (iA f p1 p2) (iB f msg q) (iS f) .none kV doc pm an (.ref cd) ct cc), osl⟩ ∧ codeIn K (.ref cd) qual = true ∧ LineOk msg q
  code : ∃ (c : Value) (d : Option Addr) (vs : Array Value) (sl : Array (Option Value)) (file : Str) (tf : Tok), K.lookup cd = some ⟨c, d, .fields vs, sl⟩ ∧ vs[2]? = some (.str file tf) ∧ ((P.main.file : Str) == file) = true
  cell : ∃ (c : Value) (d : Option Addr) (sl : Array (Option Value)), K.lookup cc = some ⟨c, d, .cell (some (.ref C)), sl⟩
  sup : ks_superIn K C C "__init__" = some (some (.builtin ii))
  nos : nsIn K mainGlobals "super" = some none
  tp : nsIn K cStatics "thirdparty.any" = some none
  top : (P.main.scope.names.lookup ("super" : Str)).isSome = false
abbrev excD (C t : Addr) (d : Option Addr) : Obj := { cls := .ref C, dict := d, data := .fields #[.ref t, .none, .none, .none, .bool false, .none] }
/-- what an __init__ leaves of a fresh error at x -/
structure Filled (h h' : Heap) (x C d : Addr) (f : Str) (v : Value) : Prop where
  keep : ∀ b o, b ≠ x → h.get? b = some o → h'.get? b = some o
  obj : ∃ t, h'.get? x = some (excD C t (some d))
  big : h.objs.size ≤ d
  ne : d ≠ x
  ns : h'.Ns1 d (fun y => if y = f then some v else none)
section
variable {P : Program} {w : World} {A : Around} {E : Value → Shared → Prop} {R : Result → Shared → Prop} {hp : Heap} {gs : Array GenState} {dr : Drawn} {tk : Nat} {os : OsState}
variable {K : Frag} {mg mb : Str → Option Value} {Bi ii Bn newId iF : String} {bmB bmF : List Value} {C fI cd cc : Addr} {f : Str}
theorem clsObj_of {K : Frag} {D : Addr} {c : ClassData} {h : Heap} (X : K.In h) (e : clsIn K D = some c) : ∃ o, h.get? D = some o ∧ o.data = .cls c := by
  unfold clsIn at e
  split at e
  · rename_i lk
    cases e
    exact ⟨_, X _ _ lk, rfl⟩
  · cases e
/-- the super object: its class, the object, the object's class -/
theorem sup_made (T : ValT P K mg Bi ii Bn newId iF bmB bmF C fI cd cc f) {L x t0 : Addr} {u : Value} {body : List Stmt} {qual attr : Str} {p0 p1 : Pos} {whole : Sem Value} {Q : Value → Shared → Prop}
    (X : K.In hp) (hg : hp.Ns mainGlobals mg) (hb : hp.Ns builtinsNs mb) (hbb : ∀ y : Str, y ≠ "__name__" → mb y = bootBuiltins y)
    (hl : hp.Ns L (fun y => [(f, u), (("self" : Str), Value.ref x)].lookup y)) (hx : hp.get? x = some (excD C t0 none)) (hat : (attr == ("__class__" : Str)) = false)
    (hq : ∀ so h', h'.get? so = some (ks_superObj C x C) → (∀ b o, hp.get? b = some o → h'.get? b = some o) → Q (.ref so) ⟨h', gs, dr, tk, os⟩) :
    _root_.PySem.wpAt (model P w) A (.func body (ksEnv qual (iS f) L fI (.ref cd) cc)) (attributeBase (.Call (.Name "super" p0) [] [] p1) attr (ksEnv qual (iS f) L fI (.ref cd) cc) whole) Q E ⟨hp, gs, dr, tk, os⟩ := by
  obtain ⟨qu, msg, a1, a2, qs, oc, doc, pm, ct, kV, od, an, osl, lf, _, _⟩ := T.fn
  obtain ⟨c1, d1, vs, sl1, file, tf, lc, hv2, hfile⟩ := T.code
  obtain ⟨c2, d2, sl2, lcell⟩ := T.cell
  obtain ⟨cdat, hcd⟩ := Option.isSome_iff_exists.mp (show (clsIn K C).isSome = true by
    obtain ⟨c, e, _⟩ := any_some T.hd
    rw [e]; rfl)
  obtain ⟨oC, hC1, hC2⟩ := clsObj_of X hcd
  refine ks_wpAt_super_base (env := ksEnv qual (iS f) L fI (.ref cd) cc) T.ok.sup T.ok.cls hat rfl (X _ _ lf) rfl (ar := { arg := "self", annotation := none, pos := a1 }) rfl rfl (X _ _ lc) rfl hv2 hfile T.top ?_
  refine ks_loadName_global rfl T.ok.sup (loadGlobal_builtin (env := ksEnv qual (iS f) L fI (.ref cd) cc) hg (mg_none_of X hg T.nos) hb ((hbb _ (by decide +kernel)).trans (by first | boot_by_name | rfl | kernel_rfl)) ⟨rfl, ?_⟩)
  refine wpAny_loadName_free rfl T.ok.cls rfl ⟨_, X _ _ lcell, rfl⟩ ?_
  refine wpAny_loadName_local rfl T.ok.self hl (v := .ref x) ?_ ?_
  · have n1 : ((("self" : Str)) == f) = false := by simpa using T.ok.ne
    simp [List.lookup, n1]
  refine ks_wpAny_isType_cls hC1 hC2 ⟨rfl, ?_⟩
  exact ks_wpAny_call_super hC1 hC2 hx rfl (fun c e => by cases e) (looks_mroIn X T.me) fun h' e k => hq _ h' e k
/-- the bound built-in __init__, called: new arguments are laid -/
theorem bound_called (I : Ini Bi ii) {qc nmC : Str} {nsA : Addr} {bases tail : List Value} {hasD : Bool} {sns : List Str} {subs : List Value} {abst : Bool} {coll : Option Bool} {dcl : Option Addr} {s0 s1 s2 s3 s5 : Option Value}
    (hC : hp.get? C = some (excClassObj nmC qc C nsA bases tail hasD sns subs abst coll dcl s0 s1 s2 s3 s5 newId))
    {m x t0 : Addr} {more : List Value} {Q : Value → Shared → Prop} (hx : hp.get? x = some (excD C t0 none)) (hm : hp.get? m = some (kxs_mw ii x)) (hz : more.length ≤ sizeLine)
    (hq : ∀ h' t1, (∀ b o, b ≠ x → hp.get? b = some o → h'.get? b = some o) → h'.get? x = some (excD C t1 none) → Q .none ⟨h', gs, dr, tk, os⟩) :
    wpAny (model P w) A (call (.ref m) more) Q E ⟨hp, gs, dr, tk, os⟩ := by
  refine wpAny_call (codeAny_of_tree ?_)
  show wpAny _ A.in1 (callAny (.ref m) ⟨more, []⟩) _ _ _
  simp only [callAny]
  refine wpAny_bind (wpAny_load hm ?_)
  simp only [kxs_mw, show (Value.type "method-wrapper" == Value.type "method" || Value.type "method-wrapper" == Value.type "builtin_function_or_method" || Value.type "method-wrapper" == Value.type "method-wrapper") = true by decide, if_true]
  refine KFB.if_so (by decide) ?_
  have star := I.star
  refine wpAny_bind ?_
  · simp only [checkBoundCall, I.kind, I.row]
    repeat (first
      | (with_reducible refine wpAny_loadPart_at hx ?_; try dsimp only)
      | with_reducible refine wpAny_loadPart_at hC ?_
      | wp_step)
    refine wpAny_onRaise ?_
    rw [show ∀ (a b : String) (n : Nat), Bind.check ⟨.positional, "*", Bi, .self, [⟨"args", .varPos, false⟩]⟩ a b n (List.map (fun z => z.fst) ({ pos := Value.ref x :: more } : Args).kw) = pure () from
      fun _ _ _ => check_star_args _ _ _ _ _ _]
    refine wpAny_pure ?_
    refine wpAny_bind (wpAny_pure (wpAny_pure ?_))
    refine ⟨plainId_quiet I.slot.plain _, codeAny_builtin I.entry ?_⟩
    exact exc_init_tree (cls := .ref C) (t0 := t0) (dv := none) (c2 := .none) (c3 := .none) (b4 := .bool false) hx hz fun h' k e _ => hq h' _ k e
/-- self.f = v, the object's first attribute: its dict is laid -/
theorem first_store (T : ValT P K mg Bi ii Bn newId iF bmB bmF C fI cd cc f) (X : K.In hp) {x t0 : Addr} {v : Value} (hx : hp.get? x = some (excD C t0 none)) {Q : Unit → Shared → Prop}
    (hq : ∀ h' tk' d, Filled hp h' x C d f v → Q () ⟨h', gs, dr, tk', os⟩) : wpAny (model P w) A (setAttr (.ref x) f v) Q E ⟨hp, gs, dr, tk, os⟩ := by
  refine set_plain X (ox := excD C t0 none) (od := none) ⟨hx, rfl, rfl, trivial⟩ T.sa ?_
  refine osa_openX (s := ⟨hp, gs, dr, tk + 1, os⟩) (od := none) T.st X ⟨hx, rfl, rfl, trivial⟩ T.ov T.tk fun b => ?_
  obtain ⟨c, hc, hh⟩ := any_some T.hd
  have looks : Looks (model P w) hp (classData C) c := looks_clsIn X hc
  have far : x ≠ hp.objs.size := Nat.ne_of_lt (Heap.lt_size hx)
  obtain ⟨nm, bs, mro, ns, qn, hd, sn, sb, ab, col, del⟩ := c
  dsimp only at hh
  subst hh
  show wpAny _ _ (storeInOwnDict (.ref x) (.ref C) _ f v b) _ _ _
  unfold storeInOwnDict ownDictForStores
  repeat (first
    | with_reducible refine HandSPX.store_in_new ?_ ?_
    | with_reducible refine wpAny_loadPart_at hx ?_
    | with_reducible refine looks.at ?_
    | wp_step)
  · exact ⟨_, #[], _, (Heap.get?_update_ne _ _ _ _ far.symm).trans (Heap.get?_push_at rfl rfl), rfl, fun e he => absurd he (by simp), fun _ => rfl⟩
  · intro h' tk' hn sb
    have hx1 : (hp.push { cls := .type "dict", data := .dict #[] }).get? x = some (excD C t0 none) := Heap.get?_push_of_some _ hx
    refine hq h' tk' hp.objs.size ⟨fun b o hb ho => ?_, ⟨t0, ?_⟩, Nat.le_refl _, far.symm, hn⟩
    · exact (sb.2 b (Nat.ne_of_lt (Heap.lt_size ho))).trans ((Heap.get?_update_ne _ _ _ _ hb).trans (Heap.get?_push_of_some _ ho))
    · exact (sb.2 x far).trans (Heap.get?_update_self _ hx1 rfl)
/-- the whole __init__ -/
theorem init_run (T : ValT P K mg Bi ii Bn newId iF bmB bmF C fI cd cc f) {x t0 : Addr} {u : Value}
    (X : K.In hp) (hg : hp.Ns mainGlobals mg) (hb : hp.Ns builtinsNs mb) (hbb : ∀ y : Str, y ≠ "__name__" → mb y = bootBuiltins y) (hlim : hp.NoLimit) (hx : hp.get? x = some (excD C t0 none)) (hnx : K.lookup x = none) (hroom : A.depth < recursionLimit)
    (hq : ∀ h' tk' d, Filled hp h' x C d f u → R (.ok (.ret .none)) ⟨h', gs, dr, tk', os⟩) :
    codeAny (model P w) A (.call (.ref fI) ⟨[.ref x, u], []⟩) R ⟨hp, gs, dr, tk, os⟩ := by
  obtain ⟨qual, msg, a1, a2, qs, oc, doc, pm, ct, kV, od, an, osl, lf, hcd, ⟨pl, hline⟩⟩ := T.fn
  obtain ⟨nm, nsA, qn, bs, bm, hdct, sn, sub, ab, col, dd, k0, k1, k2, k3, k5, hC, hT⟩ := excInit_of X T.q
  refine ks_codeAny_call_defAt (fd := ksFn "__init__" qual (iA f a1 a2) (iB f msg qs) (iS f) .none kV doc pm an (.ref cd) ct cc) (body := iB f msg qs) (binds := [(("self" : Str), .ref x), (f, u)]) hroom (X _ _ lf) rfl hlim (codeRec_of X hcd) rfl
    (BindsTo.of_eq (T.ok.bind _ _ _ _ _ _ _ _ _ _ _ _ _ _)) ?_ ?_ (fun h1 hns1 up1 => ?_) rfl rfl rfl
  · intro z hz
    simp only [iS, List.mem_cons, List.not_mem_nil, or_false] at hz
    rcases hz with rfl | rfl | rfl | rfl <;> simp
  · intro z hz
    simp only [List.mem_cons, List.not_mem_nil, or_false] at hz
    rcases hz with rfl | rfl
    · exact T.ok.self
    · exact T.ok.own
  have X1 : K.In h1 := X.keeps up1
  have hx1 := up1 _ _ hx
  have xL : x ≠ hp.objs.size := Nat.ne_of_lt (Heap.lt_size hx)
  have frame : h1.Ns hp.objs.size (fun y => [(f, u), (("self" : Str), Value.ref x)].lookup y) := hns1
  show _root_.PySem.wpAt _ _ (.func (iB f msg qs) (ksEnv qual (iS f) hp.objs.size fI (.ref cd) cc)) (execs (iB f msg qs) (ksEnv qual (iS f) hp.objs.size fI (.ref cd) cc)) _ _ _
  refine ks_wpAt_execs_cons (ks_wpAt_Expr_any (ks_wpAt_MethodCall (pl := pl) ?_ (hline _)))
  refine sup_made T X1 (hg.keeps up1) (hb.keeps up1) hbb frame hx1 (by decide) fun so h2 hso up2 => ?_
  -- the method of the super object
  obtain ⟨c, hc, hm⟩ := Option.bind_eq_some_iff.mp (show (clsIn K C).bind (fun c => alongIn K "__init__" ((c.mro.dropWhile (· != .ref C)).drop 1)) = some (some (.builtin ii)) from T.sup)
  have X2 : K.In h2 := X1.keeps up2
  have hx2 := up2 _ _ hx1
  have I2 : InstAt h2 x (excD C t0 none) C none := ⟨hx2, rfl, rfl, trivial⟩
  refine kxs_getMethod T.ini.kx hso (looks_opaque X2 T.tp) (l₀ := c.mro) (fun A' Q' E' s' k z => wpAny_bind ((looks_clsIn X2 hc) A' _ E' s' k (wpAny_pure z))) rfl X2 hm (I2.type.andThen (looks_subIn X2 T.sB)) (ks_ne X2 I2 hc) (by decide) ?_
  -- its call with the message
  have up3 : ∀ b o, h2.get? b = some o → (h2.push (kxs_mw ii x)).get? b = some o := fun b o e => Heap.get?_push_of_some _ e
  have hm3 : (h2.push (kxs_mw ii x)).get? h2.objs.size = some (kxs_mw ii x) := Heap.get?_push_at rfl rfl
  show wpAny _ _ (callWith (qs 4) (.ref h2.objs.size) [] (backTo (qs 4) (starEach [.Constant (.str msg) 0 (qs 3)] (ksEnv qual (iS f) hp.objs.size fI (.ref cd) cc))) []) _ _ _
  refine kxs_callWith (i := ii) (x := x) rfl (evalArgs_plain (spliced_cons (Calls.Constant_str (k := 0) (pos := qs 3) (spliced_nil ⟨hm3, ?_⟩))))
  have kU : ∀ {b : Addr} {o : Obj}, hp.get? b = some o → h2.get? b = some o := fun {b o} e => up2 _ _ (up1 _ _ e)
  refine bound_called T.ini (up3 _ _ (kU hC)) (up3 _ _ hx2) hm3 (by rw [sizeLine_eq]; exact (by decide : 1 ≤ 16777216)) fun h4 t1 k4 hx4 => ?_
  -- self.f = f
  refine ks_wpAt_execs_cons (ks_wpAt_Assign_Attr ?_ (by first | rfl | with_unfolding_all rfl))
  have X4 : K.In h4 := fun b o e => k4 b o (fun z => by rw [z, hnx] at e; cases e) (up3 _ _ (X2 b o e))
  obtain ⟨oL, es, ep, hL, rL⟩ := frame
  have frame4 : h4.Ns hp.objs.size (fun y => [(f, u), (("self" : Str), Value.ref x)].lookup y) := ⟨oL, es, ep, k4 _ _ xL.symm (up3 _ _ (up2 _ _ hL)), rL⟩
  have more : hp.objs.size < h4.objs.size := Heap.lt_size (k4 _ _ xL.symm (up3 _ _ (up2 _ _ hL)))
  refine _root_.PySem.wpAt_of_wpAny (wpAny_Name (wpAny_loadName_local rfl T.ok.own frame4 (v := u) ?_ ?_) T.ok.dbg)
  · simp [List.lookup]
  refine wpAny_Name (wpAny_loadName_local rfl T.ok.self frame4 (v := .ref x) ?_ ?_) (by decide)
  · have n1 : (("self" : Str) == f) = false := by simpa using T.ok.ne
    simp [List.lookup, n1]
  refine first_store T X4 hx4 fun h5 tk5 d S => ?_
  refine _root_.PySem.wpAt_of_wpAny (wpAny_execs_nil (hq h5 tk5 d ⟨fun b o hb e => S.keep b o hb (k4 b o hb (up3 _ _ (kU e))), S.obj, Nat.le_of_lt (Nat.lt_of_lt_of_le more S.big), S.ne, S.ns⟩))
/-- a made error -/
structure MadeV (h h' : Heap) (C e d : Addr) (f : Str) (v : Value) : Prop where
  keep : ∀ b o, h.get? b = some o → h'.get? b = some o
  new : h.objs.size ≤ e
  obj : ∃ t, h'.get? e = some (excD C t (some d))
  dnew : h.objs.size ≤ d
  ne : d ≠ e
  ns : h'.Ns1 d (fun y => if y = f then some v else none)
/-- C(v) -/
theorem val_made (T : ValT P K mg Bi ii Bn newId iF bmB bmF C fI cd cc f) {u : Value} {Q : Value → Shared → Prop}
    (X : K.In hp) (hg : hp.Ns mainGlobals mg) (hb : hp.Ns builtinsNs mb) (hbb : ∀ y : Str, y ≠ "__name__" → mb y = bootBuiltins y) (hlim : hp.NoLimit) (hroom : A.depth + 1 < recursionLimit)
    (hq : ∀ h' tk' e d, MadeV hp h' C e d f u → Q (.ref e) ⟨h', gs, dr, tk', os⟩) : wpAny (model P w) A (call (.ref C) [u]) Q E ⟨hp, gs, dr, tk, os⟩ := by
  obtain ⟨nm, nsA, qn, bs, bm, hdct, sn, sub, ab, col, dd, k0, k1, k2, k3, k5, hC, hT⟩ := excInit_of X T.q
  have tail : Tail bm Bn := ⟨by rw [hT]; exact T.has, by rw [hT]; exact T.noA, by rw [hT]; exact T.noN⟩
  obtain ⟨oI, hoI, hcI⟩ : ∃ o, hp.get? fI = some o ∧ o.cls = .type "function" := by
    obtain ⟨o, ho, hc⟩ := Option.map_eq_some_iff.mp (show (K.lookup fI).map (·.cls) = some (.type "function") from beq_iff_eq.mp T.hf)
    exact ⟨o, X _ _ ho, hc⟩
  refine wpAny_call (call_done T.base tail hC (by rw [sizeLine_eq]; exact (by decide : 1 ≤ 16777216)) (looks_findIn X T.hi) (fun me => exc_bind hoI hcI me) ?_)
  have up : ∀ b o, hp.get? b = some o → ((hp.push (kdv_tup [u])).push (HandSPX.excO C hp.objs.size)).get? b = some o := fun b o e => Heap.get?_push_of_some _ (Heap.get?_push_of_some _ e)
  have hx : ((hp.push (kdv_tup [u])).push (HandSPX.excO C hp.objs.size)).get? (hp.objs.size + 1) = some (excD C hp.objs.size none) := by heap_get
  have far : hp.get? (hp.objs.size + 1) = none := by
    cases e : hp.get? (hp.objs.size + 1) with
    | none => rfl
    | some o => exact absurd (Nat.lt_of_succ_lt (Heap.lt_size e)) (Nat.lt_irrefl _)
  have hnx : K.lookup (hp.objs.size + 1) = none := by
    cases e : K.lookup (hp.objs.size + 1) with
    | none => rfl
    | some o =>
      have z := X _ _ e
      rw [far] at z
      cases z
  refine init_run T (X.keeps up) (hg.keeps up) (hb.keeps up) hbb (hlim.keeps up) hx hnx ?_ fun h' tk' d S => ?_
  · show A.depth + 1 < recursionLimit
    exact hroom
  · refine ⟨rfl, hq h' tk' _ d ⟨fun b o e => S.keep b o (fun z => by rw [z, far] at e; cases e) (up b o e), Nat.le_succ _, S.obj, ?_, S.ne, S.ns⟩⟩
    have z := S.big
    rw [Heap.size_push, Heap.size_push] at z
    exact Nat.le_trans (Nat.le_trans (Nat.le_succ _) (Nat.le_succ _)) z
end
end Q0
/-! ### 4. The same as rules of the hand layer -/
namespace Q0
open PySem PySem.Spec PyProof.Rows L2
section
variable {X : Cx} {pins : List (Addr × Obj)} {σ : L2.St} {H : Hp} {s : Shared}
/-- two new objects at once -/
theorem two_laid {h' : Heap} {a d : Addr} {o u : HO} {t' : Nat} (I : Inv X pins σ H s) (k : ∀ b z, s.heap.get? b = some z → h'.get? b = some z) (ha : s.heap.objs.size ≤ a) (hd : s.heap.objs.size ≤ d) (ne : d ≠ a)
    (na : ObjOk X.prog X.w (upd (upd H d u) a o) h' a o) (nd : ObjOk X.prog X.w (upd (upd H d u) a o) h' d u) : Inv X pins σ (upd (upd H d u) a o) { s with heap := h', toks := t' } := by
  have fa : H a = none := I.hok.fresh ha
  have fd : H d = none := I.hok.fresh hd
  have old : ∀ {b : Addr} {z : HO}, H b = some z → (upd (upd H d u) a o) b = some z := fun {b z} e => by
    rw [upd_ne (ne_of_none e fa), upd_ne (ne_of_none e fd)]
    exact e
  refine I.un (t' := t') { keep := fun b z q _ _ _ => k b z q, slot := fun b z q _ _ _ => ⟨z.slots, k b z q⟩, free := fun b z q n _ => ?_, there := fun b z q _ => ⟨z, k b z q⟩, tups := fun b xs q => old q, frzs := fun b z v q => old q, tbls := fun b ps q => ⟨#[], by rw [old q]; simp⟩ } fun b z q => ?_
  · rw [upd_ne (Nat.ne_of_lt (Nat.lt_of_lt_of_le (Heap.lt_size q) ha)), upd_ne (Nat.ne_of_lt (Nat.lt_of_lt_of_le (Heap.lt_size q) hd))]
    exact n
  · by_cases e1 : b = a
    · subst e1
      rw [upd_same] at q
      cases q
      exact na
    · rw [upd_ne e1] at q
      by_cases e2 : b = d
      · subst e2
        rw [upd_same] at q
        cases q
        exact nd
      · rw [upd_ne e2] at q
        exact (I.hok b z q).stay (fun c v _ y => k c v y) (fun c y => old y) fun c xs y => old y
/-- C(e), C an own error class whose __init__ calls super().__init__ and keeps its argument as f: the error at a, its dict at d -/
theorem pe_val {Bi ii Bn newId iF : String} {bmB bmF : List Value} {C fI cd cc : Addr} {f x : Str} {e : Expr} {te : TE} {p pos : Pos} {k : Nat} (T : ValT X.prog X.K X.mg Bi ii Bn newId iF bmB bmF C fI cd cc f) (gC : X.mg x = some (.ref C)) (hr : Room k X.A) (hg : Gl X x)
    (he : PE X e te) (hs : starEach [e] X.env = (false, eval e X.env) :: starEach [] X.env := by rfl) (hdb : (x == ("__debug__" : Str)) = false := by decide) :
    PE X (.Call (.Name x p) [e] [] pos) (fun σ H Q => te σ H fun v H1 => ∀ a d, H1 a = none → H1 d = none → d ≠ a → Q (.ref a) (upd (upd H1 d (exd d [(f, v)])) a (exo a C (some d)))) := by
  refine ⟨fun pins s σ H Q I h => wpAny_Call_Name_kw (ld_glob I hg gC ?_ hdb)⟩
  refine PySem.W.callWith_K (h₀ := X.base) I.ok.mod.kin T.kp ?_ hs (by rfl)
  rw [hs]
  show wpAny _ _ (spliced ((false, eval e X.env) :: backTo pos (starEach [] X.env))) _ _ s
  refine Calls.spliced_cons (thn (he.run pins s σ H _ I h) fun u s1 ⟨v, H1, J, rv, q⟩ => Calls.spliced_nil ⟨J.kIn, ?_⟩)
  show wpAny _ _ (call (.ref C) [u]) _ _ _
  have lim := J.nolimit
  obtain ⟨mb, hb, hbb⟩ := J.mod.blt
  have gl := J.mod.glob.keeps J.bk
  have bl := hb.keeps J.bk
  have room : X.A.depth + 1 < recursionLimit := by
    have z := hr.dp
    omega
  obtain ⟨hp, gs, dr, tk, os⟩ := s1
  refine val_made T J.kIn gl bl hbb lim room fun h' tk' a d M => ?_
  obtain ⟨t, hob⟩ := M.obj
  refine ⟨.ref a, _, two_laid J M.keep M.new M.dnew M.ne (exo_ok hob) (exd_ok M.ns fun g => ?_), rfl, q a d (J.hok.fresh M.new) (J.hok.fresh M.dnew) M.ne⟩
  exact relO_put (fs := []) (mA := fun _ => none) rv (fun _ => True.intro) g
/-- what isinstance asks of an error's class -/
structure IsC (K : PySem.W.Frag) (C : Addr) : Prop where
  hd : PySem.W.hasDictIn K C = true
  ga : PySem.W.findIn K (.ref C) "__getattribute__" = some (some (.builtin "BaseException.__getattribute__"))
  gt : PySem.W.findIn K (.ref C) "__getattr__" = some none
  sB : PySem.W.subIn K (.ref C) (.type "BaseException") = some true
  ca : PySem.W.findIn K (.ref C) "__class__" = some (some (.builtin "object.__class__"))
  cg : PySem.W.specialIn K (.builtin "object.__class__") "__get__" = some (some (.builtin "getset_descriptor.__get__"))
  tk : PySem.W.takesIn K (.builtin "object.__class__") = some true
  mo : PySem.W.mroIn K C (.type "object") = some true
/-- an error of the class at C stands at a -/
def ErrAt (H : Hp) (a C : Addr) : Prop := H a = some (ExO (.ref C) a) ∨ ∃ d fs, H a = some (exo a C (some d)) ∧ H d = some (exd d fs)
theorem errAt_inst {a C : Addr} (I : Inv X pins σ H s) (h : ErrAt H a C) : ∃ oe od, PySem.W.InstAt s.heap a oe C od := by
  rcases h with h | ⟨d, fs, h1, h2⟩
  · obtain ⟨⟨oe, vs, g, ⟨z1, z2⟩, dt, _⟩, _, _⟩ := I.hok a _ h
    refine ⟨oe, none, g, z1, ?_, ?_⟩
    · unfold PySem.W.notCls
      rw [dt] <;> rfl
    · rw [z2]
      trivial
  · obtain ⟨t, g⟩ := exo_at I.hok h1
    obtain ⟨mA, ⟨od, _, _, g2, _⟩, _⟩ := exd_at I.hok h2
    exact ⟨_, some od, g, rfl, rfl, g2⟩
theorem call_isX : CallR X (.builtin "isinstance") (fun xs H Q => ∃ (a C : Addr) (c : V) (cv : Value) (b : Bool), xs = [.ref a, c] ∧ ErrAt H a C ∧ IsC X.K C ∧ (∀ u, RelV c u → u = cv) ∧ PySem.W.kitOne X.K (.ref C) cv = some b ∧ Q (.bl b) H) := by
  intro pins s σ H xs us Q I r h
  obtain ⟨a, C, c, cv, b, rfl, he, T, hc, hk, q⟩ := h
  obtain ⟨u1, u2, rfl, r1, r2⟩ := vals2 r
  cases (show u1 = Value.ref a from r1)
  have e2 := hc _ r2
  subst e2
  obtain ⟨oe, od, J⟩ := errAt_inst I he
  have isC : (PySem.W.clsIn X.K C).isSome = true := by
    obtain ⟨cd, e, _⟩ := PySem.W.any_some T.hd
    rw [e]; rfl
  exact PySem.W.kia_one (PySem.W.kitx_exc isC T.ga T.gt T.sB T.ca T.cg T.tk T.mo) I.kIn J hk (fun z => nomatch z) fun tk => ⟨.bl b, H, I.tok tk, rfl, q⟩
/-- a.f of such an error -/
theorem pe_exf {e : Expr} {te : TE} {f : Str} {pos : Pos} (he : PE X e te) (hbse : attributeBase e f X.env (eval e X.env) = eval e X.env := by rfl) :
    PE X (.Attribute e f pos) (fun σ H Q => te σ H fun x H1 => ∃ (a C d : Addr) (v : V), x = .ref a ∧ H1 a = some (exo a C (some d)) ∧ H1 d = some (exd d [(f, v)]) ∧ IsC X.K C ∧ PySem.W.findIn X.K (.ref C) f = some none ∧ Q v H1) := by
  refine ⟨fun pins s σ H Q I h => attr_of hbse (thn (he.run pins s σ H _ I h) fun u s1 hh => ?_)⟩
  obtain ⟨x, H1, J, rx, a, C, d, v, rfl, h1, h2, T, hn, q⟩ := hh
  cases (show u = Value.ref a from rx)
  obtain ⟨t, g⟩ := exo_at J.hok h1
  obtain ⟨mA, hns, rel⟩ := exd_at J.hok h2
  obtain ⟨od, ho, hl⟩ := lookIn_ns hns
  have lk : List.lookup f [(f, v)] = some v := by simp [List.lookup]
  obtain ⟨w', hw, rw'⟩ := RelO.some_of (v := v) (o := mA f) (by rw [← lk]; exact rel f)
  have N : PySem.W.InstAt s1.heap a _ C (some od) := ⟨g, rfl, rfl, ho⟩
  exact HandSPX.exc_get J.kIn N T.ga T.gt T.sB (PySem.W.findObj_own T.hd hn rfl (by rw [hl, hw])) (handed_of rw') ⟨v, H1, J.tok _, rw', q⟩
/-- repr of a list or a tuple of plain data, where no repr is under way -/
theorem call_reprD (hgd : X.A.guards = some []) (hu : X.A.units + 64 < cLine) : CallR X (.builtin "repr") (fun xs H Q => ∃ (a : Addr) (dat : PyData), xs = [.ref a] ∧ Dp X.K H (.ref a) dat ∧ dat.showable = true ∧ dat.hasDict = false ∧ dat.depth + 1 ≤ 64 ∧ dat.shown.length ≤ sizeLine ∧ Q (.str dat.shown) H) := by
  intro pins s σ H xs us Q I r h
  obtain ⟨a, dat, rfl, hd, hs, hn, hdp, hz, q⟩ := h
  obtain ⟨u, rfl, r1⟩ := vals1 r
  cases (show u = Value.ref a from r1)
  obtain ⟨as, rd⟩ := Dp.reads I dat (.ref a) (.ref a) hd rfl
  refine repr_of_reads' rd hs (fun z => by rw [hn] at z; cases z) hgd (by omega) (fun _ _ e => e) (fun h' tk t' k => ⟨.str dat.shown, H, ?_, ⟨_, rfl⟩, q⟩) hz
  exact I.kept k
end
end Q0
/-! ### 5. The law's two looks at an error -/
namespace Q0
open PySem PySem.Spec PyProof.Rows L2
abbrev sBuilt : Stmt := top 19
abbrev sKinds : Stmt := top 20
theorem scBuilt : FnScope ["_law_e", "_law_found", "_law_bit", "_law_one"] ["_law_e"] (defScope sBuilt) := ⟨rfl, rfl, rfl, by decide +kernel, rfl, by decide +kernel, by decide +kernel⟩
theorem scKinds : FnScope ["_law_e", "_law_found"] ["_law_e"] (defScope sKinds) := ⟨rfl, rfl, rfl, by decide +kernel, rfl, by decide +kernel, by decide +kernel⟩
structure Blt2 (mg : Str → Option Value) : Prop where
  isi : mg "isinstance" = none
  sum : mg "sum" = none
  zip : mg "zip" = none
  vE : mg "ValueError" = none
  iE : mg "IndexError" = none
  kE : mg "KeyError" = none
  lE : mg "LookupError" = none
  rE : mg "RuntimeError" = none
  aE : mg "ArithmeticError" = none
  oE : mg "OverflowError" = none
/-- the seven answers about built-in classes -/
structure Seven (K : PySem.W.Frag) (C : Addr) (bs : List Bool) : Prop where
  all : ∃ b1 b2 b3 b4 b5 b6 b7 : Bool, bs = [b1, b2, b3, b4, b5, b6, b7] ∧ PySem.W.kitOne K (.ref C) (.type "ValueError") = some b1 ∧ PySem.W.kitOne K (.ref C) (.type "IndexError") = some b2 ∧
    PySem.W.kitOne K (.ref C) (.type "KeyError") = some b3 ∧ PySem.W.kitOne K (.ref C) (.type "LookupError") = some b4 ∧ PySem.W.kitOne K (.ref C) (.type "RuntimeError") = some b5 ∧
    PySem.W.kitOne K (.ref C) (.type "ArithmeticError") = some b6 ∧ PySem.W.kitOne K (.ref C) (.type "OverflowError") = some b7
def weights : List Int := [1, 2, 4, 8, 16, 32, 64]
/-- the weights whose answer is yes -/
def picked (bs : List Bool) : List Int := ((weights.zip bs).filter (·.2)).map (·.1)
theorem picked_take {bs : List Bool} {i : Nat} {k : Int} {b : Bool} (h1 : weights[i]? = some k) (h2 : bs[i]? = some b) :
    (((weights.zip bs).take (i + 1)).filter (·.2)).map (·.1) = (((weights.zip bs).take i).filter (·.2)).map (·.1) ++ (if b = true then [k] else []) := by
  have hz : (weights.zip bs)[i]? = some (k, b) := by
    rw [List.getElem?_zip_eq_some]
    exact ⟨h1, h2⟩
  rw [List.take_add_one, hz]
  simp only [Option.toList, List.filter_append, List.map_append]
  cases b <;> rfl
def spBuilt (K : PySem.W.Frag) : Sp := fun vs H Q _ => ∃ (a C : Addr) (bs : List Bool), vs = [.ref a] ∧ ErrAt H a C ∧ IsC K C ∧ Seven K C bs ∧ ∀ H', Same H H' → Q (.int (picked bs).sum) H'
theorem errAt_same {H H' : Hp} {a C : Addr} (s : Same H H') (h : ErrAt H a C) : ErrAt H' a C := by
  rcases h with h | ⟨d, fs, h1, h2⟩
  · exact .inl (s _ _ h)
  · exact .inr ⟨d, fs, s _ _ h1, s _ _ h2⟩
theorem same_new {H : Hp} {p : Addr} {o : HO} (h : H p = none) : Same H (upd H p o) := fun b x e => by
  rw [upd_ne (ne_of_none e h)]
  exact e
/-- where the thirteen error classes stand -/
structure Cls13 (mg : Str → Option Value) (cs : Nat → Addr) : Prop where
  g0 : mg "InvalidSystem" = some (.ref (cs 0))
  g1 : mg "InvalidGraph" = some (.ref (cs 1))
  g2 : mg "InvalidRecipe" = some (.ref (cs 2))
  g3 : mg "InvalidBalance" = some (.ref (cs 3))
  g4 : mg "InvalidOperation" = some (.ref (cs 4))
  g5 : mg "InvalidEdit" = some (.ref (cs 5))
  g6 : mg "ParseError" = some (.ref (cs 6))
  g7 : mg "InvalidCommand" = some (.ref (cs 7))
  g8 : mg "InvalidNumber" = some (.ref (cs 8))
  g9 : mg "UnknownName" = some (.ref (cs 9))
  g10 : mg "TooMany" = some (.ref (cs 10))
  g11 : mg "NotEnough" = some (.ref (cs 11))
  g12 : mg "NothingToUndo" = some (.ref (cs 12))
/-- the thirteen answers about them -/
def Thirteen (K : PySem.W.Frag) (cs : Nat → Addr) (C : Addr) (bs : List Bool) : Prop := ∃ b0 b1 b2 b3 b4 b5 b6 b7 b8 b9 b10 b11 b12 : Bool, bs = [b0, b1, b2, b3, b4, b5, b6, b7, b8, b9, b10, b11, b12] ∧
  PySem.W.kitOne K (.ref C) (.ref (cs 0)) = some b0 ∧
  PySem.W.kitOne K (.ref C) (.ref (cs 1)) = some b1 ∧
  PySem.W.kitOne K (.ref C) (.ref (cs 2)) = some b2 ∧
  PySem.W.kitOne K (.ref C) (.ref (cs 3)) = some b3 ∧
  PySem.W.kitOne K (.ref C) (.ref (cs 4)) = some b4 ∧
  PySem.W.kitOne K (.ref C) (.ref (cs 5)) = some b5 ∧
  PySem.W.kitOne K (.ref C) (.ref (cs 6)) = some b6 ∧
  PySem.W.kitOne K (.ref C) (.ref (cs 7)) = some b7 ∧
  PySem.W.kitOne K (.ref C) (.ref (cs 8)) = some b8 ∧
  PySem.W.kitOne K (.ref C) (.ref (cs 9)) = some b9 ∧
  PySem.W.kitOne K (.ref C) (.ref (cs 10)) = some b10 ∧
  PySem.W.kitOne K (.ref C) (.ref (cs 11)) = some b11 ∧
  PySem.W.kitOne K (.ref C) (.ref (cs 12)) = some b12
def spKinds (K : PySem.W.Frag) (cs : Nat → Addr) : Sp := fun vs H Q _ => ∃ (a C : Addr) (bs : List Bool), vs = [.ref a] ∧ ErrAt H a C ∧ IsC K C ∧ Thirteen K cs C bs ∧
  ∀ H' p, Same H H' → H p = none → H' p = some (.lst (bs.map V.bl)) → Q (.ref p) H'
section
variable {P : Program} {w : World} {K : PySem.W.Frag} {mg : Str → Option Value} {base : Heap}
theorem ok_built {f : Addr} {fd : FuncData} (F : Fun K "_law_built_in" "_law_built_in" sBuilt f fd) (B : Blt2 mg) : FnOk P w K mg base CX0 1 f fd ["_law_e"] (spBuilt K) := by
  refine F.ok scBuilt (fun vs H Q E h => ?_) (fun cdv A outer s H vs Q E hr h => ?_)
  · obtain ⟨a, C, bs, rfl, _⟩ := h
    rfl
  · obtain ⟨a, C, bs, rfl, hE, hC, ⟨b1, b2, b3, b4, b5, b6, b7, rfl, e1, e2, e3, e4, e5, e6, e7⟩, k⟩ := h
    refine ⟨_, pss_cons (ps_set (i := 1) scBuilt.nd rfl (.inl rfl) (pe_lst
        (pa_cons (pe_callB call_isX (by rfl) B.isi (by decide +kernel) (pa_cons (pv 0) (pa_cons (pe_bltn (v := .ty "ValueError") (by rfl) B.vE (by decide +kernel) rfl) pa_nil)))
        (pa_cons (pe_callB call_isX (by rfl) B.isi (by decide +kernel) (pa_cons (pv 0) (pa_cons (pe_bltn (v := .ty "IndexError") (by rfl) B.iE (by decide +kernel) rfl) pa_nil)))
        (pa_cons (pe_callB call_isX (by rfl) B.isi (by decide +kernel) (pa_cons (pv 0) (pa_cons (pe_bltn (v := .ty "KeyError") (by rfl) B.kE (by decide +kernel) rfl) pa_nil)))
        (pa_cons (pe_callB call_isX (by rfl) B.isi (by decide +kernel) (pa_cons (pv 0) (pa_cons (pe_bltn (v := .ty "LookupError") (by rfl) B.lE (by decide +kernel) rfl) pa_nil))) pa_nil))))))
      (pss_cons (ps_set (i := 1) scBuilt.nd rfl (.inl rfl) (pe_op op_cat (pv 1) (pe_lst
        (pa_cons (pe_callB call_isX (by rfl) B.isi (by decide +kernel) (pa_cons (pv 0) (pa_cons (pe_bltn (v := .ty "RuntimeError") (by rfl) B.rE (by decide +kernel) rfl) pa_nil)))
        (pa_cons (pe_callB call_isX (by rfl) B.isi (by decide +kernel) (pa_cons (pv 0) (pa_cons (pe_bltn (v := .ty "ArithmeticError") (by rfl) B.aE (by decide +kernel) rfl) pa_nil)))
        (pa_cons (pe_callB call_isX (by rfl) B.isi (by decide +kernel) (pa_cons (pv 0) (pa_cons (pe_bltn (v := .ty "OverflowError") (by rfl) B.oE (by decide +kernel) rfl) pa_nil))) pa_nil))))))
      (pss_one (ps_ret (pe_callB (cr_sum rfl) (by rfl) B.sum (by decide +kernel) (pa_cons (pe_lc (own := [("_law_bit", 2), ("_law_one", 3)]) (g := gTup K 2 (gCons (gName 2) (gCons (gName 3) gNil))) (tt := tB (tVar 3)) (te := tVar 2) rfl scBuilt.nd
        (pi_zip (by rfl) B.zip (pa_cons (pe_lst (pa_cons pe_int (pa_cons pe_int (pa_cons pe_int (pa_cons pe_int (pa_cons pe_int (pa_cons pe_int (pa_cons pe_int pa_nil)))))))) (pa_cons (pv 1) pa_nil)))
        (blkOk_by (N := ["_law_e", "_law_found", "_law_bit", "_law_one"]) (sc := defScope sBuilt) (by decide +kernel))
        (fun _ _ _ _ _ => pg_tup rfl (pgs_cons (pg_name (i := 2) scBuilt.nd rfl (.inl rfl) (hf := .inr rfl)) (pgs_cons (pg_name (i := 3) scBuilt.nd rfl (.inl rfl) (hf := .inr rfl)) pgs_nil)))
        (fun _ _ _ _ _ => pts_one (pt_val (pv 3))) (fun _ _ _ _ _ => pv 2)) pa_nil))))), ?_⟩
    -- the first four
    refine ⟨_, rfl, a, C, _, _, b1, rfl, hE, hC, fun _ r => r, e1, _, rfl, a, C, _, _, b2, rfl, hE, hC, fun _ r => r, e2, _, rfl, a, C, _, _, b3, rfl, hE, hC, fun _ r => r, e3, _, rfl, a, C, _, _, b4, rfl, hE, hC, fun _ r => r, e4, (by show 4 ≤ sizeLine; decide), fun p hp => ?_⟩
    have s1 := same_new (o := .lst [.bl b1, .bl b2, .bl b3, .bl b4]) hp
    have hE1 := errAt_same s1 hE
    -- three more
    refine ⟨_, rfl, _, rfl, a, C, _, _, b5, rfl, hE1, hC, fun _ r => r, e5, _, rfl, a, C, _, _, b6, rfl, hE1, hC, fun _ r => r, e6, _, rfl, a, C, _, _, b7, rfl, hE1, hC, fun _ r => r, e7, (by show 3 ≤ sizeLine; decide), fun q hq => ?_⟩
    have nq : p ≠ q := fun z => by
      rw [← z, upd_same] at hq
      cases hq
    refine ⟨p, q, [.bl b1, .bl b2, .bl b3, .bl b4], [.bl b5, .bl b6, .bl b7], rfl, rfl, (by rw [upd_ne nq, upd_same]), upd_same, (by show 7 ≤ sizeLine; decide), fun r hr' => ?_⟩
    have s2 := s1.trans (same_new (o := .lst [.bl b5, .bl b6, .bl b7]) hq)
    have s3 := s2.trans (same_new (o := .lst ([.bl b1, .bl b2, .bl b3, .bl b4] ++ [.bl b5, .bl b6, .bl b7])) hr')
    -- sum([bit for bit, one in zip(weights, found) if one])
    refine ⟨by show 7 ≤ sizeLine; decide, fun g hg => ?_⟩
    have s4 := s3.trans (same_new (o := .lst [.int 1, .int 2, .int 4, .int 8, .int 16, .int 32, .int 64]) hg)
    have ngr : r ≠ g := fun z => by
      rw [← z, upd_same] at hg
      cases hg
    have sr : SqL K (upd (upd (upd (upd H p (.lst [.bl b1, .bl b2, .bl b3, .bl b4])) q (.lst [.bl b5, .bl b6, .bl b7])) r (.lst ([.bl b1, .bl b2, .bl b3, .bl b4] ++ [.bl b5, .bl b6, .bl b7]))) g (.lst [.int 1, .int 2, .int 4, .int 8, .int 16, .int 32, .int 64])) r ([b1, b2, b3, b4, b5, b6, b7].map V.bl) :=
      .inl (.inl (by rw [upd_ne ngr, upd_same]; rfl))
    have sg : SqL K (upd (upd (upd (upd H p (.lst [.bl b1, .bl b2, .bl b3, .bl b4])) q (.lst [.bl b5, .bl b6, .bl b7])) r (.lst ([.bl b1, .bl b2, .bl b3, .bl b4] ++ [.bl b5, .bl b6, .bl b7]))) g (.lst [.int 1, .int 2, .int 4, .int 8, .int 16, .int 32, .int 64])) g (weights.map V.int) := .inl (.inl upd_same)
    refine ⟨_, rfl, g, r, weights.map V.int, [b1, b2, b3, b4, b5, b6, b7].map V.bl, rfl, .inl (.inl upd_same), sr, fun D hD => ?_⟩
    generalize hBs : [b1, b2, b3, b4, b5, b6, b7] = bs at *
    have lenB : bs.length = 7 := by rw [← hBs]; rfl
    generalize upd (upd (upd (upd H p (.lst [.bl b1, .bl b2, .bl b3, .bl b4])) q (.lst [.bl b5, .bl b6, .bl b7])) r (.lst ([.bl b1, .bl b2, .bl b3, .bl b4] ++ [.bl b5, .bl b6, .bl b7]))) g (.lst [.int 1, .int 2, .int 4, .int 8, .int 16, .int 32, .int 64]) = H4 at *
    refine ⟨fun i m H' => i + m = 7 ∧ Same H4 H' ∧ H' D = some (.lst (((((weights.zip bs).take i).filter (·.2)).map (·.1)).map V.int)), ⟨7, rfl, same_new hD, upd_same⟩, fun i m H' hW => ?_⟩
    obtain ⟨em, sm, eD⟩ := hW
    have lW : weights.length = 7 := rfl
    by_cases hi : i < 7
    · have g1 : weights[i]? = some (weights[i]'(by omega)) := List.getElem?_eq_getElem _
      have g2 : bs[i]? = some (bs[i]'(by omega)) := List.getElem?_eq_getElem _
      have m1 : (weights.map V.int)[i]? = some (.int (weights[i]'(by omega))) := by rw [List.getElem?_map, g1]; rfl
      have m2 : (bs.map V.bl)[i]? = some (.bl (bs[i]'(by omega))) := by rw [List.getElem?_map, g2]; rfl
      refine .inr ⟨⟨_, _, _, _, sm.seq sg, sm.seq sr, m1, m2⟩, fun H2 => Same H4 H2 ∧ H2 D = some (.lst (((((weights.zip bs).take (i + 1)).filter (·.2)).map (·.1)).map V.int)), fun H2 hN => ⟨m - 1, by omega, by omega, hN.1, hN.2⟩, fun x H2 hy => ?_⟩
      obtain ⟨T, x1, x2, rfl, nT, rfl, f1, f2⟩ := hy
      have ex1 := Option.some.inj ((f1 _ (sm.seq sg)).symm.trans m1)
      have ex2 := Option.some.inj ((f2 _ (sm.seq sr)).symm.trans m2)
      subst ex1 ex2
      have nDT : D ≠ T := ne_of_none eD nT
      refine ⟨T, _, rfl, .inl (.inl upd_same), rfl, _, _, rfl, _, [], rfl, rfl, rfl, _, rfl, _, rfl, ?_⟩
      have step := picked_take g1 g2
      cases hb : bs[i]'(by omega) with
      | true =>
        rw [hb] at step
        rw [if_pos rfl] at step
        refine iteT ⟨_, rfl, _, (by rw [upd_ne nDT]; exact eD), ?_, fun b z e => ?_, ?_⟩
        · rw [List.length_map, List.length_map]
          refine Nat.lt_of_le_of_lt (List.length_filter_le _ _) (small1000 ?_)
          rw [List.length_take]
          omega
        · rw [upd_ne (ne_of_none e hD), upd_ne (ne_of_none (sm _ _ e) nT)]
          exact sm _ _ e
        · rw [upd_same, step, List.map_append]
          rfl
      | false =>
        rw [hb] at step
        refine iteF ⟨sm.trans (same_new nT), ?_⟩
        rw [upd_ne nDT, step, if_neg Bool.false_ne_true, List.append_nil]
        exact eD
    · refine .inl ⟨⟨_, _, sm.seq sg, sm.seq sr, .inl ?_⟩, ?_⟩
      · rw [List.length_map, lW]
        omega
      · have ei : (weights.zip bs).take i = weights.zip bs := List.take_of_length_le (by rw [List.length_zip, lW, lenB]; omega)
        rw [ei] at eD
        exact ⟨D, picked bs, rfl, .inl (.inl eD), k H' (s4.trans sm)⟩
theorem ok_kinds {f : Addr} {fd : FuncData} {cs : Nat → Addr} (F : Fun K "_law_kinds" "_law_kinds" sKinds f fd) (B : Blt2 mg) (G : Cls13 mg cs) : FnOk P w K mg base CX0 1 f fd ["_law_e"] (spKinds K cs) := by
  refine F.ok scKinds (fun vs H Q E h => ?_) (fun cdv A outer s H vs Q E hr h => ?_)
  · obtain ⟨a, C, bs, rfl, _⟩ := h
    rfl
  · obtain ⟨a, C, bs, rfl, hE, hC, ⟨b0, b1, b2, b3, b4, b5, b6, b7, b8, b9, b10, b11, b12, rfl, e0, e1, e2, e3, e4, e5, e6, e7, e8, e9, e10, e11, e12⟩, k⟩ := h
    refine ⟨_, pss_cons (ps_set (i := 1) scKinds.nd rfl (.inl rfl) (pe_lst (pa_cons (pe_callB call_isX (by rfl) B.isi (by decide +kernel) (pa_cons (pv 0) (pa_cons (pe_glob (v := .ref (cs 0)) (by rfl) G.g0 rfl) pa_nil))) (pa_cons (pe_callB call_isX (by rfl) B.isi (by decide +kernel) (pa_cons (pv 0) (pa_cons (pe_glob (v := .ref (cs 1)) (by rfl) G.g1 rfl) pa_nil))) (pa_cons (pe_callB call_isX (by rfl) B.isi (by decide +kernel) (pa_cons (pv 0) (pa_cons (pe_glob (v := .ref (cs 2)) (by rfl) G.g2 rfl) pa_nil))) pa_nil)))))
      (pss_cons (ps_set (i := 1) scKinds.nd rfl (.inl rfl) (pe_op op_cat (pv 1) (pe_lst (pa_cons (pe_callB call_isX (by rfl) B.isi (by decide +kernel) (pa_cons (pv 0) (pa_cons (pe_glob (v := .ref (cs 3)) (by rfl) G.g3 rfl) pa_nil))) (pa_cons (pe_callB call_isX (by rfl) B.isi (by decide +kernel) (pa_cons (pv 0) (pa_cons (pe_glob (v := .ref (cs 4)) (by rfl) G.g4 rfl) pa_nil))) (pa_cons (pe_callB call_isX (by rfl) B.isi (by decide +kernel) (pa_cons (pv 0) (pa_cons (pe_glob (v := .ref (cs 5)) (by rfl) G.g5 rfl) pa_nil))) pa_nil))))))
      (pss_cons (ps_set (i := 1) scKinds.nd rfl (.inl rfl) (pe_op op_cat (pv 1) (pe_lst (pa_cons (pe_callB call_isX (by rfl) B.isi (by decide +kernel) (pa_cons (pv 0) (pa_cons (pe_glob (v := .ref (cs 6)) (by rfl) G.g6 rfl) pa_nil))) (pa_cons (pe_callB call_isX (by rfl) B.isi (by decide +kernel) (pa_cons (pv 0) (pa_cons (pe_glob (v := .ref (cs 7)) (by rfl) G.g7 rfl) pa_nil))) (pa_cons (pe_callB call_isX (by rfl) B.isi (by decide +kernel) (pa_cons (pv 0) (pa_cons (pe_glob (v := .ref (cs 8)) (by rfl) G.g8 rfl) pa_nil))) pa_nil))))))
      (pss_cons (ps_set (i := 1) scKinds.nd rfl (.inl rfl) (pe_op op_cat (pv 1) (pe_lst (pa_cons (pe_callB call_isX (by rfl) B.isi (by decide +kernel) (pa_cons (pv 0) (pa_cons (pe_glob (v := .ref (cs 9)) (by rfl) G.g9 rfl) pa_nil))) (pa_cons (pe_callB call_isX (by rfl) B.isi (by decide +kernel) (pa_cons (pv 0) (pa_cons (pe_glob (v := .ref (cs 10)) (by rfl) G.g10 rfl) pa_nil))) (pa_cons (pe_callB call_isX (by rfl) B.isi (by decide +kernel) (pa_cons (pv 0) (pa_cons (pe_glob (v := .ref (cs 11)) (by rfl) G.g11 rfl) pa_nil))) pa_nil))))))
      (pss_one (ps_ret (pe_op op_cat (pv 1) (pe_lst (pa_cons (pe_callB call_isX (by rfl) B.isi (by decide +kernel) (pa_cons (pv 0) (pa_cons (pe_glob (v := .ref (cs 12)) (by rfl) G.g12 rfl) pa_nil))) pa_nil)))))))), ?_⟩
    refine ⟨_, rfl, a, C, _, _, b0, rfl, hE, hC, fun _ r => r, e0, _, rfl, a, C, _, _, b1, rfl, hE, hC, fun _ r => r, e1, _, rfl, a, C, _, _, b2, rfl, hE, hC, fun _ r => r, e2, (by show 3 ≤ sizeLine; decide), fun p0 n0 => ?_⟩
    have s0 := same_new (o := .lst [.bl b0, .bl b1, .bl b2]) n0
    refine ⟨_, rfl, _, rfl, a, C, _, _, b3, rfl, (errAt_same s0 hE), hC, fun _ r => r, e3, _, rfl, a, C, _, _, b4, rfl, (errAt_same s0 hE), hC, fun _ r => r, e4, _, rfl, a, C, _, _, b5, rfl, (errAt_same s0 hE), hC, fun _ r => r, e5, (by show 3 ≤ sizeLine; decide), fun q1 nq1 => ?_⟩
    have t1 := s0.trans (same_new (o := .lst [.bl b3, .bl b4, .bl b5]) nq1)
    have d1 : p0 ≠ q1 := fun z => by
      rw [← z, upd_same] at nq1
      cases nq1
    refine ⟨p0, q1, [.bl b0, .bl b1, .bl b2], [.bl b3, .bl b4, .bl b5], rfl, rfl, (by rw [upd_ne d1, upd_same]; all_goals rfl), upd_same, (by show 6 ≤ sizeLine; decide), fun p1 n1 => ?_⟩
    have s1 := t1.trans (same_new (o := .lst ([.bl b0, .bl b1, .bl b2] ++ [.bl b3, .bl b4, .bl b5])) n1)
    refine ⟨_, rfl, _, rfl, a, C, _, _, b6, rfl, (errAt_same s1 hE), hC, fun _ r => r, e6, _, rfl, a, C, _, _, b7, rfl, (errAt_same s1 hE), hC, fun _ r => r, e7, _, rfl, a, C, _, _, b8, rfl, (errAt_same s1 hE), hC, fun _ r => r, e8, (by show 3 ≤ sizeLine; decide), fun q2 nq2 => ?_⟩
    have t2 := s1.trans (same_new (o := .lst [.bl b6, .bl b7, .bl b8]) nq2)
    have d2 : p1 ≠ q2 := fun z => by
      rw [← z, upd_same] at nq2
      cases nq2
    refine ⟨p1, q2, [.bl b0, .bl b1, .bl b2, .bl b3, .bl b4, .bl b5], [.bl b6, .bl b7, .bl b8], rfl, rfl, (by rw [upd_ne d2, upd_same]; all_goals rfl), upd_same, (by show 9 ≤ sizeLine; decide), fun p2 n2 => ?_⟩
    have s2 := t2.trans (same_new (o := .lst ([.bl b0, .bl b1, .bl b2, .bl b3, .bl b4, .bl b5] ++ [.bl b6, .bl b7, .bl b8])) n2)
    refine ⟨_, rfl, _, rfl, a, C, _, _, b9, rfl, (errAt_same s2 hE), hC, fun _ r => r, e9, _, rfl, a, C, _, _, b10, rfl, (errAt_same s2 hE), hC, fun _ r => r, e10, _, rfl, a, C, _, _, b11, rfl, (errAt_same s2 hE), hC, fun _ r => r, e11, (by show 3 ≤ sizeLine; decide), fun q3 nq3 => ?_⟩
    have t3 := s2.trans (same_new (o := .lst [.bl b9, .bl b10, .bl b11]) nq3)
    have d3 : p2 ≠ q3 := fun z => by
      rw [← z, upd_same] at nq3
      cases nq3
    refine ⟨p2, q3, [.bl b0, .bl b1, .bl b2, .bl b3, .bl b4, .bl b5, .bl b6, .bl b7, .bl b8], [.bl b9, .bl b10, .bl b11], rfl, rfl, (by rw [upd_ne d3, upd_same]; all_goals rfl), upd_same, (by show 12 ≤ sizeLine; decide), fun p3 n3 => ?_⟩
    have s3 := t3.trans (same_new (o := .lst ([.bl b0, .bl b1, .bl b2, .bl b3, .bl b4, .bl b5, .bl b6, .bl b7, .bl b8] ++ [.bl b9, .bl b10, .bl b11])) n3)
    refine ⟨_, rfl, _, rfl, a, C, _, _, b12, rfl, (errAt_same s3 hE), hC, fun _ r => r, e12, (by show 1 ≤ sizeLine; decide), fun q4 nq4 => ?_⟩
    have t4 := s3.trans (same_new (o := .lst [.bl b12]) nq4)
    have d4 : p3 ≠ q4 := fun z => by
      rw [← z, upd_same] at nq4
      cases nq4
    refine ⟨p3, q4, [.bl b0, .bl b1, .bl b2, .bl b3, .bl b4, .bl b5, .bl b6, .bl b7, .bl b8, .bl b9, .bl b10, .bl b11], [.bl b12], rfl, rfl, (by rw [upd_ne d4, upd_same]; all_goals rfl), upd_same, (by show 13 ≤ sizeLine; decide), fun p4 n4 => ?_⟩
    have s4 := t4.trans (same_new (o := .lst ([.bl b0, .bl b1, .bl b2, .bl b3, .bl b4, .bl b5, .bl b6, .bl b7, .bl b8, .bl b9, .bl b10, .bl b11] ++ [.bl b12])) n4)
    refine k _ p4 s4 ?_ ?_
    · exact t4.free n4
    · rw [upd_same]
      rfl
end
end Q0
/-! ### 6. The errors with a message -/
namespace Q0
open PySem PySem.Spec PyProof.Rows L2
abbrev sMess : Stmt := top 21
abbrev mNames : List Str := ["_law_words", "_law_some", "_law_at", "_law_e", "_law_one"]
theorem scMess : FnScope mNames ["_law_words"] (defScope sMess) := ⟨rfl, rfl, rfl, by decide +kernel, rfl, by decide +kernel, by decide +kernel⟩
abbrev veTail : List Value := [.type "ValueError", .type "Exception", .type "BaseException", .type "object"]
/-- a class over LoopError, or LoopError: made with a message -/
structure MsgC (K : PySem.W.Frag) (C : Addr) : Prop where
  q : PySem.W.excIn K C veTail "ValueError.__new__" = true
  kp : PySem.W.keepIn K (.ref C) = true
  is : IsC K C
  sv : Seven K C [true, false, false, false, false, false, false]
/-- answers: the i-th class alone (of thirteen) -/
def unit13 (i : Nat) : List Bool := (List.range 13).map fun j => decide (j = i)
structure Msgs (K : PySem.W.Frag) (mg : Str → Option Value) (cs : Nat → Addr) (CL : Addr) : Prop where
  gl : mg "LoopError" = some (.ref CL)
  each : ∀ i, i < 8 → MsgC K (cs i) ∧ Thirteen K cs (cs i) (unit13 i) ∧ PySem.W.kitOne K (.ref (cs i)) (.ref CL) = some true
  loop : MsgC K CL ∧ Thirteen K cs CL (unit13 13)
structure Blt3 (mg : Str → Option Value) : Prop where
  enum : mg "enumerate" = none
  range : mg "range" = none
/-- lists of bools as data -/
def bData (bs : List Bool) : PyData := .list (bs.map .bool)
theorem dpAll_bools {K : PySem.W.Frag} {H : Hp} : ∀ bs : List Bool, DpAll K H (bs.map V.bl) (bs.map PyData.bool)
  | [] => .nil
  | b :: bs => .cons (.bl b) (dpAll_bools bs)
theorem dp_bools {K : PySem.W.Frag} {H : Hp} {p : Addr} {bs : List Bool} (h : H p = some (.lst (bs.map V.bl))) : Dp K H (.ref p) (bData bs) := .lst (.inl (.inl h)) (dpAll_bools bs)
theorem shaped_unit : ∀ i, i < 14 → SeqAt.shaped (bData (unit13 i)) = true := by decide +kernel
theorem eqv_unit : ∀ i, i < 14 → PyData.eqv (bData (unit13 i)) (bData (unit13 i)) = true := by decide +kernel
theorem pass_eq {x y : V} {A B : Prop} (h : x = y) (b : B) : if (!decide (x = y)) = true then A else B := by
  rw [decide_eq_true h]
  exact b
theorem if_true_eq {x y : V} {A B : Prop} (h : x = y) (a : A) : if decide (x = y) = true then A else B := by
  rw [decide_eq_true h]
  exact a
theorem yes_if {σ : L2.St} {H : Hp} {A B : Hp → Prop} (a : A H) : tYes σ H (fun b H3 => if b = true then A H3 else B H3) := by
  show (if true = true then A H else B H)
  rw [if_pos rfl]
  exact a
theorem pass_not {c : Bool} {A B : Prop} (h : c = true) (b : B) : if (!c) = true then A else B := by
  rw [h]
  exact b
/-- [one == at for one in range(13)] as far as j -/
def upTo (i j : Nat) : List Bool := (List.range j).map fun t => decide (t = i)
theorem upTo_succ (i j : Nat) : upTo i (j + 1) = upTo i j ++ [decide (j = i)] := by
  unfold upTo
  rw [List.range_succ, List.map_append]
  rfl
theorem seq_stays {K : PySem.W.Frag} {r : Addr} {xs : List V} {H1 H0 : Hp} (_ : Same H1 H0) (h : H0 r = some (.lst xs)) {H' : Hp} (sm : Same H0 H') : SqL K H' r xs := .inl (.inl (sm r _ h))
theorem same_refl {H : Hp} : Same H H := fun _ _ e => e
def spMess : Sp := fun vs H Q _ => ∃ z : Str, vs = [.str z] ∧ ∀ H', Same H H' → Q (.bl true) H'
section
variable {P : Program} {w : World} {K : PySem.W.Frag} {mg : Str → Option Value} {base : Heap}
theorem ok_mess {f fB fK CL : Addr} {fd fdB fdK : FuncData} {cs : Nat → Addr} (F : Fun K "_law_messages_right" "_law_messages_right" sMess f fd) (FB : Fun K "_law_built_in" "_law_built_in" sBuilt fB fdB) (bB : Binds K fdB ["_law_e"] []) (gB : mg "_law_built_in" = some (.ref fB))
    (FK : Fun K "_law_kinds" "_law_kinds" sKinds fK fdK) (bK : Binds K fdK ["_law_e"] []) (gK : mg "_law_kinds" = some (.ref fK)) (B : Blt2 mg) (B3 : Blt3 mg) (G : Cls13 mg cs) (M : Msgs K mg cs CL) : FnOk P w K mg base CX0 2 f fd ["_law_words"] spMess := by
  have GB : FnOk P w K mg base CX0 1 fB fdB ["_law_e"] (spBuilt K) := ok_built FB B
  have GK : FnOk P w K mg base CX0 1 fK fdK ["_law_e"] (spKinds K cs) := ok_kinds FK B G
  refine F.ok scMess (fun vs H Q E h => ?_) (fun cdv A outer s H vs Q E hr h => ?_)
  · obtain ⟨z, rfl, _⟩ := h
    rfl
  · obtain ⟨z, rfl, k⟩ := h
    have hu : A.units + 3 + 64 < cLine := by
      have := hr.un
      have e : (A.deeper (envOfC "_law_messages_right" (defScope sMess) s.heap.objs.size f cdv)).units = A.units + 3 := rfl
      omega
    refine ⟨_, pss_cons (ps_set (i := 1) scMess.nd rfl (.inl rfl) (pe_lst
        (pa_cons (pe_exc1 PySem.F.excBase_ValueError (M.each 0 (by decide)).1.q G.g0 (M.each 0 (by decide)).1.kp (by rfl) (pv 0))
        (pa_cons (pe_exc1 PySem.F.excBase_ValueError (M.each 1 (by decide)).1.q G.g1 (M.each 1 (by decide)).1.kp (by rfl) (pv 0))
        (pa_cons (pe_exc1 PySem.F.excBase_ValueError (M.each 2 (by decide)).1.q G.g2 (M.each 2 (by decide)).1.kp (by rfl) (pv 0))
        (pa_cons (pe_exc1 PySem.F.excBase_ValueError (M.each 3 (by decide)).1.q G.g3 (M.each 3 (by decide)).1.kp (by rfl) (pv 0)) pa_nil))))))
      (pss_cons (ps_set (i := 1) scMess.nd rfl (.inl rfl) (pe_op op_cat (pv 1) (pe_lst
        (pa_cons (pe_exc1 PySem.F.excBase_ValueError (M.each 4 (by decide)).1.q G.g4 (M.each 4 (by decide)).1.kp (by rfl) (pv 0))
        (pa_cons (pe_exc1 PySem.F.excBase_ValueError (M.each 5 (by decide)).1.q G.g5 (M.each 5 (by decide)).1.kp (by rfl) (pv 0))
        (pa_cons (pe_exc1 PySem.F.excBase_ValueError (M.each 6 (by decide)).1.q G.g6 (M.each 6 (by decide)).1.kp (by rfl) (pv 0))
        (pa_cons (pe_exc1 PySem.F.excBase_ValueError (M.each 7 (by decide)).1.q G.g7 (M.each 7 (by decide)).1.kp (by rfl) (pv 0)) pa_nil)))))))
      (pss_cons (ps_for PassesOwn.never rfl (pi_enum (by rfl) B3.enum (pa_cons (pv 1) pa_nil))
        (pg_tup rfl (pgs_cons (pg_name (i := 2) scMess.nd rfl (.inr rfl)) (pgs_cons (pg_name (i := 3) scMess.nd rfl (.inl rfl)) pgs_nil)))
        (pss_one (ps_if (PW.pt (pw_or (pt_not (pt_val (pe_callB call_isX (by rfl) B.isi (by decide +kernel) (pa_cons (pv 3) (pa_cons (pe_glob (v := .ref CL) (by rfl) M.gl rfl) pa_nil)))))
            (pw_or (pt_cmpR op_ne (pe_call GB hr (by rfl) gB FB.kp bB .nil pass0 (pa_cons (pv 3) pa_nil)) pe_int (nomark _))
            (pw_or1 (pt_cmpR (op_neD hu) (pe_call GK hr (by rfl) gK FK.kp bK .nil pass0 (pa_cons (pv 3) pa_nil))
              (pe_lc (own := [("_law_one", 4)]) (g := gName 4) (tt := tYes) (te := tOp rEq (tVar 4) (tVar 2)) rfl scMess.nd (pi_range1 (by rfl) B3.range (pa_cons pe_int pa_nil)) (blkOk_by (N := mNames) (sc := defScope sMess) (by decide +kernel))
                (fun _ _ _ _ _ => pg_name (i := 4) scMess.nd rfl (.inl rfl) (hf := .inr rfl)) (fun _ _ _ _ _ => pts_nil) (fun _ _ _ _ _ => pe_cmpR op_eq (pv 4) (pv 2) (nomark _))) (nomark _))))))
          (pss_one (ps_ret pe_bl)) pss_nil)))
      (pss_one (ps_ret (pe_and (pe_cmpR op_eq (pe_call GB hr (by rfl) gB FB.kp bB .nil pass0 (pa_cons (pe_exc1 PySem.F.excBase_ValueError M.loop.1.q M.gl M.loop.1.kp (by rfl) (pv 0)) pa_nil)) pe_int (nomark _))
        (pe_one (pe_cmpR op_notIn_seq pe_bl (pe_call GK hr (by rfl) gK FK.kp bK .nil pass0 (pa_cons (pe_exc1 PySem.F.excBase_ValueError M.loop.1.q M.gl M.loop.1.kp (by rfl) (pv 0)) pa_nil)) (by rfl)))))))), ?_⟩
    refine ⟨_, rfl, fun a0 n0 => ⟨_, rfl, fun a1 n1 => ⟨_, rfl, fun a2 n2 => ⟨_, rfl, fun a3 n3 => ⟨by show 4 ≤ sizeLine; decide, fun p np => ?_⟩⟩⟩⟩⟩
    refine ⟨_, rfl, _, rfl, fun a4 n4 => ⟨_, rfl, fun a5 n5 => ⟨_, rfl, fun a6 n6 => ⟨_, rfl, fun a7 n7 => ⟨by show 4 ≤ sizeLine; decide, fun q nq => ?_⟩⟩⟩⟩⟩
    have S0 := same_new (o := ExO (.ref (cs 0)) a0) n0
    have S1 := same_new (o := ExO (.ref (cs 1)) a1) n1
    have S2 := same_new (o := ExO (.ref (cs 2)) a2) n2
    have S3 := same_new (o := ExO (.ref (cs 3)) a3) n3
    have S4 := same_new (o := .lst [.ref a0, .ref a1, .ref a2, .ref a3]) np
    have S5 := same_new (o := ExO (.ref (cs 4)) a4) n4
    have S6 := same_new (o := ExO (.ref (cs 5)) a5) n5
    have S7 := same_new (o := ExO (.ref (cs 6)) a6) n6
    have S8 := same_new (o := ExO (.ref (cs 7)) a7) n7
    have S9 := same_new (o := .lst [.ref a4, .ref a5, .ref a6, .ref a7]) nq
    refine ⟨p, q, _, _, rfl, rfl, (S5.trans (S6.trans (S7.trans (S8.trans S9)))) p _ upd_same, upd_same, (by show 8 ≤ sizeLine; decide), fun r nr => ?_⟩
    have S10 := same_new (o := .lst ([.ref a0, .ref a1, .ref a2, .ref a3] ++ [.ref a4, .ref a5, .ref a6, .ref a7])) nr
    have T9 := S10
    have T8 := S9.trans T9
    have T7 := S8.trans T8
    have T6 := S7.trans T7
    have T5 := S6.trans T6
    have T4 := S5.trans T5
    have T3 := S4.trans T4
    have T2 := S3.trans T3
    have T1 := S2.trans T2
    have T0 := S1.trans T1
    have hAll := S0.trans T0
    have E0 : ErrAt _ a0 (cs 0) := errAt_same T0 (.inl upd_same)
    have E1 : ErrAt _ a1 (cs 1) := errAt_same T1 (.inl upd_same)
    have E2 : ErrAt _ a2 (cs 2) := errAt_same T2 (.inl upd_same)
    have E3 : ErrAt _ a3 (cs 3) := errAt_same T3 (.inl upd_same)
    have E4 : ErrAt _ a4 (cs 4) := errAt_same T5 (.inl upd_same)
    have E5 : ErrAt _ a5 (cs 5) := errAt_same T6 (.inl upd_same)
    have E6 : ErrAt _ a6 (cs 6) := errAt_same T7 (.inl upd_same)
    have E7 : ErrAt _ a7 (cs 7) := errAt_same T8 (.inl upd_same)
    refine ⟨_, rfl, r, _, rfl, .inl (.inl upd_same), ?_⟩
    have sqr := fun (H' : Hp) => seq_stays (K := K) (r := r) (H' := H') T0 upd_same
    have errs : ∀ i, i < 8 → ∃ a, [V.ref a0, .ref a1, .ref a2, .ref a3, .ref a4, .ref a5, .ref a6, .ref a7][i]? = some (.ref a) ∧ ErrAt _ a (cs i) := fun i hi => by
      match i, hi with
      | 0, _ => exact ⟨a0, rfl, E0⟩
      | 1, _ => exact ⟨a1, rfl, E1⟩
      | 2, _ => exact ⟨a2, rfl, E2⟩
      | 3, _ => exact ⟨a3, rfl, E3⟩
      | 4, _ => exact ⟨a4, rfl, E4⟩
      | 5, _ => exact ⟨a5, rfl, E5⟩
      | 6, _ => exact ⟨a6, rfl, E6⟩
      | 7, _ => exact ⟨a7, rfl, E7⟩
    refine ⟨fun i m σ H' => ∃ y2 y3 y4, σ = [some (.str z), some (.ref r), y2, y3, y4] ∧ i + m = 8 ∧ Same _ H', ⟨8, none, none, none, rfl, rfl, same_refl⟩, fun i m σ H' hW => ?_⟩
    obtain ⟨y2, y3, y4, rfl, em, sm⟩ := hW
    have hS := sqr H' sm
    by_cases hi : i < 8
    · obtain ⟨a, ga, hEa⟩ := errs i hi
      obtain ⟨mc, th, kl⟩ := M.each i hi
      refine .inr ⟨⟨_, _, hS, ga⟩, fun σ' H2 => ∃ y2 y3 y4, σ' = [some (.str z), some (.ref r), y2, y3, y4] ∧ Same H' H2, fun σ' H2 hN => ?_, fun v H2 hy => ?_⟩
      · obtain ⟨w2, w3, w4, e, sm'⟩ := hN
        exact ⟨m - 1, by omega, w2, w3, w4, e, by omega, sm.trans sm'⟩
      · obtain ⟨T, x, rfl, nT, rfl, fx⟩ := hy
        have ex := Option.some.inj ((fx _ hS).symm.trans ga)
        subst ex
        have s1 := same_new (o := .tup [.int (i : Nat), .ref a]) nT
        have E1 := errAt_same s1 (errAt_same sm hEa)
        refine ⟨T, _, rfl, .inl (.inl upd_same), rfl, _, _, rfl, _, [], rfl, rfl, ?_⟩
        -- isinstance(e, LoopError)
        refine ⟨_, rfl, a, cs i, _, _, true, rfl, E1, mc.is, fun _ r => r, kl, true, rfl, iteF ?_⟩
        -- built_in(e) != 1
        refine ⟨_, rfl, a, cs i, _, rfl, E1, mc.is, mc.sv, fun H3 s3 => ⟨rfl, _, rfl, pass_eq rfl ?_⟩⟩
        -- kinds(e) != ..
        refine ⟨_, rfl, a, cs i, _, rfl, errAt_same s3 E1, mc.is, th, fun H4 k4 s4 n4 e4 => ⟨13, rfl, by decide, by decide, fun D nD => ?_⟩⟩
        refine ⟨fun j m' H5 => j + m' = 13 ∧ Same H4 H5 ∧ H5 D = some (.lst ((upTo i j).map V.bl)), ⟨13, rfl, same_new nD, upd_same⟩, fun j m' H5 hV => ?_⟩
        obtain ⟨em', sm5, eD⟩ := hV
        by_cases hj : j < 13
        · refine .inr ⟨hj, fun H6 => Same H4 H6 ∧ H6 D = some (.lst ((upTo i (j + 1)).map V.bl)), fun H6 hN => ⟨m' - 1, by omega, by omega, hN.1, hN.2⟩, fun x H6 hx => ?_⟩
          obtain ⟨rfl, rfl⟩ := hx
          refine ⟨rfl, yes_if ?_⟩
          refine ⟨_, rfl, _, rfl, rfl, _, eD, ?_, fun b o e => ?_, ?_⟩
          · rw [List.length_map]
            refine small1000 ?_
            unfold upTo
            rw [List.length_map, List.length_range]
            omega
          · rw [upd_ne (ne_of_none e nD)]
            exact sm5 _ _ e
          · rw [upd_same, upTo_succ, List.map_append]
            have ev : (decide (V.int (0 + (j : Int)) = V.int (i : Int))) = decide (j = i) := by
              by_cases c : j = i
              · rw [decide_eq_true c, c]
                exact decide_eq_true (by rw [Int.zero_add])
              · rw [decide_eq_false c]
                refine decide_eq_false fun z => c ?_
                have z2 := V.int.inj z
                omega
            show some (HO.lst (_ ++ [V.bl (decide (V.int (0 + (j : Int)) = V.int (i : Int)))])) = _
            rw [ev]
            rfl
        · have ej : j = 13 := by
            have : j ≤ 13 := by omega
            omega
          subst ej
          refine .inl ⟨Nat.le_refl _, bData (unit13 i), bData (unit13 i), dp_bools (sm5 _ _ e4), dp_bools eD, shaped_unit i (by omega), shaped_unit i (by omega), _, rfl, ?_⟩
          refine pass_not (eqv_unit i (by omega)) ?_
          exact ⟨_, _, _, rfl, s1.trans (s3.trans (s4.trans sm5))⟩
    · refine .inl ⟨⟨_, hS, by show 8 ≤ i; omega⟩, ?_⟩
      -- return built_in(LoopError(words)) == 1 and True not in kinds(LoopError(words))
      refine ⟨_, rfl, fun b0 m0 => ⟨b0, CL, _, rfl, .inl upd_same, M.loop.1.is, M.loop.1.sv, fun H5 s5 => ⟨rfl, _, rfl, if_true_eq rfl ?_⟩⟩⟩
      refine ⟨_, rfl, fun b1 m1 => ⟨b1, CL, _, rfl, .inl upd_same, M.loop.1.is, M.loop.2, fun H6 kp s6 n6 e6 => ⟨kp, _, rfl, .inl (.inl (.inl e6)), rfl, by decide +kernel, ?_⟩⟩⟩
      have eb : (if true = true then !inV (V.bl true) ((unit13 13).map V.bl) else inV (V.bl true) ((unit13 13).map V.bl)) = true := by decide +kernel
      rw [eb]
      exact k H6 (hAll.trans (sm.trans ((same_new m0).trans (s5.trans ((same_new m1).trans s6)))))
end
end Q0
/-! ### 7. Defs of which is known that no repr is under way when they are called -/
namespace Q0
open PySem PySem.Spec PyProof.Rows L2
def NoRepr (A : Around) : Prop := A.guards = some []
theorem noRepr_deeper {A : Around} {e : Env} (h : NoRepr A) : NoRepr (A.deeper e) := by
  unfold NoRepr at h ⊢
  first
    | exact h
    | (show pushGuards _ A.guards = some []; rw [h]; rfl)
/-- the promise of a def at f, where no repr is under way -/
structure FnG (P : Program) (w : World) (K : PySem.W.Frag) (mg : Str → Option Value) (base : Heap) (k : Nat) (f : Addr) (fd : FuncData) (ps : List Str) (sp : Sp) : Prop where
  len : ∀ vs H Q E, sp vs H Q E → vs.length = ps.length
  go : ∀ (A : Around) (outer : List Env) (s : Shared) (H : Hp) (args : Args) (us : List Value) (vs : List V) (Q : VK) (E : XK), Room k A → NoRepr A → Env0 P w K mg base A outer s H → BindsTo s fd args (ps.zip us) → Vals vs us → sp vs H Q E →
    codeAny (model P w) A (.call (.ref f) args) (CR L2.CX0 outer P w H s Q E) s
theorem Fun_okG {P : Program} {w : World} {K : PySem.W.Frag} {mg : Str → Option Value} {base : Heap} {x qual : Str} {st : Stmt} {f : Addr} {fd : FuncData} {N ps : List Str} {k : Nat} {sp : Sp}
    (F : Fun K x qual st f fd) (S : FnScope N ps (defScope st)) (len : ∀ vs H Q E, sp vs H Q E → vs.length = ps.length)
    (body : ∀ (cdv : Value) (A : Around) (outer : List Env) (s : Shared) (H : Hp) (vs : List V) (Q : VK) (E : XK), Room k (A.deeper (envOfC qual (defScope st) s.heap.objs.size f cdv)) → NoRepr A → sp vs H Q E →
      ∃ t, PSs (cxOf L2.CX0 P w K mg base N qual (defScope st) f cdv A outer s H E).nox (defBody st) t ∧ t { nx := fun _ H' => Q .non H', rt := Q } (start N vs) H) :
    FnG P w K mg base (k + 1) f fd ps sp := by
  obtain ⟨oc, od, kV, doc, pm, an, cdv, ct, osl, rfl, lk, hcd⟩ := F.ex
  refine ⟨len, fun A outer s H args us vs Q E room hng env0 hbind rv hsp => ?_⟩
  have nvs := len _ _ _ _ hsp
  have inK : K.In s.heap := env0.mod.kin.keeps fun b o e => (env0.bs b o e).1
  have nolim : s.heap.NoLimit := env0.mod.nolimit.keeps fun b o e => (env0.bs b o e).1
  have kinds : ∀ y ∈ ps.zip us, (defScope st).names.lookup y.1 = some .local ∨ ((defScope st).names.lookup y.1 = some .cell ∧ ((cellsFrom (s.heap.objs.size + 1) (defScope st).names []).lookup y.1).isSome = true) := fun ⟨n, v⟩ hy => by
    rcases S.par n (List.of_mem_zip hy).1 with c | c
    · exact Or.inl c
    · exact Or.inr ⟨c, PySem.W.cellsFrom_some _ _ _ (Or.inl c)⟩
  refine codeAny_call_function room.depth (inK _ _ lk) rfl S.co S.gen rfl (PySem.W.codeRec_of inK hcd) (hbind _ _ _ _ ?_)
  refine wpAny_newFunctionEnv_cells S.kind kinds fun env he s1 entered => ?_
  subst he
  refine ⟨nolim.keeps entered.toInCall.keep, codeAny_func ?_⟩
  obtain ⟨t, ht, hq⟩ := body cdv A outer s H vs Q E (room.deeper _) hng hsp
  have I0 := inv_start (CX := L2.CX0) (E := E) S room.hd env0 nvs rv entered
  refine wpAny_mono (ht.nox.run [] s1 (start N vs) H _ I0 hq) (fun fl s' hs => ?_) fun e s' hs => hs
  have close : ∀ {σ' : L2.St} {H' : Hp} {v : V} {u : Value}, Inv (cxOf L2.CX0 P w K mg base N qual (defScope st) f cdv A outer s H E) [] σ' H' s' → RelV v u → Q v H' → CE outer P w H s Q u s' :=
    fun {σ' H' v u} J r q => ⟨v, H', J.os, J.bare, J.base, J.hok, r, q⟩
  cases fl with
  | ret u =>
    obtain ⟨v, σ', H', J, r, q⟩ := hs
    exact close J r q
  | next =>
    obtain ⟨σ', H', J, q⟩ := hs
    exact close (v := V.non) (u := Value.none) J rfl q
  | brk => exact False.elim hs.choose_spec.choose_spec.2
  | cont => exact False.elim hs.choose_spec.choose_spec.2
section
variable {X : Cx} {k : Nat} {f : Addr} {fd : FuncData} {ps : List Str} {sp : Sp} {x : Str} {p pos : Pos} {e : Expr} {es : List Expr} {t : TA}
/-- f(e, ..) of such a def -/
theorem pe_callG (F : FnG X.prog X.w X.K X.mg X.base k f fd ps sp) (hng : NoRepr X.A) (hr : Room k X.A) (hg : Gl X x) (hm : X.mg x = some (.ref f)) (hk : PySem.W.keepIn X.K (.ref f) = true) (hb : L2.Binds X.K fd ps []) (ha : PA X (e :: es) t)
    (hdb : (x == ("__debug__" : Str)) = false := by decide) (he : starEach (e :: es) X.env = (false, eval e X.env) :: starEach es X.env := by rfl) (hpl : (backTo pos (starEach es X.env)).any (·.1) = false := by rfl) :
    PE X (.Call (.Name x p) (e :: es) [] pos) (tCall sp [] L2.E0 t) := by
  refine ⟨fun pins s σ H Q I h => wpAny_Call_Name_kw (ld_glob I hg hm ?_ hdb)⟩
  refine PySem.W.callWith_K (h₀ := X.base) I.ok.mod.kin hk (thn (ha.run pos pins s σ H _ I h) fun us s1 ⟨vs, H1, J, rv, q⟩ => ⟨J.kIn, ?_⟩) he hpl
  have q' : sp vs H1 Q L2.E0 := by
    have z : sp (vs ++ []) H1 Q L2.E0 := q
    rw [List.append_nil] at z
    exact z
  have n1 : us.length = ps.length := by
    rw [← rv.length]
    exact F.len _ _ _ _ q'
  have bind := hb s1 us J.kIn (by rw [List.append_nil]; exact n1)
  rw [List.append_nil] at bind
  refine wpAny_call (codeAny_mono (F.go X.A X.stack s1 H1 ⟨us, []⟩ us vs Q L2.E0 hr hng J.env0 bind rv q') fun r s' hq => ?_)
  cases r with
  | error e => exact hq.elim
  | ok fl =>
    cases fl with
    | ret u => exact J.after hq
    | next => exact hq.elim
    | brk => exact hq.elim
    | cont => exact hq.elim
end
/-- the heap with what H tracks hidden is a base for the law's def -/
theorem base_ok {P : Program} {w : World} {K : PySem.W.Frag} {mg mb : Str → Option Value} {s : Shared} {H : Hp} {a : Addr} {items : List Value} (inK : K.In s.heap) (gl : s.heap.Ns mainGlobals mg) (bl : s.heap.Ns builtinsNs mb)
    (boot : ∀ x : Str, x ≠ "__name__" → mb x = bootBuiltins x) (lim : s.heap.NoLimit) (la : s.heap.get? a = some { cls := .type "list", data := .seq items.toArray })
    (only : ∀ b, H b ≠ none → b = a) (hk : H a ≠ none → K.lookup a = none) : Mod K mg (hidT s.heap H) := by
  have keep : ∀ {b : Addr} {o : Obj}, s.heap.get? b = some o → H b = none → (hidT s.heap H).get? b = some o := fun e n => hidT_get e n
  have isA : ∀ {b : Addr} {u : HO}, H b = some u → b = a := fun {b u} e => only b (by rw [e]; simp)
  have dict : ∀ {b : Addr} {o : Obj} {es : Array DictEntry} {n : Nat}, s.heap.get? b = some o → o.data = .dict es n → H b = none := fun {b o es n} e d => by
    cases c : H b with
    | none => rfl
    | some u =>
      have z := isA c
      subst z
      rw [la] at e
      cases e
      exact nomatch d
  have ns : ∀ {b : Addr} {m : Str → Option Value}, s.heap.Ns b m → (hidT s.heap H).Ns b m := fun {b m} ⟨o, es, n, e, d, r⟩ => ⟨o, es, n, keep e (dict e d), d, r⟩
  refine ⟨fun b o e => keep (inK b o e) ?_, ns gl, ⟨mb, ns bl, boot⟩, ?_⟩
  · cases c : H b with
    | none => rfl
    | some u =>
      have z := isA c
      subst z
      rw [hk (by rw [c]; simp)] at e
      cases e
  · obtain ⟨mc, h1, h2⟩ := lim
    exact ⟨mc, ns h1, h2⟩
/-- the law's call, from its promise -/
theorem law_goes {P : Program} {w : World} {K : PySem.W.Frag} {mg mb : Str → Option Value} {k : Nat} {fa a : Addr} {fd : FuncData} {x : Str} {sp : Sp} {s : Shared} {items : List Value} {ns : List Int}
    (inK : K.In s.heap) (gl : s.heap.Ns mainGlobals mg) (bl : s.heap.Ns builtinsNs mb) (boot : ∀ x : Str, x ≠ "__name__" → mb x = bootBuiltins x) (lim : s.heap.NoLimit) (gens : s.gens = #[])
    (la : s.heap.get? a = some { cls := .type "list", data := .seq items.toArray }) (intv : IntsAre items ns) (hl : ns.length ≤ sizeLine) (hr : Room k callerA)
    (F : ∀ base : Heap, K.In base → base.Ns mainGlobals mg → FnG P w K mg base k fa fd [x] sp) (bind : ∀ (s : Shared) (u : Value), BindsTo s fd ⟨[u], []⟩ [(x, u)])
    (hsp : ∀ H : Hp, Only H → SqL K H a (ns.map V.int) → sp [.ref a] H (fun v _ => v = .bl true) fun _ _ _ => False) :
    codeAny (model P w) callerA (.call (.ref fa) ⟨[.ref a], []⟩) (fun r s' => r = .ok (.ret (.bool true)) ∧ OldK s.heap s'.heap ∧ s'.os = s.os ∧ AllBare s'.gens) s := by
  have vals := vals_ints intv
  have same := intv.length
  have go : ∀ H : Hp, Only H → SqL K H a (ns.map V.int) → HOk P w H s.heap → (∀ b, H b ≠ none → b = a) → (H a ≠ none → K.lookup a = none) →
      codeAny (model P w) callerA (.call (.ref fa) ⟨[.ref a], []⟩) (fun r s' => r = .ok (.ret (.bool true)) ∧ OldK s.heap s'.heap ∧ s'.os = s.os ∧ AllBare s'.gens) s := by
    intro H hO hS ok hA hK
    have mod : Mod K mg (hidT s.heap H) := base_ok (P := P) (w := w) inK gl bl boot lim la hA hK
    have env0 : Env0 P w K mg (hidT s.heap H) callerA [] s H := ⟨rfl, mod, fun b o e => of_hidT e, Nat.le_of_eq (hidT_size _ _), trivial, fun b hb => absurd (show b ∈ ([] : List Addr) from hb) (by simp), ok, .of_eq gens⟩
    refine codeAny_mono ((F _ mod.kin mod.glob).go callerA [] s H ⟨[.ref a], []⟩ [.ref a] [.ref a] _ _ hr rfl env0 (bind s (.ref a)) (.cons rfl .nil) (hsp H hO hS)) fun r s' h => ?_
    cases r with
    | error e => exact h.elim
    | ok fl =>
      cases fl with
      | next => exact h.elim
      | brk => exact h.elim
      | cont => exact h.elim
      | ret u =>
        obtain ⟨v, H', os, bare, un, ok', rv, q⟩ := h
        cases (show v = .bl true from q)
        cases (show u = Value.bool true from rv)
        refine ⟨rfl, OldK.of_keep fun b o e => ?_, os, bare⟩
        cases c : H b with
        | none => exact un.keep b o e c (fun z => absurd (show b ∈ ([] : List Addr) from z) (by simp)) (by simp)
        | some u =>
          rcases hO b with z | ⟨ob, xs, z⟩
          · rw [c] at z
            cases z
          · have z2 := un.frzs b ob _ z
            obtain ⟨e1, _⟩ := ok b _ z
            obtain ⟨e2, _⟩ := ok' b _ z2
            rw [e] at e1
            cases e1
            exact e2
  cases hk : K.lookup a with
  | some o =>
    have e := inK a o hk
    rw [la] at e
    cases e
    refine go (fun _ => none) (fun _ => .inl rfl) (.inr ⟨_, items.toArray, _, hk, rfl, rfl, rfl, by rw [List.size_toArray, same]; exact hl, by simpa using vals⟩) (fun b u z => by cases (show (none : Option HO) = some u from z)) (fun b z => absurd rfl z) fun z => absurd rfl z
  | none =>
    refine go (fun b => if b = a then some (.frz { cls := .type "list", data := .seq items.toArray } (.lst (ns.map V.int))) else none) (fun b => ?_) (.inl (.inr ⟨{ cls := .type "list", data := .seq items.toArray }, if_pos rfl⟩)) (fun b u z => ?_) (fun b z => ?_) fun _ => hk
    · by_cases c : b = a
      · exact .inr ⟨_, _, if_pos c⟩
      · exact .inl (if_neg c)
    · by_cases c : b = a
      · cases (if_pos c).symm.trans z
        subst c
        exact ⟨la, by rw [List.length_map]; exact hl, items, _, vals, la⟩
      · cases (if_neg c).symm.trans z
    · by_cases c : b = a
      · exact c
      · exact absurd (if_neg c) z
/-- the law's row, from its promise -/
theorem row_goes {l : PySem.W.OpenLaw} {n k : Nat} {q : Program} {loose : List Str} {XP : (Str → Option Value) → Heap → Prop} {YP : World → Heap → Prop} {d : DefRec} {K : Params → PySem.W.Frag} {sp : PySem.W.Frag → Sp} {x : Str}
    (hn : l.most = some n) (hn2 : n ≤ sizeLine) (hdf : d.params.defaults = []) (hr : Room k callerA)
    (hY : ∀ (w : World) (h : Heap), YP w h → (K w.params).In h)
    (F : ∀ (w : World) (mg : Str → Option Value) (fa : Addr) (h : Heap), (K w.params).In h → h.Ns mainGlobals mg → mg d.name = some (.ref fa) →
      ∃ fd : FuncData, (∀ (s : Shared) (u : Value), BindsTo s fd ⟨[u], []⟩ [(x, u)]) ∧ ∀ base : Heap, (K w.params).In base → base.Ns mainGlobals mg → FnG l.prog w (K w.params) mg base k fa fd [x] (sp (K w.params)))
    (hsp : ∀ (K : PySem.W.Frag) (H : Hp) (a : Addr) (ns : List Int), ns.length ≤ n → Only H → SqL K H a (ns.map V.int) → sp K [.ref a] H (fun v _ => v = .bl true) fun _ _ _ => False) :
    PySem.W.WalkO q loose XP YP l.row.toRowW d [] (fun f vs => PySem.call f vs) := by
  refine Att.attach_call hn hdf fun w s0 s mg mb fa o pm cd doc a items ns G Y ho hd hcd hmg hobj intv hlen hg => ?_
  have inK := hY w _ Y
  obtain ⟨fd, bind, hF⟩ := F w mg fa _ inK G.T.g hmg
  exact law_goes inK G.T.g G.T.b G.T.builtins G.T.nolimit hg hobj intv (Nat.le_trans hlen hn2) hr hF bind fun H hO hS => hsp _ H a ns hlen hO hS
end Q0
/-! ### 8. The errors that keep a value -/
namespace Q0
open PySem PySem.Spec PyProof.Rows L2
abbrev sVals : Stmt := top 22
abbrev vNames : List Str := ["_law_dice_here", "_law_great", "_law_value", "_law_name", "_law_kept", "_law_some", "_law_at", "_law_e", "_law_one"]
theorem scVals : FnScope vNames ["_law_dice_here"] (defScope sVals) := ⟨rfl, rfl, rfl, by decide +kernel, rfl, by decide +kernel, by decide +kernel⟩
/-! #### texts of data -/
theorem text_upper : ∀ (ts : List Str) (k : Nat) (acc : Str) (m : Nat), (∀ t ∈ ts, t.length ≤ m) → (textFrom k acc ts).length ≤ acc.length + ts.length * (m + 2)
  | [], _, acc, m, _ => by show acc.length ≤ acc.length + 0 * (m + 2); omega
  | t :: r, k, acc, m, h => by
    have ih := text_upper r (k + 1) (acc ++ (if k > 0 then ", " else "" : String) ++ t) m fun u hu => h u (List.mem_cons_of_mem _ hu)
    have ht := h t (List.mem_cons_self ..)
    have e : (acc ++ (if k > 0 then ", " else "" : String) ++ t).length ≤ acc.length + 2 + t.length := by
      rw [strLen_append, strLen_append]
      split
      · exact Nat.le_refl _
      · show acc.length + 0 + t.length ≤ _
        omega
    show (textFrom (k + 1) _ r).length ≤ acc.length + (r.length + 1) * (m + 2)
    have e2 : (r.length + 1) * (m + 2) = r.length * (m + 2) + (m + 2) := Nat.succ_mul _ _
    omega
structure Nice (d : PyData) : Prop where
  sh : d.showable = true
  nd : d.hasDict = false
  dp : d.depth ≤ 3
  ln : d.shown.length ≤ 1000
theorem nice_int {i : Int} (h : i.natAbs < 10 ^ 60) : Nice (.int i) := by
  refine ⟨?_, rfl, (by show 0 ≤ 3; decide), ?_⟩
  · show decide (i.natAbs.log2 < 1920) = true
    refine decide_eq_true ?_
    by_cases z : i.natAbs = 0
    · rw [z]
      decide
    · rw [Nat.log2_lt z]
      exact Nat.lt_of_lt_of_le h (by decide +kernel)
  · show (Str.ofString (toString i)).length ≤ 1000
    have e := int_text_length_le10 (a := i) (k := 60) (by decide) h
    rw [PySem.ofString_length]
    omega
theorem nice_none : Nice .none := ⟨rfl, rfl, by decide, by decide +kernel⟩
/-- a list of at most five such data -/
theorem nice_list {xs : List PyData} (h : ∀ d ∈ xs, Nice d) (hl : xs.length ≤ 5) : (PyData.list xs).showable = true ∧ (PyData.list xs).hasDict = false ∧ (PyData.list xs).depth + 1 ≤ 64 ∧ (PyData.list xs).shown.length ≤ sizeLine := by
  have a1 : ∀ xs : List PyData, (∀ d ∈ xs, Nice d) → PyData.showableAll xs = true ∧ PyData.hasDictAll xs = false ∧ PyData.depthAll xs ≤ 3 ∧ ∀ t ∈ PyData.shownAll xs, t.length ≤ 1000 := by
    intro xs
    induction xs with
    | nil => exact fun _ => ⟨rfl, rfl, by decide, fun t z => nomatch z⟩
    | cons d r ih =>
      intro h
      obtain ⟨i1, i2, i3, i4⟩ := ih fun u hu => h u (List.mem_cons_of_mem _ hu)
      have n := h d (List.mem_cons_self ..)
      refine ⟨?_, ?_, ?_, fun t z => ?_⟩
      · show (d.showable && PyData.showableAll r) = true
        rw [n.sh, i1]; rfl
      · show (d.hasDict || PyData.hasDictAll r) = false
        rw [n.nd, i2]; rfl
      · show max d.depth (PyData.depthAll r) ≤ 3
        exact Nat.max_le.mpr ⟨n.dp, i3⟩
      · rcases List.mem_cons.mp (show t ∈ d.shown :: PyData.shownAll r from z) with rfl | z
        · exact n.ln
        · exact i4 t z
  have a2 : ∀ xs : List PyData, (PyData.shownAll xs).length = xs.length := by
    intro xs
    induction xs with
    | nil => rfl
    | cons d r ih =>
      show (PyData.shownAll r).length + 1 = r.length + 1
      rw [ih]
  obtain ⟨h1, h2, h3, h4⟩ := a1 xs h
  refine ⟨h1, h2, ?_, ?_⟩
  · show PyData.depthAll xs + 1 + 1 ≤ 64
    omega
  · show (textFrom 0 "[" (PyData.shownAll xs) ++ ("]" : Str)).length ≤ sizeLine
    have e := text_upper (PyData.shownAll xs) 0 "[" 1000 h4
    rw [a2] at e
    have e1 : ((("[" : String) : Str)).length = 1 := rfl
    have e2 : ((("]" : String) : Str)).length = 1 := rfl
    rw [strLen_append, e2, sizeLine_eq]
    rw [e1] at e
    have e3 : xs.length * (1000 + 2) ≤ 5 * (1000 + 2) := Nat.mul_le_mul_right _ hl
    omega
/-! #### the classes -/
structure Vals5 (P : Program) (K : PySem.W.Frag) (mg : Str → Option Value) (cs fi cd cc : Nat → Addr) (CL : Addr) : Prop where
  t8 : ValT P K mg "IndexError" "IndexError.__init__" "IndexError" "IndexError.__new__" "IndexError.__init__" [.type "IndexError", .type "LookupError", .type "Exception", .type "BaseException", .type "object"] [.type "IndexError", .type "LookupError", .type "Exception", .type "BaseException", .type "object"] (cs 8) (fi 8) (cd 8) (cc 8) "value"
  t9 : ValT P K mg "KeyError" "KeyError.__init__" "LookupError" "LookupError.__new__" "LookupError.__init__" [.type "KeyError", .type "LookupError", .type "Exception", .type "BaseException", .type "object"] [.type "LookupError", .type "Exception", .type "BaseException", .type "object"] (cs 9) (fi 9) (cd 9) (cc 9) "name"
  t10 : ValT P K mg "OverflowError" "OverflowError.__init__" "OverflowError" "OverflowError.__new__" "OverflowError.__init__" [.type "OverflowError", .type "ArithmeticError", .type "Exception", .type "BaseException", .type "object"] [.type "OverflowError", .type "ArithmeticError", .type "Exception", .type "BaseException", .type "object"] (cs 10) (fi 10) (cd 10) (cc 10) "limit"
  t11 : ValT P K mg "ArithmeticError" "ArithmeticError.__init__" "ArithmeticError" "ArithmeticError.__new__" "ArithmeticError.__init__" [.type "ArithmeticError", .type "Exception", .type "BaseException", .type "object"] [.type "ArithmeticError", .type "Exception", .type "BaseException", .type "object"] (cs 11) (fi 11) (cd 11) (cc 11) "counter"
  t12 : ValT P K mg "LookupError" "LookupError.__init__" "LookupError" "LookupError.__new__" "LookupError.__init__" [.type "LookupError", .type "Exception", .type "BaseException", .type "object"] [.type "LookupError", .type "Exception", .type "BaseException", .type "object"] (cs 12) (fi 12) (cd 12) (cc 12) "many"
  is : ∀ i, 8 ≤ i → i < 13 → IsC K (cs i) ∧ Thirteen K cs (cs i) (unit13 i) ∧ PySem.W.kitOne K (.ref (cs i)) (.ref CL) = some false
  s8 : Seven K (cs 8) [false, true, false, true, false, false, false]
  s9 : Seven K (cs 9) [false, false, true, true, false, false, false]
  s10 : Seven K (cs 10) [false, false, false, false, false, true, true]
  s11 : Seven K (cs 11) [false, false, false, false, false, true, false]
  s12 : Seven K (cs 12) [false, false, false, true, false, false, false]
  f8 : PySem.W.findIn K (.ref (cs 8)) "value" = some none
  f9 : PySem.W.findIn K (.ref (cs 9)) "name" = some none
  f10 : PySem.W.findIn K (.ref (cs 10)) "limit" = some none
  f11 : PySem.W.findIn K (.ref (cs 11)) "counter" = some none
  f12 : PySem.W.findIn K (.ref (cs 12)) "many" = some none
theorem nice_str {x : Str} (h : (reprText x).length ≤ 1000) : Nice (.str x) := ⟨rfl, rfl, (by show 0 ≤ 3; decide), h⟩
theorem nice_t1 : Nice (.tuple [.int 1, .int 2]) := ⟨by decide +kernel, rfl, by decide +kernel, by decide +kernel⟩
theorem nice_t3 : Nice (.tuple [.str "a", .str "p", .str "p", .tuple []]) := ⟨by decide +kernel, rfl, by decide +kernel, by decide +kernel⟩
theorem value_data {K : PySem.W.Frag} {H : Hp} {t : Addr} {g : Int} {v : V} (ht : H t = some (.tup [.int 1, .int 2])) (gb : g.natAbs < 10 ^ 60)
    (h : v ∈ [V.int 0, .int (-1), .int 30, .int g, .int (0 - g), .non, .str "5", .ref t]) : ∃ d, Dp K H v d ∧ Nice d := by
  simp only [List.mem_cons, List.not_mem_nil, or_false] at h
  rcases h with rfl | rfl | rfl | rfl | rfl | rfl | rfl | rfl
  · exact ⟨_, .int _, nice_int (by decide +kernel)⟩
  · exact ⟨_, .int _, nice_int (by decide +kernel)⟩
  · exact ⟨_, .int _, nice_int (by decide +kernel)⟩
  · exact ⟨_, .int _, nice_int gb⟩
  · exact ⟨_, .int _, nice_int (by omega)⟩
  · exact ⟨_, .non, nice_none⟩
  · exact ⟨_, .str _, nice_str (by decide +kernel)⟩
  · exact ⟨_, .tup (.inl (.inl ht)) (.cons (.int 1) (.cons (.int 2) .nil)), nice_t1⟩
theorem name_data {K : PySem.W.Frag} {H : Hp} {t u : Addr} {v : V} (hu : H u = some (.tup [])) (ht : H t = some (.tup [.str "a", .str "p", .str "p", .ref u]))
    (h : v ∈ [V.str "a", .str "", .str "Zz", .non, .ref t, .int 7]) : ∃ d, Dp K H v d ∧ Nice d := by
  simp only [List.mem_cons, List.not_mem_nil, or_false] at h
  rcases h with rfl | rfl | rfl | rfl | rfl | rfl
  · exact ⟨_, .str _, nice_str (by decide +kernel)⟩
  · exact ⟨_, .str _, nice_str (by decide +kernel)⟩
  · exact ⟨_, .str _, nice_str (by decide +kernel)⟩
  · exact ⟨_, .non, nice_none⟩
  · exact ⟨_, .tup (.inl (.inl ht)) (.cons (.str _) (.cons (.str _) (.cons (.str _) (.cons (.tup (.inl (.inl hu)) .nil) .nil)))), nice_t3⟩
  · exact ⟨_, .int _, nice_int (by decide +kernel)⟩
theorem limit_data {K : PySem.W.Frag} {H0 H : Hp} {v : V} (_ : Same H0 H) (h : v ∈ [V.int 16, .int 3000, .int ((10 : Int) ^ (5 : Int).toNat)]) : ∃ d, Dp K H v d ∧ Nice d := by
  simp only [List.mem_cons, List.not_mem_nil, or_false] at h
  rcases h with rfl | rfl | rfl <;> exact ⟨_, .int _, nice_int (by decide +kernel)⟩
theorem counter_data {K : PySem.W.Frag} {H0 H : Hp} {v : V} (_ : Same H0 H) (h : v ∈ [V.str "x", .str "u", .str "zz"]) : ∃ d, Dp K H v d ∧ Nice d := by
  simp only [List.mem_cons, List.not_mem_nil, or_false] at h
  rcases h with rfl | rfl | rfl <;> exact ⟨_, .str _, nice_str (by decide +kernel)⟩
def tens : List Int := [10, 12, 96, 32, 8]
theorem dp_tens {K : PySem.W.Frag} {H : Hp} {p : Addr} (h : H p = some (.lst (tens.map V.int))) : Dp K H (.ref p) (.list (tens.map .int)) :=
  .lst (.inl (.inl h)) (.cons (.int _) (.cons (.int _) (.cons (.int _) (.cons (.int _) (.cons (.int _) .nil)))))
theorem two_same {h : Hp} {a d : Addr} {u o : HO} (na : h a = none) (nd : h d = none) (ne : d ≠ a) : Same h (upd (upd h d u) a o) :=
  (same_new (o := u) nd).trans (same_new (by rw [upd_ne ne.symm]; exact na))
def spVals : Sp := fun vs H Q _ => ∃ (p : Addr) (x y z : Int), vs = [.ref p] ∧ H p = some (.lst (hand x y z)) ∧ ∀ H', But p H H' → Q (.bl true) H'
section
variable {P : Program} {w : World} {K : PySem.W.Frag} {mg : Str → Option Value} {base : Heap}
theorem ok_vals {f fB fK fR fO CL : Addr} {fd fdB fdK fdR fdO : FuncData} {cs fi cd cc : Nat → Addr} (F : Fun K "_law_values_right" "_law_values_right" sVals f fd) (FB : Fun K "_law_built_in" "_law_built_in" sBuilt fB fdB) (bB : L2.Binds K fdB ["_law_e"] []) (gB : mg "_law_built_in" = some (.ref fB))
    (FK : Fun K "_law_kinds" "_law_kinds" sKinds fK fdK) (bK : L2.Binds K fdK ["_law_e"] []) (gK : mg "_law_kinds" = some (.ref fK))
    (FR : Fun K "_law_roll" "_law_roll" sRoll fR fdR) (bR : L2.Binds K fdR ["_law_dice_here", "_law_total"] []) (gR : mg "_law_roll" = some (.ref fR))
    (FO : Fun K "_law_one_of" "_law_one_of" sOne fO fdO) (bO : L2.Binds K fdO ["_law_dice_here", "_law_items"] []) (gO : mg "_law_one_of" = some (.ref fO))
    (B1 : Blt mg) (B : Blt2 mg) (B3 : Blt3 mg) (rp : mg "repr" = none) (G : Cls13 mg cs) (gl : mg "LoopError" = some (.ref CL)) (V5 : Vals5 P K mg cs fi cd cc CL) : FnG P w K mg base 3 f fd ["_law_dice_here"] spVals := by
  have GB : FnOk P w K mg base L2.CX0 1 fB fdB ["_law_e"] (spBuilt K) := ok_built FB B
  have GK : FnOk P w K mg base L2.CX0 1 fK fdK ["_law_e"] (spKinds K cs) := ok_kinds FK B G
  have GR : FnOk P w K mg base L2.CX0 1 fR fdR ["_law_dice_here", "_law_total"] spRoll := ok_roll FR B1
  have GO : FnOk P w K mg base L2.CX0 2 fO fdO ["_law_dice_here", "_law_items"] spOne := ok_one FO FR bR gR B1
  refine Fun_okG F scVals (fun vs H Q E h => ?_) (fun cdv A outer s H vs Q E hr hng h => ?_)
  · obtain ⟨p, x, y, z, rfl, _⟩ := h
    rfl
  · obtain ⟨p, x, y, z, rfl, hp, k⟩ := h
    have hr1 : Room 1 (A.deeper (envOfC "_law_values_right" (defScope sVals) s.heap.objs.size f cdv)) := hr.mono (by decide)
    have hng' : (A.deeper (envOfC "_law_values_right" (defScope sVals) s.heap.objs.size f cdv)).guards = some [] := noRepr_deeper hng
    have hu : (A.deeper (envOfC "_law_values_right" (defScope sVals) s.heap.objs.size f cdv)).units + 64 < cLine := by
      have := hr.un
      omega
    refine ⟨_, pss_cons (ps_set (i := 1) scVals.nd rfl (.inl rfl) (pe_op op_mul (pe_call GR hr1 (by rfl) gR FR.kp bR .nil pass0 (pa_cons (pv 0) (pa_cons (pe_op op_pow pe_int pe_int) pa_nil))) (pe_op op_pow pe_int pe_int)))
      (pss_cons (ps_set (i := 2) scVals.nd rfl (.inl rfl) (pe_call GO hr (by rfl) gO FO.kp bO .nil pass0 (pa_cons (pv 0) (pa_cons (pe_lst (pa_cons pe_int (pa_cons (pe_un un_neg pe_int) (pa_cons pe_int (pa_cons (pv 1) (pa_cons (pe_op op_sub pe_int (pv 1)) (pa_cons pe_non (pa_cons pe_str (pa_cons (pe_tup (pa_cons pe_int (pa_cons pe_int pa_nil))) pa_nil))))))))) pa_nil))))
      (pss_cons (ps_set (i := 3) scVals.nd rfl (.inl rfl) (pe_call GO hr (by rfl) gO FO.kp bO .nil pass0 (pa_cons (pv 0) (pa_cons (pe_lst (pa_cons pe_str (pa_cons pe_str (pa_cons pe_str (pa_cons pe_non (pa_cons (pe_tup (pa_cons pe_str (pa_cons pe_str (pa_cons pe_str (pa_cons (pe_tup pa_nil) pa_nil))))) (pa_cons pe_int pa_nil))))))) pa_nil))))
      (pss_cons (ps_set (i := 4) scVals.nd rfl (.inl rfl) (pe_lst (pa_cons (pv 2) (pa_cons (pv 3)
          (pa_cons (pe_call GO hr (by rfl) gO FO.kp bO .nil pass0 (pa_cons (pv 0) (pa_cons (pe_lst (pa_cons pe_int (pa_cons pe_int (pa_cons (pe_op op_pow pe_int pe_int) pa_nil)))) pa_nil)))
          (pa_cons (pe_call GO hr (by rfl) gO FO.kp bO .nil pass0 (pa_cons (pv 0) (pa_cons (pe_lst (pa_cons pe_str (pa_cons pe_str (pa_cons pe_str pa_nil)))) pa_nil)))
          (pa_cons (pv 1) pa_nil)))))))
      (pss_cons (ps_set (i := 5) scVals.nd rfl (.inl rfl) (pe_lst
          (pa_cons (pe_val V5.t8 G.g8 hr (by rfl) (pe_ix ix_list (pv 4) pe_int (fun _ _ => rfl)))
          (pa_cons (pe_val V5.t9 G.g9 hr (by rfl) (pe_ix ix_list (pv 4) pe_int (fun _ _ => rfl)))
          (pa_cons (pe_val V5.t10 G.g10 hr (by rfl) (pe_ix ix_list (pv 4) pe_int (fun _ _ => rfl)))
          (pa_cons (pe_val V5.t11 G.g11 hr (by rfl) (pe_ix ix_list (pv 4) pe_int (fun _ _ => rfl)))
          (pa_cons (pe_val V5.t12 G.g12 hr (by rfl) (pe_ix ix_list (pv 4) pe_int (fun _ _ => rfl))) pa_nil)))))))
      (pss_cons (ps_for PassesOwn.never rfl (pi_enum (by rfl) B3.enum (pa_cons (pv 5) pa_nil))
        (pg_tup rfl (pgs_cons (pg_name (i := 6) scVals.nd rfl (.inr rfl)) (pgs_cons (pg_name (i := 7) scVals.nd rfl (.inl rfl)) pgs_nil)))
        (pss_one (ps_if (PW.pt (pw_or (pt_val (pe_callB call_isX (by rfl) B.isi (by decide +kernel) (pa_cons (pv 7) (pa_cons (pe_glob (v := .ref CL) (by rfl) gl rfl) pa_nil))))
            (pw_or1 (pt_cmpR (op_neD hu) (pe_call GK hr1 (by rfl) gK FK.kp bK .nil pass0 (pa_cons (pv 7) pa_nil))
              (pe_lc (own := [("_law_one", 8)]) (g := gName 8) (tt := tYes) (te := tOp rEq (tVar 8) (tOp (rI0 fun i j => .int (i + j)) (tVar 6) (tC (.int 8)))) rfl scVals.nd (pi_range1 (by rfl) B3.range (pa_cons pe_int pa_nil)) (blkOk_by (N := vNames) (sc := defScope sVals) (by decide +kernel))
                (fun _ _ _ _ _ => pg_name (i := 8) scVals.nd rfl (.inl rfl) (hf := .inr rfl)) (fun _ _ _ _ _ => pts_nil) (fun _ _ _ _ _ => pe_cmpR op_eq (pv 8) (pe_op op_add (pv 6) pe_int) (nomark _))) (nomark _)))))
          (pss_one (ps_ret pe_bl)) pss_nil)))
      (pss_cons (ps_if (pt_cmpR (op_neD hu) (pe_lc (own := [("_law_e", 7)]) (g := gName 7) (tt := tYes) (te := tCall (spBuilt K) [] L2.E0 (tCons (tVar 7) tNil)) rfl scVals.nd (pi_list (pv 5)) (blkOk_by (N := vNames) (sc := defScope sVals) (by decide +kernel))
              (fun _ _ _ _ _ => pg_name (i := 7) scVals.nd rfl (.inl rfl) (hf := .inr rfl)) (fun _ _ _ _ _ => pts_nil) (fun _ _ _ _ _ => pe_call GB hr1 (by rfl) gB FB.kp bB .nil pass0 (pa_cons (pv 7) pa_nil)))
            (pe_lst (pa_cons (pe_op op_add pe_int pe_int) (pa_cons (pe_op op_add pe_int pe_int) (pa_cons (pe_op op_add pe_int pe_int) (pa_cons pe_int (pa_cons pe_int pa_nil)))))) (nomark _))
          (pss_one (ps_ret pe_bl)) pss_nil)
      (pss_one (ps_ret (pe_cmpR op_eq
        (pe_callB (call_reprD hng' hu) (by rfl) rp (by decide +kernel) (pa_cons (pe_lst
          (pa_cons (pe_exf (f := "value") (pe_ix ix_list (pv 5) pe_int (fun _ _ => rfl)))
          (pa_cons (pe_exf (f := "name") (pe_ix ix_list (pv 5) pe_int (fun _ _ => rfl)))
          (pa_cons (pe_exf (f := "limit") (pe_ix ix_list (pv 5) pe_int (fun _ _ => rfl)))
          (pa_cons (pe_exf (f := "counter") (pe_ix ix_list (pv 5) pe_int (fun _ _ => rfl)))
          (pa_cons (pe_exf (f := "many") (pe_ix ix_list (pv 5) pe_int (fun _ _ => rfl))) pa_nil)))))) pa_nil))
        (pe_callB (call_reprD hng' hu) (by rfl) rp (by decide +kernel) (pa_cons (pv 4) pa_nil)) (nomark _)))))))))), ?_⟩
    -- great = roll(dice, 10 ** 9) * 10 ** 50
    refine ⟨_, rfl, _, _, rfl, rfl, ⟨by decide, by decide, by decide⟩, p, x, y, z, _, rfl, hp, by decide +kernel, by decide +kernel, fun r x1 y1 z1 H1 r0 r1 hp1 b1 => ?_⟩
    have r2 : r < 1000000000 := by
      have e : (10 : Int) ^ (9 : Int).toNat = 1000000000 := by decide +kernel
      have r1' : r < (10 : Int) ^ (9 : Int).toNat := r1
      rw [e] at r1'
      exact r1'
    refine ⟨_, _, rfl, rfl, ⟨by decide, by decide, by decide⟩, _, _, rfl, rfl, .inl ⟨by omega, by omega⟩, ?_⟩
    have gb : (r * (10 : Int) ^ (50 : Int).toNat).natAbs < 10 ^ 60 := by
      have e : (10 : Int) ^ (50 : Int).toNat = 100000000000000000000000000000000000000000000000000 := by decide +kernel
      rw [e]
      omega
    -- value = one_of(dice, [..])
    refine ⟨_, rfl, _, rfl, _, rfl, _, rfl, _, _, rfl, rfl, by show 2 ≤ sizeLine; decide, fun t1 n1 => ⟨by show 8 ≤ sizeLine; decide, fun l1 m1 => ?_⟩⟩
    have pt1 : p ≠ t1 := ne_of_none hp1 n1
    have hp1a : ∀ o, (upd H1 t1 o) p = some (.lst (hand x1 y1 z1)) := fun o => by
      rw [upd_ne pt1]
      exact hp1
    have pl1 : p ≠ l1 := ne_of_none (hp1a _) m1
    refine ⟨p, l1, x1, y1, z1, _, rfl, (by rw [upd_ne pl1]; exact hp1a _), upd_same, pl1.symm, (by show 0 < 8; decide), (by show 8 < 1073741824; decide), fun v x2 y2 z2 H2 hv hp2 b2 => ?_⟩
    have tl1 : t1 ≠ l1 := ne_of_none upd_same m1
    have ht1 : H2 t1 = some (.tup [.int 1, .int 2]) := b2 t1 _ pt1.symm (by rw [upd_ne tl1, upd_same])
    have c2 : But p H H2 := fun b o n e => b2 b o n (same_new m1 _ _ (same_new n1 _ _ (b1 b o n e)))
    -- name = one_of(dice, [..])
    refine ⟨_, rfl, by show 0 ≤ sizeLine; decide, fun t2 n2 => ⟨by show 4 ≤ sizeLine; decide, fun t3 n3 => ⟨by show 6 ≤ sizeLine; decide, fun l2 m2 => ?_⟩⟩⟩
    have S2 := (same_new (o := .tup []) n2).trans ((same_new (o := .tup [.str "a", .str "p", .str "p", .ref t2]) n3).trans (same_new (o := .lst [.str "a", .str "", .str "Zz", .non, .ref t3, .int 7]) m2))
    have T2 := (same_new (o := .tup [.str "a", .str "p", .str "p", .ref t2]) n3).trans (same_new (o := .lst [.str "a", .str "", .str "Zz", .non, .ref t3, .int 7]) m2)
    have pl2 : p ≠ l2 := fun z => by
      have e := ((same_new (o := .tup []) n2).trans (same_new (o := .tup [.str "a", .str "p", .str "p", .ref t2]) n3)) _ _ hp2
      rw [z, m2] at e
      cases e
    refine ⟨p, l2, x2, y2, z2, _, rfl, S2 _ _ hp2, upd_same, pl2.symm, (by show 0 < 6; decide), (by show 6 < 1073741824; decide), fun nm x3 y3 z3 H3 hnm hp3 b3 => ?_⟩
    have pt2 : t2 ≠ p := fun z => by
      rw [← z, n2] at hp2
      cases hp2
    have pt3 : t3 ≠ p := fun z => by
      have e := (same_new (o := .tup []) n2) _ _ hp2
      rw [← z, n3] at e
      cases e
    have ht2 : H3 t2 = some (.tup []) := b3 t2 _ pt2 (T2 _ _ upd_same)
    have ht3 : H3 t3 = some (.tup [.str "a", .str "p", .str "p", .ref t2]) := b3 t3 _ pt3 (same_new m2 _ _ upd_same)
    have ht1' : H3 t1 = some (.tup [.int 1, .int 2]) := b3 t1 _ pt1.symm (S2 _ _ ht1)
    have c3 : But p H H3 := fun b o n e => b3 b o n (S2 _ _ (c2 b o n e))
    -- kept = [value, name, .., .., great]
    refine ⟨_, rfl, _, rfl, _, rfl, _, _, rfl, rfl, ⟨by decide, by decide, by decide⟩, by show 3 ≤ sizeLine; decide, fun l3 m3 => ?_⟩
    have pl3 : p ≠ l3 := ne_of_none hp3 m3
    refine ⟨p, l3, x3, y3, z3, _, rfl, (by rw [upd_ne pl3]; exact hp3), upd_same, pl3.symm, (by show 0 < 3; decide), (by show 3 < 1073741824; decide), fun w3 x4 y4 z4 H4 hw3 hp4 b4 => ?_⟩
    refine ⟨_, rfl, by show 3 ≤ sizeLine; decide, fun l4 m4 => ?_⟩
    have pl4 : p ≠ l4 := ne_of_none hp4 m4
    refine ⟨p, l4, x4, y4, z4, _, rfl, (by rw [upd_ne pl4]; exact hp4), upd_same, pl4.symm, (by show 0 < 3; decide), (by show 3 < 1073741824; decide), fun w4 x5 y5 z5 H5 hw4 hp5 b5 => ?_⟩
    refine ⟨_, rfl, by show 5 ≤ sizeLine; decide, fun kp nk => ?_⟩
    have up5 : ∀ {b : Addr} {o : HO}, b ≠ p → H3 b = some o → H5 b = some o := fun {b o} n e => b5 b o n (same_new m4 _ _ (b4 b o n (same_new m3 _ _ e)))
    have kt1 : H5 t1 = some (.tup [.int 1, .int 2]) := up5 pt1.symm ht1'
    have kt2 : H5 t2 = some (.tup []) := up5 pt2 ht2
    have kt3 : H5 t3 = some (.tup [.str "a", .str "p", .str "p", .ref t2]) := up5 pt3 ht3
    have c5 : But p H H5 := fun b o n e => up5 n (c3 b o n e)
    have Sk := same_new (o := .lst [v, nm, w3, w4, .int (r * (10 : Int) ^ (50 : Int).toNat)]) nk
    have sqk := fun (H' : Hp) => seq_stays (K := K) (r := kp) (H' := H') Sk upd_same
    refine ⟨_, rfl, kp, _, 0, v, rfl, rfl, (sqk _ same_refl), rfl, fun a8 d8 na8 nd8 ne8 => ?_⟩
    have S8 := two_same (u := exd d8 [("value", v)]) (o := exo a8 (cs 8) (some d8)) na8 nd8 ne8
    have Q8 := S8
    refine ⟨_, rfl, kp, _, 1, nm, rfl, rfl, (sqk _ Q8), rfl, fun a9 d9 na9 nd9 ne9 => ?_⟩
    have S9 := two_same (u := exd d9 [("name", nm)]) (o := exo a9 (cs 9) (some d9)) na9 nd9 ne9
    have Q9 := Q8.trans S9
    refine ⟨_, rfl, kp, _, 2, w3, rfl, rfl, (sqk _ Q9), rfl, fun a10 d10 na10 nd10 ne10 => ?_⟩
    have S10 := two_same (u := exd d10 [("limit", w3)]) (o := exo a10 (cs 10) (some d10)) na10 nd10 ne10
    have Q10 := Q9.trans S10
    refine ⟨_, rfl, kp, _, 3, w4, rfl, rfl, (sqk _ Q10), rfl, fun a11 d11 na11 nd11 ne11 => ?_⟩
    have S11 := two_same (u := exd d11 [("counter", w4)]) (o := exo a11 (cs 11) (some d11)) na11 nd11 ne11
    have Q11 := Q10.trans S11
    refine ⟨_, rfl, kp, _, 4, (V.int (r * (10 : Int) ^ (50 : Int).toNat)), rfl, rfl, (sqk _ Q11), rfl, fun a12 d12 na12 nd12 ne12 => ?_⟩
    have S12 := two_same (u := exd d12 [("many", (V.int (r * (10 : Int) ^ (50 : Int).toNat)))]) (o := exo a12 (cs 12) (some d12)) na12 nd12 ne12
    have Q12 := Q11.trans S12
    refine ⟨by show 5 ≤ sizeLine; decide, fun sp ns => ?_⟩
    have Ss := same_new (o := .lst [.ref a8, .ref a9, .ref a10, .ref a11, .ref a12]) ns
    have R12 := Ss
    have R11 := S12.trans R12
    have R10 := S11.trans R11
    have R9 := S10.trans R10
    have R8 := S9.trans R9
    have hAll := Q12.trans Ss
    have O8 := R8 a8 _ upd_same
    have D8 := R8 d8 (exd d8 [("value", v)]) (by rw [upd_ne ne8, upd_same])
    have E8 : ErrAt _ a8 (cs 8) := .inr ⟨d8, _, O8, D8⟩
    have O9 := R9 a9 _ upd_same
    have D9 := R9 d9 (exd d9 [("name", nm)]) (by rw [upd_ne ne9, upd_same])
    have E9 : ErrAt _ a9 (cs 9) := .inr ⟨d9, _, O9, D9⟩
    have O10 := R10 a10 _ upd_same
    have D10 := R10 d10 (exd d10 [("limit", w3)]) (by rw [upd_ne ne10, upd_same])
    have E10 : ErrAt _ a10 (cs 10) := .inr ⟨d10, _, O10, D10⟩
    have O11 := R11 a11 _ upd_same
    have D11 := R11 d11 (exd d11 [("counter", w4)]) (by rw [upd_ne ne11, upd_same])
    have E11 : ErrAt _ a11 (cs 11) := .inr ⟨d11, _, O11, D11⟩
    have O12 := R12 a12 _ upd_same
    have D12 := R12 d12 (exd d12 [("many", (V.int (r * (10 : Int) ^ (50 : Int).toNat)))]) (by rw [upd_ne ne12, upd_same])
    have E12 : ErrAt _ a12 (cs 12) := .inr ⟨d12, _, O12, D12⟩
    have sqs := fun (H' : Hp) => seq_stays (K := K) (r := sp) (H' := H') Ss upd_same
    have errs : ∀ i, i < 5 → ∃ a bs, [V.ref a8, .ref a9, .ref a10, .ref a11, .ref a12][i]? = some (.ref a) ∧ ErrAt _ a (cs (i + 8)) ∧ Seven K (cs (i + 8)) bs ∧ tens[i]? = some (picked bs).sum := fun i hi => by
      match i, hi with
      | 0, _ => exact ⟨a8, _, rfl, E8, V5.s8, by decide⟩
      | 1, _ => exact ⟨a9, _, rfl, E9, V5.s9, by decide⟩
      | 2, _ => exact ⟨a10, _, rfl, E10, V5.s10, by decide⟩
      | 3, _ => exact ⟨a11, _, rfl, E11, V5.s11, by decide⟩
      | 4, _ => exact ⟨a12, _, rfl, E12, V5.s12, by decide⟩
    -- for at, e in enumerate(some)
    refine ⟨_, rfl, sp, _, rfl, .inl (.inl upd_same), ?_⟩
    refine ⟨fun i m σ H' => ∃ y6 y7 y8, σ = [some (.ref p), some (.int (r * (10 : Int) ^ (50 : Int).toNat)), some v, some nm, some (.ref kp), some (.ref sp), y6, y7, y8] ∧ i + m = 5 ∧ Same _ H', ⟨5, none, none, none, rfl, rfl, same_refl⟩, fun i m σ H' hW => ?_⟩
    obtain ⟨y6, y7, y8, rfl, em, sm⟩ := hW
    have hS := sqs H' sm
    by_cases hi : i < 5
    · obtain ⟨a, bs, ga, hEa, _, _⟩ := errs i hi
      obtain ⟨ic, th, kl⟩ := V5.is (i + 8) (by omega) (by omega)
      refine .inr ⟨⟨_, _, hS, ga⟩, fun σ' H2 => ∃ y6 y7 y8, σ' = [some (.ref p), some (.int (r * (10 : Int) ^ (50 : Int).toNat)), some v, some nm, some (.ref kp), some (.ref sp), y6, y7, y8] ∧ Same H' H2, fun σ' H2 hN => ?_, fun e H2 hy => ?_⟩
      · obtain ⟨u6, u7, u8, e, sm'⟩ := hN
        exact ⟨m - 1, by omega, u6, u7, u8, e, by omega, sm.trans sm'⟩
      · obtain ⟨T, xx, rfl, nT, rfl, fx⟩ := hy
        have ex := Option.some.inj ((fx _ hS).symm.trans ga)
        subst ex
        have s1 := same_new (o := .tup [.int (i : Nat), .ref a]) nT
        have E1 := errAt_same s1 (errAt_same sm hEa)
        refine ⟨T, _, rfl, .inl (.inl upd_same), rfl, _, _, rfl, _, [], rfl, rfl, ?_⟩
        -- isinstance(e, LoopError)
        refine ⟨_, rfl, a, cs (i + 8), _, _, false, rfl, E1, ic, fun _ r => r, kl, false, rfl, iteF ?_⟩
        -- kinds(e) != ..
        refine ⟨_, rfl, a, cs (i + 8), _, rfl, E1, ic, th, fun H4 k4 s4 n4 e4 => ⟨13, rfl, by decide, by decide, fun D nD => ?_⟩⟩
        refine ⟨fun j m' H5 => j + m' = 13 ∧ Same H4 H5 ∧ H5 D = some (.lst ((upTo (i + 8) j).map V.bl)), ⟨13, rfl, same_new nD, upd_same⟩, fun j m' H5 hV => ?_⟩
        obtain ⟨em', sm5, eD⟩ := hV
        by_cases hj : j < 13
        · refine .inr ⟨hj, fun H6 => Same H4 H6 ∧ H6 D = some (.lst ((upTo (i + 8) (j + 1)).map V.bl)), fun H6 hN => ⟨m' - 1, by omega, by omega, hN.1, hN.2⟩, fun x H6 hx => ?_⟩
          obtain ⟨rfl, rfl⟩ := hx
          refine ⟨rfl, yes_if ?_⟩
          refine ⟨_, rfl, _, rfl, _, _, rfl, rfl, rfl, _, eD, ?_, fun b o e => ?_, ?_⟩
          · rw [List.length_map]
            refine small1000 ?_
            unfold upTo
            rw [List.length_map, List.length_range]
            omega
          · rw [upd_ne (ne_of_none e nD)]
            exact sm5 _ _ e
          · rw [upd_same, upTo_succ, List.map_append]
            have ev : (decide (V.int (0 + (j : Int)) = V.int ((i : Int) + 8))) = decide (j = i + 8) := by
              by_cases c : j = i + 8
              · rw [decide_eq_true c, c]
                exact decide_eq_true (by rw [Int.zero_add]; rfl)
              · rw [decide_eq_false c]
                refine decide_eq_false fun z => c ?_
                have z2 := V.int.inj z
                omega
            show some (HO.lst (_ ++ [V.bl (decide (V.int (0 + (j : Int)) = V.int ((i : Int) + 8)))])) = _
            rw [ev]
            rfl
        · have ej : j = 13 := by omega
          subst ej
          refine .inl ⟨Nat.le_refl _, bData (unit13 (i + 8)), bData (unit13 (i + 8)), dp_bools (sm5 _ _ e4), dp_bools eD, shaped_unit (i + 8) (by omega), shaped_unit (i + 8) (by omega), _, rfl, ?_⟩
          refine pass_not (eqv_unit (i + 8) (by omega)) ?_
          exact ⟨_, _, _, rfl, s1.trans (s4.trans sm5)⟩
    · refine .inl ⟨⟨_, hS, by show 5 ≤ i; omega⟩, ?_⟩
      -- [built_in(e) for e in some] != [..]
      refine ⟨_, rfl, sp, rfl, ⟨_, hS⟩, fun D nD => ?_⟩
      have sD := same_new (o := .lst []) nD
      refine ⟨fun j m' H5 => j + m' = 5 ∧ Same H' H5 ∧ H5 D = some (.lst ((tens.take j).map V.int)), ⟨5, rfl, sD, upd_same⟩, fun j m' H5 hV => ?_⟩
      obtain ⟨em', sm5, eD⟩ := hV
      by_cases hj : j < 5
      · obtain ⟨a, bs, ga, hEa, sv, tn⟩ := errs j hj
        obtain ⟨ic, _, _⟩ := V5.is (j + 8) (by omega) (by omega)
        refine .inr ⟨⟨_, _, sm5.seq hS, ga⟩, fun H6 => Same H' H6 ∧ H6 D = some (.lst ((tens.take (j + 1)).map V.int)), fun H6 hN => ⟨m' - 1, by omega, by omega, hN.1, hN.2⟩, fun x H6 hx => ?_⟩
        obtain ⟨rfl, fx⟩ := hx
        have ex := Option.some.inj ((fx _ (sm5.seq hS)).symm.trans ga)
        subst ex
        refine ⟨rfl, yes_if ?_⟩
        refine ⟨_, rfl, a, cs (j + 8), bs, rfl, errAt_same (sm.trans sm5) hEa, ic, sv, fun H7 s7 => ⟨_, s7 _ _ eD, ?_, fun b o e => ?_, ?_⟩⟩
        · rw [List.length_map, List.length_take]
          refine small1000 ?_
          omega
        · rw [upd_ne (ne_of_none e nD)]
          exact s7 _ _ (sm5 _ _ e)
        · rw [upd_same, List.take_add_one, tn, List.map_append]
          rfl
      · have ej : tens.take j = tens := List.take_of_length_le (by show 5 ≤ j; omega)
        rw [ej] at eD
        refine .inl ⟨⟨_, sm5.seq hS, by show 5 ≤ j; omega⟩, ?_⟩
        refine ⟨_, _, rfl, rfl, _, _, rfl, rfl, _, _, rfl, rfl, by show 5 ≤ sizeLine; decide, fun q nq => ?_⟩
        refine ⟨.list (tens.map .int), .list (tens.map .int), dp_tens (same_new nq _ _ eD), dp_tens upd_same, by decide +kernel, by decide +kernel, _, rfl, ?_⟩
        refine pass_not (by decide +kernel) ?_
        -- return repr([..]) == repr(kept)
        have sq := same_new (o := .lst (tens.map V.int)) nq
        have sF := sm.trans (sm5.trans sq)
        have sR := fun (H' : Hp) => seq_stays (K := K) (r := sp) (H' := H') Ss upd_same
        refine ⟨_, rfl, sp, _, 0, .ref a8, rfl, rfl, sR _ sF, rfl, a8, cs 8, d8, v, rfl, sF _ _ O8, sF _ _ D8, (V5.is 8 (by decide) (by decide)).1, V5.f8, _, rfl, sp, _, 1, .ref a9, rfl, rfl, sR _ sF, rfl, a9, cs 9, d9, nm, rfl, sF _ _ O9, sF _ _ D9, (V5.is 9 (by decide) (by decide)).1, V5.f9, _, rfl, sp, _, 2, .ref a10, rfl, rfl, sR _ sF, rfl, a10, cs 10, d10, w3, rfl, sF _ _ O10, sF _ _ D10, (V5.is 10 (by decide) (by decide)).1, V5.f10, _, rfl, sp, _, 3, .ref a11, rfl, rfl, sR _ sF, rfl, a11, cs 11, d11, w4, rfl, sF _ _ O11, sF _ _ D11, (V5.is 11 (by decide) (by decide)).1, V5.f11, _, rfl, sp, _, 4, .ref a12, rfl, rfl, sR _ sF, rfl, a12, cs 12, d12, (V.int (r * (10 : Int) ^ (50 : Int).toNat)), rfl, sF _ _ O12, sF _ _ D12, (V5.is 12 (by decide) (by decide)).1, V5.f12, by show 5 ≤ sizeLine; decide, fun qq nqq => ?_⟩
        have sG := sF.trans (same_new (o := .lst [v, nm, w3, w4, (V.int (r * (10 : Int) ^ (50 : Int).toNat))]) nqq)
        have big := hAll.trans sG
        have full := Sk.trans big
        obtain ⟨dv, q1, k1⟩ := value_data (K := K) (full _ _ kt1) gb hv
        obtain ⟨dn, q2, k2⟩ := name_data (K := K) (full _ _ kt2) (full _ _ kt3) hnm
        obtain ⟨d3, q3, k3⟩ := limit_data (K := K) full hw3
        obtain ⟨d4, q4, k4⟩ := counter_data (K := K) full hw4
        have nice : ∀ d ∈ [dv, dn, d3, d4, PyData.int (r * (10 : Int) ^ (50 : Int).toNat)], Nice d := fun d hd => by
          simp only [List.mem_cons, List.not_mem_nil, or_false] at hd
          rcases hd with rfl | rfl | rfl | rfl | rfl
          · exact k1
          · exact k2
          · exact k3
          · exact k4
          · exact nice_int gb
        obtain ⟨z1, z2, z3, z4⟩ := nice_list nice (by show 5 ≤ 5; decide)
        refine ⟨qq, _, rfl, .lst (.inl (.inl upd_same)) (.cons q1 (.cons q2 (.cons q3 (.cons q4 (.cons (.int _) .nil))))), z1, z2, z3, z4, ?_⟩
        refine ⟨_, rfl, kp, _, rfl, .lst (sqk _ big) (.cons q1 (.cons q2 (.cons q3 (.cons q4 (.cons (.int _) .nil))))), z1, z2, z3, z4, rfl, ?_⟩
        rw [decide_eq_true rfl]
        exact k _ fun b o n e => full _ _ (c5 b o n e)
end
end Q0
/-! ### 9. The law -/
namespace Q0
open PySem PySem.Spec PyProof.Rows L2
abbrev sLaw : Stmt := top 23
abbrev lNames : List Str := ["_law_script", "_law_at", "_law_dice_here", "_law_signs", "_law_words", "_law_turn"]
theorem scLaw : FnScope lNames ["_law_script"] (defScope sLaw) := ⟨rfl, rfl, rfl, by decide +kernel, rfl, by decide +kernel, by decide +kernel⟩
def spLaw (K : PySem.W.Frag) : Sp := fun vs H Q _ => ∃ (a : Addr) (ns : List Int), vs = [.ref a] ∧ SqL K H a (ns.map V.int) ∧ ∀ H', Q (.bl true) H'
theorem short_sum : ∀ ys : List Str, (∀ y ∈ ys, y.length ≤ 1) → (ys.map (·.length)).sum ≤ ys.length
  | [], _ => Nat.le_refl _
  | y :: r, h => by
    have a := h y (List.mem_cons_self ..)
    have b := short_sum r fun u hu => h u (List.mem_cons_of_mem _ hu)
    show y.length + (r.map (·.length)).sum ≤ r.length + 1
    omega
theorem sign_of {v : V} (h : v ∈ [V.str "a", .str "z", .str " ", .str "\n", .str "'", .str "-", .str "{", .str "0"]) : ∃ y : Str, v = .str y ∧ y.length ≤ 1 := by
  simp only [List.mem_cons, List.not_mem_nil, or_false] at h
  rcases h with rfl | rfl | rfl | rfl | rfl | rfl | rfl | rfl <;> exact ⟨_, rfl, by decide +kernel⟩
section
variable {P : Program} {w : World} {K : PySem.W.Frag} {mg : Str → Option Value} {base : Heap}
theorem ok_law {f fD fM fV fR fO : Addr} {fd fdD fdM fdV fdR fdO : FuncData} (F : Fun K "law" "law" sLaw f fd)
    (FD : Fun K "_law_dice" "_law_dice" sDice fD fdD) (bD : L2.Binds K fdD ["_law_script", "_law_at"] []) (gD : mg "_law_dice" = some (.ref fD))
    (FR : Fun K "_law_roll" "_law_roll" sRoll fR fdR) (bR : L2.Binds K fdR ["_law_dice_here", "_law_total"] []) (gR : mg "_law_roll" = some (.ref fR))
    (FO : Fun K "_law_one_of" "_law_one_of" sOne fO fdO) (bO : L2.Binds K fdO ["_law_dice_here", "_law_items"] []) (gO : mg "_law_one_of" = some (.ref fO))
    (GM : FnOk P w K mg base L2.CX0 2 fM fdM ["_law_words"] spMess) (kM : PySem.W.keepIn K (.ref fM) = true) (bM : L2.Binds K fdM ["_law_words"] []) (gM : mg "_law_messages_right" = some (.ref fM))
    (GV : FnG P w K mg base 3 fV fdV ["_law_dice_here"] spVals) (kV : PySem.W.keepIn K (.ref fV) = true) (bV : L2.Binds K fdV ["_law_dice_here"] []) (gV : mg "_law_values_right" = some (.ref fV))
    (B1 : Blt mg) (B3 : Blt3 mg) (mn : mg "min" = none) : FnG P w K mg base 4 f fd ["_law_script"] (spLaw K) := by
  have GD : FnOk P w K mg base L2.CX0 1 fD fdD ["_law_script", "_law_at"] (spDice K) := ok_dice FD B1
  have GR : FnOk P w K mg base L2.CX0 1 fR fdR ["_law_dice_here", "_law_total"] spRoll := ok_roll FR B1
  have GO : FnOk P w K mg base L2.CX0 2 fO fdO ["_law_dice_here", "_law_items"] spOne := ok_one FO FR bR gR B1
  refine Fun_okG F scLaw (fun vs H Q E h => ?_) (fun cdv A outer s H vs Q E hr hng h => ?_)
  · obtain ⟨a, ns, rfl, _⟩ := h
    rfl
  · obtain ⟨a, ns, rfl, hS, k⟩ := h
    have hr1 : Room 1 (A.deeper (envOfC "law" (defScope sLaw) s.heap.objs.size f cdv)) := hr.mono (by decide)
    have hr2 : Room 2 (A.deeper (envOfC "law" (defScope sLaw) s.heap.objs.size f cdv)) := hr.mono (by decide)
    have hng' : NoRepr (A.deeper (envOfC "law" (defScope sLaw) s.heap.objs.size f cdv)) := noRepr_deeper hng
    refine ⟨_, pss_cons (ps_for PassesOwn.never rfl (pi_range1 (by rfl) B3.range (pa_cons (pe_callB (call_max2 rfl) (by rfl) B1.max (by decide +kernel) (pa_cons pe_int (pa_cons (pe_callB (call_min2 rfl) (by rfl) mn (by decide +kernel) (pa_cons pe_int (pa_cons (pe_callB call_len_seq (by rfl) B1.len PySem.boot_len (pa_cons (pv 0) pa_nil)) pa_nil))) pa_nil))) pa_nil))
        (pg_name (i := 1) scLaw.nd rfl (.inl rfl))
        (pss_cons (ps_set (i := 2) scLaw.nd rfl (.inr rfl) (pe_call GD hr1 (by rfl) gD FD.kp bD .nil pass0 (pa_cons (pv 0) (pa_cons (pv 1) pa_nil))))
        (pss_cons (ps_set (i := 3) scLaw.nd rfl (.inr rfl) (pe_lst (pa_cons pe_str (pa_cons pe_str (pa_cons pe_str (pa_cons pe_str (pa_cons pe_str (pa_cons pe_str (pa_cons pe_str (pa_cons pe_str pa_nil))))))))))
        (pss_cons (ps_set (i := 4) scLaw.nd rfl (.inl rfl) (pe_join pe_str
          (pe_lc (own := [("_law_turn", 5)]) (g := gName 5) (tt := tYes) (te := tCall spOne [] L2.E0 (tCons (tVar 2) (tCons (tVar 3) tNil))) rfl scLaw.nd
            (pi_range1 (by rfl) B3.range (pa_cons (pe_call GR hr1 (by rfl) gR FR.kp bR .nil pass0 (pa_cons (pv 2) (pa_cons pe_int pa_nil))) pa_nil))
            (blkOk_by (N := lNames) (sc := defScope sLaw) (by decide +kernel)) (fun _ _ _ _ _ => pg_name (i := 5) scLaw.nd rfl (.inl rfl) (hf := .inr rfl)) (fun _ _ _ _ _ => pts_nil)
            (fun _ _ _ _ _ => pe_call GO hr2 (by rfl) gO FO.kp bO .nil pass0 (pa_cons (pv 2) (pa_cons (pv 3) pa_nil))))))
        (pss_one (ps_if (PW.pt (pw_or (pt_not (pt_val (pe_call GM hr2 (by rfl) gM kM bM .nil pass0 (pa_cons (pv 4) pa_nil))))
            (pw_or1 (pt_not (pt_val (pe_callG GV hng' hr (by rfl) gV kV bV (pa_cons (pv 2) pa_nil)))))))
          (pss_one (ps_ret pe_bl)) pss_nil))))))
      (pss_one (ps_ret pe_bl)), ?_⟩
    refine ⟨_, rfl, a, _, rfl, .inl hS, _, _, rfl, _, _, rfl, _, rfl, ?_, ?_, ?_⟩
    · split <;> split <;> omega
    · split <;> split <;> omega
    refine for_range (fun i σ H' => ∃ y1 y2 y3 y4 y5, σ = [some (.ref a), y1, y2, y3, y4, y5] ∧ Same H H') ⟨none, none, none, none, none, rfl, same_refl⟩ ?_ ?_
    · rintro i σ H' hi ⟨y1, y2, y3, y4, y5, rfl, sm⟩
      -- dice_here = dice(script, at)
      refine ⟨_, rfl, _, rfl, a, ns, i, by rw [Int.zero_add]; rfl, sm.seq hS, fun p x y z np => ?_⟩
      have s1 := same_new (o := .lst (hand x y z)) np
      -- signs = [..]
      refine ⟨by show 8 ≤ sizeLine; decide, fun g ng => ?_⟩
      have s2 := s1.trans (same_new (o := .lst [.str "a", .str "z", .str " ", .str "\n", .str "'", .str "-", .str "{", .str "0"]) ng)
      have hp2 := same_new (o := .lst [.str "a", .str "z", .str " ", .str "\n", .str "'", .str "-", .str "{", .str "0"]) ng _ _ (upd_same (H := H') (a := p) (o := .lst (hand x y z)))
      have ngp : g ≠ p := fun c => by
        rw [c, upd_same] at ng
        cases ng
      -- words = ''.join([.. for turn in range(roll(dice_here, 9))])
      refine ⟨⟨_, rfl⟩, _, rfl, p, x, y, z, 9, rfl, hp2, by decide, by decide, fun r x1 y1' z1 H3 r0 r1 hp3 b3 => ⟨r, rfl, by omega, by omega, fun D nD => ?_⟩⟩
      have hg3 : H3 g = some (.lst [.str "a", .str "z", .str " ", .str "\n", .str "'", .str "-", .str "{", .str "0"]) := b3 g _ ngp upd_same
      have nDp : D ≠ p := fun c => by
        rw [c, hp3] at nD
        cases nD
      refine ⟨fun j m H4 => j + m = r.toNat ∧ But p H3 H4 ∧ (∃ x y z : Int, H4 p = some (.lst (hand x y z))) ∧ ∃ ys : List Str, H4 D = some (.lst (ys.map V.str)) ∧ ys.length = j ∧ ∀ u ∈ ys, u.length ≤ 1,
        ⟨r.toNat, by omega, fun b o _ e => same_new nD _ _ e, ⟨x1, y1', z1, same_new nD _ _ hp3⟩, [], upd_same, rfl, fun u z => nomatch z⟩, fun j m H4 hV => ?_⟩
      obtain ⟨em, b4, ⟨x2, y2', z2, hp4⟩, ys, eD, ly, sh⟩ := hV
      by_cases hj : j < r.toNat
      · refine .inr ⟨hj, fun H5 => But p H3 H5 ∧ (∃ x y z : Int, H5 p = some (.lst (hand x y z))) ∧ ∃ ys : List Str, H5 D = some (.lst (ys.map V.str)) ∧ ys.length = j + 1 ∧ ∀ u ∈ ys, u.length ≤ 1, fun H5 hN => ⟨m - 1, by omega, by omega, hN⟩, fun v H5 hx => ?_⟩
        obtain ⟨rfl, rfl⟩ := hx
        refine ⟨rfl, yes_if ?_⟩
        refine ⟨_, rfl, _, rfl, p, g, x2, y2', z2, _, rfl, hp4, b4 g _ ngp hg3, ngp, (by show 0 < 8; decide), (by show 8 < 1073741824; decide), fun w x5 y5' z5 H6 hw hp6 b6 => ?_⟩
        obtain ⟨c, rfl, lc⟩ := sign_of hw
        refine ⟨_, b6 D _ nDp eD, ?_, fun b o n e => ?_, ⟨x5, y5', z5, ?_⟩, ys ++ [c], ?_, ?_, fun u hu => ?_⟩
        · rw [List.length_map]
          exact small1000 (by omega)
        · rw [upd_ne (ne_of_none e nD)]
          exact b6 b o n (b4 b o n e)
        · rw [upd_ne nDp.symm]
          exact hp6
        · rw [upd_same, List.map_append]
          rfl
        · rw [List.length_append, ly]
          rfl
        · rcases List.mem_append.mp hu with e | e
          · exact sh u e
          · have e2 := List.mem_singleton.mp e
            rw [e2]
            exact lc
      · refine .inl ⟨by show r.toNat ≤ j; omega, "", D, ys, rfl, rfl, .inl (.inl (.inl eD)), ?_, ?_⟩
        · have e := short_sum ys sh
          show _ + ys.length * 0 ≤ 16777216
          omega
        -- messages_right(words)
        refine ⟨_, rfl, _, rfl, fun H5 s5 => ⟨true, rfl, iteF ?_⟩⟩
        -- values_right(dice_here)
        refine ⟨_, rfl, p, x2, y2', z2, rfl, s5 _ _ hp4, fun H6 b6 => ⟨true, rfl, iteF ?_⟩⟩
        refine ⟨_, _, _, _, _, rfl, fun b o e => ?_⟩
        have e1 := sm _ _ e
        have nbp : b ≠ p := ne_of_none e1 np
        exact b6 b o nbp (s5 _ _ (b4 b o nbp (b3 b o nbp (s2 _ _ e1))))
    · rintro σ H' _
      exact k H'
end
end Q0
/-! ### 10. The five __init__s as they stand in the text -/
namespace Q0
open PySem PySem.Spec PyProof.Rows L2
def at10 (l : List Pos) (n : Nat) : Pos := l.getD n ⟨0, 0, 0, 0⟩
def q8 : List Pos := [⟨23, 8, 23, 13⟩, ⟨23, 8, 23, 15⟩, ⟨23, 8, 23, 24⟩, ⟨23, 25, 23, 57⟩, ⟨23, 8, 23, 58⟩, ⟨23, 8, 23, 58⟩, ⟨24, 8, 24, 12⟩, ⟨24, 8, 24, 18⟩, ⟨24, 21, 24, 26⟩, ⟨24, 8, 24, 26⟩]
def m8 : Str := "no integer that may stand here"
theorem line8 : LineOk m8 (at10 q8) := ⟨_, fun env => rfl⟩
theorem name8 : NameOk "value" := ⟨rfl, rfl, rfl, rfl, by decide, by decide, fun _ _ _ _ _ _ _ _ _ _ _ _ _ _ => rfl⟩
def q9 : List Pos := [⟨28, 8, 28, 13⟩, ⟨28, 8, 28, 15⟩, ⟨28, 8, 28, 24⟩, ⟨28, 25, 28, 53⟩, ⟨28, 8, 28, 54⟩, ⟨28, 8, 28, 54⟩, ⟨29, 8, 29, 12⟩, ⟨29, 8, 29, 17⟩, ⟨29, 20, 29, 24⟩, ⟨29, 8, 29, 24⟩]
def m9 : Str := "nothing has this name here"
theorem line9 : LineOk m9 (at10 q9) := ⟨_, fun env => rfl⟩
theorem name9 : NameOk "name" := ⟨rfl, rfl, rfl, rfl, by decide, by decide, fun _ _ _ _ _ _ _ _ _ _ _ _ _ _ => rfl⟩
def q10 : List Pos := [⟨33, 8, 33, 13⟩, ⟨33, 8, 33, 15⟩, ⟨33, 8, 33, 24⟩, ⟨33, 25, 33, 46⟩, ⟨33, 8, 33, 47⟩, ⟨33, 8, 33, 47⟩, ⟨34, 8, 34, 12⟩, ⟨34, 8, 34, 18⟩, ⟨34, 21, 34, 26⟩, ⟨34, 8, 34, 26⟩]
def m10 : Str := "more than the limit"
theorem line10 : LineOk m10 (at10 q10) := ⟨_, fun env => rfl⟩
theorem name10 : NameOk "limit" := ⟨rfl, rfl, rfl, rfl, by decide, by decide, fun _ _ _ _ _ _ _ _ _ _ _ _ _ _ => rfl⟩
def q11 : List Pos := [⟨38, 8, 38, 13⟩, ⟨38, 8, 38, 15⟩, ⟨38, 8, 38, 24⟩, ⟨38, 25, 38, 55⟩, ⟨38, 8, 38, 56⟩, ⟨38, 8, 38, 56⟩, ⟨39, 8, 39, 12⟩, ⟨39, 8, 39, 20⟩, ⟨39, 23, 39, 30⟩, ⟨39, 8, 39, 30⟩]
def m11 : Str := "a counter would fall below 0"
theorem line11 : LineOk m11 (at10 q11) := ⟨_, fun env => rfl⟩
theorem name11 : NameOk "counter" := ⟨rfl, rfl, rfl, rfl, by decide, by decide, fun _ _ _ _ _ _ _ _ _ _ _ _ _ _ => rfl⟩
def q12 : List Pos := [⟨43, 8, 43, 13⟩, ⟨43, 8, 43, 15⟩, ⟨43, 8, 43, 24⟩, ⟨43, 25, 43, 54⟩, ⟨43, 8, 43, 55⟩, ⟨43, 8, 43, 55⟩, ⟨44, 8, 44, 12⟩, ⟨44, 8, 44, 17⟩, ⟨44, 20, 44, 24⟩, ⟨44, 8, 44, 24⟩]
def m12 : Str := "there are not so many steps"
theorem line12 : LineOk m12 (at10 q12) := ⟨_, fun env => rfl⟩
theorem name12 : NameOk "many" := ⟨rfl, rfl, rfl, rfl, by decide, by decide, fun _ _ _ _ _ _ _ _ _ _ _ _ _ _ => rfl⟩
end Q0
/-! ### 11. What the top has written -/
namespace Q0
open PySem PySem.Spec PySem.W PyProof.Rows L2
/-- what isinstance asks, as a look -/
def isLook (K : Frag) (C : Addr) : Bool :=
  hasDictIn K C && findIn K (.ref C) "__getattribute__" == some (some (.builtin "BaseException.__getattribute__")) && findIn K (.ref C) "__getattr__" == some none && subIn K (.ref C) (.type "BaseException") == some true &&
  findIn K (.ref C) "__class__" == some (some (.builtin "object.__class__")) && specialIn K (.builtin "object.__class__") "__get__" == some (some (.builtin "getset_descriptor.__get__")) &&
  takesIn K (.builtin "object.__class__") == some true && mroIn K C (.type "object") == some true
theorem is_of {K : Frag} {C : Addr} (h : isLook K C = true) : IsC K C := by
  unfold isLook at h
  simp only [Bool.and_eq_true, beq_iff_eq] at h
  obtain ⟨⟨⟨⟨⟨⟨⟨h1, h2⟩, h3⟩, h4⟩, h5⟩, h6⟩, h7⟩, h8⟩ := h
  exact ⟨h1, h2, h3, h4, h5, h6, h7, h8⟩
def sevLook (K : Frag) (C : Addr) (bs : List Bool) : Bool :=
  ["ValueError", "IndexError", "KeyError", "LookupError", "RuntimeError", "ArithmeticError", "OverflowError"].map (fun T => kitOne K (.ref C) (.type T)) == bs.map some && bs.length == 7
theorem sev_of {K : Frag} {C : Addr} {bs : List Bool} (h : sevLook K C bs = true) : Seven K C bs := by
  unfold sevLook at h
  simp only [Bool.and_eq_true, beq_iff_eq] at h
  obtain ⟨h, hl⟩ := h
  match bs, hl with
  | [b1, b2, b3, b4, b5, b6, b7], _ =>
    simp only [List.map_cons, List.map_nil, List.cons.injEq, and_true] at h
    obtain ⟨e1, e2, e3, e4, e5, e6, e7⟩ := h
    exact ⟨b1, b2, b3, b4, b5, b6, b7, rfl, e1, e2, e3, e4, e5, e6, e7⟩
def thirLook (K : Frag) (cs : List Addr) (C : Addr) (bs : List Bool) : Bool := cs.map (fun c => kitOne K (.ref C) (.ref c)) == bs.map some && bs.length == 13
def csOf (l : List Addr) (i : Nat) : Addr := l.getD i 0
theorem thir_of {K : Frag} {c0 c1 c2 c3 c4 c5 c6 c7 c8 c9 c10 c11 c12 C : Addr} {bs : List Bool} (h : thirLook K [c0, c1, c2, c3, c4, c5, c6, c7, c8, c9, c10, c11, c12] C bs = true) : Thirteen K (csOf [c0, c1, c2, c3, c4, c5, c6, c7, c8, c9, c10, c11, c12]) C bs := by
  unfold thirLook at h
  simp only [Bool.and_eq_true, beq_iff_eq] at h
  obtain ⟨h, hl⟩ := h
  match bs, hl with
  | [b0, b1, b2, b3, b4, b5, b6, b7, b8, b9, b10, b11, b12], _ =>
    simp only [List.map_cons, List.map_nil, List.cons.injEq, and_true] at h
    obtain ⟨e0, e1, e2, e3, e4, e5, e6, e7, e8, e9, e10, e11, e12⟩ := h
    exact ⟨b0, b1, b2, b3, b4, b5, b6, b7, b8, b9, b10, b11, b12, rfl, e0, e1, e2, e3, e4, e5, e6, e7, e8, e9, e10, e11, e12⟩
def msgLook (K : Frag) (C : Addr) : Bool := excIn K C veTail "ValueError.__new__" && keepIn K (.ref C) && isLook K C && sevLook K C [true, false, false, false, false, false, false]
theorem msg_of {K : Frag} {C : Addr} (h : msgLook K C = true) : MsgC K C := by
  unfold msgLook at h
  simp only [Bool.and_eq_true] at h
  obtain ⟨⟨⟨h1, h2⟩, h3⟩, h4⟩ := h
  exact ⟨h1, h2, is_of h3, sev_of h4⟩
/-- of a class with an __init__ -/
def valLook (K : Frag) (C fI : Addr) (Bi ii newId : String) (bmB : List Value) (f : Str) (bs : List Bool) : Bool :=
  excInitIn K C bmB newId && excOver K C bmB && isFn K (.ref fI) && findIn K (.ref C) "__setattr__" == some (some (.builtin "object.__setattr__")) && takerIn K C f == some none &&
  subIn K (.ref C) (.type Bi) == some true && mroIn K C (.ref C) == some true && keepIn K (.ref C) && ks_superIn K C C "__init__" == some (some (.builtin ii)) && isLook K C && sevLook K C bs && findIn K (.ref C) f == some none
structure ValL (K : Frag) (C fI : Addr) (Bi ii newId : String) (bmB : List Value) (f : Str) (bs : List Bool) : Prop where
  q : excInitIn K C bmB newId = true
  ov : excOver K C bmB = true
  hf : isFn K (.ref fI) = true
  sa : findIn K (.ref C) "__setattr__" = some (some (.builtin "object.__setattr__"))
  tk : takerIn K C f = some none
  sB : subIn K (.ref C) (.type Bi) = some true
  me : mroIn K C (.ref C) = some true
  kp : keepIn K (.ref C) = true
  sup : ks_superIn K C C "__init__" = some (some (.builtin ii))
  is : IsC K C
  sv : Seven K C bs
  no : findIn K (.ref C) f = some none
theorem val_of {K : Frag} {C fI : Addr} {Bi ii newId : String} {bmB : List Value} {f : Str} {bs : List Bool} (h : valLook K C fI Bi ii newId bmB f bs = true) : ValL K C fI Bi ii newId bmB f bs := by
  unfold valLook at h
  simp only [Bool.and_eq_true, beq_iff_eq] at h
  obtain ⟨⟨⟨⟨⟨⟨⟨⟨⟨⟨⟨h1, h2⟩, h3⟩, h4⟩, h5⟩, h6⟩, h7⟩, h8⟩, h9⟩, h10⟩, h11⟩, h12⟩ := h
  exact ⟨h1, h2, h3, h4, h5, h6, h7, h8, h9, is_of h10, sev_of h11, h12⟩
/-- the built-in names that the text uses, none of them stored -/
def freeNames : List Str := ["len", "int", "abs", "max", "min", "isinstance", "sum", "zip", "enumerate", "range", "repr", "super", "ValueError", "IndexError", "KeyError", "LookupError", "RuntimeError", "ArithmeticError", "OverflowError"]
def freeLook (K : Frag) : Bool := freeNames.all fun x => nsIn K mainGlobals x == some none
theorem free_of {K : Frag} {h : Heap} {mg : Str → Option Value} (X : K.In h) (G : h.Ns mainGlobals mg) (e : freeLook K = true) {x : Str} (hx : x ∈ freeNames) : mg x = none := by
  have z := List.all_eq_true.mp e x hx
  exact mg_none_of X G (beq_iff_eq.mp z)
/-- all looks at once -/
def allLook (K : Frag) (cs : List Addr) (CL f8 f9 f10 f11 f12 : Addr) : Bool :=
  freeLook K && nsIn K cStatics "thirdparty.any" == some none && msgLook K CL && thirLook K cs CL (unit13 13) &&
  (List.range 8).all (fun i => msgLook K (csOf cs i) && thirLook K cs (csOf cs i) (unit13 i) && kitOne K (.ref (csOf cs i)) (.ref CL) == some true) &&
  (List.range 5).all (fun i => thirLook K cs (csOf cs (i + 8)) (unit13 (i + 8)) && kitOne K (.ref (csOf cs (i + 8))) (.ref CL) == some false) &&
  valLook K (csOf cs 8) f8 "IndexError" "IndexError.__init__" "IndexError.__new__" [.type "IndexError", .type "LookupError", .type "Exception", .type "BaseException", .type "object"] "value" [false, true, false, true, false, false, false] &&
  valLook K (csOf cs 9) f9 "KeyError" "KeyError.__init__" "LookupError.__new__" [.type "KeyError", .type "LookupError", .type "Exception", .type "BaseException", .type "object"] "name" [false, false, true, true, false, false, false] &&
  valLook K (csOf cs 10) f10 "OverflowError" "OverflowError.__init__" "OverflowError.__new__" [.type "OverflowError", .type "ArithmeticError", .type "Exception", .type "BaseException", .type "object"] "limit" [false, false, false, false, false, true, true] &&
  valLook K (csOf cs 11) f11 "ArithmeticError" "ArithmeticError.__init__" "ArithmeticError.__new__" [.type "ArithmeticError", .type "Exception", .type "BaseException", .type "object"] "counter" [false, false, false, false, false, true, false] &&
  valLook K (csOf cs 12) f12 "LookupError" "LookupError.__init__" "LookupError.__new__" [.type "LookupError", .type "Exception", .type "BaseException", .type "object"] "many" [false, false, false, true, false, false, false]
theorem all_mk {P : Program} {w : World} {K : Frag} {h : Heap} {mg : Str → Option Value} {fa CL c0 c1 c2 c3 c4 c5 c6 c7 c8 c9 c10 c11 c12 : Addr} (X : K.In h) (Gn : h.Ns mainGlobals mg) (hfa : mg "law" = some (.ref fa))
    {g0 : Addr} {od0 an0 : Option Addr} {sl0 : Array (Option Value)} {oc0 kV0 dc0 pm0 cd0 ct0 : Value}
    {g1 : Addr} {od1 an1 : Option Addr} {sl1 : Array (Option Value)} {oc1 kV1 dc1 pm1 cd1 ct1 : Value}
    {g2 : Addr} {od2 an2 : Option Addr} {sl2 : Array (Option Value)} {oc2 kV2 dc2 pm2 cd2 ct2 : Value}
    {g3 : Addr} {od3 an3 : Option Addr} {sl3 : Array (Option Value)} {oc3 kV3 dc3 pm3 cd3 ct3 : Value}
    {g4 : Addr} {od4 an4 : Option Addr} {sl4 : Array (Option Value)} {oc4 kV4 dc4 pm4 cd4 ct4 : Value}
    {g5 : Addr} {od5 an5 : Option Addr} {sl5 : Array (Option Value)} {oc5 kV5 dc5 pm5 cd5 ct5 : Value}
    {g6 : Addr} {od6 an6 : Option Addr} {sl6 : Array (Option Value)} {oc6 kV6 dc6 pm6 cd6 ct6 : Value}
    {g7 : Addr} {od7 an7 : Option Addr} {sl7 : Array (Option Value)} {oc7 kV7 dc7 pm7 cd7 ct7 : Value}
    {f8 d8 e8 : Addr} {vo8 va8 ro8 yo8 : Option Addr} {vs8 : Array (Option Value)} {vc8 vk8 vd8 vp8 vt8 rc8 yc8 : Value} {rs8 ys8 : Array (Option Value)} {rv8 : Array Value} {file8 : Str} {tf8 : Tok}
    {f9 d9 e9 : Addr} {vo9 va9 ro9 yo9 : Option Addr} {vs9 : Array (Option Value)} {vc9 vk9 vd9 vp9 vt9 rc9 yc9 : Value} {rs9 ys9 : Array (Option Value)} {rv9 : Array Value} {file9 : Str} {tf9 : Tok}
    {f10 d10 e10 : Addr} {vo10 va10 ro10 yo10 : Option Addr} {vs10 : Array (Option Value)} {vc10 vk10 vd10 vp10 vt10 rc10 yc10 : Value} {rs10 ys10 : Array (Option Value)} {rv10 : Array Value} {file10 : Str} {tf10 : Tok}
    {f11 d11 e11 : Addr} {vo11 va11 ro11 yo11 : Option Addr} {vs11 : Array (Option Value)} {vc11 vk11 vd11 vp11 vt11 rc11 yc11 : Value} {rs11 ys11 : Array (Option Value)} {rv11 : Array Value} {file11 : Str} {tf11 : Tok}
    {f12 d12 e12 : Addr} {vo12 va12 ro12 yo12 : Option Addr} {vs12 : Array (Option Value)} {vc12 vk12 vd12 vp12 vt12 rc12 yc12 : Value} {rs12 ys12 : Array (Option Value)} {rv12 : Array Value} {file12 : Str} {tf12 : Tok}
    (n0 : nsIn K mainGlobals "InvalidSystem" = some (some (.ref c0)))
    (n1 : nsIn K mainGlobals "InvalidGraph" = some (some (.ref c1)))
    (n2 : nsIn K mainGlobals "InvalidRecipe" = some (some (.ref c2)))
    (n3 : nsIn K mainGlobals "InvalidBalance" = some (some (.ref c3)))
    (n4 : nsIn K mainGlobals "InvalidOperation" = some (some (.ref c4)))
    (n5 : nsIn K mainGlobals "InvalidEdit" = some (some (.ref c5)))
    (n6 : nsIn K mainGlobals "ParseError" = some (some (.ref c6)))
    (n7 : nsIn K mainGlobals "InvalidCommand" = some (some (.ref c7)))
    (n8 : nsIn K mainGlobals "InvalidNumber" = some (some (.ref c8)))
    (n9 : nsIn K mainGlobals "UnknownName" = some (some (.ref c9)))
    (n10 : nsIn K mainGlobals "TooMany" = some (some (.ref c10)))
    (n11 : nsIn K mainGlobals "NotEnough" = some (some (.ref c11)))
    (n12 : nsIn K mainGlobals "NothingToUndo" = some (some (.ref c12)))
    (nL : nsIn K mainGlobals "LoopError" = some (some (.ref CL)))
    (a0 : nsIn K mainGlobals "_law_dice" = some (some (.ref g0))) (l0 : K.lookup g0 = some ⟨oc0, od0, .func (fnOf "_law_dice" "_law_dice" (defArgs sDice) (defBody sDice) (defScope sDice) .none kV0 dc0 pm0 an0 cd0 ct0), sl0⟩) (u0 : codeIn K cd0 "_law_dice" = true) (k0 : keepIn K (.ref g0) = true)
    (a1 : nsIn K mainGlobals "_law_roll" = some (some (.ref g1))) (l1 : K.lookup g1 = some ⟨oc1, od1, .func (fnOf "_law_roll" "_law_roll" (defArgs sRoll) (defBody sRoll) (defScope sRoll) .none kV1 dc1 pm1 an1 cd1 ct1), sl1⟩) (u1 : codeIn K cd1 "_law_roll" = true) (k1 : keepIn K (.ref g1) = true)
    (a2 : nsIn K mainGlobals "_law_one_of" = some (some (.ref g2))) (l2 : K.lookup g2 = some ⟨oc2, od2, .func (fnOf "_law_one_of" "_law_one_of" (defArgs sOne) (defBody sOne) (defScope sOne) .none kV2 dc2 pm2 an2 cd2 ct2), sl2⟩) (u2 : codeIn K cd2 "_law_one_of" = true) (k2 : keepIn K (.ref g2) = true)
    (a3 : nsIn K mainGlobals "_law_built_in" = some (some (.ref g3))) (l3 : K.lookup g3 = some ⟨oc3, od3, .func (fnOf "_law_built_in" "_law_built_in" (defArgs sBuilt) (defBody sBuilt) (defScope sBuilt) .none kV3 dc3 pm3 an3 cd3 ct3), sl3⟩) (u3 : codeIn K cd3 "_law_built_in" = true) (k3 : keepIn K (.ref g3) = true)
    (a4 : nsIn K mainGlobals "_law_kinds" = some (some (.ref g4))) (l4 : K.lookup g4 = some ⟨oc4, od4, .func (fnOf "_law_kinds" "_law_kinds" (defArgs sKinds) (defBody sKinds) (defScope sKinds) .none kV4 dc4 pm4 an4 cd4 ct4), sl4⟩) (u4 : codeIn K cd4 "_law_kinds" = true) (k4 : keepIn K (.ref g4) = true)
    (a5 : nsIn K mainGlobals "_law_messages_right" = some (some (.ref g5))) (l5 : K.lookup g5 = some ⟨oc5, od5, .func (fnOf "_law_messages_right" "_law_messages_right" (defArgs sMess) (defBody sMess) (defScope sMess) .none kV5 dc5 pm5 an5 cd5 ct5), sl5⟩) (u5 : codeIn K cd5 "_law_messages_right" = true) (k5 : keepIn K (.ref g5) = true)
    (a6 : nsIn K mainGlobals "_law_values_right" = some (some (.ref g6))) (l6 : K.lookup g6 = some ⟨oc6, od6, .func (fnOf "_law_values_right" "_law_values_right" (defArgs sVals) (defBody sVals) (defScope sVals) .none kV6 dc6 pm6 an6 cd6 ct6), sl6⟩) (u6 : codeIn K cd6 "_law_values_right" = true) (k6 : keepIn K (.ref g6) = true)
    (a7 : nsIn K mainGlobals "law" = some (some (.ref g7))) (l7 : K.lookup g7 = some ⟨oc7, od7, .func (fnOf "law" "law" (defArgs sLaw) (defBody sLaw) (defScope sLaw) .none kV7 dc7 pm7 an7 cd7 ct7), sl7⟩) (u7 : codeIn K cd7 "law" = true) (k7 : keepIn K (.ref g7) = true)
    (i8 : findIn K (.ref c8) "__init__" = some (some (.ref f8))) (v8 : K.lookup f8 = some ⟨vc8, vo8, .func (ksFn "__init__" "InvalidNumber.__init__" (iA "value" ⟨22, 17, 22, 21⟩ ⟨22, 23, 22, 28⟩) (iB "value" m8 (at10 q8)) (iS "value") .none vk8 vd8 vp8 va8 (.ref d8) vt8 e8), vs8⟩) (w8 : codeIn K (.ref d8) "InvalidNumber.__init__" = true)
    (r8 : K.lookup d8 = some ⟨rc8, ro8, .fields rv8, rs8⟩) (x8 : rv8[2]? = some (.str file8 tf8)) (p8 : ((P.main.file : Str) == file8) = true) (y8 : K.lookup e8 = some ⟨yc8, yo8, .cell (some (.ref c8)), ys8⟩)
    (i9 : findIn K (.ref c9) "__init__" = some (some (.ref f9))) (v9 : K.lookup f9 = some ⟨vc9, vo9, .func (ksFn "__init__" "UnknownName.__init__" (iA "name" ⟨27, 17, 27, 21⟩ ⟨27, 23, 27, 27⟩) (iB "name" m9 (at10 q9)) (iS "name") .none vk9 vd9 vp9 va9 (.ref d9) vt9 e9), vs9⟩) (w9 : codeIn K (.ref d9) "UnknownName.__init__" = true)
    (r9 : K.lookup d9 = some ⟨rc9, ro9, .fields rv9, rs9⟩) (x9 : rv9[2]? = some (.str file9 tf9)) (p9 : ((P.main.file : Str) == file9) = true) (y9 : K.lookup e9 = some ⟨yc9, yo9, .cell (some (.ref c9)), ys9⟩)
    (i10 : findIn K (.ref c10) "__init__" = some (some (.ref f10))) (v10 : K.lookup f10 = some ⟨vc10, vo10, .func (ksFn "__init__" "TooMany.__init__" (iA "limit" ⟨32, 17, 32, 21⟩ ⟨32, 23, 32, 28⟩) (iB "limit" m10 (at10 q10)) (iS "limit") .none vk10 vd10 vp10 va10 (.ref d10) vt10 e10), vs10⟩) (w10 : codeIn K (.ref d10) "TooMany.__init__" = true)
    (r10 : K.lookup d10 = some ⟨rc10, ro10, .fields rv10, rs10⟩) (x10 : rv10[2]? = some (.str file10 tf10)) (p10 : ((P.main.file : Str) == file10) = true) (y10 : K.lookup e10 = some ⟨yc10, yo10, .cell (some (.ref c10)), ys10⟩)
    (i11 : findIn K (.ref c11) "__init__" = some (some (.ref f11))) (v11 : K.lookup f11 = some ⟨vc11, vo11, .func (ksFn "__init__" "NotEnough.__init__" (iA "counter" ⟨37, 17, 37, 21⟩ ⟨37, 23, 37, 30⟩) (iB "counter" m11 (at10 q11)) (iS "counter") .none vk11 vd11 vp11 va11 (.ref d11) vt11 e11), vs11⟩) (w11 : codeIn K (.ref d11) "NotEnough.__init__" = true)
    (r11 : K.lookup d11 = some ⟨rc11, ro11, .fields rv11, rs11⟩) (x11 : rv11[2]? = some (.str file11 tf11)) (p11 : ((P.main.file : Str) == file11) = true) (y11 : K.lookup e11 = some ⟨yc11, yo11, .cell (some (.ref c11)), ys11⟩)
    (i12 : findIn K (.ref c12) "__init__" = some (some (.ref f12))) (v12 : K.lookup f12 = some ⟨vc12, vo12, .func (ksFn "__init__" "NothingToUndo.__init__" (iA "many" ⟨42, 17, 42, 21⟩ ⟨42, 23, 42, 27⟩) (iB "many" m12 (at10 q12)) (iS "many") .none vk12 vd12 vp12 va12 (.ref d12) vt12 e12), vs12⟩) (w12 : codeIn K (.ref d12) "NothingToUndo.__init__" = true)
    (r12 : K.lookup d12 = some ⟨rc12, ro12, .fields rv12, rs12⟩) (x12 : rv12[2]? = some (.str file12 tf12)) (p12 : ((P.main.file : Str) == file12) = true) (y12 : K.lookup e12 = some ⟨yc12, yo12, .cell (some (.ref c12)), ys12⟩)
    (top : (P.main.scope.names.lookup ("super" : Str)).isSome = false) (look : allLook K [c0, c1, c2, c3, c4, c5, c6, c7, c8, c9, c10, c11, c12] CL f8 f9 f10 f11 f12 = true) :
    ∃ fd : FuncData, (∀ (s : Shared) (u : Value), BindsTo s fd ⟨[u], []⟩ [("_law_script", u)]) ∧ ∀ base : Heap, K.In base → base.Ns mainGlobals mg → FnG P w K mg base 4 fa fd ["_law_script"] (spLaw K) := by
  have e := hfa.symm.trans (mg_of X Gn a7)
  cases e
  have F0 := fun_mk (st := sDice) l0 u0 k0
  have F1 := fun_mk (st := sRoll) l1 u1 k1
  have F2 := fun_mk (st := sOne) l2 u2 k2
  have F3 := fun_mk (st := sBuilt) l3 u3 k3
  have F4 := fun_mk (st := sKinds) l4 u4 k4
  have F5 := fun_mk (st := sMess) l5 u5 k5
  have F6 := fun_mk (st := sVals) l6 u6 k6
  have F7 := fun_mk (st := sLaw) l7 u7 k7
  unfold allLook at look
  simp only [Bool.and_eq_true, beq_iff_eq, List.all_eq_true, List.mem_range] at look
  obtain ⟨⟨⟨⟨⟨⟨⟨⟨⟨⟨z1, z2⟩, z3⟩, z4⟩, z5⟩, z6⟩, z8⟩, z9⟩, z10⟩, z11⟩, z12⟩ := look
  have fr : ∀ {x : Str}, x ∈ freeNames → mg x = none := fun {x} hx => free_of X Gn z1 hx
  have B1 : Blt mg := ⟨fr (by decide), fr (by decide), fr (by decide), fr (by decide)⟩
  have B2 : Blt2 mg := ⟨fr (by decide), fr (by decide), fr (by decide), fr (by decide), fr (by decide), fr (by decide), fr (by decide), fr (by decide), fr (by decide), fr (by decide)⟩
  have B3 : Blt3 mg := ⟨fr (by decide), fr (by decide)⟩
  have G : Cls13 mg (csOf [c0, c1, c2, c3, c4, c5, c6, c7, c8, c9, c10, c11, c12]) := ⟨mg_of X Gn n0, mg_of X Gn n1, mg_of X Gn n2, mg_of X Gn n3, mg_of X Gn n4, mg_of X Gn n5, mg_of X Gn n6, mg_of X Gn n7, mg_of X Gn n8, mg_of X Gn n9, mg_of X Gn n10, mg_of X Gn n11, mg_of X Gn n12⟩
  have gl : mg "LoopError" = some (.ref CL) := mg_of X Gn nL
  have M : Msgs K mg (csOf [c0, c1, c2, c3, c4, c5, c6, c7, c8, c9, c10, c11, c12]) CL := ⟨gl, fun i hi => ⟨msg_of (z5 i hi).1.1, thir_of (z5 i hi).1.2, (z5 i hi).2⟩, msg_of z3, thir_of z4⟩
  have V8 := val_of z8
  have V9 := val_of z9
  have V10 := val_of z10
  have V11 := val_of z11
  have V12 := val_of z12
  have nos : nsIn K mainGlobals "super" = some none := by
    unfold freeLook at z1
    exact beq_iff_eq.mp (List.all_eq_true.mp z1 "super" (by decide))
  have V5 : Vals5 P K mg (csOf [c0, c1, c2, c3, c4, c5, c6, c7, c8, c9, c10, c11, c12]) (csOf [0, 0, 0, 0, 0, 0, 0, 0, f8, f9, f10, f11, f12]) (csOf [0, 0, 0, 0, 0, 0, 0, 0, d8, d9, d10, d11, d12]) (csOf [0, 0, 0, 0, 0, 0, 0, 0, e8, e9, e10, e11, e12]) CL := {
    t8 := { base := PySem.F.excBase_IndexError, ini := .of PySem.F.excCall_IndexError kxs_IndexError, st := PySem.F.store_IndexError, ok := name8, q := V8.q, ov := V8.ov, has := by decide +kernel, noA := by decide +kernel, noN := by decide +kernel, hi := i8, hf := V8.hf, sa := V8.sa, tk := V8.tk, hd := V8.is.hd, sB := V8.sB, me := V8.me, kp := V8.kp, fn := ⟨_, _, _, _, _, _, _, _, _, _, _, _, _, v8, w8, line8⟩, code := ⟨_, _, _, _, _, _, r8, x8, p8⟩, cell := ⟨_, _, _, y8⟩, sup := V8.sup, nos := nos, tp := z2, top := top }
    t9 := { base := PySem.F.excBase_LookupError, ini := iniKey, st := keyStore, ok := name9, q := V9.q, ov := V9.ov, has := by decide +kernel, noA := by decide +kernel, noN := by decide +kernel, hi := i9, hf := V9.hf, sa := V9.sa, tk := V9.tk, hd := V9.is.hd, sB := V9.sB, me := V9.me, kp := V9.kp, fn := ⟨_, _, _, _, _, _, _, _, _, _, _, _, _, v9, w9, line9⟩, code := ⟨_, _, _, _, _, _, r9, x9, p9⟩, cell := ⟨_, _, _, y9⟩, sup := V9.sup, nos := nos, tp := z2, top := top }
    t10 := { base := PySem.F.excBase_OverflowError, ini := .of PySem.F.excCall_OverflowError kxs_OverflowError, st := PySem.F.store_OverflowError, ok := name10, q := V10.q, ov := V10.ov, has := by decide +kernel, noA := by decide +kernel, noN := by decide +kernel, hi := i10, hf := V10.hf, sa := V10.sa, tk := V10.tk, hd := V10.is.hd, sB := V10.sB, me := V10.me, kp := V10.kp, fn := ⟨_, _, _, _, _, _, _, _, _, _, _, _, _, v10, w10, line10⟩, code := ⟨_, _, _, _, _, _, r10, x10, p10⟩, cell := ⟨_, _, _, y10⟩, sup := V10.sup, nos := nos, tp := z2, top := top }
    t11 := { base := PySem.F.excBase_ArithmeticError, ini := .of PySem.F.excCall_ArithmeticError kxs_ArithmeticError, st := PySem.F.store_ArithmeticError, ok := name11, q := V11.q, ov := V11.ov, has := by decide +kernel, noA := by decide +kernel, noN := by decide +kernel, hi := i11, hf := V11.hf, sa := V11.sa, tk := V11.tk, hd := V11.is.hd, sB := V11.sB, me := V11.me, kp := V11.kp, fn := ⟨_, _, _, _, _, _, _, _, _, _, _, _, _, v11, w11, line11⟩, code := ⟨_, _, _, _, _, _, r11, x11, p11⟩, cell := ⟨_, _, _, y11⟩, sup := V11.sup, nos := nos, tp := z2, top := top }
    t12 := { base := PySem.F.excBase_LookupError, ini := .of PySem.F.excCall_LookupError kxs_LookupError, st := PySem.F.store_LookupError, ok := name12, q := V12.q, ov := V12.ov, has := by decide +kernel, noA := by decide +kernel, noN := by decide +kernel, hi := i12, hf := V12.hf, sa := V12.sa, tk := V12.tk, hd := V12.is.hd, sB := V12.sB, me := V12.me, kp := V12.kp, fn := ⟨_, _, _, _, _, _, _, _, _, _, _, _, _, v12, w12, line12⟩, code := ⟨_, _, _, _, _, _, r12, x12, p12⟩, cell := ⟨_, _, _, y12⟩, sup := V12.sup, nos := nos, tp := z2, top := top }
    is := fun i h1 h2 => by
      have z := z6 (i - 8) (by omega)
      rw [show i - 8 + 8 = i by omega] at z
      match i, h1, h2 with
      | 8, _, _ => exact ⟨V8.is, thir_of z.1, z.2⟩
      | 9, _, _ => exact ⟨V9.is, thir_of z.1, z.2⟩
      | 10, _, _ => exact ⟨V10.is, thir_of z.1, z.2⟩
      | 11, _, _ => exact ⟨V11.is, thir_of z.1, z.2⟩
      | 12, _, _ => exact ⟨V12.is, thir_of z.1, z.2⟩
    s8 := V8.sv
    f8 := V8.no
    s9 := V9.sv
    f9 := V9.no
    s10 := V10.sv
    f10 := V10.no
    s11 := V11.sv
    f11 := V11.no
    s12 := V12.sv
    f12 := V12.no }
  have b0 := F0.binds (ps := ["_law_script", "_law_at"]) fun _ _ _ _ _ _ us hl => match us, hl with | [_, _], _ => rfl
  have b1 := F1.binds (ps := ["_law_dice_here", "_law_total"]) fun _ _ _ _ _ _ us hl => match us, hl with | [_, _], _ => rfl
  have b2 := F2.binds (ps := ["_law_dice_here", "_law_items"]) fun _ _ _ _ _ _ us hl => match us, hl with | [_, _], _ => rfl
  have b3 := F3.binds (ps := ["_law_e"]) fun _ _ _ _ _ _ us hl => match us, hl with | [_], _ => rfl
  have b4 := F4.binds (ps := ["_law_e"]) fun _ _ _ _ _ _ us hl => match us, hl with | [_], _ => rfl
  have b5 := F5.binds (ps := ["_law_words"]) fun _ _ _ _ _ _ us hl => match us, hl with | [_], _ => rfl
  have b6 := F6.binds (ps := ["_law_dice_here"]) fun _ _ _ _ _ _ us hl => match us, hl with | [_], _ => rfl
  have h0 := mg_of X Gn a0
  have h1 := mg_of X Gn a1
  have h2 := mg_of X Gn a2
  have h3 := mg_of X Gn a3
  have h4 := mg_of X Gn a4
  have h5 := mg_of X Gn a5
  have h6 := mg_of X Gn a6
  refine ⟨_, fun s v => .of_eq rfl, fun base _ _ => ok_law F7 F0 b0 h0 F1 b1 h1 F2 b2 h2 (ok_mess F5 F3 b3 h3 F4 b4 h4 B2 B3 G M) k5 b5 h5 (ok_vals F6 F3 b3 h3 F4 b4 h4 F1 b1 h1 F2 b2 h2 B1 B2 B3 (fr (by decide)) G gl V5) k6 b6 h6 B1 B3 (fr (by decide))⟩
end Q0
open PySem PySem.W PyProof.Rows
set_option maxRecDepth 100000 in
set_option maxHeartbeats 0 in
theorem PySem.Challenge.cw_loopgrowth_k00_errors_holds : PySem.Challenge.rw_loopgrowth_k00_errors.Holds := by
  w_on; o_law; k_head; (case hw => w_witness2)
  k_fill
  refine Q0.row_goes (l := PySem.Challenge.rw_loopgrowth_k00_errors) (n := 63) (k := 4) (x := "_law_script") (sp := Q0.spLaw) rfl (by decide) rfl ⟨rfl, by decide, by decide⟩ (fun w h Y => PySem.W.kIn_of Y) ?F (fun K H a ns _ _ hS => ⟨a, ns, rfl, hS, fun _ => rfl⟩)
  case F =>
    intro w mg fa h KX G hmg
    refine' Q0.all_mk KX G hmg ?n0 ?n1 ?n2 ?n3 ?n4 ?n5 ?n6 ?n7 ?n8 ?n9 ?n10 ?n11 ?n12 ?nL ?a0 ?l0 ?u0 ?k0 ?a1 ?l1 ?u1 ?k1 ?a2 ?l2 ?u2 ?k2 ?a3 ?l3 ?u3 ?k3 ?a4 ?l4 ?u4 ?k4 ?a5 ?l5 ?u5 ?k5 ?a6 ?l6 ?u6 ?k6 ?a7 ?l7 ?u7 ?k7 ?i8 ?v8 ?w8 ?r8 ?x8 ?p8 ?y8 ?i9 ?v9 ?w9 ?r9 ?x9 ?p9 ?y9 ?i10 ?v10 ?w10 ?r10 ?x10 ?p10 ?y10 ?i11 ?v11 ?w11 ?r11 ?x11 ?p11 ?y11 ?i12 ?v12 ?w12 ?r12 ?x12 ?p12 ?y12 ?top ?look
    (case n0 => k_is)
    (case n1 => k_is)
    (case n2 => k_is)
    (case n3 => k_is)
    (case n4 => k_is)
    (case n5 => k_is)
    (case n6 => k_is)
    (case n7 => k_is)
    (case n8 => k_is)
    (case n9 => k_is)
    (case n10 => k_is)
    (case n11 => k_is)
    (case n12 => k_is)
    (case nL => k_is)
    (case a0 => k_is)
    (case l0 => k_is)
    (case u0 => k_is)
    (case k0 => k_is)
    (case a1 => k_is)
    (case l1 => k_is)
    (case u1 => k_is)
    (case k1 => k_is)
    (case a2 => k_is)
    (case l2 => k_is)
    (case u2 => k_is)
    (case k2 => k_is)
    (case a3 => k_is)
    (case l3 => k_is)
    (case u3 => k_is)
    (case k3 => k_is)
    (case a4 => k_is)
    (case l4 => k_is)
    (case u4 => k_is)
    (case k4 => k_is)
    (case a5 => k_is)
    (case l5 => k_is)
    (case u5 => k_is)
    (case k5 => k_is)
    (case a6 => k_is)
    (case l6 => k_is)
    (case u6 => k_is)
    (case k6 => k_is)
    (case a7 => k_is)
    (case l7 => k_is)
    (case u7 => k_is)
    (case k7 => k_is)
    (case i8 => k_is)
    (case v8 => k_is)
    (case w8 => k_is)
    (case r8 => k_is)
    (case x8 => rfl)
    (case p8 => first | rfl | decide +kernel)
    (case y8 => k_is)
    (case i9 => k_is)
    (case v9 => k_is)
    (case w9 => k_is)
    (case r9 => k_is)
    (case x9 => rfl)
    (case p9 => first | rfl | decide +kernel)
    (case y9 => k_is)
    (case i10 => k_is)
    (case v10 => k_is)
    (case w10 => k_is)
    (case r10 => k_is)
    (case x10 => rfl)
    (case p10 => first | rfl | decide +kernel)
    (case y10 => k_is)
    (case i11 => k_is)
    (case v11 => k_is)
    (case w11 => k_is)
    (case r11 => k_is)
    (case x11 => rfl)
    (case p11 => first | rfl | decide +kernel)
    (case y11 => k_is)
    (case i12 => k_is)
    (case v12 => k_is)
    (case w12 => k_is)
    (case r12 => k_is)
    (case x12 => rfl)
    (case p12 => first | rfl | decide +kernel)
    (case y12 => k_is)
    (case top => first | rfl | decide +kernel)
    (case look => kernel_rfl)
