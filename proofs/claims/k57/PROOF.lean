import PyProof.Rows.All
import Wide.All
import OpenK.AllK
import Wide.FinOn
import HandS.ForMost
import HandS.Lambda
import HandS.EndTab
import HandS.Exc
import HandS.TryMany
import KE.DataCmp
import KE.SortData
import HandS.Deep
import PyProof.ListMulRoad
import PyProof.FactsAll.tuple_2
import HandS.TupMul
import HandS.TupAny
import HandS.Style
import KE.KRevSl
import HandS.Star
import HandS.CallLocal
import KE.GoesMore
import HandS.Iter
import PySem.Challenge.RW_loopgrowth_k57_where_polynomials_reach
import HandS.Wide
import HandS.IsInst
import HandS.WordsExc
import HandS.ExcOwn
import HandS.ClsMeth
import HandS.Property
import HandS.MethStar
import KE.IntBitsLaws
import HandS.WideBits
import HandS.Walk
import HandS.RaiseMore
import KE.RegKSuper
set_option Elab.async false
set_option linter.all false
set_option maxRecDepth 100000
set_option maxHeartbeats 4000000
/-! Defs of which is known that no repr is under way when they are called; the end of a law whose defs hold lambdas and say repr -/
namespace QN
open PySem PySem.Spec PyProof.Rows L2
def NoRepr (A : Around) : Prop := A.guards = some []
theorem noRepr_deeper {A : Around} {e : Env} (h : NoRepr A) : NoRepr (A.deeper e) := by
  unfold NoRepr at h ⊢
  first
    | exact h
    | (show pushGuards _ A.guards = some []; rw [h]; rfl)
/-- the promise of a def at f, where no repr is under way -/
structure FnG (P : Program) (w : World) (K : PySem.W.Frag) (mg : Str → Option Value) (base : Heap) (k : Nat) (f : Addr) (fd : FuncData) (ps : List Str) (sp : Sp) : Prop where
  len : ∀ vs H Q E, sp vs H Q E → vs.length = ps.length
  go : ∀ (A : Around) (outer : List Env) (s : Shared) (H : Hp) (args : Args) (us : List Value) (vs : List V) (Q : VK) (E : XK), Room k A → NoRepr A → Env0 P w K mg base A outer s H → BindsTo s fd args (ps.zip us) → Vals vs us → sp vs H Q E →
    codeAny (model P w) A (.call (.ref f) args) (CR L2.CX0 outer P w H s Q E) s
/-- the def's body, its code object told: `told` is what the body's promise leans on -/
theorem Fun_okC {P : Program} {w : World} {K : PySem.W.Frag} {mg : Str → Option Value} {base : Heap} {x qual : Str} {st : Stmt} {f : Addr} {fd : FuncData} {N ps : List Str} {k : Nat} {sp : Sp}
    (F : Fun K x qual st f fd) (S : FnScope N ps (defScope st)) (len : ∀ vs H Q E, sp vs H Q E → vs.length = ps.length)
    (body : ∀ (cdv : Value) (A : Around) (outer : List Env) (s : Shared) (H : Hp) (vs : List V) (Q : VK) (E : XK), fd.code = cdv → Room k (A.deeper (envOfC qual (defScope st) s.heap.objs.size f cdv)) → NoRepr A → sp vs H Q E →
      ∃ t, PSs (cxOf L2.CX0 P w K mg base N qual (defScope st) f cdv A outer s H E).nox (defBody st) t ∧ t { nx := fun _ H' => Q .non H', rt := Q } (start N vs) H) :
    FnG P w K mg base (k + 1) f fd ps sp := by
  obtain ⟨oc, od, kV, doc, pm, an, cdv, ct, osl, rfl, lk, hcd⟩ := F.ex
  refine ⟨len, fun A outer s H args us vs Q E room hng env0 hbind rv hsp => ?_⟩
  have nvs := len _ _ _ _ hsp
  have inK : K.In s.heap := env0.mod.kin.keeps fun b o e => (env0.bs b o e).1
  have nolim : s.heap.NoLimit := env0.mod.nolimit.keeps fun b o e => (env0.bs b o e).1
  have kinds : ∀ y ∈ ps.zip us, (defScope st).names.lookup y.1 = some .local ∨ ((defScope st).names.lookup y.1 = some .cell ∧ ((cellsFrom (s.heap.objs.size + 1) (defScope st).names []).lookup y.1).isSome = true) := fun ⟨n, v⟩ hy => by
    rcases S.par n (List.of_mem_zip hy).1 with c | c
    · exact Or.inl c
    · exact Or.inr ⟨c, PySem.W.cellsFrom_some _ _ _ (Or.inl c)⟩
  refine codeAny_call_function room.depth (inK _ _ lk) rfl S.co S.gen rfl (PySem.W.codeRec_of inK hcd) (hbind _ _ _ _ ?_)
  refine wpAny_newFunctionEnv_cells S.kind kinds fun env he s1 entered => ?_
  subst he
  refine ⟨nolim.keeps entered.toInCall.keep, codeAny_func ?_⟩
  obtain ⟨t, ht, hq⟩ := body cdv A outer s H vs Q E rfl (room.deeper _) hng hsp
  have I0 := inv_start (CX := L2.CX0) (E := E) S room.hd env0 nvs rv entered
  refine wpAny_mono (ht.nox.run [] s1 (start N vs) H _ I0 hq) (fun fl s' hs => ?_) fun e s' hs => hs
  have close : ∀ {σ' : L2.St} {H' : Hp} {v : V} {u : Value}, Inv (cxOf L2.CX0 P w K mg base N qual (defScope st) f cdv A outer s H E) [] σ' H' s' → RelV v u → Q v H' → CE outer P w H s Q u s' :=
    fun {σ' H' v u} J r q => ⟨v, H', J.os, J.bare, J.base, J.hok, r, q⟩
  cases fl with
  | ret u =>
    obtain ⟨v, σ', H', J, r, q⟩ := hs
    exact close J r q
  | next =>
    obtain ⟨σ', H', J, q⟩ := hs
    exact close (v := V.non) (u := Value.none) J rfl q
  | brk => exact False.elim hs.choose_spec.choose_spec.2
  | cont => exact False.elim hs.choose_spec.choose_spec.2
/-- a promise that asks less is one where no repr is under way -/
theorem FnG.of {P : Program} {w : World} {K : PySem.W.Frag} {mg : Str → Option Value} {base : Heap} {k : Nat} {f : Addr} {fd : FuncData} {ps : List Str} {sp : Sp} (F : FnOk P w K mg base L2.CX0 k f fd ps sp) : FnG P w K mg base k f fd ps sp :=
  ⟨F.len, fun A outer s H args us vs Q E room _ env0 hbind rv hsp => F.run A outer s H args us vs Q E room env0 hbind rv hsp⟩
section
variable {X : Cx} {k : Nat} {f : Addr} {fd : FuncData} {ps : List Str} {sp : Sp} {x : Str} {p pos : Pos} {e : Expr} {es : List Expr} {t : TA}
/-- f(e, ..) of such a def -/
theorem pe_callG (F : FnG X.prog X.w X.K X.mg X.base k f fd ps sp) (hng : NoRepr X.A) (hr : Room k X.A) (hg : Gl X x) (hm : X.mg x = some (.ref f)) (hk : PySem.W.keepIn X.K (.ref f) = true) (hb : L2.Binds X.K fd ps []) (ha : PA X (e :: es) t)
    (hdb : (x == ("__debug__" : Str)) = false := by decide) (he : starEach (e :: es) X.env = (false, eval e X.env) :: starEach es X.env := by rfl) (hpl : (backTo pos (starEach es X.env)).any (·.1) = false := by rfl) :
    PE X (.Call (.Name x p) (e :: es) [] pos) (tCall sp [] L2.E0 t) := by
  refine ⟨fun pins s σ H Q I h => wpAny_Call_Name_kw (ld_glob I hg hm ?_ hdb)⟩
  refine PySem.W.callWith_K (h₀ := X.base) I.ok.mod.kin hk (thn (ha.run pos pins s σ H _ I h) fun us s1 ⟨vs, H1, J, rv, q⟩ => ⟨J.kIn, ?_⟩) he hpl
  have q' : sp vs H1 Q L2.E0 := by
    have z : sp (vs ++ []) H1 Q L2.E0 := q
    rw [List.append_nil] at z
    exact z
  have n1 : us.length = ps.length := by
    rw [← rv.length]
    exact F.len _ _ _ _ q'
  have bind := hb s1 us J.kIn (by rw [List.append_nil]; exact n1)
  rw [List.append_nil] at bind
  refine wpAny_call (codeAny_mono (F.go X.A X.stack s1 H1 ⟨us, []⟩ us vs Q L2.E0 hr hng J.env0 bind rv q') fun r s' hq => ?_)
  cases r with
  | error e => exact hq.elim
  | ok fl =>
    cases fl with
    | ret u => exact J.after hq
    | next => exact hq.elim
    | brk => exact hq.elim
    | cont => exact hq.elim
end
/-- an object of the tables' kind, still empty -/
abbrev emptyTab : Obj := { cls := .none, data := .fields #[] }
/-- what H tracks, hidden, is a base for the law's def: H tracks the script's list at a and the empty tables alone -/
structure Few (s : Shared) (H : Hp) (a : Addr) (items : List Value) (cs : List (Addr × Addr)) (K : PySem.W.Frag) : Prop where
  la : s.heap.get? a = some { cls := .type "list", data := .seq items.toArray }
  ta : ∀ b ∈ cs.map (·.2), s.heap.get? b = some emptyTab
  only : ∀ b, H b ≠ none → b = a ∨ b ∈ cs.map (·.2)
  hk : H a ≠ none → K.lookup a = none
  tk : ∀ b ∈ cs.map (·.2), K.lookup b = none
theorem Few.un {s : Shared} {H : Hp} {a : Addr} {items : List Value} {cs : List (Addr × Addr)} {K : PySem.W.Frag} (W : Few s H a items cs K) {b : Addr} {o : Obj} (e : s.heap.get? b = some o) (h1 : ∀ xs n, o.data ≠ .seq xs n) (h2 : o.data ≠ .fields #[]) : H b = none := by
  cases c : H b with
  | none => rfl
  | some u =>
    rcases W.only b (by rw [c]; simp) with z | z
    · subst z
      have y := W.la
      rw [e] at y
      cases y
      exact absurd rfl (h1 _ _)
    · have y := W.ta b z
      rw [e] at y
      cases y
      exact absurd rfl h2
theorem Few.mod {mg mb : Str → Option Value} {s : Shared} {H : Hp} {a : Addr} {items : List Value} {cs : List (Addr × Addr)} {K : PySem.W.Frag} (W : Few s H a items cs K) (inK : K.In s.heap) (gl : s.heap.Ns mainGlobals mg) (bl : s.heap.Ns builtinsNs mb)
    (boot : ∀ x : Str, x ≠ "__name__" → mb x = bootBuiltins x) (lim : s.heap.NoLimit) : Mod K mg (hidT s.heap H) := by
  have stays : ∀ {b : Addr} {m : Str → Option Value}, s.heap.Ns b m → (hidT s.heap H).Ns b m := fun {b m} ⟨o, es, n, e, d, r⟩ =>
    ⟨o, es, n, hidT_get e (W.un e (fun xs k z => by rw [d] at z; cases z) fun z => by rw [d] at z; cases z), d, r⟩
  refine ⟨fun b o e => hidT_get (inK b o e) ?_, stays gl, ⟨mb, stays bl, boot⟩, ?_⟩
  · cases c : H b with
    | none => rfl
    | some u =>
      rcases W.only b (by rw [c]; simp) with z | z
      · subst z
        rw [W.hk (by rw [c]; simp)] at e
        cases e
      · rw [W.tk b z] at e
        cases e
  · obtain ⟨mc, y1, y2⟩ := lim
    exact ⟨mc, stays y1, y2⟩
/-- the module of the built-in names stands -/
def BMod (mg : Str → Option Value) (h : Heap) : Prop := ∃ (bm : Addr) (ob : Obj), mg "__builtins__" = some (.ref bm) ∧ bm ≠ builtinsNs ∧ h.get? bm = some ob ∧ ob.cls = .type "module" ∧ ob.dict = some builtinsNs ∧ ob.data = .plain
theorem Few.tabs {mg : Str → Option Value} {s : Shared} {H : Hp} {a : Addr} {items : List Value} {cs : List (Addr × Addr)} {K : PySem.W.Frag} (W : Few s H a items cs K) (gl : s.heap.Ns mainGlobals mg) (bm : BMod mg s.heap) {p : Addr × Addr} (hp : p ∈ cs) (hc : PySem.W.CodeHd s.heap p.1 p.2) :
    LamX.TabB (hidT s.heap H) mg p.1 p.2 := by
  have hp2 : p.2 ∈ cs.map (·.2) := List.mem_map.mpr ⟨p, hp, rfl⟩
  have tp := W.ta _ hp2
  obtain ⟨og, eg, ng, ge, gd, _⟩ := gl
  refine ⟨?_, ?_, fun z => ?_⟩
  · obtain ⟨o, us, file, tf, flags, tg, inF, text, tt, e1, r1, r2, r3, r4, r5, r6, r7, r8, r9⟩ := hc
    refine ⟨o, us, file, tf, flags, tg, inF, text, tt, hidT_get e1 (W.un e1 (fun xs n z => by rw [r2] at z; cases z) fun z => ?_), r1, r2, r3, r4, r5, r6, r7, r8, r9⟩
    rw [r2] at z
    cases z
    simp at r3
  · obtain ⟨m, ob, m1, m2, m3, m4, m5, m6⟩ := bm
    refine ⟨m, ob, m1, m2, fun q => ?_, fun q => ?_, hidT_get m3 (W.un m3 (fun xs n z => by rw [m6] at z; cases z) fun z => by rw [m6] at z; cases z), m4, m5, m6⟩
    · rw [q, ge] at m3
      cases m3
      rw [gd] at m6
      cases m6
    · rw [q, tp] at m3
      cases m3
      cases m6
  · rw [z, tp] at ge
    cases ge
    cases gd
/-- the law's call, from its promise, where defs hold lambdas: cs, their code objects and the tables -/
theorem law_goesT {P : Program} {w : World} {K : PySem.W.Frag} {mg mb : Str → Option Value} {k : Nat} {fa a : Addr} {cs : List (Addr × Addr)} {fd : FuncData} {x : Str} {sp : Sp} {s : Shared} {items : List Value} {ns : List Int}
    (inK : K.In s.heap) (gl : s.heap.Ns mainGlobals mg) (bl : s.heap.Ns builtinsNs mb) (boot : ∀ x : Str, x ≠ "__name__" → mb x = bootBuiltins x) (lim : s.heap.NoLimit) (gens : s.gens = #[]) (bm : BMod mg s.heap)
    (ta : ∀ b ∈ cs.map (·.2), s.heap.get? b = some emptyTab) (tk : ∀ b ∈ cs.map (·.2), K.lookup b = none) (hc : ∀ p ∈ cs, PySem.W.CodeHd s.heap p.1 p.2)
    (la : s.heap.get? a = some { cls := .type "list", data := .seq items.toArray }) (intv : IntsAre items ns) (hl : ns.length ≤ sizeLine) (hr : Room k callerA)
    (F : ∀ base : Heap, K.In base → base.Ns mainGlobals mg → (∀ p ∈ cs, LamX.TabB base mg p.1 p.2) → FnG P w K mg base k fa fd [x] sp) (bind : ∀ (s : Shared) (u : Value), BindsTo s fd ⟨[u], []⟩ [(x, u)])
    (hsp : ∀ H : Hp, (∀ p ∈ cs, H p.2 = some (.tbl #[])) → SqL K H a (ns.map V.int) → sp [.ref a] H (fun v _ => v = .bl true) fun _ _ _ => False) :
    codeAny (model P w) callerA (.call (.ref fa) ⟨[.ref a], []⟩) (fun r s' => r = .ok (.ret (.bool true)) ∧ OldK s.heap s'.heap ∧ s'.os = s.os ∧ AllBare s'.gens) s := by
  have vals := vals_ints intv
  have same := intv.length
  have nota : a ∉ cs.map (·.2) := fun z => by
    have y := ta a z
    rw [la] at y
    cases y
  have go : ∀ H : Hp, Few s H a items cs K → (∀ b ∈ cs.map (·.2), H b = some (.tbl #[])) → (H a = none ∨ ∃ o xs, H a = some (.frz o (.lst xs))) → SqL K H a (ns.map V.int) → HOk P w H s.heap →
      codeAny (model P w) callerA (.call (.ref fa) ⟨[.ref a], []⟩) (fun r s' => r = .ok (.ret (.bool true)) ∧ OldK s.heap s'.heap ∧ s'.os = s.os ∧ AllBare s'.gens) s := by
    intro H W hT hA hS ok
    have mod := W.mod inK gl bl boot lim
    have env0 : Env0 P w K mg (hidT s.heap H) callerA [] s H := ⟨rfl, mod, fun b o e => of_hidT e, Nat.le_of_eq (hidT_size _ _), trivial, fun b hb => absurd (show b ∈ ([] : List Addr) from hb) (by simp), ok, .of_eq gens⟩
    have mem : ∀ p ∈ cs, p.2 ∈ cs.map (·.2) := fun p hp => List.mem_map.mpr ⟨p, hp, rfl⟩
    refine codeAny_mono ((F _ mod.kin mod.glob fun p hp => W.tabs gl bm hp (hc p hp)).go callerA [] s H ⟨[.ref a], []⟩ [.ref a] [.ref a] _ _ hr rfl env0 (bind s (.ref a)) (.cons rfl .nil) (hsp H (fun p hp => hT _ (mem p hp)) hS)) fun r s' h => ?_
    cases r with
    | error e => exact h.elim
    | ok fl =>
      cases fl with
      | next => exact h.elim
      | brk => exact h.elim
      | cont => exact h.elim
      | ret u =>
        obtain ⟨v, H', os, bare, un, ok', rv, q⟩ := h
        cases (show v = .bl true from q)
        cases (show u = Value.bool true from rv)
        have firm : ∀ b o, b ∉ cs.map (·.2) → s.heap.get? b = some o → s'.heap.get? b = some o := fun b o nb e => by
          cases c : H b with
          | none => exact un.keep b o e c (fun z => absurd (show b ∈ ([] : List Addr) from z) (by simp)) (by simp)
          | some u =>
            rcases W.only b (by rw [c]; simp) with z | z
            · subst z
              rcases hA with z | ⟨ob, xs, z⟩
              · rw [c] at z
                cases z
              · have z2 := un.frzs b ob _ z
                obtain ⟨e1, _⟩ := ok b _ z
                obtain ⟨e2, _⟩ := ok' b _ z2
                rw [e] at e1
                cases e1
                exact e2
            · exact absurd z nb
        have more : ∀ b ∈ cs.map (·.2), ∃ ms : Array Value, s'.heap.get? b = some { cls := .none, data := .fields ms } := fun b hb => by
          obtain ⟨ms, z⟩ := un.tbls b #[] (hT b hb)
          exact ⟨_, ok' b _ z⟩
        refine ⟨rfl, ⟨fun b o e => ?old, fun b o e => ?there⟩, os, bare⟩
        case old =>
          by_cases hb : b ∈ cs.map (·.2)
          · obtain ⟨ms, hm⟩ := more b hb
            obtain ⟨p, hp, rfl⟩ := List.mem_map.mp hb
            have y := ta _ hb
            rw [e] at y
            cases y
            exact .inr (.inl ⟨((hc p hp).tab (ta _ hb)).isCodeTable, rfl, #[], ms, rfl, by rw [Array.empty_append]; exact hm⟩)
          · exact .inl (firm b o hb e)
        case there =>
          by_cases hb : b ∈ cs.map (·.2)
          · obtain ⟨ms, hm⟩ := more b hb
            exact ⟨_, hm⟩
          · exact ⟨o, firm b o hb e⟩
  cases hk : K.lookup a with
  | some o =>
    have e := inK a o hk
    rw [la] at e
    cases e
    have off : (if a ∈ cs.map (·.2) then some (HO.tbl #[]) else none) = none := if_neg nota
    refine go (fun b => if b ∈ cs.map (·.2) then some (.tbl #[]) else none) ⟨la, ta, fun b z => ?_, fun z => absurd off z, tk⟩ (fun b hb => if_pos hb) (.inl off) (.inr ⟨_, items.toArray, _, hk, rfl, rfl, rfl, by rw [List.size_toArray, same]; exact hl, by simpa using vals⟩) fun b u z => ?_
    · by_cases hb : b ∈ cs.map (·.2)
      · exact .inr hb
      · exact absurd (if_neg hb) z
    · by_cases hb : b ∈ cs.map (·.2)
      · cases (if_pos hb).symm.trans z
        exact ta b hb
      · cases (if_neg hb).symm.trans z
  | none =>
    have here : (if a = a then some (HO.frz { cls := .type "list", data := .seq items.toArray } (.lst (ns.map V.int))) else if a ∈ cs.map (·.2) then some (HO.tbl #[]) else none) = some (HO.frz { cls := .type "list", data := .seq items.toArray } (.lst (ns.map V.int))) := if_pos rfl
    refine go (fun b => if b = a then some (.frz { cls := .type "list", data := .seq items.toArray } (.lst (ns.map V.int))) else if b ∈ cs.map (·.2) then some (.tbl #[]) else none) ⟨la, ta, fun b z => ?_, fun _ => hk, tk⟩
      (fun b hb => (if_neg fun z => nota (by rw [← z]; exact hb)).trans (if_pos hb)) (.inr ⟨_, _, here⟩) (.inl (.inr ⟨{ cls := .type "list", data := .seq items.toArray }, here⟩)) fun b u z => ?_
    · by_cases c : b = a
      · exact .inl c
      · by_cases hb : b ∈ cs.map (·.2)
        · exact .inr hb
        · exact absurd ((if_neg c).trans (if_neg hb)) z
    · by_cases c : b = a
      · cases (if_pos c).symm.trans z
        subst c
        exact ⟨la, by rw [List.length_map]; exact hl, items, _, vals, la⟩
      · by_cases hb : b ∈ cs.map (·.2)
        · cases ((if_neg c).trans (if_pos hb)).symm.trans z
          exact ta b hb
        · cases ((if_neg c).trans (if_neg hb)).symm.trans z
/-- the law's row, from its promise -/
theorem row_goesT {l : PySem.W.OpenLaw} {n k : Nat} {q : Program} {loose : List Str} {XP : (Str → Option Value) → Heap → Prop} {YP : World → Heap → Prop} {d : DefRec} {K : Params → PySem.W.Frag} {sp : PySem.W.Frag → List (Addr × Addr) → Sp} {x : Str}
    (hn : l.most = some n) (hn2 : n ≤ sizeLine) (hdf : d.params.defaults = []) (hr : Room k callerA)
    (hY : ∀ (w : World) (h : Heap), YP w h → (K w.params).In h)
    (F : ∀ (w : World) (mg mb : Str → Option Value) (fa : Addr) (h : Heap), YP w h → (K w.params).In h → (∃ lo mean, Top q lo mean mg mb h) → mg d.name = some (.ref fa) →
      ∃ (fd : FuncData) (cs : List (Addr × Addr)), (∀ b ∈ cs.map (·.2), h.get? b = some emptyTab) ∧ (∀ b ∈ cs.map (·.2), (K w.params).lookup b = none) ∧ (∀ p ∈ cs, PySem.W.CodeHd h p.1 p.2) ∧ (∀ (s : Shared) (u : Value), BindsTo s fd ⟨[u], []⟩ [(x, u)]) ∧
        (∀ (H : Hp) (a : Addr) (ns : List Int), ns.length ≤ n → (∀ z ∈ ns, Builtin.Int.intBits z ≤ 1048576) → (∀ p ∈ cs, H p.2 = some (.tbl #[])) → SqL (K w.params) H a (ns.map V.int) → sp (K w.params) cs [.ref a] H (fun v _ => v = .bl true) fun _ _ _ => False) ∧
        ∀ base : Heap, (K w.params).In base → base.Ns mainGlobals mg → (∀ p ∈ cs, LamX.TabB base mg p.1 p.2) → FnG l.prog w (K w.params) mg base k fa fd [x] (sp (K w.params) cs)) :
    PySem.W.WalkO q loose XP YP l.row.toRowW d [] (fun f vs => PySem.call f vs) := by
  refine Att.attach_callB hn hdf fun w s0 s mg mb fa o pm cd doc a items ns G Y ho hd hcd hmg hobj intv hlen hbits hg => ?_
  have inK := hY w _ Y
  obtain ⟨fd, cs, ta, tk, hc, bind, hsp, hF⟩ := F w mg mb fa _ Y inK ⟨_, _, G.T⟩ hmg
  exact law_goesT inK G.T.g G.T.b G.T.builtins G.T.nolimit hg G.T.bmain ta tk hc hobj intv (Nat.le_trans hlen hn2) hr hF bind fun H hH hS => hsp H a ns hlen hbits hH hS
end QN

/-! try .. except of which the first clauses alone are wanted; what comes behind them may be of any form -/
namespace QN
open PySem PySem.Spec PyProof.Rows L2
/-- a clause's class with what its suite makes -/
abbrev Clause := Value × (Addr → Value → Option Addr → TS)
/-- one of these clauses takes the exception -/
def wFront (K : PySem.W.Frag) (D : Ends) : List Clause → WX
  | [] => fun _ _ _ _ => False
  | (c, ts) :: r => fun cls d σ H => ∃ b, PySem.W.exmOne K cls c = some b ∧ (b = true → ∀ a, H a = none → ts a cls d D σ H) ∧ (b = false → wFront K D r cls d σ H)
inductive Front (X : Cx) : List ExceptHandler → List Clause → Prop
  | stop {hds : List ExceptHandler} : Front X hds []
  | more {x : Str} {c : Value} {ts : Addr → Value → Option Addr → TS} {st : Stmt} {sts : List Stmt} {p1 p2 : Pos} {hds : List ExceptHandler} {l : List Clause} (named : Names X x c)
      (suite : ∀ (a : Addr) (oe : Obj) (cls : Value) (d : Option Addr) (pn : List (Addr × Obj)), Zc cls d oe → (∃ vs, oe.data = .fields vs) → PSs (X.suite a ((a, oe) :: pn)) (st :: sts) (ts a cls d)) (tail : Front X hds l) :
      Front X (.ExceptHandler (some (.Name x p1)) none (st :: sts) p2 :: hds) ((c, ts) :: l)
section
variable {X : Cx} {body : List Stmt} {h₀ : ExceptHandler} {hds : List ExceptHandler} {l : List Clause} {pos : Pos} {tb : WX → TS}
theorem ps_try_front (stk : X.stack = X.env :: X.outer) (own : X.env.frame = some X.env.locals)
    (main : ∀ (W : WX) (pn : List (Addr × Obj)) (xe : Value → Shared → Prop), Takes (X.tr pn xe) W → PassesOwn (model X.prog X.w) X.A X.env xe → PSs (X.tr pn xe) body (tb W))
    (front : Front X (h₀ :: hds) l) : PS X (.Try body (h₀ :: hds) [] [] pos) (fun D σ H => tb (wFront X.K D l) D σ H) := by
  refine ⟨fun pins s σ H D I h => ?_⟩
  have fine := I.ok
  have frames : X.A.frames = some (X.env :: X.outer) := by rw [fine.frames, stk]
  refine wpAny_Try_except ?_
  have whole := (main (wFront X.K D l) (X.pn ++ pins) (fun e s1 => wpAny (model X.prog X.w) X.A (noteFrame e X.env) (fun _ s2 => wpAny (model X.prog X.w) X.A (setFlight e none) (fun _ s3 =>
    wpAny (model X.prog X.w) X.A (handleBy e X.env (h₀ :: hds)) (SP X pins D) X.xe s3) X.xe s2) X.xe s1) (fun u s' flying => ?_) PassesOwn.looking).run [] s σ H D (I.toTry _) h
  · refine wpAny_mono whole (fun flow s1 done => ?_) fun e s1 raised => raised
    cases flow with
    | next =>
      obtain ⟨σ1, H1, J1, q⟩ := done
      exact wpAny_execs_nil ⟨σ1, H1, J1.ofTry fine, q⟩
    | brk =>
      obtain ⟨σ1, H1, J1, q⟩ := done
      exact ⟨σ1, H1, J1.ofTry fine, q⟩
    | cont =>
      obtain ⟨σ1, H1, J1, q⟩ := done
      exact ⟨σ1, H1, J1.ofTry fine, q⟩
    | ret u =>
      obtain ⟨v, σ1, H1, J1, r, q⟩ := done
      exact ⟨v, σ1, H1, J1.ofTry fine, r, q⟩
  · obtain ⟨x, B, si, pinsi, σi, Hi, C, dc, rfl, Ji, nbi, upi, skyi, nai, osi, agi, wish⟩ := flying
    have Jo : Inv X pins σi Hi si := Ji.ofTry fine
    have skyo : Sky B (X.env :: X.outer) x (Zc C dc) X.env.locals s'.heap := by rw [← stk]; exact skyi
    show wpAny _ X.A (noteFrame (.ref x) X.env) _ _ _
    refine Sky.land Zc.steady frames own skyo fun hA flA upA => ?_
    have JA : Inv X pins σi Hi { s' with heap := hA } := Jo.landed nbi flA.1 (upi.trans upA) osi agi
    obtain ⟨oA, vA, getA, zcA, datA⟩ := flA.there
    have off : ∀ {g : Heap} {o : Obj} {ws : Array Value}, g.FunFrames B (X.env :: X.outer) → g.get? x = some o → o.data = .fields ws → x ∉ frs (X.env :: X.outer) := fun {g o ws} ff eg ed mem => by
      obtain ⟨_, o2, e2, no⟩ := ff.mem mem
      rw [eg] at e2
      cases e2
      exact no _ ed
    have offA := off flA.2.2.1 getA datA
    have notL : x ≠ X.env.locals := fun z => offA (List.mem_filterMap.mpr ⟨X.env, List.mem_cons_self, by rw [own, z]⟩)
    have notF : x ∉ X.fs := fun mem => by
      obtain ⟨e, he, q⟩ := List.mem_filterMap.mp mem
      exact offA (List.mem_filterMap.mpr ⟨e, List.mem_cons_of_mem _ he, q⟩)
    have SA := JA.suite getA datA nai notL notF
    have each : ∀ {hs : List ExceptHandler} {cl : List Clause}, Front X hs cl → wFront X.K D cl C dc σi Hi → wpAny (model X.prog X.w) X.A (handleBy (.ref x) X.env hs) (SP X pins D) X.xe { s' with heap := hA } := by
      intro hs cl fr
      induction fr with
      | stop => exact fun no => no.elim
      | @more n c ts st sts p1 p2 hs2 cl2 named suite tail ih =>
        intro w2
        obtain ⟨b, isb, yes, no⟩ := w2
        refine wpAny_handleBy_cons (codeAny_handlers_test ?_) (by intro z; cases z)
        have kind : PySem.W.Looks (model X.prog X.w) hA (typeOf (.ref x)) C := fun A Q E s k q => wpAny_typeOf_ref (k _ _ getA) (by rw [zcA.1]; exact q)
        have meets := PySem.W.exm_one (M := model X.prog X.w) (JA.kIn) kind isb
        have look : ∀ {Q : Value → Shared → Prop} {E : Value → Shared → Prop}, Q c { s' with heap := hA } → wpAny (model X.prog X.w) (X.A.mark (some (.ref x))) (eval (.Name n p1) X.env) Q E { s' with heap := hA } := fun {Q E} q => by
          obtain ⟨gl, db, m | ⟨m, v, nn⟩⟩ := named
          · exact ld_glob (X := X.suite x ((x, oA) :: (X.pn ++ pins))) SA gl m q db
          · exact ld_blt (X := X.suite x ((x, oA) :: (X.pn ++ pins))) SA gl m v q nn db
        refine look (meets.here ?_)
        cases b with
        | false =>
          show wpAny _ X.A (handleBy (.ref x) X.env hs2) _ _ _
          exact ih (no rfl)
        | true =>
          refine codeAny_handlers_suite ?_
          refine HandSPX.lands_againZ flA fun hB flB upB => ?_
          have JB : Inv X pins σi Hi { s' with heap := hB } := Jo.landed nbi flB.1 ((upi.trans upA).trans upB) osi agi
          obtain ⟨oB, vB, getB, zcB, datB⟩ := flB.there
          have SB := JB.suite getB datB nai notL notF
          refine wpAny_mono ((suite x oB C dc (X.pn ++ pins) zcB ⟨_, datB⟩).run [] _ _ Hi _ SB (yes rfl x nai)) (fun flow s6 done => ?_) (fun _ _ z => False.elim z)
          cases flow with
          | next =>
            obtain ⟨σ6, H6, J6, q6⟩ := done
            exact ⟨_, _, J6.unsuite fine, q6⟩
          | brk =>
            obtain ⟨σ6, H6, J6, q6⟩ := done
            exact ⟨_, _, J6.unsuite fine, q6⟩
          | cont =>
            obtain ⟨σ6, H6, J6, q6⟩ := done
            exact ⟨_, _, J6.unsuite fine, q6⟩
          | ret u =>
            obtain ⟨v6, σ6, H6, J6, r6, q6⟩ := done
            exact ⟨_, _, _, J6.unsuite fine, r6, q6⟩
    exact each front wish
end
end QN

/-! < and > of plain data of one kind -/
namespace QN
open PySem PySem.Spec PyProof.Rows L2
/-- x < y, x > y for data that are alike -/
def rLtX (K : PySem.W.Frag) : R2 := fun x y H Q => ∃ d e : PyData, Dp K H x d ∧ Dp K H y e ∧ PySem.W.alike d e = true ∧ d ≠ .none ∧ d.depth ≤ 60 ∧ Q (.bl (PySem.W.dataLt d e)) H
def rGtX (K : PySem.W.Frag) : R2 := fun x y H Q => ∃ d e : PyData, Dp K H x d ∧ Dp K H y e ∧ PySem.W.alike d e = true ∧ d ≠ .none ∧ d.depth ≤ 60 ∧ Q (.bl (PySem.W.dataLt e d)) H
section
variable {X : Cx}
theorem op_ltX (hu : X.A.units + 64 < cLine) : OpR X (compareOp .Lt) (rLtX X.K) := by
  intro pins s σ H x y v u Q I rx ry h
  obtain ⟨d, e, hd, he, al, nn, dp, q⟩ := h
  obtain ⟨as, ra⟩ := Dp.reads I d x v hd rx
  obtain ⟨bs, rb⟩ := Dp.reads I e y u he ry
  exact PySem.W.lt_data ra rb al nn (by omega) ⟨.bl _, H, I, rfl, q⟩
theorem op_gtX (hu : X.A.units + 64 < cLine) : OpR X (compareOp .Gt) (rGtX X.K) := by
  intro pins s σ H x y v u Q I rx ry h
  obtain ⟨d, e, hd, he, al, nn, dp, q⟩ := h
  obtain ⟨as, ra⟩ := Dp.reads I d x v hd rx
  obtain ⟨bs, rb⟩ := Dp.reads I e y u he ry
  exact PySem.W.gt_data ra rb al nn (by omega) ⟨.bl _, H, I, rfl, q⟩
/-- x in t for data in a tuple -/
def rInT (K : PySem.W.Frag) : R2 := fun x y H Q => ∃ (d : PyData) (ds : List PyData), Dp K H x d ∧ Dp K H y (.tuple ds) ∧ SeqAt.shaped d = true ∧ SeqAt.shaped (.tuple ds) = true ∧ Q (.bl (ds.any fun z => PyData.eqv z d)) H
theorem op_inT (hu : X.A.units + 65 < cLine) : OpR X (compareOp .In) (rInT X.K) := by
  intro pins s σ H x y v u Q I rx ry h
  obtain ⟨d, ds, hd, he, sd, se, q⟩ := h
  obtain ⟨as, r1⟩ := Dp.reads I d x v hd rx
  obtain ⟨bs, r2⟩ := Dp.reads I (.tuple ds) y u he ry
  exact SeqAt.in_tuple_reads r2 r1 (SeqAt.canLay_of_shaped se) (SeqAt.canLay_of_shaped sd) (room_in_shaped sd hu) ⟨.bl _, H, I, rfl, q⟩
end
end QN

/-! tuples: t * 0 and t * 1, t[::-1] -/
namespace QN
open PySem PySem.Spec PyProof.Rows L2
theorem tuple_mul1 (l : Addr) (items : Array Value) (n : Nat) (dd : Option Addr) (sl : Array (Option Value)) (u : Tok) :
    Meets (Builtin.«tuple.__mul__» ⟨[.ref l, .int 1 u], []⟩) (fun _ R s => s.heap.get? l = some { cls := .type "tuple", dict := dd, data := .seq items n, slots := sl } ∧ R (.ok (.ret (Value.ref l))) s) :=
  .of_wp fun prog w A R s h => by
    obtain ⟨hp, g, d, tk, os⟩ := s
    obtain ⟨hl, h⟩ := h
    have f1 := AutoSeq1.idx_int
    have c1 : (items.isEmpty || (1 : Int) == 1) = true := by simp
    wp_walk using wpAny_loadPart' hl
    repeat (first
      | (refine wpAny_ite_false (decide_eq_false (by decide)) ?_; wp_walk using wpAny_loadPart' hl)
      | (refine wpAny_ite_true (decide_eq_true (by rw [c1])) ?_; wp_walk using wpAny_loadPart' hl))
    exact ⟨_, rfl, h⟩
theorem tuple_mul0 (l : Addr) (items : Array Value) (n : Nat) (dd : Option Addr) (sl : Array (Option Value)) (u : Tok) (hi : items.isEmpty = false) :
    Meets (Builtin.«tuple.__mul__» ⟨[.ref l, .int 0 u], []⟩) (fun _ R s => s.heap.get? l = some { cls := .type "tuple", dict := dd, data := .seq items n, slots := sl } ∧
      R (.ok (.ret (Value.ref s.heap.objs.size))) { s with heap := s.heap.push { cls := Value.type "tuple", data := Data.seq #[] }, toks := s.toks }) :=
  .of_wp fun prog w A R s h => by
    obtain ⟨hp, g, d, tk, os⟩ := s
    obtain ⟨hl, h⟩ := h
    have f1 := AutoSeq1.idx_int
    have c1 : (items.isEmpty || (0 : Int) == 1) = false := by rw [hi]; rfl
    have c2 : (decide ((0 : Int) ≤ 0) || items.isEmpty) = true := by simp
    wp_walk using wpAny_loadPart' hl
    repeat (first
      | (refine wpAny_ite_false (decide_eq_false (by decide)) ?_; wp_walk using wpAny_loadPart' hl)
      | (refine wpAny_ite_false (decide_eq_false (by rw [c1]; exact Bool.false_ne_true)) ?_; wp_walk using wpAny_loadPart' hl)
      | (refine wpAny_ite_true (decide_eq_true (by rw [c2])) ?_; wp_walk using wpAny_loadPart' hl))
    exact ⟨_, rfl, h⟩
theorem fm_congr {α β : Type} {f g : α → Option β} : ∀ {l : List α}, (∀ x ∈ l, f x = g x) → l.filterMap f = l.filterMap g
  | [], _ => rfl
  | a :: l, h => by
    rw [List.filterMap_cons, List.filterMap_cons, h a List.mem_cons_self, fm_congr fun x hx => h x (List.mem_cons_of_mem _ hx)]
theorem sliceApplied_rev {prog : Program} {w : World} {A : Around} {E : Value → Shared → Prop} {s : Shared} {sl : Addr} {u : Tok} {n : Nat} {Q : Int × Int × Nat → Shared → Prop} (hs : s.heap.IsSliceOf sl .none .none (.int (-1) u))
    (h : Q ((n : Int) - 1, -1, Builtin.Slice.slicePlaces ((n : Int) - 1) (-1) (-1)) s) : wpAny (model prog w) A (Builtin.Slice.sliceApplied (.ref sl) (pure (n : Int))) Q E s := by
  obtain ⟨os, hos, hcs, hds⟩ := id hs
  unfold Builtin.Slice.sliceApplied Builtin.Slice.sliceFields
  refine wpAny_bind (wpAny_bind (wpAny_field hos hds (x := .none) rfl (wpAny_bind (wpAny_field hos hds (x := .none) rfl (wpAny_bind (wpAny_field hos hds (x := .int (-1) u) rfl (wpAny_pure ?_)))))))
  refine wpAny_bind (slicePart_int ?_)
  show wpAny _ _ (if ((-1 : Int) == 0) = true then _ else _) _ _ s
  rw [if_neg (by decide)]
  refine wpAny_bind (slicePart_none (wpAny_bind (slicePart_none (wpAny_bind (wpAny_pure ?_)))))
  exact wpAny_pure h
theorem getItem_tuple_rev {prog : Program} {w : World} {A : Around} {E : Value → Shared → Prop} {s : Shared} {t sl : Addr} {items : Array Value} {u : Tok} {Q : Value → Shared → Prop} (ht : IsTup s.heap t items) (hs : s.heap.IsSliceOf sl .none .none (.int (-1) u))
    (h : Q (.ref s.heap.objs.size) { s with heap := s.heap.push { cls := .type "tuple", data := .seq items.toList.reverse.toArray } }) (hsz : items.size ≤ sizeLine) : wpAny (model prog w) A (getItem (.ref t) (.ref sl)) Q E s := by
  have htake : sizeOk (.seq items.toList.reverse.toArray) := by
    show items.toList.reverse.toArray.size ≤ sizeLine
    rw [List.size_toArray, List.length_reverse, Array.length_toList]
    exact hsz
  obtain ⟨os, hos, hcs, hds⟩ := id hs
  have hTs : s.TypeIs (.ref sl) "slice" := ⟨os, hos, hcs⟩
  unfold getItem
  try with_reducible refine wpAny_holding ?_
  first | refine wpAny_bind (wpAny_pure ?_) | skip
  refine wpAny_bind (wpAny_sequenceKey ht.typeIs (by decide) ?_)
  refine wpAny_bind (wpAny_callSpecial?_slot (name := Str.ofString "__getitem__") ht.typeIs PyProof.Rows.slot_tuple_getitem
    (wpAny_call_entry PyProof.Rows.slot_tuple_getitem ht.typeIs entry_tuple_getitem ?_ (args_tuple_getitem _ _)))
  show wpAny _ _ (Builtin.Tuple.tupleItemsOf (.ref t) >>= _) _ _ s
  refine wpAny_bind (tupleItemsOf_ ht ?_)
  refine wpAny_bind (wpAny_typeOf hTs ?_)
  rw [if_pos (by decide)]
  have pick : ((List.range (Builtin.Slice.slicePlaces ((items.size : Int) - 1) (-1) (-1))).filterMap fun (k : Nat) => items[((items.size : Int) - 1 + (k : Int) * (-1)).toNat]?).toArray = items.toList.reverse.toArray := by
    have hp : Builtin.Slice.slicePlaces ((items.size : Int) - 1) (-1) (-1) = items.size := by
      unfold Builtin.Slice.slicePlaces
      rw [if_neg (by decide)]
      by_cases c : items.size = 0
      · rw [c, if_neg (by decide)]
        rfl
      · rw [if_pos (by omega), show (- -1 : Int) = 1 by decide, Int.ediv_one]
        omega
    rw [hp]
    have hf : ((List.range items.size).filterMap fun (k : Nat) => items[((items.size : Int) - 1 + (k : Int) * (-1)).toNat]?) = ((List.range items.size).map fun k => items.size - 1 - k).filterMap (items[·]?) := by
      rw [List.filterMap_map]
      refine fm_congr fun k hk => ?_
      have hk' := List.mem_range.mp hk
      show items[((items.size : Int) - 1 + (k : Int) * (-1)).toNat]? = items[items.size - 1 - k]?
      congr 1
      omega
    rw [hf, PySem.W.krv_range, List.filterMap_reverse, PySem.W.krv_all]
  refine wpAny_bind (sliceApplied_rev hs ?_)
  have hno : ¬ (((items.size : Int) - 1 == 0 && (-1 : Int) == 1 && Builtin.Slice.slicePlaces ((items.size : Int) - 1) (-1) (-1) == items.size) = true) := by
    intro q
    rw [Bool.and_eq_true, Bool.and_eq_true] at q
    exact absurd q.1.2 (by decide)
  show wpAny _ _ (if ((items.size : Int) - 1 == 0 && (-1 : Int) == 1 && Builtin.Slice.slicePlaces ((items.size : Int) - 1) (-1) (-1) == items.size) = true then _ else _) _ _ s
  rw [if_neg hno, pick]
  first
    | exact wpAny_bind (m := Builtin.Tuple.tupleExact _) (wpAny_newObj_type (wpAny_pure ⟨_, rfl, wpAny_pure h⟩) htake)
    | exact wpAny_bind (m := Builtin.Tuple.tupleExact _) (wpAny_newObj_type (wpAny_bind (wpAny_pure (wpAny_pure ⟨_, rfl, wpAny_pure h⟩))) htake)
    | exact wpAny_bind (wpAny_bind (m := Builtin.Tuple.tupleExact _) (wpAny_newObj_type (wpAny_pure (wpAny_pure ⟨_, rfl, wpAny_pure h⟩)) htake))
    | exact wpAny_bind (wpAny_bind (m := Builtin.Tuple.tupleExact _) (wpAny_newObj_type (wpAny_pure ⟨_, rfl, wpAny_pure h⟩) htake))
/-- t[::-1] -/
def tRevT (K : PySem.W.Frag) (te : TE) : TE := fun σ H Q => te σ H fun x H1 => ∃ a xs, x = .ref a ∧ SqT K H1 a xs ∧ ∀ p, H1 p = none → Q (.ref p) (upd H1 p (.tup xs.reverse))
theorem pe_revT {X : Cx} {e : Expr} {te : TE} {k : Nat} {p1 p2 p3 pos : Pos} (he : PE X e te) : PE X (.Subscript e (.Slice none none (some (.UnaryOp .USub (.Constant (.int 1) k p1) p2)) p3) pos) (tRevT X.K te) := by
  refine ⟨fun pins s σ H Q I h => ?_⟩
  refine Subscript_ (thn (he.run pins s σ H _ I h) fun v s1 ⟨x, H1, I1, r1, q1⟩ => ?_)
  obtain ⟨a, xs, ex, hx, q⟩ := q1
  subst ex
  cases r1
  have hst : PO X (some (.UnaryOp .USub (.Constant (.int 1) k p1) p2)) (tPart (tUn (rU fun i => .int (-i)) (tC (.int 1)))) := po_some (pe_un un_neg pe_int)
  refine wpAny_Slice (thn (po_none.run pins s1 σ H1 (fun o H2 => o = none ∧ H2 = H1) I1 ⟨rfl, rfl⟩) fun vl s2 ⟨l, H2, I2, pl, el, e2⟩ => ?_)
  subst el e2
  refine thn (po_none.run pins s2 σ H2 (fun o H3 => o = none ∧ H3 = H2) I2 ⟨rfl, rfl⟩) fun vu s3 ⟨u, H3, I3, pu, eu, e3⟩ => ?_
  subst eu e3
  refine thn (hst.run pins s3 σ H3 (fun o H4 => o = some (-1) ∧ H4 = H3) I3 ⟨1, rfl, -1, rfl, rfl, rfl⟩) fun vs s4 ⟨o, H4, I4, ps, eo, e4⟩ => ?_
  subst eo e4
  cases pl
  cases pu
  obtain ⟨t5, rfl⟩ : ∃ t5, vs = Value.int (-1) t5 := by
    cases ps
    exact ⟨_, rfl⟩
  have I5 : Inv X pins σ H4 { s4 with heap := s4.heap.push { cls := .type "slice", data := .fields #[.none, .none, .int (-1) t5] } } := I4.kept (t' := s4.toks) fun b ob q => Heap.get?_push_of_some _ q
  obtain ⟨its, r, ht, hz⟩ := I5.tuple hx
  have hlen := r.length
  show wpAny (model X.prog X.w) X.A (subscriptTail e (.Slice none none (some (.UnaryOp .USub (.Constant (.int 1) k p1) p2)) p3) (.ref a) (.ref s4.heap.objs.size)) (EP X pins σ Q) X.xe { s4 with heap := s4.heap.push { cls := .type "slice", data := .fields #[.none, .none, .int (-1) t5] } }
  refine tail_any (ops := [.ref a, .ref s4.heap.objs.size]) ht.typeIs (PyProof.Rows.slot_tuple_getitem.lookup) ?_ (by with_unfolding_all rfl)
  refine getItem_tuple_rev ht (Heap.IsSliceOf.new _ .none .none (.int (-1) t5)) ?_ (by rw [List.size_toArray]; omega)
  refine ⟨.ref _, _, I5.laid (t' := s4.toks) (o := .tup xs.reverse) (fun b ob q => Heap.get?_push_of_some _ q) (Nat.le_refl _) ?_, rfl, q _ (I5.hok.fresh (Nat.le_refl _))⟩
  exact ⟨by rw [List.length_reverse]; exact hz, _, r.reverse, IsTup.new _ _⟩
/-- t * k, k from 0 to 1000, t not empty -/
def rRepA (K : PySem.W.Frag) : R2 := fun x y H Q => ∃ l k xs, x = .ref l ∧ y = .int k ∧ SqT K H l xs ∧ xs ≠ [] ∧ 0 ≤ k ∧ k ≤ 1000 ∧ xs.length ≤ 1000 ∧ (k = 1 → Q (.ref l) H) ∧ (k ≠ 1 → ∀ p, H p = none → Q (.ref p) (upd H p (.tup (List.replicate k.toNat xs).flatten)))
theorem op_repA {X : Cx} : OpR X (binaryOp .Mult) (rRepA X.K) := by
  intro pins s σ H x y v u Q I rx ry h
  obtain ⟨l, k, xs, rfl, rfl, hT, hne, h1, h2, hz, q1, q2⟩ := h
  by_cases hk : 2 ≤ k
  · exact op_repT pins s σ H _ _ v u Q I rx ry ⟨l, k, xs, rfl, rfl, hT, hne, hk, h2, hz, q2 (by omega)⟩
  · cases rx
    obtain ⟨t, rfl⟩ := ry
    obtain ⟨its, r, ⟨⟨cls, dd, data, sl⟩, ho, hc, n, hd⟩, hs⟩ := I.tuple hT
    simp only at hc hd
    subst hc hd
    have hle : its.length = xs.length := r.length.symm
    have hi : its.toArray.isEmpty = false := by
      cases its with
      | nil =>
        exact absurd (List.eq_nil_of_length_eq_zero hle.symm) hne
      | cons a b => rfl
    by_cases k0 : k = 0
    · subst k0
      refine wpAny_binaryOp_repeat_ref (T := "tuple") (U := "int") (by decide) ⟨_, ho, rfl⟩ (fun s' => typeIs_int s' 0 t) noFill_tuple_mul F.fills_int_mul F.slot_int_rmul repeat_tuple F.slot_int_index.lookup
        (call_meets F.slot_int_rmul (typeIs_int s 0 t) F.entry_int_rmul (F.args_int_rmul_2 _ _) (int_rmul_tuple 0 t l its.toArray n dd sl)
          ⟨ho, rfl, ⟨_, ho, rfl⟩, call_meets F.slot_tuple_mul ⟨_, ho, rfl⟩ F.entry_tuple_mul (F.args_tuple_mul_2 _ _) (tuple_mul0 l its.toArray n dd sl t hi) ⟨ho, ?_⟩⟩)
      refine ⟨.ref s.heap.objs.size, _, I.laid (t' := s.toks) (o := .tup (List.replicate (0 : Int).toNat xs).flatten) (fun b ob q => Heap.get?_push_of_some _ q) (Nat.le_refl _) ?_, rfl, q2 (by decide) _ (I.hok.fresh (Nat.le_refl _))⟩
      exact ⟨Nat.zero_le _, [], .nil, IsTup.new _ _⟩
    · have k1 : k = 1 := by omega
      subst k1
      exact wpAny_binaryOp_repeat_ref (T := "tuple") (U := "int") (by decide) ⟨_, ho, rfl⟩ (fun s' => typeIs_int s' 1 t) noFill_tuple_mul F.fills_int_mul F.slot_int_rmul repeat_tuple F.slot_int_index.lookup
        (call_meets F.slot_int_rmul (typeIs_int s 1 t) F.entry_int_rmul (F.args_int_rmul_2 _ _) (int_rmul_tuple 1 t l its.toArray n dd sl)
          ⟨ho, rfl, ⟨_, ho, rfl⟩, call_meets F.slot_tuple_mul ⟨_, ho, rfl⟩ F.entry_tuple_mul (F.args_tuple_mul_2 _ _) (tuple_mul1 l its.toArray n dd sl t) ⟨ho, ⟨.ref l, H, I, rfl, q1 rfl⟩⟩⟩)
end QN

/-! own classes made: C(), cls(*e) in a classmethod -/
namespace QN
open PySem PySem.Spec PyProof.Rows L2
section
variable {X : Cx} {CX : CXT} {k i : Nat} {f C : Addr} {sp : Sp} {E : XK} {x : Str} {e : Expr} {te : TE} {p sp_ pos : Pos}
def tMakeR0 (C : Addr) (sp : Sp) (E : XK) : TE := fun σ H Q => ∀ x dx, H x = Option.none → H dx = Option.none → dx ≠ x → sp [V.ref x] (upd (upd H dx (.own x)) x (.ins C dx [])) (fun v H2 => v = .non ∧ Q (.ref x) H2) E
/-- C() -/
theorem pe_makeR0 (M : Mk X.K C f) (F : FnR X.prog X.w X.K X.mg X.base CX k f sp) (hr : Room (k + 1) X.A) (hg : Gl X x) (hm : X.mg x = some (.ref C)) (hx : Passes CX X E) (hdb : (x == ("__debug__" : Str)) = false := by decide) :
    PE X (.Call (.Name x p) [] [] pos) (tMakeR0 C sp E) := by
  refine ⟨fun pins s σ H Q I h => ?_⟩
  refine wpAny_Call_Name_kw (ld_glob I hg hm ?_ hdb)
  exact PySem.W.callWith_K0 I.kIn M.kp (StX.run_makeR M F hr hx I .nil h)
def tMakeS (K : PySem.W.Frag) (i : Nat) (C : Addr) (sp : Sp) (E : XK) (te : TE) : TE := fun σ H Q => σ[i]? = some (some (.ref C)) ∧ te σ H fun y H1 => ∃ a xs, y = V.ref a ∧ (SqT K H1 a xs ∨ SqL K H1 a xs) ∧
  ∀ x dx, H1 x = Option.none → H1 dx = Option.none → dx ≠ x → sp (V.ref x :: xs) (upd (upd H1 dx (.own x)) x (.ins C dx [])) (fun v H2 => v = .non ∧ Q (.ref x) H2) E
/-- cls(*e), cls the class C in the slot i -/
theorem pe_makeS (M : Mk X.K C f) (F : FnR X.prog X.w X.K X.mg X.base CX k f sp) (hr : Room (k + 1) X.A) (hN : X.N[i]? = some x) (hv : Vis X.env.scope x) (hx : Passes CX X E) (he : PE X e te)
    (hdb : (x == ("__debug__" : Str)) = false := by decide) (hcd : (x == ("__classdict__" : Str)) = false := by decide) (hst : starEach [.Starred e sp_] X.env = [(true, eval e X.env)] := by rfl) :
    PE X (.Call (.Name x p) [.Starred e sp_] [] pos) (tMakeS X.K i C sp E te) := by
  refine ⟨fun pins s σ H Q I h => ?_⟩
  obtain ⟨hs, ht⟩ := h
  refine wpAny_Call_Name_kw (thn ((pe_var (pos := p) hN hv hdb hcd).run pins s σ H (fun v H1 => v = .ref C ∧ H1 = H) I ⟨.ref C, hs, rfl, rfl⟩) fun u s1 ⟨v, H1, I1, r1, q1⟩ => ?_)
  obtain ⟨rfl, rfl⟩ := q1
  cases r1
  refine PySem.W.callWith_S (h₀ := X.base) I1.ok.mod.kin M.kp (thn (he.run pins s1 σ _ _ I1 ht) fun v s2 ⟨y, H2, I2, ry, a, xs, ey, hxs, q⟩ => ?_) hst
  subst ey
  obtain rfl : v = Value.ref a := ry
  exact StX.star_any I2 hxs fun us s3 I3 rv => ⟨I3.kIn, StX.run_makeR M F hr hx I3 rv q⟩
end
end QN

/-! enumerate(a tuple) -/
namespace PySem
open Sem (wp)
open AutoSeq1 (wpAny_loadPart')
theorem qn_meets_enumerate_newT (l : Addr) (items : Array Value) :
    Meets (Builtin.«enumerate.__new__» ⟨[.type "enumerate", .ref l], []⟩) (fun _ R s => s.heap.IsTuple l items ∧
      R (.ok (.ret (.ref (s.heap.push { cls := .type "tuple_iterator", data := .fields #[.ref l, .int 0 0] }).objs.size)))
        { s with heap := (s.heap.push { cls := .type "tuple_iterator", data := .fields #[.ref l, .int 0 0] }).push { cls := .type "enumerate", data := .fields #[.none, .bool false, .ref s.heap.objs.size, rawInt 0, .none, .none] } }) :=
  .of_wp fun prog w A R s h => by
    obtain ⟨hp, g, d, tk, os⟩ := s; obtain ⟨hL, h⟩ := h
    have hsub := sub_enumerate
    have q1 : ∀ {A' : Around} {E : Value → Shared → Prop} {Q : Value → Shared → Prop}, Q (.ref hp.objs.size) ⟨hp.push { cls := .type "tuple_iterator", data := .fields #[.ref l, .int 0 0] }, g, d, tk, os⟩ → wpAny (model prog w) A' (pyIter (.ref l)) Q E ⟨hp, g, d, tk, os⟩ :=
      fun q => wpAny_pyIter_tuple hL q
    wp_walk using q1
    refine wpAny_stack_any fun st => wpAny_pure ?_
    split
    · rename_i c _ _ _ _ _
      cases (c == Value.type "enumerate")
      · wp_walk using q1
        exact ⟨_, rfl, h⟩
      · wp_walk using q1
        exact ⟨_, rfl, h⟩
    · wp_walk using q1
      exact ⟨_, rfl, h⟩
theorem qn_call_enumerate_tuple {prog : Program} {w : World} {A : Around} {E : Value → Shared → Prop} {s : Shared} {l : Addr} {items : Array Value} {Q : Value → Shared → Prop} (hL : s.heap.IsTuple l items)
    (h : ∀ h', IsEnum h' (s.heap.objs.size + 1) s.heap.objs.size 0 .none → h'.IsTupleIter s.heap.objs.size l 0 → h'.objs.size = s.heap.objs.size + 2 →
      (∀ b o, s.heap.get? b = some o → h'.get? b = some o) → Q (.ref (s.heap.objs.size + 1)) { s with heap := h' }) :
    wpAny (model prog w) A (call (.type "enumerate") [.ref l]) Q E s := by
  refine callType_new F.called_enumerate (by decide) (F.typeCall_enumerate_1 _) (F.newCall_enumerate_1 _) (fun obj => F.args_object_init_2 obj _) F.entry_enumerate_new
    (qn_meets_enumerate_newT l items) ⟨hL, ?_⟩
  have hz : (s.heap.push { cls := .type "tuple_iterator", data := .fields #[.ref l, .int 0 0] }).objs.size = s.heap.objs.size + 1 := Heap.size_push ..
  show _ ∧ _
  rw [hz]
  have he : IsEnum ((s.heap.push { cls := .type "tuple_iterator", data := .fields #[.ref l, .int 0 0] }).push
      { cls := .type "enumerate", data := .fields #[.none, .bool false, .ref s.heap.objs.size, rawInt 0, .none, .none] }) (s.heap.objs.size + 1) s.heap.objs.size 0 .none := by
    have := Heap.get?_push_size (s.heap.push { cls := .type "tuple_iterator", data := .fields #[.ref l, .int 0 0] })
      (o := { cls := .type "enumerate", data := .fields #[.none, .bool false, .ref s.heap.objs.size, rawInt 0, .none, .none] }) rfl
    rw [hz] at this; exact this
  refine ⟨⟨_, he, rfl⟩, h _ he ⟨_, Heap.get?_push_of_some _ (Heap.get?_push_size _ rfl), rfl, rfl⟩ (by rw [Heap.size_push, hz]) fun b o x => Heap.get?_push_of_some _ (Heap.get?_push_of_some _ x)⟩
theorem qn_pyNext_enum_endT {prog : Program} {w : World} {A : Around} {E : Value → Shared → Prop} {s : Shared} {e it l : Addr} {i : Nat} {items : Array Value} {old : Value} {Q : Option Value → Shared → Prop} (hh : A.handled = none)
    (he : IsEnum s.heap e it i old) (hit : s.heap.IsTupleIter it l i) (hl : s.heap.IsTuple l items) (hx : items[i]? = none)
    (hQ : ∀ h', Heap.ExtBut it s.heap h' → Q none { s with heap := h' }) : wpAny (model prog w) A (pyNext (.ref e)) Q E s := by
  have hT : s.TypeIs (.ref e) "enumerate" := ⟨_, he, rfl⟩
  unfold pyNext
  refine wpAny_bind (wpAny_attempt (wpAny_callSpecial?_slot (name := Str.ofString "__next__") hT F.slot_enumerate_next
    (wpAny_call_entry F.slot_enumerate_next hT F.entry_enumerate_next ?_ (F.args_enumerate_next_1 _))))
  show wpAny _ _ (field (.ref e) 2 >>= _) _ _ _
  refine wpAny_bind (wpAny_field he rfl (x := .ref it) rfl ?_)
  refine wpAny_bind (wpAny_nextOf_tuple_end hh hit hl hx fun h' x he' hx' => ?_)
  obtain ⟨o, ho, hc⟩ := hx'
  refine wpAny_bind (wpAny_isInstance (T := "StopIteration") (b := true) ⟨o, ho, hc⟩ isSubtype_stop ?_)
  exact wpAny_pure (hQ _ he')
end PySem
namespace QN
open PySem PySem.Spec PyProof.Rows L2
/-- the tuple at a, each item in a new pair -/
def IteT (K : PySem.W.Frag) (a : Addr) : It :=
  ⟨fun i H => ∃ (xs : List V) (x : V), SqT K H a xs ∧ xs[i]? = some x, fun i H v H' => ∃ T x, v = .ref T ∧ H T = none ∧ H' = upd H T (.tup [.int (i : Nat), x]) ∧ ∀ xs, SqT K H a xs → xs[i]? = some x, fun i H => ∃ xs : List V, SqT K H a xs ∧ xs.length ≤ i⟩
theorem turn_enumT {P : Program} {w : World} {K : PySem.W.Frag} {elts : List Expr} {kk : Nat} {tpos : Pos} (a e it : Addr) :
    Turn P w K (.Tuple elts kk tpos) (IteT K a) [e, it] e (fun i h => (∃ old, IsEnum h e it ((i : Nat) : Int) old) ∧ h.IsTupleIter it a i ∧ e ≠ it ∧ a ≠ it ∧ e ≠ a) where
  mem := by simp
  obj := fun i h st b hb => by
    obtain ⟨⟨old, he⟩, ⟨o, ho, hc, hd⟩, _⟩ := st
    have e' : b = e ∨ b = it := by simpa using hb
    rcases e' with z | z
    · rw [z]; exact ⟨_, he, fun v q => nomatch q⟩
    · rw [z]; exact ⟨o, ho, fun v q => by rw [hd] at q; cases q⟩
  keep := fun i h h' st k => let ⟨⟨old, he⟩, hi, hne⟩ := st; ⟨⟨old, k e (by simp) _ he⟩, hi.at fun o q => k it (by simp) o q, hne⟩
  item := by
    intro X hP hw hK hc i pins s σ H E I hf st hg
    subst hP hw hK
    obtain ⟨⟨old, he⟩, hit, hne, hai, hea⟩ := st
    obtain ⟨xs, x, hq, hx⟩ := hg
    obtain ⟨its, rv, p, hz⟩ := I.tuple hq
    obtain ⟨u, hu, ru⟩ := rv.get hx
    have hel : e < s.heap.objs.size := Heap.lt_size he
    have hil : it < s.heap.objs.size := by obtain ⟨_, q, _⟩ := hit; exact Heap.lt_size q
    have hlt : i < its.toArray.size := by
      rw [List.size_toArray]
      exact (List.getElem?_eq_some_iff.mp hu).1
    have D := Draws.tuple (prog := X.prog) (w := X.w) (A := X.A.in1) (I.ok.hd hc) it a hai its.toArray
    refine wpAny_pyNext_enum_itemD D he ⟨hit, p⟩ hlt hne (by simp [hne, hea]) fun x' h' tk hx' ho hit' hT hsz hk => ?_
    obtain rfl : x' = u := by
      rw [List.getElem?_toArray, hu] at hx'
      exact (Option.some.inj hx').symm
    refine ⟨_, rfl, wpAny_letOwnedTupleGo_enum (s := { s with heap := h', toks := tk + 1 }) ho fun h'' he' sb => ?_⟩
    have hT2 : h''.get? s.heap.objs.size = some { cls := .type "tuple", data := .seq #[.int i tk, x'] } := (sb.2 _ (Nat.ne_of_gt hel)).trans hT
    have new : ObjOk X.prog X.w (upd H s.heap.objs.size (.tup [.int (i : Nat), x])) h'' s.heap.objs.size (.tup [.int (i : Nat), x]) :=
      ⟨by show 2 ≤ sizeLine; decide, [.int i tk, x'], .cons ⟨_, rfl⟩ (.cons ru .nil), ⟨_, hT2, rfl, _, rfl⟩⟩
    have I1 : Inv X pins σ (upd H s.heap.objs.size (.tup [.int (i : Nat), x])) { s with heap := h'', toks := tk + 1 } :=
      I.turnedNew (ch := [e, it]) (fun b ob hb q => (sb.2 b (fun z => hb (by simp [z]))).trans (hk b ob (fun z => hb (by simp [z])) (fun z => hb (by simp [z])) q)) hf (Nat.le_refl _) new
    refine ⟨.ref s.heap.objs.size, _, I1, rfl, ⟨_, x, rfl, I.hok.fresh (Nat.le_refl _), rfl, fun ys hy => ?_⟩, ⟨⟨x', ?_⟩, hit'.1.at fun o q => (sb.2 it (Ne.symm hne)).trans q, hne, hai, hea⟩, fun b hb => ?_⟩
    · rw [I.tuple_inj hy hq]
      exact hx
    · have e1 : ((i + 1 : Nat) : Int) = (i : Int) + 1 := by omega
      rw [e1]; exact he'
    · have hb' : b < s.heap.objs.size := by
        have e' : b = e ∨ b = it := by simpa using hb
        rcases e' with z | z
        · rw [z]; exact hel
        · rw [z]; exact hil
      rw [upd_ne (Nat.ne_of_lt hb')]
      exact (hf b hb).1
  done := by
    intro X hP hw hK hc i pins s σ H E I hf st hg
    subst hP hw hK
    obtain ⟨⟨old, he⟩, hit, hne, hai, hea⟩ := st
    obtain ⟨xs, hq, hx⟩ := hg
    obtain ⟨its, rv, p, hz⟩ := I.tuple hq
    obtain ⟨f0, f1, f2, f3, f4, f5⟩ := hf it (by simp)
    have hl := rv.length
    exact qn_pyNext_enum_endT (I.ok.hd hc) he hit (show s.heap.IsTuple a its.toArray from p) (by simp; omega) fun h' eb => ⟨rfl, I.turned (t' := s.toks) (fun b o hb q => eb b o hb q) f0 f1 f3 f4 f5⟩
  self := fun A i s Q E st h => let ⟨⟨_, he⟩, _⟩ := st; wpAny_pyIter_enum he h
def iEnumT (K : PySem.W.Frag) (ta : TA) : TI := fun σ H R => ta σ H fun vs H1 => ∃ a xs, vs = [.ref a] ∧ SqT K H1 a xs ∧ R (IteT K a) H1
theorem pi_enumT {X : Cx} {e : Expr} {ta : TA} {p pos tpos : Pos} {elts : List Expr} {kk : Nat} (hg : Gl X "enumerate") (hm : X.mg "enumerate" = none) (ha : PA X [e] ta) (hs : starEach [e] X.env = [(false, eval e X.env)] := by rfl) :
    PI X (.Tuple elts kk tpos) (.Call (.Name "enumerate" p) [e] [] pos) (iEnumT X.K ta) := by
  refine ⟨fun pins s σ H R I h => ?_⟩
  refine Call_ (ld_blt I hg hm boot_enumerate (PyProof.Rows.callWith_type1 (thn (ha.run pos pins s σ H _ I h) fun us s1 ⟨vs, H1, I1, r1, q1⟩ => ?_) hs rfl))
  obtain ⟨a, xs, ex, hq, q⟩ := q1
  subst ex
  cases r1 with
  | cons r rr =>
    cases rr
    cases r
    obtain ⟨its, rv, p', hz⟩ := I1.tuple hq
    have hal : a < s1.heap.objs.size := by obtain ⟨_, q, _⟩ := (show s1.heap.IsTuple a its.toArray from p'); exact Heap.lt_size q
    refine qn_call_enumerate_tuple (show s1.heap.IsTuple a its.toArray from p') fun h' he hit hsz hk => wpAny_pyIter_enum he ?_
    have I2 : Inv X pins σ H1 { s1 with heap := h' } := I1.kept (t' := s1.toks) hk
    refine ⟨s1.heap.objs.size + 1, [s1.heap.objs.size + 1, s1.heap.objs.size], _, _, H1, rfl, I2, turn_enumT a (s1.heap.objs.size + 1) s1.heap.objs.size, ⟨⟨.none, he⟩, hit, Nat.succ_ne_self _, Nat.ne_of_lt hal, Nat.ne_of_gt (Nat.lt_succ_of_lt hal)⟩, fun b hb => ?_, q⟩
    have e' : b = s1.heap.objs.size + 1 ∨ b = s1.heap.objs.size := by simpa using hb
    have hle : s1.heap.objs.size ≤ b := by
      rcases e' with z | z
      · rw [z]; exact Nat.le_add_right _ _
      · rw [z]; exact Nat.le_refl _
    exact I1.fpOk hle (I1.hok.fresh hle)
theorem for_enumT {K : PySem.W.Frag} {a : Addr} {xs : List V} {g : TG} {tb : TS} {D : Ends} {σ : L2.St} {H : Hp} (Pv : Nat → L2.St → Hp → Prop) (h0 : Pv 0 σ H) (hl : ∀ i σ H, i ≤ xs.length → Pv i σ H → SqT K H a xs)
    (hs : ∀ i x T σ H, xs[i]? = some x → Pv i σ H → H T = none → g (.ref T) σ (upd H T (.tup [.int (i : Nat), x])) fun σ2 H2 => tb { D with nx := Pv (i + 1), ct := Pv (i + 1), bk := D.nx } σ2 H2) (hd : ∀ σ H, Pv xs.length σ H → D.nx σ H) :
    ∃ W : Nat → Nat → L2.St → Hp → Prop, (∃ m, W 0 m σ H) ∧ ∀ i m σ H, W i m σ H →
      ((IteT K a).stop i H ∧ D.nx σ H) ∨ ((IteT K a).go i H ∧ ∃ N : L2.St → Hp → Prop, (∀ σ' H', N σ' H' → ∃ m', m' < m ∧ W (i + 1) m' σ' H') ∧ ∀ x H', (IteT K a).yld i H x H' → g x σ H' fun σ2 H2 => tb { D with nx := N, ct := N, bk := D.nx } σ2 H2) := by
  refine ⟨fun i m σ H => m = xs.length - i ∧ i ≤ xs.length ∧ Pv i σ H, ⟨xs.length, by simp, Nat.zero_le _, h0⟩, ?_⟩
  rintro i m σ H ⟨rfl, hi, p⟩
  have q := hl i σ H hi p
  by_cases hlt : i < xs.length
  · refine .inr ⟨⟨xs, xs[i], q, by simp [hlt]⟩, Pv (i + 1), fun σ' H' p' => ⟨xs.length - (i + 1), by omega, rfl, hlt, p'⟩, fun x H' y => ?_⟩
    obtain ⟨T, z, rfl, hT, rfl, y⟩ := y
    exact hs i z T σ _ (y xs q) p hT
  · have e : i = xs.length := by omega
    subst e
    exact .inl ⟨⟨xs, q, Nat.le_refl _⟩, hd σ H p⟩
end QN

namespace Qp
open PySem PySem.Spec PyProof.Rows L2
def top (i : Nat) : Stmt := PySem.Challenge.pw_loopgrowth_k57_where_polynomials_reach.main.body.getD i (.Pass ⟨0, 0, 0, 0⟩)
abbrev sDice : Stmt := top 30 -- _law_dice
abbrev sRoll : Stmt := top 31 -- _law_roll
abbrev sOne : Stmt := top 32 -- _law_one_of
theorem scDice : FnScope ["_law_script", "_law_at", "_law_cell", "_law_great", "_law_mixed"] ["_law_script", "_law_at"] (defScope sDice) := ⟨rfl, rfl, rfl, by decide +kernel, rfl, by decide +kernel, by decide +kernel⟩
theorem scRoll : FnScope ["_law_dice_here", "_law_total", "_law_found", "_law_one", "_law_two"] ["_law_dice_here", "_law_total"] (defScope sRoll) := ⟨rfl, rfl, rfl, by decide +kernel, rfl, by decide +kernel, by decide +kernel⟩
theorem scOne : FnScope ["_law_dice_here", "_law_items"] ["_law_dice_here", "_law_items"] (defScope sOne) := ⟨rfl, rfl, rfl, by decide +kernel, rfl, by decide +kernel, by decide +kernel⟩
/-- the three numbers of a drawing hand -/
def hand (x y z : Int) : List V := [.int x, .int y, .int z]
/-- three numbers lie at p -/
def HandAt (H : Hp) (p : Addr) : Prop := ∃ x y z : Int, H p = some (.lst (hand x y z))
/-- what the built-in names still mean -/
structure Blt (mg : Str → Option Value) : Prop where
  len : mg "len" = none
  int : mg "int" = none
  abs : mg "abs" = none
  max : mg "max" = none
/-- all but p as it was -/
def But (p : Addr) (H H' : Hp) : Prop := ∀ b o, b ≠ p → H b = some o → H' b = some o
theorem but_upd {p : Addr} {H : Hp} {o : HO} : But p H (upd H p o) := fun b u n e => by
  rw [upd_ne n]
  exact e
def spRoll : Sp := fun vs H Q _ => ∃ (p : Addr) (x y z t : Int), vs = [.ref p, .int t] ∧ H p = some (.lst (hand x y z)) ∧ 0 < t ∧ t < 1073741824 ∧
  ∀ (r x' y' z' : Int) (H' : Hp), 0 ≤ r → r < t → H' p = some (.lst (hand x' y' z')) → But p H H' → Q (.int r) H'
def spOne : Sp := fun vs H Q _ => ∃ (p q : Addr) (x y z : Int) (its : List V), vs = [.ref p, .ref q] ∧ H p = some (.lst (hand x y z)) ∧ H q = some (.lst its) ∧ q ≠ p ∧ 0 < its.length ∧ its.length < 1073741824 ∧
  ∀ (v : V) (x' y' z' : Int) (H' : Hp), v ∈ its → H' p = some (.lst (hand x' y' z')) → But p H H' → Q v H'
def spDice (K : PySem.W.Frag) : Sp := fun vs H Q _ => ∃ (a : Addr) (ns : List Int) (j : Nat), vs = [.ref a, .int (j : Int)] ∧ SqL K H a (ns.map V.int) ∧
  ∀ (p : Addr) (x y z : Int), H p = none → Q (.ref p) (upd H p (.lst (hand x y z)))
section
variable {P : Program} {w : World} {K : PySem.W.Frag} {mg : Str → Option Value} {base : Heap}
theorem ix3 {K : PySem.W.Frag} {H : Hp} {p : Addr} {x y z : Int} (h : H p = some (.lst (hand x y z))) : SqL K H p (hand x y z) := .inl (.inl h)
theorem ok_roll {f : Addr} {fd : FuncData} (F : Fun K "_law_roll" "_law_roll" sRoll f fd) (B : Blt mg) : FnOk P w K mg base CX0 1 f fd ["_law_dice_here", "_law_total"] spRoll := by
  refine F.ok scRoll (fun vs H Q E h => ?_) (fun cdv A outer s H vs Q E hr h => ?_)
  · obtain ⟨p, x, y, z, t, rfl, _⟩ := h
    rfl
  · obtain ⟨p, x, y, z, t, rfl, hp, ht, ht2, k⟩ := h
    refine ⟨_, pss_cons (ps_if (pt_cmpR op_gt (pe_ix ix_list (pv 0) pe_int (fun _ _ => rfl)) pe_int (nomark _))
        (pss_cons (ps_set (i := 2) scRoll.nd rfl (.inl rfl) (pe_op op_mod (pe_callTy call_int1 (by rfl) B.int (by decide +kernel) (pa_cons (pe_ix ix_list (pv 0) pe_int (fun _ _ => rfl)) pa_nil)) (pv 1)))
        (pss_cons (ps_asg (pe_op op_fdiv (pe_ix ix_list (pv 0) pe_int (fun _ _ => rfl)) (pv 1)) (pg_sub (pv 0) pe_int set_list))
        (pss_one (ps_ret (pv 2))))) pss_nil)
      (pss_cons (ps_asg (pe_op op_add (pe_ix ix_list (pv 0) pe_int (fun _ _ => rfl)) pe_int) (pg_sub (pv 0) pe_int set_list))
      (pss_cons (ps_set (i := 3) scRoll.nd rfl (.inl rfl) (pe_op op_mod (pe_callTy call_int1 (by rfl) B.int (by decide +kernel) (pa_cons (pe_op op_add (pe_ix ix_list (pv 0) pe_int (fun _ _ => rfl)) (pe_op op_mul pe_int (pe_ix ix_list (pv 0) pe_int (fun _ _ => rfl)))) pa_nil)) pe_int))
      (pss_cons (ps_set (i := 4) scRoll.nd rfl (.inl rfl) (pe_op op_add (pe_op op_mul (pe_op op_mod (pe_callTy call_int1 (by rfl) B.int (by decide +kernel) (pa_cons (pe_op op_mul (pv 3) (pv 3)) pa_nil)) pe_int) (pv 3)) (pe_op op_mul pe_int (pe_ix ix_list (pv 0) pe_int (fun _ _ => rfl)))))
      (pss_cons (ps_set (i := 4) scRoll.nd rfl (.inl rfl) (pe_op op_mod (pe_callTy call_int1 (by rfl) B.int (by decide +kernel) (pa_cons (pv 4) pa_nil)) pe_int))
      (pss_one (ps_ret (pe_op op_mod (pe_callTy call_int1 (by rfl) B.int (by decide +kernel) (pa_cons (pe_op op_fdiv (pv 4) pe_int) pa_nil)) (pv 1)))))))), ?_⟩
    -- if hand[0] > 0
    refine ⟨_, rfl, p, hand x y z, 0, .int x, rfl, rfl, ix3 hp, rfl, x, 0, rfl, rfl, _, rfl, ite2 (fun c => ?_) (fun c => ?_)⟩
    · -- found = int(hand[0]) % total
      refine ⟨_, rfl, p, hand x y z, 0, .int x, rfl, rfl, ix3 hp, rfl, .inl ⟨x, rfl, .int t, rfl, x, t, rfl, rfl, ht, ?_⟩⟩
      -- hand[0] = hand[0] // total
      refine ⟨_, rfl, p, hand x y z, 0, .int x, rfl, rfl, ix3 hp, rfl, .int t, rfl, x, t, rfl, rfl, ⟨ht, ht2⟩, _, rfl, p, hand x y z, 0, 0, rfl, rfl, hp, rfl, ?_⟩
      exact ⟨_, rfl, k (x % t) (x / t) y z _ (Int.emod_nonneg _ (by omega)) (Int.emod_lt_of_pos _ ht) upd_same but_upd⟩
    · -- hand[2] = hand[2] + 1
      refine ⟨_, rfl, p, hand x y z, 2, .int z, rfl, rfl, ix3 hp, rfl, z, 1, rfl, rfl, _, rfl, p, hand x y z, 2, 2, rfl, rfl, hp, rfl, ?_⟩
      have hp2 : (upd H p (.lst (hand x y (z + 1)))) p = some (.lst (hand x y (z + 1))) := upd_same
      -- one = ..
      refine ⟨_, rfl, p, hand x y (z + 1), 1, .int y, rfl, rfl, ix3 hp2, rfl, _, rfl, p, hand x y (z + 1), 2, .int (z + 1), rfl, rfl, ix3 hp2, rfl, _, _, rfl, rfl, .inl ⟨by decide, by decide⟩, _, _, rfl, rfl, .inl ⟨_, rfl, _, _, rfl, rfl, (by show (0 : Int) < 2305843009213693951; decide), ?_⟩⟩
      have hb : ∀ g : Int, -(2 ^ 64) < g % 2305843009213693951 ∧ g % 2305843009213693951 < 2 ^ 64 := fun g => ⟨by omega, by omega⟩
      -- two = ..
      refine ⟨_, rfl, _, rfl, _, _, rfl, rfl, .inl (hb _), .inl ⟨_, rfl, _, _, rfl, rfl, (by show (0 : Int) < 2305843009213693921; decide), _, rfl, _, _, rfl, rfl, .inr (hb _), ?_⟩⟩
      refine ⟨_, rfl, p, hand x y (z + 1), 2, .int (z + 1), rfl, rfl, ix3 hp2, rfl, _, _, rfl, rfl, .inl ⟨by decide, by decide⟩, _, _, rfl, rfl, ?_⟩
      -- two = int(two) % ..
      refine ⟨_, rfl, .inl ⟨_, rfl, _, _, rfl, rfl, (by show (0 : Int) < 2305843009213693907; decide), ?_⟩⟩
      -- return int(two // 8192) % total
      refine ⟨_, rfl, _, _, rfl, rfl, ⟨by decide, by decide⟩, .inl ⟨_, rfl, .int t, rfl, _, t, rfl, rfl, ht, ?_⟩⟩
      exact k _ x y (z + 1) _ (Int.emod_nonneg _ (by omega)) (Int.emod_lt_of_pos _ ht) upd_same but_upd
theorem op_powX {X : Cx} : OpR X (binaryOp .Pow) (rI (fun i j => 0 ≤ j ∧ (Builtin.Int.intBits i : Int) * j ≤ 2 ^ 27) fun i j => .int (i ^ j.toNat)) := opI fun _ _ _ _ _ _ _ hc q => pow_int hc.1 hc.2 q
theorem ok_dice {f : Addr} {fd : FuncData} (F : Fun K "_law_dice" "_law_dice" sDice f fd) (B : Blt mg) : FnOk P w K mg base CX0 1 f fd ["_law_script", "_law_at"] (spDice K) := by
  refine F.ok scDice (fun vs H Q E h => ?_) (fun cdv A outer s H vs Q E hr h => ?_)
  · obtain ⟨a, ns, j, rfl, _⟩ := h
    rfl
  · obtain ⟨a, ns, j, rfl, hS, k⟩ := h
    refine ⟨_, pss_cons (ps_set (i := 2) scDice.nd rfl (.inl rfl) (pe_op op_add (pe_op op_mul pe_int (pv 1)) pe_int))
      (pss_cons (ps_if (pt_cmpR op_lt (pv 1) (pe_callB call_len_seq (by rfl) B.len PySem.boot_len (pa_cons (pv 0) pa_nil)) (nomark _))
        (pss_one (ps_set (i := 2) scDice.nd rfl (.inl rfl) (pe_ix ix_list (pv 0) (pv 1) (fun _ _ => rfl)))) pss_nil)
      (pss_cons (ps_set (i := 3) scDice.nd rfl (.inl rfl) (pe_op op_mod (pe_callTy call_int1 (by rfl) B.int (by decide +kernel) (pa_cons (pe_callB call_abs (by rfl) B.abs (by decide +kernel) (pa_cons (pv 2) pa_nil)) pa_nil)) (pe_op op_powX (pe_op op_pow pe_int pe_int) pe_int)))
      (pss_cons (ps_set (i := 4) scDice.nd rfl (.inl rfl) (pe_op op_add (pe_op op_add (pe_op op_add (pe_op op_mul (pe_op op_mod (pe_callTy call_int1 (by rfl) B.int (by decide +kernel) (pa_cons (pv 3) pa_nil)) pe_int) pe_int) (pe_op op_mul pe_int (pv 1)))
          (pe_op op_mul pe_int (pe_callTy call_int1 (by rfl) B.int (by decide +kernel) (pa_cons (pe_cmpR op_lt (pv 2) pe_int (nomark _)) pa_nil)))) pe_int))
      (pss_one (ps_ret (pe_lst (pa_cons (pe_callB (call_max2 rfl) (by rfl) B.max (by decide +kernel) (pa_cons pe_int (pa_cons (pe_op op_sub (pv 3) (pe_op op_pow pe_int pe_int)) pa_nil)))
        (pa_cons (pe_op op_mod (pe_callTy call_int1 (by rfl) B.int (by decide +kernel) (pa_cons (pv 4) pa_nil)) pe_int) (pa_cons pe_int pa_nil))))))))), ?_⟩
    -- cell = 23 * at + 5
    refine ⟨_, rfl, _, _, rfl, rfl, .inl ⟨by decide, by decide⟩, _, _, rfl, rfl, ?_⟩
    -- if at < len(script)
    refine ⟨_, rfl, .ref a, rfl, a, _, rfl, .inl hS, _, _, rfl, rfl, _, rfl, ite2 (fun e => ?inside) (fun _ => ?beyond)⟩
    case' inside =>
      have hj : j < ns.length := by
        have e2 := of_decide_eq_true e
        rw [List.length_map] at e2
        omega
      have hx : (ns.map V.int)[j]? = some (.int ns[j]) := by
        rw [List.getElem?_map, List.getElem?_eq_getElem hj]
        rfl
      refine ⟨_, rfl, _, rfl, a, _, _, _, rfl, rfl, hS, atI_nat hx, ?_⟩
    all_goals
      -- great
      refine ⟨_, rfl, _, rfl, .inl ⟨_, rfl, _, _, rfl, rfl, ⟨by decide, by decide, by decide⟩, _, _, rfl, rfl, ⟨by decide, by decide +kernel⟩, _, _, rfl, rfl, Int.pow_pos (Int.pow_pos (by decide)), ?_⟩⟩
      -- mixed
      refine ⟨_, rfl, .inl ⟨_, rfl, _, _, rfl, rfl, (by show (0 : Int) < 2147483587; decide), _, _, rfl, rfl, .inr ⟨by decide, by decide⟩, _, rfl, _, _, rfl, rfl, .inl ⟨by decide, by decide⟩, _, _, rfl, rfl, ?_⟩⟩
      refine ⟨_, rfl, _, _, rfl, rfl, .inr ⟨_, rfl, _, _, rfl, rfl, .inl ⟨by decide, by decide⟩, _, _, rfl, rfl, _, _, rfl, rfl, ?_⟩⟩
      -- the three numbers
      refine ⟨_, rfl, _, _, rfl, rfl, ⟨by decide, by decide, by decide⟩, _, _, rfl, rfl, _, _, rfl, ?_⟩
      refine ⟨_, rfl, .inl ⟨_, rfl, _, _, rfl, rfl, (by show (0 : Int) < 2147483563; decide), (by show 3 ≤ sizeLine; decide), fun p hp => ?_⟩⟩
      exact k p _ _ _ hp
theorem ok_one {f fR : Addr} {fd fdR : FuncData} (F : Fun K "_law_one_of" "_law_one_of" sOne f fd) (FR : Fun K "_law_roll" "_law_roll" sRoll fR fdR) (bR : Binds K fdR ["_law_dice_here", "_law_total"] []) (gR : mg "_law_roll" = some (.ref fR)) (B : Blt mg) :
    FnOk P w K mg base CX0 2 f fd ["_law_dice_here", "_law_items"] spOne := by
  have GR : FnOk P w K mg base CX0 1 fR fdR ["_law_dice_here", "_law_total"] spRoll := ok_roll FR B
  refine F.ok scOne (fun vs H Q E h => ?_) (fun cdv A outer s H vs Q E hr h => ?_)
  · obtain ⟨p, q, x, y, z, its, rfl, _⟩ := h
    rfl
  · obtain ⟨p, q, x, y, z, its, rfl, hp, hq, nqp, hl, hl2, k⟩ := h
    refine ⟨_, pss_one (ps_ret (pe_ix ix_list (pv 1) (pe_call GR hr (by rfl) gR FR.kp bR .nil pass0 (pa_cons (pv 0) (pa_cons (pe_callB call_len_seq (by rfl) B.len PySem.boot_len (pa_cons (pv 1) pa_nil)) pa_nil))) (fun _ _ => rfl))), ?_⟩
    refine ⟨.ref q, rfl, .ref p, rfl, .ref q, rfl, q, its, rfl, .inl (.inl (.inl hq)), p, x, y, z, _, rfl, hp, by omega, by omega, fun r x' y' z' H' h0 h1 hp' bt => ?_⟩
    obtain ⟨j, rfl⟩ := Int.eq_ofNat_of_zero_le h0
    have hj : j < its.length := by omega
    refine ⟨q, its, _, its[j], rfl, rfl, .inl (.inl (bt q _ nqp hq)), atI_nat (List.getElem?_eq_getElem hj), ?_⟩
    exact k _ x' y' z' H' (List.getElem_mem hj) hp' bt
end
end Qp

namespace Qp
open PySem PySem.Spec PyProof.Rows L2 QN
theorem sqT_same {K : PySem.W.Frag} {H H' : Hp} {p : Addr} {xs : List V} (s : Same H H') (h : SqT K H p xs) : SqT K H' p xs := by
  rcases h with h | h
  · rcases h with h | ⟨o, h⟩
    · exact .inl (.inl (s _ _ h))
    · exact .inl (.inr ⟨o, s _ _ h⟩)
  · exact .inr h
theorem same_new {H : Hp} {p : Addr} {o : HO} (h : H p = none) : Same H (upd H p o) := fun b x e => by
  rw [upd_ne (ne_of_none e h)]
  exact e
theorem if_yes {c : Prop} [Decidable c] {a b : Prop} (h : c) (x : a) : if c then a else b := by rw [if_pos h]; exact x
theorem if_no {c : Prop} [Decidable c] {a b : Prop} (h : ¬ c) (x : b) : if c then a else b := by rw [if_neg h]; exact x
theorem but_same {p : Addr} {H H1 H2 : Hp} (s : Same H H1) (b : But p H1 H2) : But p H H2 := fun c o n e => b c o n (s c o e)
theorem but_trans {p : Addr} {H H1 H2 : Hp} (a : But p H H1) (b : But p H1 H2) : But p H H2 := fun c o n e => b c o n (a c o n e)
theorem same_but {p : Addr} {H H1 : Hp} (s : Same H H1) : But p H H1 := fun c o _ e => s c o e
theorem slot_set {σ : L2.St} {i : Nat} {v : V} (h : i < σ.length) : (σ.set i (some v))[i]? = some (some v) := by rw [List.getElem?_set_self h]
theorem slot_keep {σ : L2.St} {i j : Nat} {u : Option V} {v : V} (n : j ≠ i) (h : σ[i]? = some (some v)) : (σ.set j u)[i]? = some (some v) := by rw [List.getElem?_set_ne n]; exact h
/-- ints as values -/
def iv (ns : List Int) : List V := ns.map V.int
/-- a coefficient as the law draws it -/
def okC (n : Int) : Prop := 0 ≤ n ∧ n < 10 ^ 21
structure Blt2 (mg : Str → Option Value) : Prop where
  rg : mg "range" = none
  tu : mg "tuple" = none
  li : mg "list" = none
abbrev sCoef : Stmt := top 33 -- _law_coefficients
abbrev coefNames : List Str := ["_law_dice_here", "_law_found", "_law_turn"]
theorem scCoef : FnScope coefNames ["_law_dice_here"] (defScope sCoef) := ⟨rfl, rfl, rfl, by decide +kernel, rfl, by decide +kernel, by decide +kernel⟩
def spCoef (K : PySem.W.Frag) : Sp := fun vs H Q _ => ∃ (p : Addr) (x y z : Int), vs = [.ref p] ∧ H p = some (.lst (hand x y z)) ∧
  ∀ (q : Addr) (ns : List Int) (x' y' z' : Int) (H' : Hp), (∀ n ∈ ns, okC n) → ns.length ≤ 6 → SqT K H' q (iv ns) → H' p = some (.lst (hand x' y' z')) → But p H H' → Q (.ref q) H'
section
variable {P : Program} {w : World} {K : PySem.W.Frag} {mg : Str → Option Value} {base : Heap}
theorem ok_coef {f fR fO : Addr} {fd fdR fdO : FuncData} (F : Fun K "_law_coefficients" "_law_coefficients" sCoef f fd) (FR : Fun K "_law_roll" "_law_roll" sRoll fR fdR) (bR : L2.Binds K fdR ["_law_dice_here", "_law_total"] []) (gR : mg "_law_roll" = some (.ref fR))
    (FO : Fun K "_law_one_of" "_law_one_of" sOne fO fdO) (bO : L2.Binds K fdO ["_law_dice_here", "_law_items"] []) (gO : mg "_law_one_of" = some (.ref fO)) (B : Blt mg) (B2 : Blt2 mg) : FnOk P w K mg base CX0 3 f fd ["_law_dice_here"] (spCoef K) := by
  have GO : FnOk P w K mg base CX0 2 fO fdO ["_law_dice_here", "_law_items"] spOne := ok_one FO FR bR gR B
  have GR : FnOk P w K mg base CX0 1 fR fdR ["_law_dice_here", "_law_total"] spRoll := ok_roll FR B
  refine F.ok scCoef (fun vs H Q E h => ?_) (fun cdv A outer s H vs Q E hr h => ?_)
  · obtain ⟨p, x, y, z, rfl, _⟩ := h
    rfl
  · obtain ⟨p, x, y, z, rfl, hp, k⟩ := h
    have hr1 := hr.mono (by decide : 1 ≤ 2)
    refine ⟨_, pss_cons (ps_set (i := 1) scCoef.nd rfl (.inl rfl) (pe_lst pa_nil))
      (pss_cons (ps_for PassesOwn.never rfl (pi_range1 (by rfl) B2.rg (pa_cons (pe_call GR hr1 (by rfl) gR FR.kp bR .nil pass0 (pa_cons (pv 0) (pa_cons pe_int pa_nil))) pa_nil)) (pg_name (i := 2) scCoef.nd rfl (.inl rfl))
        (pss_one (ps_expr (pe_bm PySem.F.plainAttrs_list PySem.F.slot_list_append PySem.F.type_list_append mt_append (pv 1) (pa_cons (pe_call GO hr (by rfl) gO FO.kp bO .nil pass0 (pa_cons (pv 0) (pa_cons (pe_lst (pa_cons pe_int (pa_cons pe_int (pa_cons pe_int (pa_cons pe_int (pa_cons pe_int (pa_cons pe_int (pa_cons pe_int (pa_cons pe_int
          (pa_cons (pe_op op_add (pe_op op_pow pe_int pe_int) (pe_call GR hr1 (by rfl) gR FR.kp bR .nil pass0 (pa_cons (pv 0) (pa_cons pe_int pa_nil)))) pa_nil)))))))))) pa_nil))) pa_nil)))))
      (pss_one (ps_ret (pe_op op_catA (pe_callTy call_tuple_of (by rfl) B2.tu (by decide +kernel) (pa_cons (pv 1) pa_nil)) (pe_op op_repA (pe_tup (pa_cons pe_int pa_nil)) (pe_call GO hr (by rfl) gO FO.kp bO .nil pass0 (pa_cons (pv 0) (pa_cons (pe_lst (pa_cons pe_int (pa_cons pe_int (pa_cons pe_int (pa_cons pe_int pa_nil))))) pa_nil)))))))), ?_⟩
    refine ⟨by decide, fun L hL => ?_⟩
    have nLp : L ≠ p := (fun c => by rw [c, hp] at hL; cases hL)
    refine ⟨.ref p, rfl, p, x, y, z, 5, rfl, by rw [upd_ne nLp.symm]; exact hp, by decide, by decide, fun r x1 y1 z1 H1 r0 r5 hp1 b1 => ⟨r, rfl, by omega, by omega, ?_⟩⟩
    have hL1 : H1 L = some (.lst (iv [])) := b1 L _ nLp upd_same
    refine for_range (fun i σ H' => ∃ y2, σ = [some (.ref p), some (.ref L), y2] ∧ ∃ ns x y z, ns.length = i ∧ (∀ n ∈ ns, okC n) ∧ H' L = some (.lst (iv ns)) ∧ H' p = some (.lst (hand x y z)) ∧ But p H H') ⟨none, rfl, [], x1, y1, z1, rfl, (fun n hn => by cases hn), hL1, hp1, but_same (same_new hL) b1⟩ ?_ ?_
    · rintro i σ H' hi ⟨y2, rfl, ns, x2, y2', z2, rfl, hns, hL2, hp2, b2⟩
      refine ⟨.ref L, rfl, .inl ⟨rfl, _, .inl (.inl hL2)⟩, .ref p, rfl, _, _, rfl, rfl, ⟨by decide, by decide, by decide⟩, .ref p, rfl, p, x2, y2', z2, 1000, rfl, hp2, by decide, by decide, fun t x3 y3 z3 H3 t0 t1 hp3 b3 => ?_⟩
      refine ⟨_, _, rfl, rfl, (by show 9 ≤ sizeLine; decide), fun q hq => ?_⟩
      have nqp : q ≠ p := (fun c => by rw [c, hp3] at hq; cases hq)
      refine ⟨p, q, x3, y3, z3, _, rfl, by rw [upd_ne nqp.symm]; exact hp3, upd_same, nqp, (by show 0 < 9; decide), (by show 9 < 1073741824; decide), fun v x4 y4 z4 H4 hv hp4 b4 => ?_⟩
      have hv' : ∃ n : Int, v = .int n ∧ okC n := by
        simp only [List.mem_cons, List.not_mem_nil, or_false] at hv
        rcases hv with rfl | rfl | rfl | rfl | rfl | rfl | rfl | rfl | rfl
        all_goals refine ⟨_, rfl, ?_, ?_⟩
        all_goals first | decide | (show (0 : Int) ≤ 10 ^ 20 + t; omega) | (show (10 : Int) ^ 20 + t < 10 ^ 21; omega)
      obtain ⟨n, rfl, hn⟩ := hv'
      have hL4 : H4 L = some (.lst (iv ns)) := b4 L _ nLp ((same_new hq) _ _ (b3 L _ nLp hL2))
      refine ⟨L, _, _, rfl, rfl, hL4, ?_, _, rfl, ns ++ [n], x4, y4, z4, (by rw [List.length_append]; rfl), fun m hm => ?_, ?_, ?_, ?_⟩
      · unfold iv
        rw [List.length_map, sizeLine_eq]
        have : ns.length < 5 := by omega
        omega
      · rcases List.mem_append.mp hm with hm | hm
        · exact hns m hm
        · rw [List.mem_singleton.mp hm]
          exact hn
      · rw [upd_same]
        unfold iv
        rw [List.map_append]
        rfl
      · rw [upd_ne nLp.symm]
        exact hp4
      · intro b o nb e
        have e4 := b4 b o nb ((same_new hq) b o (b3 b o nb (b2 b o nb e)))
        by_cases c : b = L
        · subst c
          rw [hL] at e
          cases e
        · rw [upd_ne c]
          exact e4
    · rintro σ H' ⟨y2, rfl, ns, x2, y2', z2, hl, hns, hL2, hp2, b2⟩
      have lr : ns.length < 5 := by omega
      refine ⟨.ref L, rfl, L, _, rfl, .inl ⟨.inl (.inl hL2), fun T hT => ?_⟩⟩
      have sT := same_new (o := .tup (iv ns)) hT
      have hT1 : (upd H' T (.tup (iv ns))) T = some (.tup (iv ns)) := upd_same
      have hp3 := sT _ _ hp2
      have b3 : But p H (upd H' T (.tup (iv ns))) := but_trans b2 (same_but sT)
      generalize upd H' T (.tup (iv ns)) = H3 at hT1 hp3 b3
      refine ⟨by decide, fun t ht => ⟨.ref p, rfl, by decide, fun q hq => ?_⟩⟩
      have st := same_new (o := .tup [.int 0]) ht
      have sq := same_new (o := .lst [.int 0, .int 0, .int 1, .int 2]) hq
      have ht1 := sq _ _ (upd_same (a := t) (o := .tup [.int 0]))
      have hp4 := (st.trans sq) _ _ hp3
      have hT4 := (st.trans sq) _ _ hT1
      have nqp : q ≠ p := (fun c => by rw [c, st _ _ hp3] at hq; cases hq)
      have ntp : t ≠ p := (fun c => by rw [c, hp3] at ht; cases ht)
      have nTp : T ≠ p := (fun c => by rw [c, hp3] at hT1; cases hT1)
      refine ⟨p, q, x2, y2', z2, _, rfl, hp4, upd_same, nqp, (by show 0 < 4; decide), (by show 4 < 1073741824; decide), fun v x5 y5 z5 H5 hv hp5 b5 => ?_⟩
      have ht5 := b5 _ _ ntp ht1
      have hT5 := b5 _ _ nTp hT4
      have bb : But p H H5 := but_trans (but_trans b3 (same_but (st.trans sq))) b5
      have hv' : ∃ m : Nat, v = .int (m : Int) ∧ m ≤ 2 := by
        simp only [List.mem_cons, List.not_mem_nil, or_false] at hv
        rcases hv with rfl | rfl | rfl | rfl
        · exact ⟨0, rfl, by decide⟩
        · exact ⟨0, rfl, by decide⟩
        · exact ⟨1, rfl, by decide⟩
        · exact ⟨2, rfl, by decide⟩
      obtain ⟨m, rfl, hm⟩ := hv'
      have zer : ∀ n ∈ ns ++ List.replicate m 0, okC n := fun n hn => by
        rcases List.mem_append.mp hn with hn | hn
        · exact hns n hn
        · rw [(List.mem_replicate.mp hn).2]
          exact ⟨by decide, by decide⟩
      have len6 : (ns ++ List.replicate m (0 : Int)).length ≤ 6 := by
        rw [List.length_append, List.length_replicate]
        omega
      have cat : iv ns ++ List.replicate m (.int 0) = iv (ns ++ List.replicate m 0) := by
        unfold iv
        rw [List.map_append, List.map_replicate]
      have hl6 : (iv ns).length + (List.replicate m (V.int 0)).length ≤ sizeLine := by
        rw [List.length_replicate, sizeLine_eq]
        unfold iv
        rw [List.length_map]
        omega
      have ends : ∀ (u : Addr) (H6 : Hp), Same H5 H6 → SqT K H6 u (List.replicate m (.int 0)) → rCatA K (.ref T) (.ref u) H6 Q := fun u H6 s6 hu => by
        have hT6 : SqT K H6 T (iv ns) := .inl (.inl (s6 _ _ hT5))
        have fin : ∀ (w : Addr) (H7 : Hp), Same H6 H7 → SqT K H7 w (iv (ns ++ List.replicate m 0)) → Q (.ref w) H7 := fun w H7 s7 hw =>
          k w _ x5 y5 z5 H7 zer len6 hw ((s6.trans s7) _ _ hp5) (but_trans bb (same_but (s6.trans s7)))
        refine ⟨T, u, _, _, rfl, rfl, hT6, hu, hl6, fun e => fin u H6 (Same.refl H6) ?_, fun _ e => fin T H6 (Same.refl H6) ?_, fun _ _ w hw => fin w _ (same_new hw) (.inl (.inl ?_))⟩
        · rw [← cat, e]
          exact hu
        · rw [← cat, e, List.append_nil]
          exact hT6
        · rw [upd_same, cat]
      have flat : (List.replicate ((m : Nat) : Int).toNat [V.int 0]).flatten = List.replicate m (V.int 0) := by
        rw [Int.toNat_natCast]
        clear ends hl6 cat len6 zer hm hv hT5 ht5
        induction m with
        | zero => rfl
        | succ m ih => rw [List.replicate_succ, List.flatten_cons, ih, List.replicate_succ]; rfl
      refine ⟨t, m, [.int 0], rfl, rfl, .inl (.inl ht5), (by simp), by omega, by omega, (by show 1 ≤ 1000; decide), fun e => ends t H5 (Same.refl H5) ?_, fun _ u hu => ends u _ (same_new hu) (.inl (.inl ?_))⟩
      · have e1 : m = 1 := by omega
        rw [e1]
        exact .inl (.inl ht5)
      · rw [upd_same, flat]
end
end Qp

/-! the mathematics of coefficients -/
namespace Qp
open PySem PySem.Spec PyProof.Rows L2 QN
/-- without the zeros at the end -/
def cutZ (ns : List Int) : List Int := (ns.reverse.dropWhile (· == 0)).reverse
theorem cutZ_nil : cutZ [] = [] := rfl
theorem cutZ_snoc0 (ms : List Int) : cutZ (ms ++ [0]) = cutZ ms := by
  unfold cutZ
  rw [List.reverse_append]
  rfl
theorem cutZ_snoc {x : Int} (ms : List Int) (h : x ≠ 0) : cutZ (ms ++ [x]) = ms ++ [x] := by
  unfold cutZ
  rw [List.reverse_append]
  show ((x :: ms.reverse).dropWhile (· == 0)).reverse = _
  rw [List.dropWhile_cons, if_neg (by simpa using h), List.reverse_cons, List.reverse_reverse]
/-- a list is empty or has a last one -/
theorem snoc_cases {α : Type} (ms : List α) : ms = [] ∨ ∃ r x, ms = r ++ [x] := by
  rcases List.eq_nil_or_concat ms with h | ⟨r, x, h⟩
  · exact .inl h
  · exact .inr ⟨r, x, by rw [h]; simp [List.concat_eq_append]⟩
/-- the value at n -/
def val (ns : List Int) (n : Int) : Int := ns.foldr (fun c v => v * n + c) 0
theorem val_cons (c : Int) (ns : List Int) (n : Int) : val (c :: ns) n = val ns n * n + c := rfl
theorem val_snoc0 (n : Int) : ∀ ms : List Int, val (ms ++ [0]) n = val ms n
  | [] => by
    show (0 : Int) * n + 0 = 0
    omega
  | c :: ms => by
    rw [List.cons_append, val_cons, val_snoc0 n ms, val_cons]
theorem snoc_ind {P : List Int → Prop} (h0 : P []) (h1 : ∀ r x, P r → P (r ++ [x])) : ∀ (k : Nat) (ms : List Int), ms.length = k → P ms
  | 0, ms, h => by
    rw [List.eq_nil_of_length_eq_zero h]
    exact h0
  | k + 1, ms, h => by
    rcases snoc_cases ms with rfl | ⟨r, x, rfl⟩
    · exact h0
    · exact h1 r x (snoc_ind h0 h1 k r (by rw [List.length_append] at h; simpa using h))
theorem val_cut (n : Int) (ns : List Int) : val (cutZ ns) n = val ns n := by
  refine snoc_ind (P := fun ms => val (cutZ ms) n = val ms n) rfl (fun r x ih => ?_) _ ns rfl
  by_cases h : x = 0
  · subst h
    rw [cutZ_snoc0, val_snoc0, ih]
  · rw [cutZ_snoc r h]
theorem cut_len (ns : List Int) : (cutZ ns).length ≤ ns.length := by
  unfold cutZ
  rw [List.length_reverse, ← List.length_reverse (as := ns)]
  exact (List.dropWhile_sublist _).length_le
theorem cut_mem {ns : List Int} {x : Int} (h : x ∈ cutZ ns) : x ∈ ns := by
  unfold cutZ at h
  have h1 := List.mem_reverse.mp h
  exact List.mem_reverse.mp ((List.dropWhile_sublist _).subset h1)
/-- the last one of what is left is not 0 -/
theorem cut_last (ns : List Int) : cutZ ns = [] ∨ ∃ r x, cutZ ns = r ++ [x] ∧ x ≠ 0 := by
  refine snoc_ind (P := fun ms => cutZ ms = [] ∨ ∃ r x, cutZ ms = r ++ [x] ∧ x ≠ 0) (.inl rfl) (fun r x ih => ?_) _ ns rfl
  by_cases h : x = 0
  · subst h
    rw [cutZ_snoc0]
    exact ih
  · exact .inr ⟨r, x, cutZ_snoc r h, h⟩
theorem cut_prefix (ns : List Int) : cutZ ns = ns.take (cutZ ns).length := by
  refine snoc_ind (P := fun ms => cutZ ms = ms.take (cutZ ms).length) rfl (fun r x ih => ?_) _ ns rfl
  by_cases h : x = 0
  · subst h
    rw [cutZ_snoc0, List.take_append_of_le_length (cut_len r)]
    exact ih
  · rw [cutZ_snoc r h, List.take_length]
theorem pow_mono2 {a b : Nat} (h : a ≤ b) : (2 : Int) ^ a ≤ 2 ^ b := by
  have z : ((2 ^ a : Nat) : Int) ≤ ((2 ^ b : Nat) : Int) := Int.ofNat_le.mpr (Nat.pow_le_pow_right (by decide) h)
  simpa using z
/-- sizes: coefficients below 2 ^ 70, at a place below 2 ^ m -/
theorem val_nn {n : Int} (hn : 0 ≤ n) : ∀ {ns : List Int}, (∀ c ∈ ns, okC c) → 0 ≤ val ns n
  | [], _ => Int.le_refl 0
  | c :: ns, h => by
    rw [val_cons]
    have h1 := val_nn hn (ns := ns) fun x hx => h x (List.mem_cons_of_mem _ hx)
    have h2 := (h c List.mem_cons_self).1
    have h3 := Int.mul_nonneg h1 hn
    omega
theorem val_lt {n : Int} {m : Nat} (hn : 0 ≤ n) (hm : n < 2 ^ m) : ∀ {ns : List Int}, (∀ c ∈ ns, okC c) → val ns n < 2 ^ (70 + ns.length * (m + 1))
  | [], _ => by
    show (0 : Int) < 2 ^ (70 + 0 * (m + 1))
    exact Int.pow_pos (by decide)
  | c :: ns, h => by
    rw [val_cons]
    have hns : ∀ c ∈ ns, okC c := fun x hx => h x (List.mem_cons_of_mem _ hx)
    have h1 := val_lt hn hm hns
    have h0 := val_nn hn hns
    have h2 := (h c List.mem_cons_self)
    have e : 70 + (c :: ns).length * (m + 1) = (70 + ns.length * (m + 1)) + m + 1 := by
      rw [List.length_cons, Nat.add_mul]
      omega
    rw [e, Int.pow_succ, Int.pow_add]
    have h3 : val ns n * n ≤ 2 ^ (70 + ns.length * (m + 1)) * 2 ^ m := Int.mul_le_mul (by omega) (by omega) hn (Int.le_of_lt (Int.pow_pos (by decide)))
    have h4 : (2 : Int) ^ 70 ≤ 2 ^ (70 + ns.length * (m + 1)) * 2 ^ m := by
      rw [← Int.pow_add]
      exact pow_mono2 (by omega)
    have h5 : c < 2 ^ 70 := Int.lt_trans h2.2 (by decide)
    omega
end Qp

namespace Qp
open PySem PySem.Spec PyProof.Rows L2 QN
def ds (ns : List Int) : List PyData := ns.map PyData.int
theorem dps {K : PySem.W.Frag} {H : Hp} : ∀ ns : List Int, DpAll K H (iv ns) (ds ns)
  | [] => .nil
  | n :: ns => .cons (.int n) (dps ns)
theorem lay_ds : ∀ ns : List Int, PyData.canLayAll0 (ds ns) = true
  | [] => rfl
  | n :: ns => by
    show (true && PyData.canLayAll0 (ds ns)) = true
    rw [lay_ds ns]
    rfl
theorem depth_ds : ∀ ns : List Int, PyData.depthAll (ds ns) = 0
  | [] => rfl
  | n :: ns => by
    show max 0 (PyData.depthAll (ds ns)) = 0
    rw [depth_ds ns]
    rfl
theorem shaped_lst (ns : List Int) : SeqAt.shaped (.list (ds ns)) = true := by
  show (PyData.canLayAll0 (ds ns) && decide (PyData.depthAll (ds ns) + 1 ≤ 64)) = true
  rw [lay_ds, depth_ds]
  rfl
theorem shaped_tup (ns : List Int) : SeqAt.shaped (.tuple (ds ns)) = true := by
  show (PyData.canLayAll0 (ds ns) && decide (PyData.depthAll (ds ns) + 1 ≤ 64)) = true
  rw [lay_ds, depth_ds]
  rfl
theorem eqv_nil (ns : List Int) : PyData.eqv (.list (ds ns)) (.list []) = decide (ns = []) := by
  cases ns with
  | nil => rfl
  | cons n ns => simp [PyData.eqv, PyData.eqvAll, ds]
abbrev sCut : Stmt := top 34 -- _law_cut
theorem scCut : FnScope ["_law_some", "_law_found"] ["_law_some"] (defScope sCut) := ⟨rfl, rfl, rfl, by decide +kernel, rfl, by decide +kernel, by decide +kernel⟩
def spCut (K : PySem.W.Frag) : Sp := fun vs H Q _ => ∃ (a : Addr) (ns : List Int), vs = [.ref a] ∧ (SqL K H a (iv ns) ∨ SqT K H a (iv ns)) ∧ ∀ (q : Addr) (H' : Hp), Same H H' → SqT K H' q (iv (cutZ ns)) → Q (.ref q) H'
section
variable {P : Program} {w : World} {K : PySem.W.Frag} {mg : Str → Option Value} {base : Heap}
theorem ok_cut {f : Addr} {fd : FuncData} (F : Fun K "_law_cut" "_law_cut" sCut f fd) (B2 : Blt2 mg) : FnOk P w K mg base CX0 1 f fd ["_law_some"] (spCut K) := by
  refine F.ok scCut (fun vs H Q E h => ?_) (fun cdv A outer s H vs Q E hr h => ?_)
  · obtain ⟨a, ns, rfl, _⟩ := h
    rfl
  · obtain ⟨a, ns, rfl, ha, k⟩ := h
    have hu : (A.deeper (envOfC "_law_cut" (defScope sCut) s.heap.objs.size f cdv)).units + 64 < cLine := by
      have := hr.un
      omega
    refine ⟨_, pss_cons (ps_set (i := 1) scCut.nd rfl (.inl rfl) (pe_callTy call_list_of (by rfl) B2.li (by decide +kernel) (pa_cons (pv 0) pa_nil)))
      (pss_cons (ps_while PassesOwn.never (PW.pt (pw_and (pt_cmpR (op_neD hu) (pv 1) (pe_lst pa_nil) (nomark _)) (pw_and1 (pt_cmpR op_eq (pe_ix ix_list (pv 1) (pe_un un_neg pe_int) (fun _ _ => rfl)) pe_int (nomark _)))))
        (pss_one (ps_expr (pe_bm0 PySem.F.plainAttrs_list PySem.F.slot_list_pop PySem.F.type_list_pop mt_pop (pv 1)))))
      (pss_one (ps_ret (pe_callTy call_tuple_of (by rfl) B2.tu (by decide +kernel) (pa_cons (pv 1) pa_nil))))), ?_⟩
    refine ⟨.ref a, rfl, a, _, rfl, ha, fun L hL => ?_⟩
    have s0 := same_new (o := .lst (iv ns)) hL
    refine ⟨fun m σ H' => ∃ ms, σ = [some (.ref a), some (.ref L)] ∧ H' L = some (.lst (iv ms)) ∧ ms.length = m ∧ cutZ ms = cutZ ns ∧ Same H H', ⟨ns.length, ns, rfl, upd_same, rfl, rfl, s0⟩, ?_⟩
    rintro m σ H' ⟨ms, rfl, hL', rfl, hc, sm⟩
    refine ⟨.ref L, rfl, by decide, fun e he => ?_⟩
    have se := same_new (o := .lst []) he
    have nLe : L ≠ e := fun z => by
      rw [← z, hL'] at he
      cases he
    refine ⟨.list (ds ms), .list [], .lst (.inl (.inl (se _ _ hL'))) (dps ms), .lst (.inl (.inl upd_same)) .nil, shaped_lst ms, (by decide +kernel), _, rfl, ?_⟩
    rw [eqv_nil]
    rcases snoc_cases ms with rfl | ⟨r, x, rfl⟩
    · refine if_no (by decide) (if_no Bool.false_ne_true ⟨.ref L, rfl, L, _, rfl, .inl ⟨.inl (.inl (se _ _ hL')), fun q hq => ?_⟩⟩)
      refine k q _ (sm.trans (se.trans (same_new hq))) (.inl (.inl ?_))
      rw [upd_same, ← hc]
      rfl
    · have ir : iv (r ++ [x]) = iv r ++ [.int x] := by
        unfold iv
        rw [List.map_append]
        rfl
      refine if_yes (by simp) ⟨.ref L, rfl, 1, rfl, L, _, -1, .int x, rfl, rfl, .inl (.inl (se _ _ hL')), (by rw [ir]; exact atI_last _ _), rfl, _, rfl, ?_⟩
      by_cases hx : x = 0
      · subst hx
        refine if_yes (by decide) ⟨fun σ' H2 => σ' = [some (.ref a), some (.ref L)] ∧ H2 L = some (.lst (iv r)) ∧ cutZ r = cutZ ns ∧ Same H H2, fun σ' H2 ⟨h1, h2, h3, h4⟩ => ⟨r.length, by rw [List.length_append]; exact Nat.lt_succ_self _, r, h1, h2, rfl, h3, h4⟩, ?_⟩
        refine ⟨.ref L, rfl, .inl ⟨rfl, _, .inl (.inl (se _ _ hL'))⟩, L, _, .int 0, rfl, rfl, se _ _ hL', ?_, rfl, ?_, ?_, ?_⟩
        · rw [ir, List.length_append]
          show (iv r ++ [V.int 0])[(iv r).length + 1 - 1]? = _
          rw [Nat.add_sub_cancel, List.getElem?_append_right (Nat.le_refl _), Nat.sub_self]
          rfl
        · rw [upd_same, ir, List.dropLast_concat]
        · rw [← hc, cutZ_snoc0]
        · intro b o e
          by_cases c : b = L
          · subst c
            rw [hL] at e
            cases e
          · rw [upd_ne c]
            exact se _ _ (sm _ _ e)
      · refine if_no (by simpa using hx) ⟨.ref L, rfl, L, _, rfl, .inl ⟨.inl (.inl (se _ _ hL')), fun q hq => ?_⟩⟩
        refine k q _ (sm.trans (se.trans (same_new hq))) (.inl (.inl ?_))
        rw [upd_same, ← hc, cutZ_snoc r hx]
end
end Qp

namespace Qp
open PySem PySem.Spec PyProof.Rows L2 QN
theorem abs_lt {v : Int} {a : Nat} (h0 : 0 ≤ v) (h : v < 2 ^ a) : v.natAbs < 2 ^ a := by
  have e : ((v.natAbs : Nat) : Int) = v := by omega
  have z : ((v.natAbs : Nat) : Int) < ((2 ^ a : Nat) : Int) := by
    rw [e]
    simpa using h
  exact Int.ofNat_lt.mp z
/-- these coefficients may be reckoned with at n -/
structure Fit (ns : List Int) (n : Int) : Prop where
  ok : ∀ c ∈ ns, okC c
  nn : 0 ≤ n
  sz : ∃ m, n < 2 ^ m ∧ 0 < m ∧ 70 + ns.length * (m + 1) + m ≤ 1000000
theorem Fit.mul {ns : List Int} {n : Int} (F : Fit ns n) (k : Nat) : CMulW (val (ns.drop k) n) n := by
  obtain ⟨m, hm, m0, hs⟩ := F.sz
  have okd : ∀ c ∈ ns.drop k, okC c := fun c hc => F.ok c (List.mem_of_mem_drop hc)
  have l1 : (ns.drop k).length * (m + 1) ≤ ns.length * (m + 1) := Nat.mul_le_mul_right _ (by rw [List.length_drop]; omega)
  exact wide_mul (a := 70 + (ns.drop k).length * (m + 1)) (b := m) (abs_lt (val_nn F.nn okd) (val_lt F.nn hm okd)) (abs_lt F.nn hm) (by omega) m0 (by omega)
theorem rev_at {ns : List Int} {i : Nat} {x : V} (h : (iv ns).reverse[i]? = some x) : ∃ c, x = .int c ∧ i < ns.length ∧ ns.drop (ns.length - (i + 1)) = c :: ns.drop (ns.length - i) := by
  have hl : (iv ns).length = ns.length := by unfold iv; rw [List.length_map]
  have hi : i < ns.length := by
    have z := (List.getElem?_eq_some_iff.mp h).1
    rw [List.length_reverse, hl] at z
    exact z
  rw [List.getElem?_reverse (by rw [hl]; exact hi), hl] at h
  unfold iv at h
  rw [List.getElem?_map] at h
  have hj : ns.length - 1 - i < ns.length := by omega
  rw [List.getElem?_eq_getElem hj] at h
  refine ⟨ns[ns.length - 1 - i], (Option.some.inj h).symm, hi, ?_⟩
  have e1 : ns.length - (i + 1) = ns.length - 1 - i := by omega
  have e2 : ns.length - i = ns.length - 1 - i + 1 := by omega
  rw [e1, e2]
  exact List.drop_eq_getElem_cons hj
abbrev sWorth : Stmt := top 35 -- _law_worth
theorem scWorth : FnScope ["_law_some", "_law_n", "_law_found", "_law_one"] ["_law_some", "_law_n"] (defScope sWorth) := ⟨rfl, rfl, rfl, by decide +kernel, rfl, by decide +kernel, by decide +kernel⟩
def spWorth (K : PySem.W.Frag) : Sp := fun vs H Q _ => ∃ (a : Addr) (ns : List Int) (n : Int), vs = [.ref a, .int n] ∧ SqT K H a (iv ns) ∧ Fit ns n ∧ ∀ (H' : Hp), Same H H' → Q (.int (val ns n)) H'
section
variable {P : Program} {w : World} {K : PySem.W.Frag} {mg : Str → Option Value} {base : Heap}
theorem ok_worth {f : Addr} {fd : FuncData} (F : Fun K "_law_worth" "_law_worth" sWorth f fd) : FnOk P w K mg base CX0 1 f fd ["_law_some", "_law_n"] (spWorth K) := by
  refine F.ok scWorth (fun vs H Q E h => ?_) (fun cdv A outer s H vs Q E hr h => ?_)
  · obtain ⟨a, ns, n, rfl, _⟩ := h
    rfl
  · obtain ⟨a, ns, n, rfl, ha, fit, k⟩ := h
    refine ⟨_, pss_cons (ps_set (i := 2) scWorth.nd rfl (.inl rfl) pe_int)
      (pss_cons (ps_for PassesOwn.never rfl (pi_tup (pe_revT (pv 0))) (pg_name (i := 3) scWorth.nd rfl (.inl rfl))
        (pss_one (ps_set (i := 2) scWorth.nd rfl (.inl rfl) (pe_op op_add (pe_op op_mulW (pv 2) (pv 1)) (pv 3)))))
      (pss_one (ps_ret (pv 2)))), ?_⟩
    refine ⟨_, rfl, a, _, rfl, ha, fun q hq => ?_⟩
    have sq := same_new (o := .tup (iv ns).reverse) hq
    refine ⟨q, rfl, ⟨_, .inl (.inl upd_same)⟩, for_tup (xs := (iv ns).reverse) (fun i σ H' => ∃ y, σ = [some (.ref a), some (.int n), some (.int (val (ns.drop (ns.length - i)) n)), y] ∧ Same H H' ∧ H' q = some (.tup (iv ns).reverse))
      ⟨none, by rw [Nat.sub_zero, List.drop_length]; rfl, sq, upd_same⟩ (fun i σ H' _ ⟨y, _, _, hq'⟩ => .inl (.inl hq')) ?_ ?_⟩
    · rintro i x σ H' hx ⟨y, rfl, sm, hq'⟩
      obtain ⟨c, rfl, hi, e⟩ := rev_at hx
      refine ⟨_, rfl, _, rfl, _, _, rfl, rfl, fit.mul _, _, rfl, _, _, rfl, rfl, some (.int c), ?_, sm, hq'⟩
      rw [e, val_cons]
      rfl
    · rintro σ H' ⟨y, rfl, sm, hq'⟩
      refine ⟨_, rfl, ?_⟩
      have e : ns.length - (iv ns).reverse.length = 0 := by
        unfold iv
        rw [List.length_reverse, List.length_map, Nat.sub_self]
      rw [e]
      exact k H' sm
end
end Qp

/-! the program's functions -/
namespace Qp
open PySem PySem.Spec PyProof.Rows L2 QN
/-- what is no number -/
def NotNum (K : PySem.W.Frag) (H : Hp) (v : V) : Prop := ∃ (t : Value) (bi : Bool), TyX K H v t ∧ PySem.W.kitOne K t (.type "int") = some bi ∧ (bi = true → PySem.W.kitOne K t (.type "bool") = some true)
theorem notNum_non {K : PySem.W.Frag} {H : Hp} : NotNum K H .non := ⟨_, false, .base .non, kit_ty (by decide +kernel), fun z => by cases z⟩
theorem notNum_bl {K : PySem.W.Frag} {H : Hp} (c : Bool) : NotNum K H (.bl c) := ⟨_, true, .base (.bl c), kit_ty (by decide +kernel), fun _ => kit_ty (by decide +kernel)⟩
theorem notNum_str {K : PySem.W.Frag} {H : Hp} (z : Str) : NotNum K H (.str z) := ⟨_, false, .base (.str z), kit_ty (by decide +kernel), fun z => by cases z⟩
theorem tyx_tup {K : PySem.W.Frag} {H : Hp} {q : Addr} {xs : List V} (h : SqT K H q xs) : TyX K H (.ref q) (.type "tuple") := by
  rcases h with (h | ⟨o, h⟩) | ⟨o, its, n, h1, h2, _⟩
  · exact .base (.tup h)
  · exact .fTuple h
  · exact .kTuple h1 h2
theorem notNum_tup {K : PySem.W.Frag} {H : Hp} {q : Addr} {xs : List V} (h : SqT K H q xs) : NotNum K H (.ref q) := ⟨_, false, tyx_tup h, kit_ty (by decide +kernel), fun z => by cases z⟩
abbrev sIsI : Stmt := top 7 -- is_integer
theorem scIsI : FnScope ["value"] ["value"] (defScope sIsI) := ⟨rfl, rfl, rfl, by decide +kernel, rfl, by decide +kernel, by decide +kernel⟩
abbrev sIsN : Stmt := top 8 -- is_natural
theorem scIsN : FnScope ["value"] ["value"] (defScope sIsN) := ⟨rfl, rfl, rfl, by decide +kernel, rfl, by decide +kernel, by decide +kernel⟩
abbrev sChk : Stmt := top 11 -- check_number
theorem scChk : FnScope ["number"] ["number"] (defScope sChk) := ⟨rfl, rfl, rfl, by decide +kernel, rfl, by decide +kernel, by decide +kernel⟩
abbrev sWz : Stmt := top 14 -- _without_zeros
theorem scWz : FnScope ["coefficients", "many"] ["coefficients"] (defScope sWz) := ⟨rfl, rfl, rfl, by decide +kernel, rfl, by decide +kernel, by decide +kernel⟩
def spIsI (K : PySem.W.Frag) : Sp := fun vs H Q _ => ∃ v, vs = [v] ∧ ((∃ n, v = .int n ∧ Q (.bl true) H) ∨ (NotNum K H v ∧ Q (.bl false) H))
def NumV (K : PySem.W.Frag) (H : Hp) (v : V) (b : Bool) : Prop := (∃ n : Int, v = .int n ∧ b = decide (0 ≤ n)) ∨ (b = false ∧ NotNum K H v)
theorem numV_nat {K : PySem.W.Frag} {H : Hp} {n : Int} (h : 0 ≤ n) : NumV K H (.int n) true := .inl ⟨n, rfl, (decide_eq_true h).symm⟩
def spIsN (K : PySem.W.Frag) : Sp := fun vs H Q _ => ∃ v b, vs = [v] ∧ NumV K H v b ∧ Q (.bl b) H
def spChk : Sp := fun vs H Q _ => ∃ n : Int, vs = [.int n] ∧ 0 ≤ n ∧ Q .non H
structure BltP (mg : Str → Option Value) : Prop where
  isi : mg "isinstance" = none
  int : mg "int" = none
  bool : mg "bool" = none
  tuple : mg "tuple" = none
  len : mg "len" = none
  all : mg "all" = none
section
variable {P : Program} {w : World} {K : PySem.W.Frag} {mg : Str → Option Value} {base : Heap}
theorem ok_isI {f : Addr} {fd : FuncData} (F : Fun K "is_integer" "is_integer" sIsI f fd) (B : BltP mg) : FnOk P w K mg base CX0 1 f fd ["value"] (spIsI K) := by
  refine F.ok scIsI (fun vs H Q E h => ?_) (fun cdv A outer s H vs Q E hr h => ?_)
  · obtain ⟨v, rfl, _⟩ := h
    rfl
  · obtain ⟨v, rfl, h⟩ := h
    refine ⟨_, pss_one (ps_ret (pe_and (pe_callB call_isi (by rfl) B.isi (by decide +kernel) (pa_cons (pv 0) (pa_cons (pe_bltn (v := .ty "int") (by rfl) B.int (by decide +kernel) rfl) pa_nil)))
      (pe_one (pe_not (pe_callB call_isi (by rfl) B.isi (by decide +kernel) (pa_cons (pv 0) (pa_cons (pe_bltn (v := .ty "bool") (by rfl) B.bool (by decide +kernel) rfl) pa_nil))))))), ?_⟩
    rcases h with ⟨n, rfl, k⟩ | ⟨⟨t, bi, ht, h1, h2⟩, k⟩
    · refine ⟨_, rfl, _, _, _, _, true, rfl, .ty _, .base (.int n), kit_ty (by decide +kernel), _, rfl, if_yes rfl ?_⟩
      exact ⟨_, rfl, _, _, _, _, false, rfl, .ty _, .base (.int n), kit_ty (by decide +kernel), _, rfl, k⟩
    · cases bi with
      | false => exact ⟨_, rfl, _, _, _, _, false, rfl, .ty _, ht, h1, _, rfl, if_no Bool.false_ne_true k⟩
      | true =>
        refine ⟨_, rfl, _, _, _, _, true, rfl, .ty _, ht, h1, _, rfl, if_yes rfl ?_⟩
        exact ⟨_, rfl, _, _, _, _, true, rfl, .ty _, ht, h2 rfl, _, rfl, k⟩
theorem ok_isN {f fI : Addr} {fd fdI : FuncData} (F : Fun K "is_natural" "is_natural" sIsN f fd) (FI : Fun K "is_integer" "is_integer" sIsI fI fdI) (bI : L2.Binds K fdI ["value"] []) (gI : mg "is_integer" = some (.ref fI)) (B : BltP mg) :
    FnOk P w K mg base CX0 2 f fd ["value"] (spIsN K) := by
  have GI : FnOk P w K mg base CX0 1 fI fdI ["value"] (spIsI K) := ok_isI FI B
  refine F.ok scIsN (fun vs H Q E h => ?_) (fun cdv A outer s H vs Q E hr h => ?_)
  · obtain ⟨v, b, rfl, _⟩ := h
    rfl
  · obtain ⟨v, b, rfl, h, k⟩ := h
    refine ⟨_, pss_one (ps_ret (pe_and (pe_call GI hr (by rfl) gI FI.kp bI .nil pass0 (pa_cons (pv 0) pa_nil)) (pe_one (pe_cmp (pc_ge (pv 0) pe_int) rfl)))), ?_⟩
    rcases h with ⟨n, rfl, rfl⟩ | ⟨rfl, h⟩
    · refine ⟨_, rfl, _, rfl, .inl ⟨n, rfl, _, rfl, if_yes rfl ⟨_, rfl, _, _, rfl, rfl, k⟩⟩⟩
    · exact ⟨_, rfl, _, rfl, .inr ⟨h, _, rfl, if_no Bool.false_ne_true k⟩⟩
theorem ok_chk {f fN : Addr} {fd fdN : FuncData} (F : Fun K "check_number" "check_number" sChk f fd) (GN : FnOk P w K mg base CX0 2 fN fdN ["value"] (spIsN K)) (kN : PySem.W.keepIn K (.ref fN) = true) (bN : L2.Binds K fdN ["value"] []) (gN : mg "is_natural" = some (.ref fN)) :
    FnOk P w K mg base CX0 3 f fd ["number"] spChk := by
  refine F.ok scChk (fun vs H Q E h => ?_) (fun cdv A outer s H vs Q E hr h => ?_)
  · obtain ⟨n, rfl, _⟩ := h
    rfl
  · obtain ⟨n, rfl, h0, k⟩ := h
    refine ⟨_, pss_one (ps_if (pt_not (pt_val (pe_call GN hr (by rfl) gN kN bN .nil pass0 (pa_cons (pv 0) pa_nil)))) (pss_one ps_never) pss_nil), ?_⟩
    exact ⟨_, rfl, _, true, rfl, numV_nat h0, _, rfl, if_no (by decide) k⟩
/-- _without_zeros -/
def spWz (K : PySem.W.Frag) : Sp := fun vs H Q _ => ∃ (a : Addr) (ns : List Int), vs = [.ref a] ∧ SqT K H a (iv ns) ∧ ∀ (q : Addr) (H' : Hp), Same H H' → SqT K H' q (iv (cutZ ns)) → Q (.ref q) H'
theorem iv_len (ns : List Int) : (iv ns).length = ns.length := by unfold iv; rw [List.length_map]
theorem ok_wz {f : Addr} {fd : FuncData} (F : Fun K "_without_zeros" "_without_zeros" sWz f fd) (B : BltP mg) : FnOk P w K mg base CX0 1 f fd ["coefficients"] (spWz K) := by
  refine F.ok scWz (fun vs H Q E h => ?_) (fun cdv A outer s H vs Q E hr h => ?_)
  · obtain ⟨a, ns, rfl, _⟩ := h
    rfl
  · obtain ⟨a, ns, rfl, ha, k⟩ := h
    refine ⟨_, pss_cons (ps_set (i := 1) scWz.nd rfl (.inl rfl) (pe_callB call_len_seq (by rfl) B.len PySem.boot_len (pa_cons (pv 0) pa_nil)))
      (pss_cons (ps_while PassesOwn.never (PW.pt (pw_and (pt_cmpR op_gt (pv 1) pe_int (nomark _)) (pw_and1 (pt_cmpR op_eq (pe_ix ix_tup (pv 0) (pe_op op_sub (pv 1) pe_int) (fun _ _ => rfl)) pe_int (nomark _)))))
        (pss_one (ps_set (i := 1) scWz.nd rfl (.inl rfl) (pe_op op_sub (pv 1) pe_int))))
      (pss_one (ps_ret (pe_slice sl_tupA (pv 0) po_none (po_some (pv 1)))))), ?_⟩
    refine ⟨_, rfl, a, _, rfl, .inr ha, ?_⟩
    refine ⟨fun m σ H' => σ = [some (.ref a), some (.int (m : Int))] ∧ m ≤ ns.length ∧ cutZ (ns.take m) = cutZ ns ∧ H' = H, ⟨ns.length, by rw [iv_len]; rfl, Nat.le_refl _, by rw [List.take_length], rfl⟩, ?_⟩
    rintro m σ H' ⟨rfl, hm, hc, rfl⟩
    have out : cutZ ns = ns.take m → rSlA K (.ref a) none (some (m : Int)) H' Q := fun e => by
      refine ⟨a, _, rfl, ha, fun hw => k a H' (Same.refl _) ?_, fun hw q hq => k q _ (same_new hq) (.inl (.inl ?_))⟩
      · rw [e]
        have e1 : m = ns.length := by
          have z := hw.2
          rw [HT.sIx_nat, iv_len] at z
          omega
        rw [e1, List.take_length]
        exact ha
      · rw [upd_same, e]
        unfold cutV
        rw [HT.sIx_none, HT.sIx_nat, iv_len, Nat.min_eq_left hm, List.drop_zero, Nat.sub_zero]
        unfold iv
        rw [List.map_take]
    cases m with
    | zero =>
      refine ⟨_, rfl, _, _, rfl, rfl, _, rfl, if_no (by decide) (if_no Bool.false_ne_true ?_)⟩
      exact ⟨_, rfl, _, rfl, _, rfl, out hc.symm⟩
    | succ j =>
      have hj : j < ns.length := hm
      have ej : ((j + 1 : Nat) : Int) - 1 = (j : Int) := by omega
      have at_ : (iv ns)[j]? = some (.int ns[j]) := by
        unfold iv
        rw [List.getElem?_map, List.getElem?_eq_getElem hj]
        rfl
      have tk : ns.take (j + 1) = ns.take j ++ [ns[j]] := by rw [List.take_add_one, List.getElem?_eq_getElem hj]; rfl
      refine ⟨_, rfl, _, _, rfl, rfl, _, rfl, if_yes (decide_eq_true (by omega)) ⟨_, rfl, _, rfl, _, _, rfl, rfl, a, _, _, .int ns[j], rfl, rfl, ha, ?_, rfl, _, rfl, ?_⟩⟩
      · rw [ej]
        exact atI_nat at_
      by_cases h0 : ns[j] = 0
      · refine if_yes (by rw [h0]; decide) ⟨fun σ' H2 => σ' = [some (.ref a), some (.int (j : Int))] ∧ H2 = H', fun σ' H2 ⟨h1, h2⟩ => ⟨j, Nat.lt_succ_self _, h1, Nat.le_of_lt hj, ?_, h2⟩, ?_⟩
        · rw [← hc, tk, h0, cutZ_snoc0]
        · refine ⟨_, rfl, _, _, rfl, rfl, ?_, rfl⟩
          show [some (V.ref a), some (V.int (((j + 1 : Nat) : Int) - 1))] = _
          rw [ej]
      · refine if_no (by simpa using h0) ?_
        refine ⟨_, rfl, _, rfl, _, rfl, out ?_⟩
        rw [← hc, tk, cutZ_snoc _ h0]
end
end Qp

/-! the class Polynomial -/
namespace Qp
open PySem PySem.Spec PyProof.Rows L2 QN
abbrev cPoly : Stmt := top 28 -- Polynomial
abbrev sInit : Stmt := inClass cPoly 0 -- Polynomial.__init__
abbrev sOf : Stmt := inClass cPoly 1 -- Polynomial.of
abbrev sDeg : Stmt := inClass cPoly 3 -- Polynomial.degree
abbrev initNames : List Str := ["self", "coefficients", "number"]
theorem scInit : FnScope initNames ["self", "coefficients"] (defScope sInit) := ⟨rfl, rfl, rfl, by decide +kernel, rfl, by decide +kernel, by decide +kernel⟩
theorem scOf : FnScope ["cls", "coefficients"] ["cls", "coefficients"] (defScope sOf) := ⟨rfl, rfl, rfl, by decide +kernel, rfl, by decide +kernel, by decide +kernel⟩
theorem scDeg : FnScope ["self"] ["self"] (defScope sDeg) := ⟨rfl, rfl, rfl, by decide +kernel, rfl, by decide +kernel, by decide +kernel⟩
/-- what the class has -/
structure PolyC (K : PySem.W.Frag) (mg : Str → Option Value) (C : Addr) : Prop where
  gC : mg "Polynomial" = some (.ref C)
  cls : Cls K C
  noF : NoAttr K C "_coefficients"
/-- the polynomial with these coefficients stands at p -/
def PolyAt (K : PySem.W.Frag) (C : Addr) (H : Hp) (p : Addr) (ns : List Int) : Prop := ∃ dx t, H p = some (.ins C dx [("_coefficients", .ref t)]) ∧ SqT K H t (iv ns)
theorem polyAt_same {K : PySem.W.Frag} {C : Addr} {H H' : Hp} {p : Addr} {ns : List Int} (s : Same H H') (h : PolyAt K C H p ns) : PolyAt K C H' p ns := by
  obtain ⟨dx, t, h1, h2⟩ := h
  exact ⟨dx, t, s _ _ h1, sqT_same s h2⟩
/-- __init__ of natural coefficients: the object at x, still without fields -/
def spInit (K : PySem.W.Frag) (C : Addr) : Sp := fun vs H Q _ => ∃ (x dx : Addr) (ns : List Int), vs = .ref x :: iv ns ∧ H x = some (.ins C dx []) ∧ (∀ c ∈ ns, 0 ≤ c) ∧ ns.length ≤ 1000 ∧
  ∀ (t : Addr) (H' : Hp), H' x = some (.ins C dx [("_coefficients", .ref t)]) → SqT K H' t (iv (cutZ ns)) → But x H H' → Q .non H'
theorem yes_if {σ : L2.St} {H : Hp} {A B : Hp → Prop} (a : A H) : tYes σ H (fun b H3 => if b = true then A H3 else B H3) := by
  show (if true = true then A H else B H)
  rw [if_pos rfl]
  exact a
section
variable {P : Program} {w : World} {K : PySem.W.Frag} {mg : Str → Option Value} {base : Heap}
theorem ok_init {oc : Value} {od : Option Addr} {kV doc pm cdv ct : Value} {an : Option Addr} {osl : Array (Option Value)} {f fN fW C : Addr} {fdN fdW : FuncData}
    (lk : K.lookup f = some ⟨oc, od, .func (PySem.W.fnOf "__init__" "Polynomial.__init__" (defArgs sInit) (defBody sInit) (defScope sInit) .none kV doc pm an cdv ct), osl⟩) (hcd : PySem.W.codeIn K cdv "Polynomial.__init__" = true)
    (GN : FnOk P w K mg base CX0 2 fN fdN ["value"] (spIsN K)) (kN : PySem.W.keepIn K (.ref fN) = true) (bN : L2.Binds K fdN ["value"] []) (gN : mg "is_natural" = some (.ref fN))
    (GW : FnOk P w K mg base CX0 1 fW fdW ["coefficients"] (spWz K)) (kW : PySem.W.keepIn K (.ref fW) = true) (bW : L2.Binds K fdW ["coefficients"] []) (gW : mg "_without_zeros" = some (.ref fW))
    (B : BltP mg) (T : PolyC K mg C) : FnR P w K mg base CX0 3 f (spInit K C) := by
  refine FnR.imp (StX.fn_star (ps := ["self"]) (pv := "coefficients") (sp := fun vs H Q E => ∃ (x dx a : Addr) (ns : List Int), vs = [.ref x, .ref a] ∧ H a = some (.tup (iv ns)) ∧ H x = some (.ins C dx []) ∧ (∀ c ∈ ns, 0 ≤ c) ∧ ns.length ≤ 1000 ∧
    ∀ (t : Addr) (H' : Hp), H' x = some (.ins C dx [("_coefficients", .ref t)]) → SqT K H' t (iv (cutZ ns)) → But x H H' → Q .non H') lk hcd scInit ?up (fun us rest hl => ?bind) (fun A outer s H vs Q E hr h => ?body)) ?imp
  case up => exact StX.cxUp_none
  case bind =>
    match us, hl with
    | [u], _ =>
      cases rest with
      | nil => with_unfolding_all rfl
      | cons r rs => with_unfolding_all rfl
  case imp =>
    intro vs H Q E h
    obtain ⟨x, dx, ns, rfl, hx, h0, hl, k⟩ := h
    refine ⟨[.ref x], iv ns, rfl, rfl, ?_, fun p hp => ⟨x, dx, p, ns, rfl, upd_same, ?_, h0, hl, fun t H' h1 h2 b => k t H' h1 h2 fun b' o nb e => b b' o nb ?_⟩⟩
    · rw [iv_len, sizeLine_eq]
      omega
    · rw [upd_ne fun c => by rw [c, hp] at hx; cases hx]
      exact hx
    · rw [upd_ne fun c => by rw [c, hp] at e; cases e]
      exact e
  case body =>
    obtain ⟨x, dx, a, ns, rfl, ha, hx, h0, hl, k⟩ := h
    have hr1 := hr.mono (by decide : 1 ≤ 2)
    refine ⟨_, pss_cons (ps_if (pt_not (pt_val (pe_callB (cr_all rfl) (by rfl) B.all (by decide +kernel) (pa_cons (pe_lc (own := [("number", 2)]) (g := gName 2) (tt := tYes) rfl scInit.nd (pi_tup (pv 1)) (blkOk_by (N := initNames) (sc := defScope sInit) (by decide +kernel))
        (fun _ _ _ _ _ => pg_name (i := 2) scInit.nd rfl (.inl rfl)) (fun _ _ _ _ _ => pts_nil) (fun _ _ _ _ _ => pe_call GN hr (by rfl) gN kN bN .nil pass0 (pa_cons (pv 2) pa_nil))) pa_nil)))) (pss_one ps_never) pss_nil)
      (pss_one (ps_fld (pv 0) (pe_call GW hr1 (by rfl) gW kW bW .nil pass0 (pa_cons (pv 1) pa_nil)) rfl)), ?_⟩
    refine ⟨.ref a, rfl, a, rfl, ⟨_, .inl (.inl ha)⟩, fun D hD => ?_⟩
    have nDa : D ≠ a := (fun c => by rw [c, ha] at hD; cases hD)
    refine lc_tup (xs := iv ns) (fun i H' => Same H H' ∧ H' D = some (.lst (List.replicate i (.bl true)))) ⟨same_new hD, upd_same⟩ (fun i H' _ hV => .inl (.inl (hV.1 _ _ ha))) (fun i v H' hv hV => ?_) fun H' hV => ?_
    · obtain ⟨sm, hD'⟩ := hV
      unfold iv at hv
      rw [List.getElem?_map] at hv
      cases hc : ns[i]? with
      | none => rw [hc] at hv; cases hv
      | some c =>
        rw [hc] at hv
        have ev : V.int c = v := Option.some.inj hv
        subst ev
        have hi : i < ns.length := (List.getElem?_eq_some_iff.mp hc).1
        refine ⟨rfl, yes_if ⟨_, rfl, _, true, rfl, numV_nat (h0 c (List.mem_of_getElem? hc)), _, hD', ?_, ?_, ?_⟩⟩
        · rw [List.length_replicate, sizeLine_eq]
          omega
        · intro b o e
          by_cases hb : b = D
          · subst hb
            rw [hD] at e
            cases e
          · rw [upd_ne hb]
            exact sm _ _ e
        · rw [upd_same, ← List.replicate_succ']
    · obtain ⟨sm, hD'⟩ := hV
      rw [iv_len] at hD'
      refine ⟨D, List.replicate ns.length true, rfl, .inl (.inl (by rw [List.map_replicate]; exact hD')), _, rfl, if_no (by simp) ?_⟩
      refine ⟨.ref a, rfl, a, ns, rfl, .inl (.inl (sm _ _ ha)), fun q H2 s2 hq => ⟨_, rfl, x, C, dx, [], rfl, s2 _ _ (sm _ _ hx), T.cls, T.noF, by decide, ?_⟩⟩
      refine k q _ upd_same ?_ fun b o nb e => ?_
      · rcases hq with (hq | ⟨o, hq⟩) | hq
        · exact .inl (.inl (by rw [upd_ne fun c => by rw [c, s2 _ _ (sm _ _ hx)] at hq; cases hq]; exact hq))
        · exact .inl (.inr ⟨o, by rw [upd_ne fun c => by rw [c, s2 _ _ (sm _ _ hx)] at hq; cases hq]; exact hq⟩)
        · exact .inr hq
      · rw [upd_ne nb]
        exact s2 _ _ (sm _ _ e)
end
end Qp

namespace Qp
open PySem PySem.Spec PyProof.Rows L2 QN
def spOf (K : PySem.W.Frag) (C : Addr) : Sp := fun vs H Q _ => ∃ (a : Addr) (ns : List Int), vs = [.ref C, .ref a] ∧ SqT K H a (iv ns) ∧ (∀ c ∈ ns, 0 ≤ c) ∧ ns.length ≤ 1000 ∧ ∀ (p : Addr) (H' : Hp), Same H H' → PolyAt K C H' p (cutZ ns) → Q (.ref p) H'
def spDeg (K : PySem.W.Frag) (C : Addr) : Sp := fun vs H Q _ => ∃ (p : Addr) (ns : List Int), vs = [.ref p] ∧ PolyAt K C H p ns ∧ Q (.int ((ns.length : Int) - 1)) H
/-- behind a new object at x with its dict at dx -/
theorem same_made {H H' : Hp} {x dx C : Addr} (hx : H x = none) (hd : H dx = none) (b : But x (upd (upd H dx (.own x)) x (.ins C dx [])) H') : Same H H' := fun c o e => by
  have n1 : c ≠ x := fun z => by rw [z, hx] at e; cases e
  have n2 : c ≠ dx := fun z => by rw [z, hd] at e; cases e
  exact b c o n1 (by rw [upd_ne n1, upd_ne n2]; exact e)
section
variable {P : Program} {w : World} {K : PySem.W.Frag} {mg : Str → Option Value} {base : Heap}
theorem ok_of {f fI C : Addr} {fd : FuncData} (F : Fun K "of" "Polynomial.of" sOf f fd) (M : Mk K C fI) (GI : FnR P w K mg base CX0 3 fI (spInit K C)) (B : BltP mg) : FnOk P w K mg base CX0 5 f fd ["cls", "coefficients"] (spOf K C) := by
  refine F.ok scOf (fun vs H Q E h => ?_) (fun cdv A outer s H vs Q E hr h => ?_)
  · obtain ⟨a, ns, rfl, _⟩ := h
    rfl
  · obtain ⟨a, ns, rfl, ha, h0, hl, k⟩ := h
    refine ⟨_, pss_cons (ps_if (pt_not (pt_val (pe_callB call_isi (by rfl) B.isi (by decide +kernel) (pa_cons (pv 1) (pa_cons (pe_bltn (v := .ty "tuple") (by rfl) B.tuple (by decide +kernel) rfl) pa_nil))))) (pss_one ps_never) pss_nil)
      (pss_one (ps_ret (pe_makeS (i := 0) M GI hr rfl (.inl rfl) pass0 (pv 1)))), ?_⟩
    refine ⟨_, rfl, _, _, _, _, true, rfl, .ty _, tyx_tup ha, kit_ty (by decide +kernel), _, rfl, if_no (by decide) ?_⟩
    refine ⟨rfl, _, rfl, a, _, rfl, .inl ha, fun x dx hx hd ne => ⟨x, dx, ns, rfl, upd_same, h0, hl, fun t H' h1 h2 b => ⟨rfl, k x H' (same_made hx hd b) ⟨dx, t, h1, h2⟩⟩⟩⟩
theorem ok_deg {f C : Addr} {fd : FuncData} (F : Fun K "degree" "Polynomial.degree" sDeg f fd) (B : BltP mg) (T : PolyC K mg C) : FnOk P w K mg base CX0 1 f fd ["self"] (spDeg K C) := by
  refine F.ok scDeg (fun vs H Q E h => ?_) (fun cdv A outer s H vs Q E hr h => ?_)
  · obtain ⟨p, ns, rfl, _⟩ := h
    rfl
  · obtain ⟨p, ns, rfl, ⟨dx, t, hp, ht⟩, k⟩ := h
    refine ⟨_, pss_one (ps_ret (pe_op op_sub (pe_callB call_len_seq (by rfl) B.len PySem.boot_len (pa_cons (pe_fld (pv 0) rfl) pa_nil)) pe_int)), ?_⟩
    refine ⟨_, rfl, p, C, dx, _, _, rfl, hp, T.cls, T.noF, rfl, t, _, rfl, .inr ht, _, _, rfl, rfl, ?_⟩
    rw [iv_len]
    exact k
end
end Qp

/-! values, slopes, and steps by the slope -/
namespace Qp
open PySem PySem.Spec PyProof.Rows L2 QN
/-- no coefficient below 0 -/
def NN (ns : List Int) : Prop := ∀ c ∈ ns, 0 ≤ c
theorem NN.tail {c : Int} {ns : List Int} (h : NN (c :: ns)) : NN ns := fun x hx => h x (List.mem_cons_of_mem _ hx)
theorem NN.head {c : Int} {ns : List Int} (h : NN (c :: ns)) : 0 ≤ c := h c List.mem_cons_self
theorem val_nn0 {x : Int} (hx : 0 ≤ x) : ∀ {ns : List Int}, NN ns → 0 ≤ val ns x
  | [], _ => Int.le_refl 0
  | c :: ns, h => by
    rw [val_cons]
    have h1 := val_nn0 hx h.tail
    have h2 := h.head
    have h3 := Int.mul_nonneg h1 hx
    omega
theorem val_mono0 {a b : Int} (h0 : 0 ≤ a) (h : a ≤ b) : ∀ {ns : List Int}, NN ns → val ns a ≤ val ns b
  | [], _ => Int.le_refl 0
  | c :: ns, hc => by
    rw [val_cons, val_cons]
    have h1 := val_mono0 h0 h hc.tail
    have h2 : val ns a * a ≤ val ns b * b := Int.mul_le_mul h1 h h0 (val_nn0 (by omega) hc.tail)
    omega
/-- the slope -/
def slo : List Int → Int → Int
  | [], _ => 0
  | _ :: ns, x => slo ns x * x + val ns x
theorem slo_nn {x : Int} (hx : 0 ≤ x) : ∀ {ns : List Int}, NN ns → 0 ≤ slo ns x
  | [], _ => Int.le_refl 0
  | c :: ns, h => by
    show 0 ≤ slo ns x * x + val ns x
    have h1 := slo_nn hx h.tail
    have h2 := val_nn0 hx h.tail
    have h3 := Int.mul_nonneg h1 hx
    omega
/-- a polynomial lies above its tangents -/
theorem convex {x y : Int} (hx : 0 ≤ x) (hy : 0 ≤ y) : ∀ {ns : List Int}, NN ns → val ns x + (y - x) * slo ns x ≤ val ns y
  | [], _ => by
    show (0 : Int) + (y - x) * 0 ≤ 0
    omega
  | c :: ns, h => by
    rw [val_cons, val_cons]
    show val ns x * x + c + (y - x) * (slo ns x * x + val ns x) ≤ val ns y * y + c
    have ih := convex hx hy h.tail
    have d := slo_nn hx h.tail
    generalize val ns x = a at *
    generalize val ns y = b at *
    generalize slo ns x = s at *
    have h1 : (a + (y - x) * s) * y ≤ b * y := Int.mul_le_mul_of_nonneg_right ih hy
    have h2 : 0 ≤ (y - x) * (y - x) * s := by
      refine Int.mul_nonneg ?_ d
      rcases Int.le_total 0 (y - x) with z | z
      · exact Int.mul_nonneg z z
      · exact Int.mul_nonneg_of_nonpos_of_nonpos z z
    have e : (a + (y - x) * s) * y = a * x + (y - x) * (s * x + a) + (y - x) * (y - x) * s := by
      simp only [Int.add_mul, Int.sub_mul, Int.mul_add, Int.mul_sub]
      have c1 : y * (y * s) = y * s * y := by rw [Int.mul_comm y s, Int.mul_comm y (s * y)]
      have e1 : y * s * y = y * y * s := by rw [Int.mul_assoc, Int.mul_comm s y, ← Int.mul_assoc]
      have e2 : x * s * y = x * y * s := by rw [Int.mul_assoc, Int.mul_comm s y, ← Int.mul_assoc]
      have e3 : y * (s * x) = x * y * s := by rw [Int.mul_comm s x, ← Int.mul_assoc, Int.mul_comm y x]
      have e4 : x * (s * x) = x * x * s := by rw [Int.mul_comm s x, ← Int.mul_assoc]
      have e5 : y * x * s = x * y * s := by rw [Int.mul_comm y x]
      have e6 : a * y = y * a := Int.mul_comm _ _
      have e7 : a * x = x * a := Int.mul_comm _ _
      omega
    omega
/-- the coefficients of the slope, from the place k on -/
def sloL (k : Int) : List Int → List Int
  | [] => []
  | c :: ns => k * c :: sloL (k + 1) ns
theorem val_sloL (x : Int) : ∀ (ns : List Int) (k : Int), val (sloL k ns) x = k * val ns x + x * slo ns x
  | [], k => by
    show (0 : Int) = k * 0 + x * 0
    omega
  | c :: ns, k => by
    show val (sloL (k + 1) ns) x * x + k * c = k * (val ns x * x + c) + x * (slo ns x * x + val ns x)
    rw [val_sloL x ns (k + 1)]
    generalize val ns x = a
    generalize slo ns x = s
    simp only [Int.add_mul, Int.mul_add, Int.one_mul]
    have e1 : k * a * x = k * (a * x) := Int.mul_assoc _ _ _
    have e2 : x * s * x = x * (s * x) := Int.mul_assoc _ _ _
    have e3 : a * x = x * a := Int.mul_comm _ _
    omega
/-- the coefficients of the slope -/
def slopeZ : List Int → List Int
  | [] => []
  | _ :: ns => sloL 1 ns
theorem val_slopeZ (ns : List Int) (x : Int) : val (slopeZ ns) x = slo ns x := by
  cases ns with
  | nil => rfl
  | cons c ns =>
    show val (sloL 1 ns) x = slo ns x * x + val ns x
    rw [val_sloL, Int.one_mul, Int.mul_comm x]
    omega
theorem sloL_len : ∀ (ns : List Int) (k : Int), (sloL k ns).length = ns.length
  | [], _ => rfl
  | c :: ns, k => by
    show (sloL (k + 1) ns).length + 1 = ns.length + 1
    rw [sloL_len ns]
theorem slopeZ_len (ns : List Int) : (slopeZ ns).length = ns.length - 1 := by
  cases ns with
  | nil => rfl
  | cons c ns => exact sloL_len ns 1
theorem sloL_get : ∀ (ns : List Int) (k : Int) (i : Nat), (sloL k ns).getD i 0 = (k + i) * ns.getD i 0
  | [], k, i => by
    show (0 : Int) = (k + i) * 0
    omega
  | c :: ns, k, 0 => by
    show k * c = (k + (0 : Nat)) * c
    congr 1
    omega
  | c :: ns, k, i + 1 => by
    show (sloL (k + 1) ns).getD i 0 = (k + (i + 1 : Nat)) * ns.getD i 0
    rw [sloL_get ns (k + 1) i]
    congr 1
    omega
theorem slopeZ_get (ns : List Int) (i : Nat) : (slopeZ ns).getD i 0 = ((i + 1 : Nat) : Int) * ns.getD (i + 1) 0 := by
  cases ns with
  | nil =>
    show (0 : Int) = _ * 0
    omega
  | cons c ns =>
    show (sloL 1 ns).getD i 0 = _ * ns.getD i 0
    rw [sloL_get]
    congr 1
    omega
/-- one coefficient is enough -/
theorem val_one {x c : Int} (hx : 1 ≤ x) : ∀ {ns : List Int} {i : Nat}, NN ns → ns[i]? = some c → c * x ^ i ≤ val ns x
  | [], i, _, h => by
    rw [List.getElem?_nil] at h
    cases h
  | d :: ns, 0, hn, h => by
    have e : d = c := Option.some.inj h
    subst e
    rw [val_cons, Int.pow_zero, Int.mul_one]
    have := Int.mul_nonneg (val_nn0 (x := x) (by omega) hn.tail) (by omega : (0 : Int) ≤ x)
    omega
  | d :: ns, i + 1, hn, h => by
    rw [val_cons, Int.pow_succ, ← Int.mul_assoc]
    have ih := val_one hx (ns := ns) (i := i) hn.tail (by simpa using h)
    have h1 := Int.mul_le_mul_of_nonneg_right ih (by omega : (0 : Int) ≤ x)
    have := hn.head
    omega
theorem slo_pos {x c : Int} (hx : 1 ≤ x) {ns : List Int} {i : Nat} (hn : NN ns) (h : ns[i + 1]? = some c) (hc : 1 ≤ c) : 1 ≤ slo ns x := by
  cases ns with
  | nil =>
    rw [List.getElem?_nil] at h
    cases h
  | cons d ns =>
    show 1 ≤ slo ns x * x + val ns x
    have h1 := Int.mul_nonneg (slo_nn (x := x) (by omega) hn.tail) (by omega : (0 : Int) ≤ x)
    have h2 := val_one (x := x) hx (ns := ns) (i := i) hn.tail (by simpa using h)
    have h3 : 0 < x ^ i := Int.pow_pos (by omega)
    have h4 : 1 * 1 ≤ c * x ^ i := Int.mul_le_mul hc (by omega) (by decide) (by omega)
    omega
/-- a step by the slope, from x, where the constant is 0 -/
theorem newton {x g s : Int} {ns : List Int} (hn : NN ns) (z0 : val ns 0 = 0) (hx : 1 ≤ x) (hg : 1 ≤ g) (es : slo ns x = s) (hs : 1 ≤ s) :
    1 ≤ x - (val ns x - g) / s ∧ g ≤ val ns (x - (val ns x - g) / s) ∧ x - (val ns x - g) / s ≤ x + g ∧ (g ≤ val ns x → 0 ≤ (val ns x - g) / s) ∧ val ns x ≤ x * s := by
  subst es
  have c0 := convex (x := x) (y := 0) (by omega) (Int.le_refl 0) hn
  rw [z0, Int.zero_sub, Int.neg_mul] at c0
  have q1 : (val ns x - g) / slo ns x * slo ns x ≤ val ns x - g := Int.ediv_mul_le _ (by omega)
  have q2 : (val ns x - g) / slo ns x < x := by
    apply Int.ediv_lt_of_lt_mul (by omega)
    omega
  have q3 : -g ≤ (val ns x - g) / slo ns x := by
    apply (Int.le_ediv_iff_mul_le (by omega)).mpr
    rw [Int.neg_mul]
    have := Int.mul_le_mul_of_nonneg_left hs (by omega : (0 : Int) ≤ g)
    have := val_nn0 (x := x) (by omega) hn
    omega
  have c1 := convex (x := x) (y := x - (val ns x - g) / slo ns x) (by omega) (by omega) hn
  refine ⟨by omega, ?_, by omega, fun h => Int.ediv_nonneg (by omega) (by omega), by omega⟩
  have e : (x - (val ns x - g) / slo ns x - x) * slo ns x = -((val ns x - g) / slo ns x * slo ns x) := by
    rw [← Int.neg_mul]
    congr 1
    omega
  rw [e] at c1
  omega
end Qp

/-! binary digits -/
namespace Qp
open PySem PySem.Spec PyProof.Rows L2 QN
abbrev BL (x : Int) : Nat := Builtin.Int.intBits x
theorem bl_le {m : Nat} {x : Int} : BL x ≤ m ↔ x.natAbs < 2 ^ m := PySem.intBits_le_iff
theorem natAbs_pow {x : Int} {m : Nat} (h0 : 0 ≤ x) : x.natAbs < 2 ^ m ↔ x < 2 ^ m := by
  obtain ⟨n, rfl⟩ := Int.eq_ofNat_of_zero_le h0
  rw [Int.natAbs_natCast]
  have e : ((2 : Int) ^ m) = ((2 ^ m : Nat) : Int) := by simp
  rw [e]
  exact Int.ofNat_lt.symm
theorem bl_lt {m : Nat} {x : Int} (h0 : 0 ≤ x) : BL x ≤ m ↔ x < 2 ^ m := bl_le.trans (natAbs_pow h0)
theorem bl_ge {m : Nat} {x : Int} (h0 : 0 ≤ x) : m < BL x ↔ 2 ^ m ≤ x := by
  have := bl_lt (m := m) h0
  omega
theorem bl_self {x : Int} (h0 : 0 ≤ x) : x < 2 ^ BL x := (bl_lt h0).mp (Nat.le_refl _)
theorem bl_one {x : Int} (h : 1 ≤ x) : 1 ≤ BL x := (bl_ge (m := 0) (by omega)).mpr h
theorem bl_zero : BL 0 = 0 := rfl
theorem pos_bl {x : Int} (h0 : 0 ≤ x) (h : 1 ≤ BL x) : 1 ≤ x := (bl_ge (m := 0) h0).mp h
theorem nat_eq_of_le {a b : Nat} (h : ∀ m, a ≤ m ↔ b ≤ m) : a = b := Nat.le_antisymm ((h b).mpr (Nat.le_refl b)) ((h a).mp (Nat.le_refl a))
theorem two_pos (k : Nat) : (0 : Int) < 2 ^ k := Int.pow_pos (by decide)
theorem bl_shr {x : Int} (h0 : 0 ≤ x) (k : Nat) : BL (x / 2 ^ k) = BL x - k := by
  refine nat_eq_of_le fun m => ?_
  rw [bl_lt (Int.ediv_nonneg h0 (Int.le_of_lt (two_pos k)))]
  have e : x / 2 ^ k < 2 ^ m ↔ x < 2 ^ (m + k) := by
    rw [Int.pow_add]
    exact ⟨fun z => Int.lt_mul_of_ediv_lt (two_pos k) z, fun z => Int.ediv_lt_of_lt_mul (two_pos k) z⟩
  rw [e, ← bl_lt h0]
  omega
theorem bl_shl {x : Int} (h1 : 1 ≤ x) (k : Nat) : BL (x * 2 ^ k) = BL x + k := by
  have p := two_pos k
  have key : ∀ m, BL (x * 2 ^ k) ≤ m + k ↔ BL x ≤ m := fun m => by
    rw [bl_lt (Int.mul_nonneg (by omega) (Int.le_of_lt p)), bl_lt (by omega), Int.pow_add]
    exact ⟨fun z => Int.lt_of_mul_lt_mul_right z (Int.le_of_lt p), fun z => Int.mul_lt_mul_of_pos_right z p⟩
  have g1 : k < BL (x * 2 ^ k) := by
    apply (bl_ge (Int.mul_nonneg (by omega) (Int.le_of_lt p))).mpr
    have := Int.mul_le_mul_of_nonneg_right h1 (Int.le_of_lt p)
    omega
  have a := (key (BL x)).mpr (Nat.le_refl _)
  have b := (key (BL (x * 2 ^ k) - k)).mp (by omega)
  omega
theorem bl_mono {x y : Int} (h0 : 0 ≤ x) (h : x ≤ y) : BL x ≤ BL y := (bl_lt h0).mpr (Int.lt_of_le_of_lt h (bl_self (by omega)))
/-- a shift to the left, or to the right -/
def shZ (c b : Int) : Int := if 0 < b then c * 2 ^ b.toNat else c / 2 ^ (-b).toNat
theorem shZ_nn {c : Int} (h : 0 ≤ c) (b : Int) : 0 ≤ shZ c b := by
  unfold shZ
  split
  · exact Int.mul_nonneg h (Int.le_of_lt (two_pos _))
  · exact Int.ediv_nonneg h (Int.le_of_lt (two_pos _))
theorem shZ_zero (b : Int) : shZ 0 b = 0 := by
  unfold shZ
  split
  · exact Int.zero_mul _
  · exact Int.zero_ediv _
theorem shZ_bl {c : Int} (h : 1 ≤ c) (a l : Nat) : BL (shZ c ((a : Int) - l)) = BL c + a - l := by
  unfold shZ
  split
  · rw [bl_shl h]
    omega
  · rw [bl_shr (by omega)]
    omega
theorem shZ_le {c : Int} (h : 0 ≤ c) (a l : Nat) : BL (shZ c ((a : Int) - l)) ≤ BL c + a := by
  by_cases z : c = 0
  · subst z
    rw [shZ_zero, bl_zero]
    omega
  · rw [shZ_bl (by omega)]
    omega
def coarse (r : List Int) (cut less : Nat) : List Int := (List.range r.length).map fun i => shZ (r.getD i 0) (((cut * i : Nat) : Int) - less)
theorem coarse_len (r : List Int) (cut less : Nat) : (coarse r cut less).length = r.length := by
  unfold coarse
  rw [List.length_map, List.length_range]
theorem getD_of {r : List Int} {i : Nat} {c : Int} (h : r[i]? = some c) : r.getD i 0 = c := by
  rw [List.getD_eq_getElem?_getD, h]
  rfl
theorem get_of {r : List Int} {i : Nat} (h : i < r.length) : r[i]? = some (r.getD i 0) := by
  rw [List.getD_eq_getElem?_getD, List.getElem?_eq_getElem h]
  rfl
theorem coarse_get {r : List Int} {cut less i : Nat} {c : Int} (h : (coarse r cut less)[i]? = some c) : i < r.length ∧ c = shZ (r.getD i 0) (((cut * i : Nat) : Int) - less) := by
  have hi : i < r.length := by
    have z := (List.getElem?_eq_some_iff.mp h).1
    rw [coarse_len] at z
    exact z
  unfold coarse at h
  rw [List.getElem?_map, List.getElem?_range hi] at h
  exact ⟨hi, (Option.some.inj h).symm⟩
theorem NN.getD {r : List Int} (h : NN r) (i : Nat) : 0 ≤ r.getD i 0 := by
  by_cases z : i < r.length
  · exact h _ (List.mem_of_getElem? (get_of z))
  · rw [List.getD_eq_getElem?_getD, List.getElem?_eq_none (by omega)]
    exact Int.le_refl 0
theorem val_zero (r : List Int) : val r 0 = r.getD 0 0 := by
  cases r with
  | nil => rfl
  | cons c r =>
    rw [val_cons, Int.mul_zero, Int.zero_add]
    rfl
/-- what is asked of a place that is looked for, with so many binary digits -/
structure NearI (r : List Int) (g : Int) (many : Nat) : Prop where
  nn : NN r
  z : r.getD 0 0 = 0
  g1 : 1 ≤ g
  ex : ∃ i c, 1 ≤ i ∧ r[i]? = some c ∧ 1 ≤ c ∧ BL g + 2 ≤ BL c + many * i
/-- how great the coefficients are -/
def NearS (S : Nat) (r : List Int) (many : Nat) : Prop := ∀ k c, r[k]? = some c → BL c + many * k ≤ S
theorem NearI.coarse {r : List Int} {g : Int} {many cut lost d : Nat} (h : NearI r g many) (hd : r.length = d + 1) (h2 : cut < many) :
    NearI (coarse r cut (BL g - ((d + 1) * (many - cut) + lost))) (g / 2 ^ (BL g - ((d + 1) * (many - cut) + lost))) (many - cut) := by
  obtain ⟨i, c, i1, hi, c1, hb⟩ := h.ex
  have il : i < r.length := (List.getElem?_eq_some_iff.mp hi).1
  have gd := getD_of hi
  have G1 := bl_one h.g1
  have C1 := bl_one c1
  have dm : i * (many - cut) + (many - cut) ≤ (d + 1) * (many - cut) := by
    rw [show i * (many - cut) + (many - cut) = (i + 1) * (many - cut) by rw [Nat.add_mul, Nat.one_mul]]
    exact Nat.mul_le_mul_right _ (by omega)
  have mi : many * i = cut * i + i * (many - cut) := by
    rw [Nat.mul_comm i, ← Nat.add_mul]
    congr 1
    omega
  have mi2 : (many - cut) * i = i * (many - cut) := Nat.mul_comm _ _
  generalize i * (many - cut) = u at *
  generalize (d + 1) * (many - cut) = v at *
  generalize hl : BL g - (v + lost) = less at *
  have gb := bl_shr (x := g) (by have := h.g1; omega) less
  have cb := shZ_bl c1 (cut * i) less
  refine ⟨fun x hx => ?_, ?_, ?_, i, shZ c (((cut * i : Nat) : Int) - less), i1, ?_, ?_, ?_⟩
  · obtain ⟨k, hk⟩ := List.getElem?_of_mem hx
    rw [(coarse_get hk).2]
    exact shZ_nn (h.nn.getD k) _
  · rw [List.getD_eq_getElem?_getD]
    cases e : (Qp.coarse r cut less)[0]? with
    | none => rfl
    | some x =>
      obtain ⟨_, e2⟩ := coarse_get e
      show x = 0
      rw [e2, h.z, shZ_zero]
  · exact pos_bl (Int.ediv_nonneg (by have := h.g1; omega) (Int.le_of_lt (two_pos _))) (by omega)
  · unfold Qp.coarse
    rw [List.getElem?_map, List.getElem?_range il, Option.map_some, gd]
  · exact pos_bl (shZ_nn (by omega) _) (by omega)
  · omega
theorem NearS.coarse {S : Nat} {r : List Int} {many cut less : Nat} (h : NearS S r many) (hn : NN r) (h2 : cut ≤ many) : NearS S (coarse r cut less) (many - cut) := fun k c hc => by
  obtain ⟨hk, e⟩ := coarse_get hc
  have a := h k _ (get_of hk)
  have b := shZ_le (hn.getD k) (cut * k) less
  rw [← e] at b
  have m : many * k = cut * k + (many - cut) * k := by
    rw [← Nat.add_mul]
    congr 1
    omega
  omega
theorem NearS.lt {S : Nat} {r : List Int} {many : Nat} (h : NearS S r many) (hn : NN r) {c : Int} (hc : c ∈ r) : c < 2 ^ S := by
  obtain ⟨k, hk⟩ := List.getElem?_of_mem hc
  exact (bl_lt (hn c hc)).mp (Nat.le_trans (Nat.le_add_right _ _) (h k c hk))
/-- with so many binary digits the goal is reached -/
theorem NearI.hit {r : List Int} {g : Int} {many : Nat} (h : NearI r g many) : g < val r (2 ^ many) := by
  obtain ⟨i, c, i1, hi, c1, hb⟩ := h.ex
  have p := two_pos many
  have a := val_one (x := 2 ^ many) (by omega) h.nn hi
  have C1 := bl_one c1
  have b : (2 : Int) ^ (BL c - 1) ≤ c := (bl_ge (by omega)).mp (by omega)
  have e : ((2 : Int) ^ many) ^ i = 2 ^ (many * i) := Int.pow_mul.symm
  rw [e] at a
  have m := Int.mul_le_mul_of_nonneg_right b (Int.le_of_lt (two_pos (many * i)))
  rw [← Int.pow_add] at m
  have s := bl_self (x := g) (by have := h.g1; omega)
  have t := pow_mono2 (a := BL g) (b := BL c - 1 + many * i) (by omega)
  omega
/-- a slope to divide by -/
theorem NearI.slo {r : List Int} {g x : Int} {many : Nat} (h : NearI r g many) (hx : 1 ≤ x) : 1 ≤ slo r x := by
  obtain ⟨i, c, i1, hi, c1, _⟩ := h.ex
  obtain ⟨j, rfl⟩ : ∃ j, i = j + 1 := ⟨i - 1, by omega⟩
  exact slo_pos hx h.nn hi c1
/-- the slopes as the program makes them -/
def sloR (r : List Int) : List Int := (List.range (r.length - 1)).map fun i => ((i + 1 : Nat) : Int) * r.getD (i + 1) 0
theorem sloR_eq (r : List Int) : sloR r = slopeZ r := by
  apply List.ext_getElem?
  intro i
  by_cases h : i < r.length - 1
  · rw [get_of (r := slopeZ r) (by rw [slopeZ_len]; exact h), slopeZ_get]
    unfold sloR
    rw [List.getElem?_map, List.getElem?_range h]
    rfl
  · rw [List.getElem?_eq_none (by unfold sloR; rw [List.length_map, List.length_range]; omega), List.getElem?_eq_none (by rw [slopeZ_len]; omega)]
theorem val_sloR (r : List Int) (x : Int) : val (sloR r) x = slo r x := by rw [sloR_eq, val_slopeZ]
theorem sloR_nn {r : List Int} (h : NN r) : NN (sloR r) := fun c hc => by
  obtain ⟨i, _, rfl⟩ := List.mem_map.mp hc
  exact Int.mul_nonneg (Int.natCast_nonneg _) (h.getD _)
theorem sloR_lt {r : List Int} {S : Nat} (hn : NN r) (h : ∀ c ∈ r, c < 2 ^ S) (hl : r.length ≤ 8) : ∀ c ∈ sloR r, c < 2 ^ (S + 3) := fun c hc => by
  obtain ⟨i, hi, rfl⟩ := List.mem_map.mp hc
  have hi2 := List.mem_range.mp hi
  have a := h _ (List.mem_of_getElem? (get_of (r := r) (i := i + 1) (by omega)))
  have b := hn.getD (i + 1)
  have p := two_pos S
  rw [Int.pow_add, Int.mul_comm]
  refine Int.lt_of_lt_of_le (Int.mul_lt_mul_of_pos_right a (by omega)) (Int.mul_le_mul_of_nonneg_left ?_ (by omega))
  show ((i + 1 : Nat) : Int) ≤ 2 ^ 3
  omega
/-- how many binary digits a near place may have -/
def nearR (d lost G many : Nat) : Nat := if many ≤ 3 * lost then many + 2 else max G ((d + 1) * (many - (many - lost) / 2) + lost + 1 + (many - lost) / 2) + 1
theorem nearR_le {d lost G many : Nat} (hd : 2 ≤ d) (hl : 2 ≤ lost) : nearR d lost G many ≤ max G ((d + 1) * many + lost) + 1 := by
  unfold nearR
  have base : many ≤ (d + 1) * many := Nat.le_mul_of_pos_left _ (by omega)
  split
  · omega
  · rename_i h
    have c : 1 ≤ (many - lost) / 2 := by omega
    generalize hc : (many - lost) / 2 = cut at *
    have e : (d + 1) * many = (d + 1) * (many - cut) + (d + 1) * cut := by
      rw [← Nat.mul_add]
      congr 1
      omega
    have f : 2 * cut ≤ (d + 1) * cut := Nat.mul_le_mul_right _ (by omega)
    omega
/-- the binary digits of the least place -/
theorem digits_ex {G b k m : Nat} (hk : 1 ≤ k) (hm : m = (G + 1 - b) / k + 1) : G + 2 ≤ b + m * k := by
  subst hm
  have a := Nat.div_add_mod (G + 1 - b) k
  have r := Nat.mod_lt (G + 1 - b) (show 0 < k by omega)
  rw [Nat.add_mul, Nat.one_mul, Nat.mul_comm _ k]
  omega
end Qp

/-! values of coefficients, and slopes -/
namespace Qp
open PySem PySem.Spec PyProof.Rows L2 QN
/-- a list, or a tuple -/
def SqK (k : Bool) (K : PySem.W.Frag) (H : Hp) (a : Addr) (xs : List V) : Prop := match k with
  | true => SqL K H a xs
  | false => SqT K H a xs
theorem sqK_or {k : Bool} {K : PySem.W.Frag} {H : Hp} {a : Addr} {xs : List V} (h : SqK k K H a xs) : SqL K H a xs ∨ SqT K H a xs := by
  cases k with
  | true => exact .inl h
  | false => exact .inr h
theorem sqLs {K : PySem.W.Frag} {H H' : Hp} {q : Addr} {xs : List V} (e : Same H H') (a : SqL K H q xs) : SqL K H' q xs := by
  rcases a with (a | ⟨u, a⟩) | a
  · exact .inl (.inl (e _ _ a))
  · exact .inl (.inr ⟨u, e _ _ a⟩)
  · exact .inr a
theorem sqK_same {k : Bool} {K : PySem.W.Frag} {H H' : Hp} {a : Addr} {xs : List V} (s : Same H H') (h : SqK k K H a xs) : SqK k K H' a xs := by
  cases k with
  | true => exact sqLs s h
  | false => exact sqT_same s h
/-- numbers from 0 to below 2 ^ S -/
def Bdd (S : Nat) (ns : List Int) : Prop := ∀ c ∈ ns, 0 ≤ c ∧ c < 2 ^ S
theorem Bdd.nn {S : Nat} {ns : List Int} (h : Bdd S ns) : NN ns := fun c hc => (h c hc).1
theorem valB_lt {n : Int} {m S : Nat} (hn : 0 ≤ n) (hm : n < 2 ^ m) : ∀ {ns : List Int}, Bdd S ns → val ns n < 2 ^ (S + ns.length * (m + 1))
  | [], _ => by
    show (0 : Int) < 2 ^ (S + 0 * (m + 1))
    exact Int.pow_pos (by decide)
  | c :: ns, h => by
    rw [val_cons]
    have hns : Bdd S ns := fun x hx => h x (List.mem_cons_of_mem _ hx)
    have h1 := valB_lt hn hm hns
    have h0 := val_nn0 hn hns.nn
    have h2 := (h c List.mem_cons_self)
    have e : S + (c :: ns).length * (m + 1) = (S + ns.length * (m + 1)) + m + 1 := by
      rw [List.length_cons, Nat.add_mul]
      omega
    rw [e, Int.pow_succ, Int.pow_add]
    have h3 : val ns n * n ≤ 2 ^ (S + ns.length * (m + 1)) * 2 ^ m := Int.mul_le_mul (by omega) (by omega) hn (Int.le_of_lt (Int.pow_pos (by decide)))
    have h4 : (2 : Int) ^ S ≤ 2 ^ (S + ns.length * (m + 1)) * 2 ^ m := by
      rw [← Int.pow_add]
      exact pow_mono2 (by omega)
    omega
/-- these coefficients may be reckoned with at n -/
structure FitV (ns : List Int) (n : Int) : Prop where
  nn : 0 ≤ n
  sz : ∃ S m, Bdd S ns ∧ n < 2 ^ m ∧ 0 < S ∧ 0 < m ∧ S + ns.length * (m + 1) + m ≤ 1000000
theorem FitV.mul {ns : List Int} {n : Int} (F : FitV ns n) (k : Nat) : CMulW (val (ns.drop k) n) n := by
  obtain ⟨S, m, hb, hm, s0, m0, hs⟩ := F.sz
  have okd : Bdd S (ns.drop k) := fun c hc => hb c (List.mem_of_mem_drop hc)
  have l1 : (ns.drop k).length * (m + 1) ≤ ns.length * (m + 1) := Nat.mul_le_mul_right _ (by rw [List.length_drop]; omega)
  exact wide_mul (a := S + (ns.drop k).length * (m + 1)) (b := m) (abs_lt (val_nn0 F.nn okd.nn) (valB_lt F.nn hm okd)) (abs_lt F.nn hm) (by omega) m0 (by omega)
theorem Fit.v {ns : List Int} {n : Int} (F : Fit ns n) : FitV ns n := by
  obtain ⟨m, hm, m0, hs⟩ := F.sz
  exact ⟨F.nn, 70, m, fun c hc => ⟨(F.ok c hc).1, Int.lt_trans (F.ok c hc).2 (by decide)⟩, hm, by decide, m0, hs⟩
abbrev sVal : Stmt := top 19 -- _value
theorem scVal : FnScope ["coefficients", "n", "total", "number"] ["coefficients", "n"] (defScope sVal) := ⟨rfl, rfl, rfl, by decide +kernel, rfl, by decide +kernel, by decide +kernel⟩
def spVal (K : PySem.W.Frag) (k : Bool) : Sp := fun vs H Q _ => ∃ (a : Addr) (ns : List Int) (n : Int), vs = [.ref a, .int n] ∧ SqK k K H a (iv ns) ∧ FitV ns n ∧ ∀ (H' : Hp), Same H H' → Q (.int (val ns n)) H'
section
variable {P : Program} {w : World} {K : PySem.W.Frag} {mg : Str → Option Value} {base : Heap}
theorem ok_val (kk : Bool) {f : Addr} {fd : FuncData} (F : Fun K "_value" "_value" sVal f fd) : FnOk P w K mg base CX0 1 f fd ["coefficients", "n"] (spVal K kk) := by
  refine F.ok scVal (fun vs H Q E h => ?_) (fun cdv A outer s H vs Q E hr h => ?_)
  · obtain ⟨a, ns, n, rfl, _⟩ := h
    rfl
  · obtain ⟨a, ns, n, rfl, ha, fit, k⟩ := h
    cases kk with
    | false =>
      refine ⟨_, pss_cons (ps_set (i := 2) scVal.nd rfl (.inl rfl) pe_int)
        (pss_cons (ps_for PassesOwn.never rfl (pi_tup (pe_revT (pv 0))) (pg_name (i := 3) scVal.nd rfl (.inl rfl))
          (pss_one (ps_set (i := 2) scVal.nd rfl (.inl rfl) (pe_op op_add (pe_op op_mulW (pv 2) (pv 1)) (pv 3)))))
        (pss_one (ps_ret (pv 2)))), ?_⟩
      refine ⟨_, rfl, a, _, rfl, ha, fun q hq => ?_⟩
      have sq := same_new (o := .tup (iv ns).reverse) hq
      refine ⟨q, rfl, ⟨_, .inl (.inl upd_same)⟩, for_tup (xs := (iv ns).reverse) (fun i σ H' => ∃ y, σ = [some (.ref a), some (.int n), some (.int (val (ns.drop (ns.length - i)) n)), y] ∧ Same H H' ∧ H' q = some (.tup (iv ns).reverse))
        ⟨none, by rw [Nat.sub_zero, List.drop_length]; rfl, sq, upd_same⟩ (fun i σ H' _ ⟨y, _, _, hq'⟩ => .inl (.inl hq')) ?_ ?_⟩
      · rintro i x σ H' hx ⟨y, rfl, sm, hq'⟩
        obtain ⟨c, rfl, hi, e⟩ := rev_at hx
        refine ⟨_, rfl, _, rfl, _, _, rfl, rfl, fit.mul _, _, rfl, _, _, rfl, rfl, some (.int c), ?_, sm, hq'⟩
        rw [e, val_cons]
        rfl
      · rintro σ H' ⟨y, rfl, sm, hq'⟩
        refine ⟨_, rfl, ?_⟩
        have e : ns.length - (iv ns).reverse.length = 0 := by
          unfold iv
          rw [List.length_reverse, List.length_map, Nat.sub_self]
        rw [e]
        exact k H' sm
    | true =>
      refine ⟨_, pss_cons (ps_set (i := 2) scVal.nd rfl (.inl rfl) pe_int)
        (pss_cons (ps_for PassesOwn.never rfl (pi_list (L2.pe_revL (pv 0))) (pg_name (i := 3) scVal.nd rfl (.inl rfl))
          (pss_one (ps_set (i := 2) scVal.nd rfl (.inl rfl) (pe_op op_add (pe_op op_mulW (pv 2) (pv 1)) (pv 3)))))
        (pss_one (ps_ret (pv 2)))), ?_⟩
      refine ⟨_, rfl, a, _, rfl, ha, fun q hq => ?_⟩
      have sq := same_new (o := .lst (iv ns).reverse) hq
      refine ⟨q, rfl, ⟨_, .inl (.inl upd_same)⟩, for_list (xs := (iv ns).reverse) (fun i σ H' => ∃ y, σ = [some (.ref a), some (.int n), some (.int (val (ns.drop (ns.length - i)) n)), y] ∧ Same H H' ∧ H' q = some (.lst (iv ns).reverse))
        ⟨none, by rw [Nat.sub_zero, List.drop_length]; rfl, sq, upd_same⟩ (fun i σ H' _ ⟨y, _, _, hq'⟩ => .inl (.inl hq')) ?_ ?_⟩
      · rintro i x σ H' hx ⟨y, rfl, sm, hq'⟩
        obtain ⟨c, rfl, hi, e⟩ := rev_at hx
        refine ⟨_, rfl, _, rfl, _, _, rfl, rfl, fit.mul _, _, rfl, _, _, rfl, rfl, some (.int c), ?_, sm, hq'⟩
        rw [e, val_cons]
        rfl
      · rintro σ H' ⟨y, rfl, sm, hq'⟩
        refine ⟨_, rfl, ?_⟩
        have e : ns.length - (iv ns).reverse.length = 0 := by
          unfold iv
          rw [List.length_reverse, List.length_map, Nat.sub_self]
        rw [e]
        exact k H' sm
/-- // by a positive divisor, where C divides -/
theorem op_fdivP {X : Cx} : OpR X (binaryOp .FloorDiv) (rI CDivP fun i j => .int (i / j)) := opI fun i j _ _ _ _ _ hc q => by
  have h1 : (0 : Int) < j := hc.1
  exact floordiv_int (by omega) (by rw [Int.fdiv_eq_ediv_of_nonneg i (by omega)]; exact q) (.inl hc.2)
end
end Qp

/-! what reach calls -/
namespace Qp
open PySem PySem.Spec PyProof.Rows L2 QN
abbrev sSlo : Stmt := top 20 -- _slopes
abbrev sHal : Stmt := top 27 -- _least_by_halves
abbrev sLost : Stmt := top 23 -- _lost_digits
abbrev sFew : Stmt := top 24 -- _few_digits
abbrev sDig : Stmt := top 22 -- _binary_digits
abbrev sShf : Stmt := top 26 -- _shifted
theorem scSlo : FnScope ["coefficients", "at"] ["coefficients"] (defScope sSlo) := ⟨rfl, rfl, rfl, by decide +kernel, rfl, by decide +kernel, by decide +kernel⟩
theorem scHal : FnScope ["coefficients", "goal", "many", "low", "high", "middle"] ["coefficients", "goal", "many"] (defScope sHal) := ⟨rfl, rfl, rfl, by decide +kernel, rfl, by decide +kernel, by decide +kernel⟩
theorem scLost : FnScope ["coefficients"] ["coefficients"] (defScope sLost) := ⟨rfl, rfl, rfl, by decide +kernel, rfl, by decide +kernel, by decide +kernel⟩
theorem scFew : FnScope ["coefficients"] ["coefficients"] (defScope sFew) := ⟨rfl, rfl, rfl, by decide +kernel, rfl, by decide +kernel, by decide +kernel⟩
theorem scDig : FnScope ["coefficients", "goal", "many", "at"] ["coefficients", "goal"] (defScope sDig) := ⟨rfl, rfl, rfl, by decide +kernel, rfl, by decide +kernel, by decide +kernel⟩
theorem scShf : FnScope ["number", "by"] ["number", "by"] (defScope sShf) := ⟨rfl, rfl, rfl, by decide +kernel, rfl, by decide +kernel, by decide +kernel⟩
structure BltN (mg : Str → Option Value) : Prop where
  len : mg "len" = none
  rg : mg "range" = none
  max : mg "max" = none
  min : mg "min" = none
  en : mg "enumerate" = none
def spSlo (K : PySem.W.Frag) (k : Bool) : Sp := fun vs H Q _ => ∃ (a : Addr) (ns : List Int), vs = [.ref a] ∧ SqK k K H a (iv ns) ∧ ns.length ≤ 100000 ∧ ∀ (q : Addr) (H' : Hp), Same H H' → H' q = some (.lst (iv (sloR ns))) → Q (.ref q) H'
def spHal (K : PySem.W.Frag) (k : Bool) : Sp := fun vs H Q _ => ∃ (a : Addr) (ns : List Int) (g : Int) (m S : Nat), vs = [.ref a, .int g, .int (m : Int)] ∧ SqK k K H a (iv ns) ∧ Bdd S ns ∧ 0 < S ∧ S + ns.length * (m + 2) + m + 1 ≤ 1000000 ∧
  ∀ (h : Int) (H' : Hp), Same H H' → 1 ≤ h → h ≤ 2 ^ m → (g ≤ val ns h ∨ h = 2 ^ m) → (val ns (h - 1) < g ∨ h = 1) → Q (.int h) H'
def spLost (K : PySem.W.Frag) : Sp := fun vs H Q _ => ∃ (a : Addr) (xs : List V), vs = [.ref a] ∧ (SqL K H a xs ∨ SqT K H a xs) ∧ Q (.int ((BL (xs.length : Nat) + 2 : Nat) : Int)) H
def spFew (K : PySem.W.Frag) : Sp := fun vs H Q _ => ∃ (a : Addr) (xs : List V), vs = [.ref a] ∧ (SqL K H a xs ∨ SqT K H a xs) ∧ Q (.int ((3 * (BL (xs.length : Nat) + 2) : Nat) : Int)) H
/-- so many binary digits by the coefficient c at the place k -/
def dg (g c : Int) (k : Nat) : Nat := (BL g + 1 - BL c) / k + 1
def spDig (K : PySem.W.Frag) : Sp := fun vs H Q _ => ∃ (a : Addr) (ns : List Int) (g : Int), vs = [.ref a, .int g] ∧ SqT K H a (iv ns) ∧ ns.length ≤ 100000 ∧ (∃ i, 1 ≤ i ∧ i < ns.length ∧ 0 < ns.getD i 0) ∧
  ∀ (m : Nat) (H' : Hp), Same H H' → (∃ i, 1 ≤ i ∧ i < ns.length ∧ 0 < ns.getD i 0 ∧ m = dg g (ns.getD i 0) i) → (∀ i, 1 ≤ i → i < ns.length → 0 < ns.getD i 0 → m ≤ dg g (ns.getD i 0) i) → Q (.int (m : Int)) H'
def spShf : Sp := fun vs H Q _ => ∃ (c b : Int), vs = [.int c, .int b] ∧ (0 < b → CShl c b) ∧ Q (.int (shZ c b)) H
theorem upd_keep {H H' : Hp} {D : Addr} {o : HO} (hD : H D = none) (s : Same H H') : Same H (upd H' D o) := fun x u e => by
  by_cases c : x = D
  · subst c
    rw [hD] at e
    cases e
  · rw [upd_ne c]
    exact s _ _ e
theorem iv_app (ns : List Int) (c : Int) : iv ns ++ [.int c] = iv (ns ++ [c]) := by
  unfold iv
  rw [List.map_append]
  rfl
theorem iv_at {ns : List Int} {i : Nat} (h : i < ns.length) : (iv ns)[i]? = some (.int (ns.getD i 0)) := by
  unfold iv
  rw [List.getElem?_map, get_of h]
  rfl
theorem ix_K {k : Bool} {K : PySem.W.Frag} {H : Hp} {Q : VK} {a : Addr} {ns : List Int} {j : Int} {i : Nat} (ej : j = (i : Int)) (h : SqK k K H a (iv ns)) (hi : i < ns.length) (q : Q (.int (ns.getD i 0)) H) : rIx K (.ref a) (.int j) H Q := by
  subst ej
  have e : atI (iv ns) (i : Int) = some (.int (ns.getD i 0)) := atI_nat (iv_at hi)
  cases k with
  | true => exact .inl ⟨a, _, _, _, rfl, rfl, h, e, q⟩
  | false => exact .inr (.inl ⟨a, _, _, _, rfl, rfl, h, e, q⟩)
theorem small64 {i : Nat} (h : i ≤ 100000) : -(2 ^ 64) < (1 + (i : Int)) ∧ (1 + (i : Int)) < 2 ^ 64 := by omega
section
variable {P : Program} {w : World} {K : PySem.W.Frag} {mg : Str → Option Value} {base : Heap}
theorem ok_slo (kk : Bool) {f : Addr} {fd : FuncData} (F : Fun K "_slopes" "_slopes" sSlo f fd) (B : BltN mg) : FnOk P w K mg base CX0 1 f fd ["coefficients"] (spSlo K kk) := by
  refine F.ok scSlo (fun vs H Q E h => ?_) (fun cdv A outer s H vs Q E hr h => ?_)
  · obtain ⟨a, ns, rfl, _⟩ := h
    rfl
  · obtain ⟨a, ns, rfl, ha, hl, k⟩ := h
    refine ⟨_, pss_one (ps_ret (pe_lc (own := [("at", 1)]) (g := gName 1) (tt := tYes) (te := tOp (rI CMul fun i j => V.int (i * j)) (tVar 1) (tOp (rIx K) (tVar 0) (tVar 1))) rfl scSlo.nd (pi_range2 (by rfl) B.rg (pa_cons pe_int (pa_cons (pe_callB call_len_seq (by rfl) B.len PySem.boot_len (pa_cons (pv 0) pa_nil)) pa_nil)))
        (blkOk_by (N := ["coefficients", "at"]) (sc := defScope sSlo) (by decide +kernel)) (fun _ _ _ _ _ => pg_name (i := 1) scSlo.nd rfl (.inl rfl) (hf := .inr rfl)) (fun _ _ _ _ _ => pts_nil)
        (fun _ _ _ _ _ => pe_op op_mul (pv 1) (pe_ix ix_seq (pv 0) (pv 1) (fun _ _ => rfl))))), ?_⟩
    refine ⟨_, rfl, a, _, rfl, sqK_or ha, _, _, rfl, ⟨by decide, by decide, by rw [iv_len]; omega, by rw [iv_len]; omega⟩, fun D hD => ?_⟩
    have en : ((((iv ns).length : Nat) : Int) - 1).toNat = ns.length - 1 := by
      rw [iv_len]
      omega
    refine lc_range (fun i H' => Same H H' ∧ H' D = some (.lst (iv ((List.range i).map fun i => ((i + 1 : Nat) : Int) * ns.getD (i + 1) 0)))) ⟨same_new hD, upd_same⟩ (fun i H' hi hV => ?_) fun H' hV => ?_
    · obtain ⟨s1, hD1⟩ := hV
      rw [en] at hi
      refine ⟨rfl, _, rfl, _, rfl, _, rfl, ix_K (i := i + 1) (by omega) (sqK_same s1 ha) (by omega) ⟨_, _, rfl, rfl, .inl (small64 (by omega)), _, hD1, ?_, ?_, ?_⟩⟩
      · rw [iv_len, List.length_map, List.length_range, sizeLine_eq]
        omega
      · exact upd_keep hD s1
      · rw [upd_same, List.range_succ, List.map_append, iv_app]
        have e : (1 + (i : Int)) = ((i + 1 : Nat) : Int) := by omega
        rw [e]
        rfl
    · obtain ⟨s1, hD1⟩ := hV
      rw [en] at hD1
      exact k D H' s1 hD1
theorem ok_hal (kk : Bool) {f fV : Addr} {fd fdV : FuncData} (F : Fun K "_least_by_halves" "_least_by_halves" sHal f fd) (GV : FnOk P w K mg base CX0 1 fV fdV ["coefficients", "n"] (spVal K kk)) (kV : PySem.W.keepIn K (.ref fV) = true) (bV : L2.Binds K fdV ["coefficients", "n"] []) (gV : mg "_value" = some (.ref fV)) :
    FnOk P w K mg base CX0 2 f fd ["coefficients", "goal", "many"] (spHal K kk) := by
  refine F.ok scHal (fun vs H Q E h => ?_) (fun cdv A outer s H vs Q E hr h => ?_)
  · obtain ⟨a, ns, g, m, S, rfl, _⟩ := h
    rfl
  · obtain ⟨a, ns, g, m, S, rfl, ha, hb, s0, hs, k⟩ := h
    refine ⟨_, pss_cons (ps_par (i := 3) (j := 4) rfl scHal.nd rfl rfl (by decide) rfl rfl (pa_cons pe_int (pa_cons (pe_op op_oneShl pe_int (pv 2)) pa_nil)) rfl)
      (pss_cons (ps_while PassesOwn.never (pt_cmpR op_gt (pe_op op_sub (pv 4) (pv 3)) pe_int (nomark _))
        (pss_cons (ps_set (i := 5) scHal.nd rfl (.inl rfl) (pe_op op_fdiv (pe_op op_add (pv 3) (pv 4)) pe_int))
        (pss_one (ps_if (pt_cmpR op_ge (pe_call GV hr (by rfl) gV kV bV .nil pass0 (pa_cons (pv 0) (pa_cons (pv 5) pa_nil))) (pv 1) (nomark _))
          (pss_one (ps_set (i := 4) scHal.nd rfl (.inl rfl) (pv 5))) (pss_one (ps_set (i := 3) scHal.nd rfl (.inl rfl) (pv 5)))))))
      (pss_one (ps_ret (pv 4)))), ?_⟩
    have p := two_pos m
    refine ⟨_, rfl, m, rfl, rfl, by omega, _, _, rfl, ?_⟩
    refine ⟨fun t σ H' => ∃ (lo hi : Int) (u : Option V), σ = [some (.ref a), some (.int g), some (.int (m : Int)), some (.int lo), some (.int hi), u] ∧ Same H H' ∧ 0 ≤ lo ∧ lo < hi ∧ hi ≤ 2 ^ m ∧ (g ≤ val ns hi ∨ hi = 2 ^ m) ∧ (val ns lo < g ∨ lo = 0) ∧ t = (hi - lo).toNat,
      ⟨_, 0, 2 ^ m, none, rfl, Same.refl _, Int.le_refl 0, p, Int.le_refl _, .inr rfl, .inr rfl, rfl⟩, ?_⟩
    rintro t σ H' ⟨lo, hi, u, rfl, sm, h0, h1, h2, h3, h4, rfl⟩
    refine ⟨_, rfl, _, rfl, _, _, rfl, rfl, _, _, rfl, rfl, _, rfl, ?_⟩
    by_cases c : hi - lo > 1
    · refine if_yes (decide_eq_true c) ⟨fun σ' H2 => ∃ (lo' hi' : Int) (u : Option V), σ' = [some (.ref a), some (.int g), some (.int (m : Int)), some (.int lo'), some (.int hi'), u] ∧ Same H H2 ∧ 0 ≤ lo' ∧ lo' < hi' ∧ hi' ≤ 2 ^ m ∧ (g ≤ val ns hi' ∨ hi' = 2 ^ m) ∧ (val ns lo' < g ∨ lo' = 0) ∧ hi' - lo' < hi - lo,
        fun σ' H2 ⟨lo', hi', u, e, sm', a1, a2, a3, a4, a5, a6⟩ => ⟨_, ?_, lo', hi', u, e, sm', a1, a2, a3, a4, a5, rfl⟩, ?_⟩
      · omega
      refine ⟨_, rfl, _, rfl, _, _, rfl, rfl, _, _, rfl, rfl, ⟨by decide, by decide⟩, ?_⟩
      have m1 : lo < (lo + hi) / 2 := by omega
      have m2 : (lo + hi) / 2 < hi := by omega
      have fit : FitV ns ((lo + hi) / 2) := ⟨by omega, S, m + 1, hb, Int.lt_of_lt_of_le (by omega : ((lo + hi) / 2) < 2 ^ m) (pow_mono2 (by omega)), s0, by omega, by
        have : ns.length * (m + 1 + 1) = ns.length * (m + 2) := rfl
        omega⟩
      refine ⟨_, rfl, _, rfl, a, ns, ((lo + hi) / 2), rfl, sqK_same sm ha, fit, fun H2 s2 => ⟨_, rfl, _, _, rfl, rfl, _, rfl, ?_⟩⟩
      by_cases d : g ≤ val ns ((lo + hi) / 2)
      · refine if_yes (decide_eq_true d) ⟨_, rfl, lo, ((lo + hi) / 2), some (.int ((lo + hi) / 2)), rfl, sm.trans s2, h0, m1, by omega, .inl d, h4, by omega⟩
      · refine if_no (by simpa using d) ⟨_, rfl, ((lo + hi) / 2), hi, some (.int ((lo + hi) / 2)), rfl, sm.trans s2, by omega, m2, h2, h3, .inl (by omega), by omega⟩
    · refine if_no (by simpa using c) ⟨_, rfl, ?_⟩
      refine k hi H' sm (by omega) h2 h3 ?_
      have e : hi - 1 = lo := by omega
      rw [e]
      rcases h4 with h4 | h4
      · exact .inl h4
      · exact .inr (by omega)
theorem ok_lost {f : Addr} {fd : FuncData} (F : Fun K "_lost_digits" "_lost_digits" sLost f fd) (B : BltN mg) : FnOk P w K mg base CX0 1 f fd ["coefficients"] (spLost K) := by
  refine F.ok scLost (fun vs H Q E h => ?_) (fun cdv A outer s H vs Q E hr h => ?_)
  · obtain ⟨a, xs, rfl, _⟩ := h
    rfl
  · obtain ⟨a, xs, rfl, ha, k⟩ := h
    refine ⟨_, pss_one (ps_ret (pe_op op_add (pe_bits (pe_callB call_len_seq (by rfl) B.len PySem.boot_len (pa_cons (pv 0) pa_nil))) pe_int)), ?_⟩
    exact ⟨_, rfl, a, xs, rfl, ha, _, rfl, _, _, rfl, rfl, k⟩
theorem ok_few {f fL : Addr} {fd fdL : FuncData} (F : Fun K "_few_digits" "_few_digits" sFew f fd) (GL : FnOk P w K mg base CX0 1 fL fdL ["coefficients"] (spLost K)) (kL : PySem.W.keepIn K (.ref fL) = true) (bL : L2.Binds K fdL ["coefficients"] []) (gL : mg "_lost_digits" = some (.ref fL)) : FnOk P w K mg base CX0 2 f fd ["coefficients"] (spFew K) := by
  refine F.ok scFew (fun vs H Q E h => ?_) (fun cdv A outer s H vs Q E hr h => ?_)
  · obtain ⟨a, xs, rfl, _⟩ := h
    rfl
  · obtain ⟨a, xs, rfl, ha, k⟩ := h
    refine ⟨_, pss_one (ps_ret (pe_op op_mul pe_int (pe_call GL hr (by rfl) gL kL bL .nil pass0 (pa_cons (pv 0) pa_nil)))), ?_⟩
    refine ⟨_, rfl, a, xs, rfl, ha, _, _, rfl, rfl, .inl ⟨by decide, by decide⟩, ?_⟩
    have e : (3 : Int) * ((BL (xs.length : Nat) + 2 : Nat) : Int) = ((3 * (BL (xs.length : Nat) + 2) : Nat) : Int) := by omega
    show Q (.int ((3 : Int) * ((BL (xs.length : Nat) + 2 : Nat) : Int))) H
    rw [e]
    exact k
theorem ok_shf {f : Addr} {fd : FuncData} (F : Fun K "_shifted" "_shifted" sShf f fd) : FnOk P w K mg base CX0 1 f fd ["number", "by"] spShf := by
  refine F.ok scShf (fun vs H Q E h => ?_) (fun cdv A outer s H vs Q E hr h => ?_)
  · obtain ⟨c, b, rfl, _⟩ := h
    rfl
  · obtain ⟨c, b, rfl, hc, k⟩ := h
    refine ⟨_, pss_one (ps_ret (pe_ifExp (pt_cmpR op_gt (pv 1) pe_int (nomark _)) (pe_op op_shlW (pv 0) (pv 1)) (pe_op op_shr (pv 0) (pe_un un_neg (pv 1))))), ?_⟩
    refine ⟨_, rfl, _, _, rfl, rfl, _, rfl, ?_⟩
    unfold shZ at k
    by_cases z : 0 < b
    · rw [if_pos z] at k
      exact if_yes (decide_eq_true z) ⟨_, rfl, _, rfl, _, _, rfl, rfl, hc z, k⟩
    · rw [if_neg z] at k
      exact if_no (by simpa using z) ⟨_, rfl, _, rfl, _, rfl, _, _, rfl, rfl, by omega, k⟩
end
end Qp

/-! how many binary digits -/
namespace Qp
open PySem PySem.Spec PyProof.Rows L2 QN
/-- those of the first places behind 0 -/
def dgs (g : Int) (ns : List Int) (i : Nat) : List Int := ((List.range i).filter fun j => decide (0 < ns.getD (j + 1) 0)).map fun j => ((dg g (ns.getD (j + 1) 0) (j + 1) : Nat) : Int)
theorem dgs_succ (g : Int) (ns : List Int) (i : Nat) : dgs g ns (i + 1) = if 0 < ns.getD (i + 1) 0 then dgs g ns i ++ [((dg g (ns.getD (i + 1) 0) (i + 1) : Nat) : Int)] else dgs g ns i := by
  unfold dgs
  rw [List.range_succ, List.filter_append, List.map_append]
  by_cases c : 0 < ns.getD (i + 1) 0
  · rw [if_pos c, List.filter_cons_of_pos (by simpa using c)]
    rfl
  · rw [if_neg c, List.filter_cons_of_neg (by simpa using c)]
    simp
theorem dgs_len (g : Int) (ns : List Int) (i : Nat) : (dgs g ns i).length ≤ i := by
  unfold dgs
  rw [List.length_map]
  exact Nat.le_trans (List.length_filter_le _ _) (by rw [List.length_range]; exact Nat.le_refl i)
theorem dgs_mem {g : Int} {ns : List Int} {i : Nat} {m : Int} : m ∈ dgs g ns i ↔ ∃ j, j < i ∧ 0 < ns.getD (j + 1) 0 ∧ m = ((dg g (ns.getD (j + 1) 0) (j + 1) : Nat) : Int) := by
  unfold dgs
  rw [List.mem_map]
  constructor
  · rintro ⟨j, hj, rfl⟩
    obtain ⟨a, b⟩ := List.mem_filter.mp hj
    exact ⟨j, List.mem_range.mp a, by simpa using b, rfl⟩
  · rintro ⟨j, a, b, rfl⟩
    exact ⟨j, List.mem_filter.mpr ⟨List.mem_range.mpr a, by simpa using b⟩, rfl⟩
def rMax2 : List V → Hp → VK → Prop := fun xs H Q => ∃ i j, xs = [V.int i, V.int j] ∧ Q (V.int (if j > i then j else i)) H
def tDigs (K : PySem.W.Frag) : TE := tOp (rI0 fun i j => V.int (i + j)) (tOp (rI CDiv fun i j => V.int (i / j)) (tCB rMax2 (tCons (tOp (rI0 fun i j => V.int (i - j)) (tVar 2) (tBits (tOp (rIx K) (tVar 0) (tVar 3)))) (tCons (tC (.int 0)) tNil))) (tVar 3)) (tC (.int 1))
section
variable {P : Program} {w : World} {K : PySem.W.Frag} {mg : Str → Option Value} {base : Heap}
theorem ok_dig {f : Addr} {fd : FuncData} (F : Fun K "_binary_digits" "_binary_digits" sDig f fd) (B : BltN mg) : FnOk P w K mg base CX0 1 f fd ["coefficients", "goal"] (spDig K) := by
  refine F.ok scDig (fun vs H Q E h => ?_) (fun cdv A outer s H vs Q E hr h => ?_)
  · obtain ⟨a, ns, g, rfl, _⟩ := h
    rfl
  · obtain ⟨a, ns, g, rfl, ha, hl, ⟨i0, p1, p2, p3⟩, k⟩ := h
    refine ⟨_, pss_cons (ps_set (i := 2) scDig.nd rfl (.inr rfl) (pe_op op_add (pe_bits (pv 1)) pe_int))
      (pss_one (ps_ret (pe_callB (cr_min rfl) (by rfl) B.min (by decide +kernel) (pa_cons (pe_lc (own := [("at", 3)]) (g := gName 3) (tt := tTest (tOp (rI0 fun i j => V.bl (decide (i > j))) (tOp (rIx K) (tVar 0) (tVar 3)) (tC (.int 0)))) (te := tDigs K) rfl scDig.nd (pi_range2 (by rfl) B.rg (pa_cons pe_int (pa_cons (pe_callB call_len_seq (by rfl) B.len PySem.boot_len (pa_cons (pv 0) pa_nil)) pa_nil)))
        (blkOk_by (N := ["coefficients", "goal", "many", "at"]) (sc := defScope sDig) (by decide +kernel)) (fun _ _ _ _ _ => pg_name (i := 3) scDig.nd rfl (.inl rfl) (hf := .inr rfl))
        (fun _ _ _ _ _ => pts_one (pt_cmpR op_gt (pe_ix ix_seq (pv 0) (pv 3) (fun _ _ => rfl)) pe_int (nomark _)))
        (fun _ _ _ _ _ => pe_op op_add (pe_op op_fdiv (pe_callB (call_max2 rfl) (by rfl) B.max (by decide +kernel) (pa_cons (pe_op op_sub (pv 2) (pe_bits (pe_ix ix_seq (pv 0) (pv 3) (fun _ _ => rfl)))) (pa_cons pe_int pa_nil))) (pv 3)) pe_int)) pa_nil)))), ?_⟩
    refine ⟨_, rfl, g, rfl, _, _, rfl, rfl, _, rfl, a, _, rfl, .inr ha, _, _, rfl, ⟨by decide, by decide, by rw [iv_len]; omega, by rw [iv_len]; omega⟩, fun D hD => ?_⟩
    have en : ((((iv ns).length : Nat) : Int) - 1).toNat = ns.length - 1 := by
      rw [iv_len]
      omega
    refine lc_range (fun i H' => Same H H' ∧ H' D = some (.lst (iv (dgs g ns i)))) ⟨same_new hD, upd_same⟩ (fun i H' hi hV => ?_) fun H' hV => ?_
    · obtain ⟨s1, hD1⟩ := hV
      rw [en] at hi
      have at_ : ∀ {Q : VK}, Q (.int (ns.getD (i + 1) 0)) H' → rIx K (.ref a) (.int (1 + i)) H' Q := fun q => ix_K (k := false) (i := i + 1) (by omega) (sqT_same s1 ha) (by omega) q
      refine ⟨rfl, _, rfl, _, rfl, at_ ⟨_, _, rfl, rfl, _, rfl, ?_⟩⟩
      rw [dgs_succ]
      by_cases c : 0 < ns.getD (i + 1) 0
      · refine if_yes (decide_eq_true c) ?_
        rw [if_pos c]
        refine ⟨_, rfl, _, rfl, _, rfl, at_ ⟨_, rfl, _, _, rfl, rfl, _, _, rfl, _, rfl, _, _, rfl, rfl, ⟨by omega, by omega⟩, _, _, rfl, rfl, _, hD1, ?_, ?_, ?_⟩⟩
        · have := dgs_len g ns i
          rw [iv_len, sizeLine_eq]
          omega
        · exact upd_keep hD s1
        · rw [upd_same, iv_app]
          congr 5
          have e1 : (if (0 : Int) > ((BL g : Nat) : Int) + 1 - ((BL (ns.getD (i + 1) 0) : Nat) : Int) then 0 else ((BL g : Nat) : Int) + 1 - ((BL (ns.getD (i + 1) 0) : Nat) : Int)) = ((BL g + 1 - BL (ns.getD (i + 1) 0) : Nat) : Int) := by
            split <;> omega
          have e2 : (1 + (i : Int)) = ((i + 1 : Nat) : Int) := by omega
          show (if (0 : Int) > ((BL g : Nat) : Int) + 1 - ((BL (ns.getD (i + 1) 0) : Nat) : Int) then 0 else ((BL g : Nat) : Int) + 1 - ((BL (ns.getD (i + 1) 0) : Nat) : Int)) / (1 + (i : Int)) + 1 = _
          rw [e1, e2]
          exact congrArg (fun z : Int => z + 1) (Int.natCast_ediv _ _).symm
      · refine if_no (by simpa using c) ?_
        rw [if_neg c]
        exact ⟨s1, hD1⟩
    · obtain ⟨s1, hD1⟩ := hV
      rw [en] at hD1
      have inn : ((dg g (ns.getD i0 0) i0 : Nat) : Int) ∈ dgs g ns (ns.length - 1) := dgs_mem.mpr ⟨i0 - 1, by omega, by rw [Nat.sub_add_cancel p1]; exact p3, by rw [Nat.sub_add_cancel p1]⟩
      refine ⟨D, _, rfl, .inl (.inl hD1), List.length_pos_of_mem inn, fun m hm hmin => ?_⟩
      obtain ⟨j, j1, j2, rfl⟩ := dgs_mem.mp hm
      refine k _ H' s1 ⟨j + 1, by omega, by omega, j2, rfl⟩ fun i q1 q2 q3 => ?_
      have z := hmin _ (dgs_mem.mpr ⟨i - 1, by omega, by rw [Nat.sub_add_cancel q1]; exact q3, rfl⟩)
      rw [Nat.sub_add_cancel q1] at z
      exact Int.ofNat_le.mp z
end
end Qp

/-! a place near the least one -/
namespace Qp
open PySem PySem.Spec PyProof.Rows L2 QN
theorem walk_enumT {K : PySem.W.Frag} {a : Addr} {xs : List V} : Walk (IteT K a) xs.length (fun H => SqT K H a xs) (YPair (fun i => some (.int (i : Nat))) (fun i => xs[i]?)) := by
  refine ⟨fun i _ hi q => ⟨xs, xs[i], q, by simp [hi]⟩, fun _ q => ⟨xs, q, Nat.le_refl _⟩, fun i H v H' _ q y => ?_⟩
  obtain ⟨T, x, h1, h2, h3, h4⟩ := y
  exact ⟨T, .int (i : Nat), x, h1, h2, h3, rfl, h4 xs q⟩
/-- enumerate of a list, or of a tuple -/
def iEnumK (k : Bool) (K : PySem.W.Frag) (ta : TA) : TI := match k with
  | true => iEnum K ta
  | false => iEnumT K ta
theorem pi_enumK (k : Bool) {X : Cx} {e : Expr} {ta : TA} {p pos tpos : Pos} {elts : List Expr} {kk : Nat} (hg : Gl X "enumerate") (hm : X.mg "enumerate" = none) (ha : PA X [e] ta) (hs : starEach [e] X.env = [(false, eval e X.env)] := by rfl) :
    PI X (.Tuple elts kk tpos) (.Call (.Name "enumerate" p) [e] [] pos) (iEnumK k X.K ta) := by
  cases k with
  | true => exact pi_enum hg hm ha hs
  | false => exact pi_enumT hg hm ha hs
theorem enK {k : Bool} {K : PySem.W.Frag} {σ : L2.St} {i : Nat} {H : Hp} {a : Addr} {xs : List V} {R : It → Hp → Prop} (hi : σ[i]? = some (some (.ref a))) (h : SqK k K H a xs)
    (r : ∀ J, Walk J xs.length (fun H => SqK k K H a xs) (YPair (fun i => some (.int (i : Nat))) (fun i => xs[i]?)) → R J H) : iEnumK k K (tCons (tVar i) tNil) σ H R := by
  cases k with
  | true => exact ⟨_, hi, a, xs, rfl, h, r _ walk_enum⟩
  | false => exact ⟨_, hi, a, xs, rfl, h, r _ walk_enumT⟩
theorem nearR_small {d lost G many : Nat} (hd : 2 ≤ d) (hd5 : d ≤ 5) (hl : 2 ≤ lost) (hl5 : lost ≤ 5) (hG : G ≤ 3000) (hm : d * many ≤ 3100) : nearR d lost G many ≤ 3200 ∧ (3 * lost < many → (d + 1) * (many - (many - lost) / 2) + lost + 1 + (many - lost) / 2 ≤ 3199) := by
  have m2 : 2 * many ≤ d * many := Nat.mul_le_mul_right _ hd
  have key : 3 * lost < many → (d + 1) * (many - (many - lost) / 2) + lost + 1 + (many - lost) / 2 ≤ 3199 := fun h => by
    generalize hc : (many - lost) / 2 = cut at *
    have e : (d + 1) * (many - cut) = d * (many - cut) + (many - cut) := by rw [Nat.add_mul, Nat.one_mul]
    have h2 : 2 * (many - cut) ≤ many + 6 := by omega
    have h3 : d * (2 * (many - cut)) ≤ d * (many + 6) := Nat.mul_le_mul_left _ h2
    rw [Nat.mul_add, Nat.mul_left_comm] at h3
    have h4 : d * 6 ≤ 30 := by omega
    omega
  refine ⟨?_, key⟩
  unfold nearR
  split
  · omega
  · have := key (by omega)
    omega
/-- the step by the slope divides well -/
theorem divP {V g x s : Int} (hs : 1 ≤ s) (h0 : 0 ≤ V) (h1 : V ≤ x * s) (hx : 0 ≤ x) (hg : 0 ≤ g) (bx : BL x ≤ 3900) (bg : BL g ≤ 3900) : CDivP (V - g) s := by
  refine divp_ok (by omega) ?_
  have a : BL V ≤ BL x + BL s := by
    apply (bl_lt h0).mpr
    rw [Int.pow_add]
    have p := bl_self hx
    have q := bl_self (x := s) (by omega)
    have r : x * s < 2 ^ BL x * 2 ^ BL s := by
      refine Int.lt_of_lt_of_le (Int.mul_lt_mul_of_pos_right p (by omega)) (Int.mul_le_mul_of_nonneg_left (Int.le_of_lt q) (Int.le_of_lt (two_pos _)))
    omega
  have b : (V - g).natAbs ≤ max V.natAbs g.natAbs := by omega
  have c : BL (V - g) ≤ max (BL V) (BL g) := by
    apply bl_le.mpr
    have p := bl_le.mp (Nat.le_refl (BL V))
    have q := bl_le.mp (Nat.le_refl (BL g))
    have p2 := Nat.pow_le_pow_right (show 2 > 0 by decide) (Nat.le_max_left (BL V) (BL g))
    have q2 := Nat.pow_le_pow_right (show 2 > 0 by decide) (Nat.le_max_right (BL V) (BL g))
    omega
  show BL (V - g) ≤ BL s + 4000
  omega
theorem bl_add {x y : Int} {n : Nat} (hx : 0 ≤ x) (hy : 0 ≤ y) (bx : BL x ≤ n) (by' : BL y ≤ n) : BL (x + y) ≤ n + 1 := by
  apply (bl_lt (by omega)).mpr
  have a := (bl_lt hx).mp bx
  have b := (bl_lt hy).mp by'
  rw [Int.pow_succ]
  omega
/-- values at a place below 2 ^ 3900 -/
theorem fitP {S d : Nat} {r : List Int} {x : Int} (hb : Bdd S r) (s0 : 0 < S) (hS : S ≤ 20003) (hl : r.length ≤ 6) (hx : 0 ≤ x) (bx : BL x ≤ 3900) : FitV r x := by
  refine ⟨hx, S, 3900, hb, (bl_lt hx).mp bx, s0, by decide, ?_⟩
  have : r.length * (3900 + 1) ≤ 6 * 3901 := Nat.mul_le_mul_right _ hl
  omega
theorem slo_bdd {S : Nat} {r : List Int} (hb : Bdd S r) (hl : r.length ≤ 8) : Bdd (S + 3) (sloR r) := fun c hc => ⟨sloR_nn hb.nn c hc, sloR_lt hb.nn (fun x hx => (hb x hx).2) hl c hc⟩
abbrev sNear : Stmt := top 25 -- _near_place
abbrev nearNames : List Str := ["coefficients", "goal", "many", "degree", "lost", "cut", "less", "coarse", "place", "at", "number"]
theorem scNear : FnScope nearNames ["coefficients", "goal", "many"] (defScope sNear) := ⟨rfl, rfl, rfl, by decide +kernel, rfl, by decide +kernel, by decide +kernel⟩
/-- the lost digits -/
def lostD (d : Nat) : Nat := BL ((d + 1 : Nat) : Int) + 2
def nearB (d G many : Nat) : Nat := if d = 1 then 1 else nearR d (lostD d) G many
/-- _near_place, at most n deep -/
def spNear (K : PySem.W.Frag) (k : Bool) : Nat → Sp
  | 0 => fun _ _ _ _ => False
  | n + 1 => fun vs H Q _ => ∃ (a : Addr) (r : List Int) (g : Int) (many S d : Nat), vs = [.ref a, .int g, .int (many : Int)] ∧ SqK k K H a (iv r) ∧ r.length = d + 1 ∧ 1 ≤ d ∧ d ≤ 5 ∧ NearI r g many ∧ NearS S r many ∧ 0 < S ∧ S ≤ 20000 ∧ BL g ≤ 3000 ∧ d * many ≤ 3100 ∧ many ≤ lostD d + 2 ^ n ∧
    ∀ (x : Int) (H' : Hp), Same H H' → 1 ≤ x → BL x ≤ nearB d (BL g) many → Q (.int x) H'
theorem lostD_small {d : Nat} (h1 : 1 ≤ d) (h5 : d ≤ 5) : 4 ≤ lostD d ∧ lostD d ≤ 5 := by
  have e : d = 1 ∨ d = 2 ∨ d = 3 ∨ d = 4 ∨ d = 5 := by omega
  rcases e with rfl | rfl | rfl | rfl | rfl <;> decide +kernel
section
variable {P : Program} {w : World} {K : PySem.W.Frag} {mg : Str → Option Value} {base : Heap}
theorem ok_near0 {kk : Bool} {f : Addr} {fd : FuncData} (F : Fun K "_near_place" "_near_place" sNear f fd) : FnOk P w K mg base CX0 3 f fd ["coefficients", "goal", "many"] (spNear K kk 0) :=
  F.ok scNear (fun vs H Q E h => h.elim) (fun cdv A outer s H vs Q E hr h => h.elim)
theorem ok_near1 {n : Nat} {kk : Bool} {f fV fS fH fL fW fF fN : Addr} {fd fdV fdS fdH fdL fdW fdF fdN : FuncData} (F : Fun K "_near_place" "_near_place" sNear f fd)
    (GV : ∀ kk, FnOk P w K mg base CX0 1 fV fdV ["coefficients", "n"] (spVal K kk)) (kV : PySem.W.keepIn K (.ref fV) = true) (bV : L2.Binds K fdV ["coefficients", "n"] []) (gV : mg "_value" = some (.ref fV))
    (GS : FnOk P w K mg base CX0 1 fS fdS ["coefficients"] (spSlo K kk)) (kS : PySem.W.keepIn K (.ref fS) = true) (bS : L2.Binds K fdS ["coefficients"] []) (gS : mg "_slopes" = some (.ref fS))
    (GH : FnOk P w K mg base CX0 2 fH fdH ["coefficients", "goal", "many"] (spHal K kk)) (kH : PySem.W.keepIn K (.ref fH) = true) (bH : L2.Binds K fdH ["coefficients", "goal", "many"] []) (gH : mg "_least_by_halves" = some (.ref fH))
    (GL : FnOk P w K mg base CX0 1 fL fdL ["coefficients"] (spLost K)) (kL : PySem.W.keepIn K (.ref fL) = true) (bL : L2.Binds K fdL ["coefficients"] []) (gL : mg "_lost_digits" = some (.ref fL))
    (GW : FnOk P w K mg base CX0 2 fW fdW ["coefficients"] (spFew K)) (kW : PySem.W.keepIn K (.ref fW) = true) (bW : L2.Binds K fdW ["coefficients"] []) (gW : mg "_few_digits" = some (.ref fW))
    (GF : FnOk P w K mg base CX0 1 fF fdF ["number", "by"] spShf) (kF : PySem.W.keepIn K (.ref fF) = true) (bF : L2.Binds K fdF ["number", "by"] []) (gF : mg "_shifted" = some (.ref fF))
    (GN : FnOk P w K mg base CX0 (n + 3) fN fdN ["coefficients", "goal", "many"] (spNear K true n)) (kN : PySem.W.keepIn K (.ref fN) = true) (bN : L2.Binds K fdN ["coefficients", "goal", "many"] []) (gN : mg "_near_place" = some (.ref fN)) (B : BltN mg) :
    FnOk P w K mg base CX0 (n + 4) f fd ["coefficients", "goal", "many"] (spNear K kk (n + 1)) := by
  refine F.ok scNear (fun vs H Q E h => ?_) (fun cdv A outer s H vs Q E hr h => ?_)
  · obtain ⟨a, r, g, many, S, d, rfl, _⟩ := h
    rfl
  · obtain ⟨a, r, g, many, S, d, rfl, ha, hd, d1, d5, NI, NS, s0, hS, hG, hm, hn, k⟩ := h
    have r1 := hr.mono (by omega : 1 ≤ n + 3)
    have r2 := hr.mono (by omega : 2 ≤ n + 3)
    refine ⟨_, pss_cons (ps_set (i := 3) scNear.nd rfl (.inl rfl) (pe_op op_sub (pe_callB call_len_seq (by rfl) B.len PySem.boot_len (pa_cons (pv 0) pa_nil)) pe_int))
      (pss_cons (ps_if (pt_cmpR op_eq (pv 3) pe_int (nomark _)) (pss_one (ps_ret pe_int)) pss_nil)
      (pss_cons (ps_if (pt_cmpR op_le (pv 2) (pe_call GW r2 (by rfl) gW kW bW .nil pass0 (pa_cons (pv 0) pa_nil)) (nomark _)) (pss_one (ps_ret (pe_call GH r2 (by rfl) gH kH bH .nil pass0 (pa_cons (pv 0) (pa_cons (pv 1) (pa_cons (pe_op op_add (pv 2) pe_int) pa_nil)))))) pss_nil)
      (pss_cons (ps_set (i := 4) scNear.nd rfl (.inl rfl) (pe_call GL r1 (by rfl) gL kL bL .nil pass0 (pa_cons (pv 0) pa_nil)))
      (pss_cons (ps_set (i := 5) scNear.nd rfl (.inr rfl) (pe_op op_fdiv (pe_op op_sub (pv 2) (pv 4)) pe_int))
      (pss_cons (ps_set (i := 6) scNear.nd rfl (.inr rfl) (pe_callB (call_max2 rfl) (by rfl) B.max (by decide +kernel) (pa_cons (pe_op op_sub (pe_op op_sub (pe_bits (pv 1)) (pe_op op_mul (pe_op op_add (pv 3) pe_int) (pe_op op_sub (pv 2) (pv 5)))) (pv 4)) (pa_cons pe_int pa_nil))))
      (pss_cons (ps_setLc (i := 7) (own := [("at", 9), ("number", 10)]) (g := gTup K 2 (gCons (gName 9) (gCons (gName 10) gNil))) (tt := tYes) rfl scNear.nd rfl rfl (sw_true rfl rfl rfl (by decide +kernel)) (pi_enumK kk (by rfl) B.en (pa_cons (pv 0) pa_nil))
        (blkOk_by (N := nearNames) (sc := defScope sNear) (by decide +kernel)) (fun _ _ _ _ _ => pg_tup rfl (pgs_cons (pg_name (i := 9) scNear.nd rfl (.inl rfl) (hf := .inr rfl)) (pgs_cons (pg_name (i := 10) scNear.nd rfl (.inl rfl) (hf := .inr rfl)) pgs_nil)))
        (fun _ _ _ _ _ => pts_nil) (fun _ _ _ _ _ => pe_call GF r1 (by rfl) gF kF bF .nil pass0 (pa_cons (pv 10) (pa_cons (pe_op op_sub (pe_op op_mul (pv 5) (pv 9)) (pv 6)) pa_nil))))
      (pss_cons (ps_set (i := 8) scNear.nd rfl (.inl rfl) (pe_op op_shlN (pe_call GN hr (by rfl) gN kN bN .nil pass0 (pa_cons (pv 7) (pa_cons (pe_op op_shrN (pv 1) (pv 6)) (pa_cons (pe_op op_sub (pv 2) (pv 5)) pa_nil)))) (pv 5)))
      (pss_one (ps_ret (pe_op op_sub (pv 8) (pe_op op_fdivP (pe_op op_sub (pe_call (GV kk) r1 (by rfl) gV kV bV .nil pass0 (pa_cons (pv 0) (pa_cons (pv 8) pa_nil))) (pv 1)) (pe_call (GV true) r1 (by rfl) gV kV bV .nil pass0 (pa_cons (pe_call GS r1 (by rfl) gS kS bS .nil pass0 (pa_cons (pv 0) pa_nil)) (pa_cons (pv 8) pa_nil)))))))))))))), ?_⟩
    have hlen : (iv r).length = d + 1 := by rw [iv_len]; exact hd
    have L4 := (lostD_small d1 d5).1
    have L5 := (lostD_small d1 d5).2
    have hb : Bdd S r := fun c hc => ⟨NI.nn c hc, NS.lt NI.nn hc⟩
    have g1 := NI.g1
    have e1 : (((iv r).length : Nat) : Int) - 1 = (d : Int) := by rw [hlen]; omega
    -- degree
    refine ⟨_, rfl, a, _, rfl, sqK_or ha, _, _, rfl, rfl, ?_⟩
    dsimp only
    rw [e1]
    refine ⟨_, rfl, rfl, _, rfl, ?_⟩
    by_cases z1 : d = 1
    · refine if_yes (by simp; omega) ?_
      exact k 1 H (Same.refl _) (by decide) (by unfold nearB; rw [if_pos z1]; decide)
    refine if_no (by simp; omega) ?_
    have d2 : 2 ≤ d := by omega
    have hB : ∀ x, x ≤ nearR d (lostD d) (BL g) many → x ≤ nearB d (BL g) many := fun x h => by unfold nearB; rw [if_neg z1]; exact h
    -- few
    have e2 : BL (((iv r).length : Nat) : Int) + 2 = lostD d := by rw [hlen]; rfl
    refine ⟨_, rfl, _, rfl, a, _, rfl, sqK_or ha, _, _, rfl, rfl, _, rfl, ?_⟩
    by_cases z2 : many ≤ 3 * lostD d
    · refine if_yes (decide_eq_true (by omega)) ?_
      refine ⟨_, rfl, _, rfl, _, rfl, _, _, rfl, rfl, a, r, g, many + 1, S, rfl, ha, hb, s0, ?_, fun h H' s1 h1 h2 _ _ => ?_⟩
      · have : r.length * (many + 1 + 2) ≤ 6 * (3 * 5 + 3) := Nat.mul_le_mul (by omega) (by omega)
        omega
      · refine k h H' s1 h1 (hB _ ?_)
        unfold nearR
        rw [if_pos z2]
        apply (bl_lt (by omega)).mpr
        have := two_pos (many + 1)
        rw [show many + 2 = many + 1 + 1 from rfl, Int.pow_succ]
        omega
    refine if_no (by simp; omega) ?_
    -- lost, cut
    obtain ⟨sm1, sm2⟩ := nearR_small d2 d5 (by omega) L5 hG hm
    have nR : nearR d (lostD d) (BL g) many = max (BL g) ((d + 1) * (many - (many - lostD d) / 2) + lostD d + 1 + (many - lostD d) / 2) + 1 := by
      unfold nearR
      rw [if_neg z2]
    have sm2 := sm2 (by omega)
    have sh := NI.coarse (lost := lostD d) (cut := (many - lostD d) / 2) hd (by omega)
    obtain ⟨cut, hcut⟩ : ∃ cut, cut = (many - lostD d) / 2 := ⟨_, rfl⟩
    rw [← hcut] at nR sm2 sh
    obtain ⟨less, hless⟩ : ∃ less, less = BL g - ((d + 1) * (many - cut) + lostD d) := ⟨_, rfl⟩
    rw [← hless] at sh
    have cm : cut < many := by omega
    have c1 : 1 ≤ cut := by omega
    have ecut : ((many : Int) - (lostD d : Nat)) / 2 = (cut : Int) := by omega
    refine ⟨_, rfl, a, _, rfl, sqK_or ha, ?_⟩
    dsimp only
    rw [e2]
    refine ⟨_, rfl, _, rfl, _, _, rfl, rfl, _, _, rfl, rfl, ⟨by decide, by decide⟩, ?_⟩
    dsimp only
    rw [ecut]
    -- less
    refine ⟨_, rfl, g, rfl, _, rfl, _, _, rfl, rfl, _, rfl, _, rfl, _, _, rfl, rfl, _, _, rfl, rfl, .inl ⟨by omega, by omega⟩, _, _, rfl, rfl, _, rfl, _, _, rfl, rfl, _, _, rfl, ?_⟩
    dsimp only
    have eless : (if (0 : Int) > ((BL g : Nat) : Int) - ((d : Int) + 1) * ((many : Int) - (cut : Nat)) - (lostD d : Nat) then 0 else ((BL g : Nat) : Int) - ((d : Int) + 1) * ((many : Int) - (cut : Nat)) - (lostD d : Nat)) = (less : Int) := by
      have e : ((d : Int) + 1) * ((many : Int) - (cut : Nat)) = (((d + 1) * (many - cut) : Nat) : Int) := by
        rw [Int.natCast_mul, Int.ofNat_sub (Nat.le_of_lt cm)]
        rfl
      rw [e]
      split <;> omega
    rw [eless]
    -- coarse
    refine enK rfl ha fun J wJ D hD => ?_
    refine lc_it wJ (fun i H' => Same H H' ∧ H' D = some (.lst (iv ((List.range i).map fun i => shZ (r.getD i 0) (((cut * i : Nat) : Int) - less))))) ⟨same_new hD, upd_same⟩ (fun i H' _ hV => sqK_same hV.1 ha) ?_ ?_
    · rintro i x H1 H2 hi ⟨s1, hD1⟩ ⟨T, u, v, rfl, hT, rfl, eu, ev⟩
      cases eu
      rw [hlen] at hi
      have ev : (iv r)[i]? = some v := ev
      rw [iv_at (by omega)] at ev
      cases ev
      have c0 := NI.nn.getD i
      refine ⟨T, _, rfl, .inl (.inl upd_same), rfl, _, _, rfl, _, _, rfl, rfl, rfl, yes_if ?_⟩
      have em : (cut : Int) * (i : Int) = ((cut * i : Nat) : Int) := (Int.natCast_mul _ _).symm
      refine ⟨_, rfl, _, rfl, _, rfl, _, _, rfl, rfl, .inl ⟨by omega, by omega⟩, _, rfl, _, _, rfl, rfl, r.getD i 0, (cut : Int) * (i : Int) - (less : Int), rfl, fun hp => ⟨by omega, ?_⟩, _, (same_new hT) _ _ hD1, ?_, ?_, ?_⟩
      · have b1 := NS i _ (get_of (by omega))
        have b2 : cut * i ≤ cut * 5 := Nat.mul_le_mul_left _ (by omega)
        have b3 : (2 : Int) ^ 27 = 134217728 := by decide
        show ((BL (r.getD i 0) : Nat) : Int) + _ ≤ _
        omega
      · rw [iv_len, List.length_map, List.length_range, sizeLine_eq]
        omega
      · exact upd_keep hD (s1.trans (same_new hT))
      · rw [upd_same, List.range_succ, List.map_append, iv_app, em]
        rfl
    · rintro H1 ⟨s1, hD1⟩
      rw [hlen] at hD1
      have hD1 : H1 D = some (.lst (iv (coarse r cut less))) := by
        unfold coarse
        rw [hd]
        exact hD1
      have i2 : ((many - cut : Nat) : Int) = (many : Int) - (cut : Int) := Int.ofNat_sub (Nat.le_of_lt cm)
      have GL' := bl_shr (x := g) (by omega) less
      refine ⟨_, rfl, _, rfl, _, rfl, g, less, rfl, rfl, _, rfl, _, rfl, _, _, rfl, rfl, ?_⟩
      cases n with
      | zero => exact absurd hn (by show ¬ many ≤ lostD d + 1; omega)
      | succ n =>
        refine ⟨D, coarse r cut less, g / 2 ^ less, many - cut, S, d, by rw [i2]; rfl, .inl (.inl hD1), by rw [coarse_len]; exact hd, d1, d5, sh, NS.coarse NI.nn (Nat.le_of_lt cm), s0, hS, by omega, ?_, ?_, fun x H2 s2 x1 bx => ?_⟩
        · exact Nat.le_trans (Nat.mul_le_mul_left _ (Nat.sub_le _ _)) hm
        · have : 2 ^ (n + 1) = 2 ^ n * 2 := Nat.pow_succ _ _
          omega
        have bx2 : BL x ≤ nearR d (lostD d) (BL (g / 2 ^ less)) (many - cut) := by
          unfold nearB at bx
          rw [if_neg z1] at bx
          exact bx
        have bx3 := Nat.le_trans bx2 (nearR_le d2 (by omega))
        have bX := bl_shl x1 cut
        have X1 : 1 ≤ x * 2 ^ cut := by
          have := Int.mul_le_mul x1 (show (1 : Int) ≤ 2 ^ cut by have := two_pos cut; omega) (by decide) (by omega)
          omega
        have pl : CShl x (cut : Int) := by
          refine ⟨by omega, ?_⟩
          have b3 : (2 : Int) ^ 27 = 134217728 := by decide
          show ((BL x : Nat) : Int) + _ ≤ _
          omega
        obtain ⟨X, hX⟩ : ∃ X, X = x * 2 ^ cut := ⟨_, rfl⟩
        rw [← hX] at bX X1
        have bX9 : BL X ≤ 3900 := by omega
        have hl6 : r.length ≤ 6 := by omega
        have hb2 := slo_bdd hb (by omega)
        have sl6 : (sloR r).length ≤ 6 := by rw [sloR_eq, slopeZ_len]; omega
        have es := val_sloR r X
        have hs := NI.slo X1
        have nw := newton (g := g) NI.nn (by rw [val_zero]; exact NI.z) X1 g1 es.symm (by rw [es]; exact hs)
        rw [← es] at hs
        refine ⟨_, rfl, x, cut, rfl, rfl, pl, ?_⟩
        dsimp only
        rw [← hX]
        refine ⟨_, rfl, _, rfl, _, rfl, a, r, X, rfl, sqK_same (s1.trans s2) ha, fitP (d := 0) hb s0 (by omega) hl6 (by omega) bX9, fun H3 s3 => ⟨_, rfl, _, _, rfl, rfl, _, rfl, a, r, rfl, sqK_same (s1.trans (s2.trans s3)) ha, by omega, fun q H4 s4 hq => ?_⟩⟩
        refine ⟨_, rfl, q, sloR r, X, rfl, .inl (.inl hq), fitP (d := 0) hb2 (by omega) (by omega) sl6 (by omega) bX9, fun H5 s5 => ?_⟩
        refine ⟨_, _, rfl, rfl, divP hs (val_nn0 (by omega) NI.nn) nw.2.2.2.2 (by omega) (by omega) bX9 (by omega), _, _, rfl, rfl, ?_⟩
        refine k _ H5 (s1.trans (s2.trans (s3.trans (s4.trans s5)))) nw.1 (hB _ ?_)
        rw [nR]
        refine Nat.le_trans (bl_mono (by omega) nw.2.2.1) (bl_add (by omega) (by omega) ?_ (Nat.le_max_left _ _))
        refine Nat.le_trans ?_ (Nat.le_max_right _ _)
        omega
end
end Qp

/-! the least place -/
namespace Qp
open PySem PySem.Spec PyProof.Rows L2 QN
abbrev sLP : Stmt := top 21 -- _least_place
theorem scLP : FnScope ["coefficients", "goal", "raised", "missing", "slopes", "many", "at", "step"] ["coefficients", "goal"] (defScope sLP) := ⟨rfl, rfl, rfl, by decide +kernel, rfl, by decide +kernel, by decide +kernel⟩
def spLP (K : PySem.W.Frag) : Sp := fun vs H Q _ => ∃ (a : Addr) (ns : List Int) (g : Int), vs = [.ref a, .int g] ∧ SqT K H a (iv ns) ∧ (∀ c ∈ ns, okC c) ∧ cutZ ns = ns ∧ ns.length ≤ 6 ∧ 2 ≤ ns.length ∧ val ns 0 < g ∧ g < 2 ^ 3000 ∧
  ∀ (n : Int) (H' : Hp), Same H H' → 1 ≤ n → g ≤ val ns n → val ns (n - 1) < g → Q (.int n) H'
/-- what is asked of the place, without the constant -/
theorem raised_ok {c g : Int} {rest : List Int} (hc : ∀ x ∈ c :: rest, okC x) (hcut : cutZ (c :: rest) = c :: rest) (hl : (c :: rest).length ≤ 6) (h2 : 2 ≤ (c :: rest).length) (h0 : c < g) (hg : g < 2 ^ 3000) :
    1 ≤ g - c ∧ BL (g - c) ≤ 3000 ∧ NN (0 :: rest) ∧ 1 ≤ (0 :: rest).getD ((0 :: rest).length - 1) 0 := by
  have c0 := (hc c List.mem_cons_self).1
  refine ⟨by omega, (bl_lt (by omega)).mpr (by omega), fun x hx => ?_, ?_⟩
  · rcases List.mem_cons.mp hx with rfl | hx
    · exact Int.le_refl 0
    · exact (hc x (List.mem_cons_of_mem _ hx)).1
  · rcases cut_last (c :: rest) with e | ⟨r, x, e, nx⟩
    · rw [hcut] at e
      cases e
    · rw [hcut] at e
      cases r with
      | nil =>
        rw [e] at h2
        exact absurd h2 (by simp)
      | cons y r =>
        have e2 : rest = r ++ [x] := by
          have z := List.tail_eq_of_cons_eq e
          exact z
        subst e2
        have x0 := (hc x (by simp)).1
        show 1 ≤ (0 :: (r ++ [x])).getD ((r ++ [x]).length + 1 - 1) 0
        rw [Nat.add_sub_cancel, List.length_append, List.getD_eq_getElem?_getD]
        have : (0 :: (r ++ [x]))[r.length + [x].length]? = some x := by
          show (0 :: (r ++ [x]))[r.length + 1]? = some x
          rw [List.getElem?_cons_succ, List.getElem?_append_right (Nat.le_refl _), Nat.sub_self]
          rfl
        rw [this]
        show 1 ≤ x
        omega
theorem val_raised (c : Int) (rest : List Int) (n : Int) : val (c :: rest) n = val (0 :: rest) n + c := by
  rw [val_cons, val_cons]
  omega
theorem near_ok {r : List Int} {m : Int} {many : Nat} (nn : NN r) (z : r.getD 0 0 = 0) (m1 : 1 ≤ m) (hm : BL m ≤ 3000) (hl : r.length ≤ 6) (h2 : 2 ≤ r.length) (last : 1 ≤ r.getD (r.length - 1) 0) (lt : ∀ c ∈ r, c < 2 ^ 70)
    (ex : ∃ i, 1 ≤ i ∧ i < r.length ∧ 0 < r.getD i 0 ∧ many = dg m (r.getD i 0) i) (le : ∀ i, 1 ≤ i → i < r.length → 0 < r.getD i 0 → many ≤ dg m (r.getD i 0) i) :
    NearI r m many ∧ NearS 3200 r many ∧ (r.length - 1) * many ≤ 3100 := by
  obtain ⟨i, i1, i2, i3, e⟩ := ex
  have d := le (r.length - 1) (by omega) (by omega) (by omega)
  have b := bl_one last
  have key : (r.length - 1) * many ≤ 3005 := by
    have z1 : (r.length - 1) * many ≤ (r.length - 1) * dg m (r.getD (r.length - 1) 0) (r.length - 1) := Nat.mul_le_mul_left _ d
    unfold dg at z1
    rw [Nat.mul_add, Nat.mul_one] at z1
    have z2 := Nat.mul_div_le (BL m + 1 - BL (r.getD (r.length - 1) 0)) (r.length - 1)
    omega
  refine ⟨⟨nn, z, m1, i, _, i1, get_of i2, by omega, digits_ex i1 e⟩, fun k c hc => ?_, by omega⟩
  have hk := (List.getElem?_eq_some_iff.mp hc).1
  have c0 := nn c (List.mem_of_getElem? hc)
  have b1 : BL c ≤ 70 := (bl_lt c0).mpr (lt c (List.mem_of_getElem? hc))
  have b2 : many * k ≤ (r.length - 1) * many := by
    rw [Nat.mul_comm]
    exact Nat.mul_le_mul_right _ (by omega)
  omega
section
variable {P : Program} {w : World} {K : PySem.W.Frag} {mg : Str → Option Value} {base : Heap}
theorem ok_lp {f fV fS fH fW fD fN : Addr} {fd fdV fdS fdH fdW fdD fdN : FuncData} (F : Fun K "_least_place" "_least_place" sLP f fd)
    (GV : ∀ kk, FnOk P w K mg base CX0 1 fV fdV ["coefficients", "n"] (spVal K kk)) (kV : PySem.W.keepIn K (.ref fV) = true) (bV : L2.Binds K fdV ["coefficients", "n"] []) (gV : mg "_value" = some (.ref fV))
    (GS : FnOk P w K mg base CX0 1 fS fdS ["coefficients"] (spSlo K false)) (kS : PySem.W.keepIn K (.ref fS) = true) (bS : L2.Binds K fdS ["coefficients"] []) (gS : mg "_slopes" = some (.ref fS))
    (GH : FnOk P w K mg base CX0 2 fH fdH ["coefficients", "goal", "many"] (spHal K false)) (kH : PySem.W.keepIn K (.ref fH) = true) (bH : L2.Binds K fdH ["coefficients", "goal", "many"] []) (gH : mg "_least_by_halves" = some (.ref fH))
    (GW : FnOk P w K mg base CX0 2 fW fdW ["coefficients"] (spFew K)) (kW : PySem.W.keepIn K (.ref fW) = true) (bW : L2.Binds K fdW ["coefficients"] []) (gW : mg "_few_digits" = some (.ref fW))
    (GD : FnOk P w K mg base CX0 1 fD fdD ["coefficients", "goal"] (spDig K)) (kD : PySem.W.keepIn K (.ref fD) = true) (bD : L2.Binds K fdD ["coefficients", "goal"] []) (gD : mg "_binary_digits" = some (.ref fD))
    (GN : FnOk P w K mg base CX0 16 fN fdN ["coefficients", "goal", "many"] (spNear K false 13)) (kN : PySem.W.keepIn K (.ref fN) = true) (bN : L2.Binds K fdN ["coefficients", "goal", "many"] []) (gN : mg "_near_place" = some (.ref fN)) :
    FnOk P w K mg base CX0 17 f fd ["coefficients", "goal"] (spLP K) := by
  refine F.ok scLP (fun vs H Q E h => ?_) (fun cdv A outer s H vs Q E hr h => ?_)
  · obtain ⟨a, ns, g, rfl, _⟩ := h
    rfl
  · obtain ⟨a, ns, g, rfl, ha, hc, hcut, hl, h2, h0, hg, k⟩ := h
    have r1 := hr.mono (by decide : 1 ≤ 16)
    have r2 := hr.mono (by decide : 2 ≤ 16)
    refine ⟨_, pss_cons (ps_par (i := 2) (j := 3) rfl scLP.nd rfl rfl (by decide) rfl rfl (pa_cons (pe_op op_catA (pe_tup (pa_cons pe_int pa_nil)) (pe_slice sl_tupA (pv 0) (po_some pe_int) po_none)) (pa_cons (pe_op op_sub (pv 1) (pe_ix ix_tup (pv 0) pe_int (fun _ _ => rfl))) pa_nil)) rfl)
      (pss_cons (ps_set (i := 4) scLP.nd rfl (.inl rfl) (pe_call GS r1 (by rfl) gS kS bS .nil pass0 (pa_cons (pv 2) pa_nil)))
      (pss_cons (ps_set (i := 5) scLP.nd rfl (.inl rfl) (pe_call GD r1 (by rfl) gD kD bD .nil pass0 (pa_cons (pv 2) (pa_cons (pv 3) pa_nil))))
      (pss_cons (ps_if (pt_cmpR op_le (pv 5) (pe_call GW r2 (by rfl) gW kW bW .nil pass0 (pa_cons (pv 2) pa_nil)) (nomark _)) (pss_one (ps_ret (pe_call GH r2 (by rfl) gH kH bH .nil pass0 (pa_cons (pv 2) (pa_cons (pv 3) (pa_cons (pv 5) pa_nil)))))) pss_nil)
      (pss_cons (ps_set (i := 6) scLP.nd rfl (.inl rfl) (pe_call GN hr (by rfl) gN kN bN .nil pass0 (pa_cons (pv 2) (pa_cons (pv 3) (pa_cons (pv 5) pa_nil)))))
      (pss_cons (ps_set (i := 7) scLP.nd rfl (.inl rfl) pe_int)
      (pss_cons (ps_while PassesOwn.never (pt_cmpR op_ne (pv 7) pe_int (nomark _))
        (pss_cons (ps_set (i := 7) scLP.nd rfl (.inl rfl) (pe_op op_fdivP (pe_op op_sub (pe_call (GV false) r1 (by rfl) gV kV bV .nil pass0 (pa_cons (pv 2) (pa_cons (pv 6) pa_nil))) (pv 3)) (pe_call (GV true) r1 (by rfl) gV kV bV .nil pass0 (pa_cons (pv 4) (pa_cons (pv 6) pa_nil)))))
        (pss_one (ps_set (i := 6) scLP.nd rfl (.inl rfl) (pe_op op_sub (pv 6) (pv 7))))))
      (pss_cons (ps_while PassesOwn.never (pt_cmpR op_ge (pe_call (GV false) r1 (by rfl) gV kV bV .nil pass0 (pa_cons (pv 2) (pa_cons (pe_op op_sub (pv 6) pe_int) pa_nil))) (pv 3) (nomark _))
        (pss_one (ps_set (i := 6) scLP.nd rfl (.inl rfl) (pe_op op_sub (pv 6) pe_int))))
      (pss_one (ps_ret (pv 6)))))))))), ?_⟩
    cases ns with
    | nil => exact absurd h2 (by decide)
    | cons c rest =>
    have h0' : c < g := by
      rw [val_zero] at h0
      exact h0
    obtain ⟨m1, hm, nn, last⟩ := raised_ok hc hcut hl h2 h0' hg
    -- raised
    have lc : (iv (c :: rest)).length = rest.length + 1 := by rw [iv_len]; rfl
    have l1 : 1 ≤ rest.length := by
      have : (c :: rest).length = rest.length + 1 := rfl
      omega
    have l5 : rest.length ≤ 5 := by
      have : (c :: rest).length = rest.length + 1 := rfl
      omega
    refine ⟨by decide, fun t ht => ⟨_, rfl, 1, rfl, a, _, rfl, sqT_same (same_new ht) ha, fun z => ?_, fun _ u hu => ?_⟩⟩
    · have z1 := z.1
      rw [show (1 : Int) = ((1 : Nat) : Int) from rfl, HT.sIx_nat] at z1
      omega
    have st := same_new (o := .tup [.int 0]) ht
    have su := same_new (o := .tup (cutV (iv (c :: rest)) (some 1) none)) hu
    have ecut : cutV (iv (c :: rest)) (some 1) none = iv rest := by
      unfold cutV
      rw [show (1 : Int) = ((1 : Nat) : Int) from rfl, HT.sIx_nat, HT.sIx_none, lc, show min 1 (rest.length + 1) = 1 by omega, Nat.add_sub_cancel]
      show ((V.int c :: iv rest).drop 1).take rest.length = iv rest
      rw [List.drop_one, List.tail_cons, ← iv_len rest, List.take_length]
    rw [ecut] at su
    rw [ecut]
    refine ⟨t, u, [.int 0], iv rest, rfl, rfl, .inl (.inl (su _ _ upd_same)), .inl (.inl upd_same), ?_, (fun z => by cases z), fun _ z => ?_, fun _ _ q hq => ?_⟩
    · rw [iv_len, sizeLine_eq]
      show 1 + rest.length ≤ _
      omega
    · have : (iv rest).length = 0 := by rw [z]; rfl
      rw [iv_len] at this
      omega
    have eq0 : [V.int 0] ++ iv rest = iv (0 :: rest) := rfl
    rw [eq0]
    have sq := same_new (o := .tup (iv (0 :: rest))) hq
    have hr0 := upd_same (H := upd (upd H t (.tup [.int 0])) u (.tup (iv rest))) (a := q) (o := .tup (iv (0 :: rest)))
    have S0 := st.trans (su.trans sq)
    generalize upd (upd (upd H t (.tup [.int 0])) u (.tup (iv rest))) q (.tup (iv (0 :: rest))) = H0 at hr0 S0
    -- missing
    refine ⟨_, rfl, _, rfl, a, _, 0, _, rfl, rfl, sqT_same S0 ha, atI_nat (j := 0) (xs := iv (c :: rest)) rfl, _, _, rfl, rfl, _, _, rfl, ?_⟩
    dsimp only
    obtain ⟨m, em⟩ : ∃ m, m = g - c := ⟨_, rfl⟩
    obtain ⟨r, er⟩ : ∃ r, r = 0 :: rest := ⟨_, rfl⟩
    rw [← em] at m1 hm ⊢
    rw [← er] at hr0 nn last
    have lr : r.length = rest.length + 1 := by rw [er]; rfl
    have z0 : r.getD 0 0 = 0 := by rw [er]; rfl
    have v0 : val r 0 = 0 := by rw [val_zero]; exact z0
    have vr : ∀ n, val (c :: rest) n = val r n + c := fun n => by rw [er]; exact val_raised c rest n
    have hb70 : Bdd 70 r := fun x hx => by
      rw [er] at hx
      rcases List.mem_cons.mp hx with rfl | hx
      · exact ⟨Int.le_refl 0, two_pos _⟩
      · exact ⟨(hc x (List.mem_cons_of_mem _ hx)).1, Int.lt_trans (hc x (List.mem_cons_of_mem _ hx)).2 (by decide)⟩
    have hr' : SqT K H0 q (iv r) := .inl (.inl hr0)
    -- slopes, many
    refine ⟨_, rfl, q, r, rfl, hr', by omega, fun u1 H1 s1 hu1 => ?_⟩
    refine ⟨_, rfl, _, rfl, q, r, m, rfl, sqT_same s1 hr', by omega, ⟨r.length - 1, by omega, by omega, by omega⟩, fun many H2 s2 ex le => ?_⟩
    obtain ⟨NI, NS, hd⟩ := near_ok nn z0 m1 hm (by omega) (by omega) last (fun x hx => (hb70 x hx).2) ex le
    have fin : ∀ (n : Int) (H' : Hp), Same H0 H' → 1 ≤ n → m ≤ val r n → val r (n - 1) < m → Q (.int n) H' := fun n H' s' n1 a1 a2 => k n H' (S0.trans s') n1 (by rw [vr]; omega) (by rw [vr]; omega)
    refine ⟨_, rfl, _, rfl, q, _, rfl, .inr (sqT_same (s1.trans s2) hr'), _, _, rfl, rfl, _, rfl, ?_⟩
    have lq : (iv r).length = rest.length + 1 := by rw [iv_len, lr]
    have L5 := (lostD_small l1 l5).2
    have L4 := (lostD_small l1 l5).1
    have e2 : BL (((iv r).length : Nat) : Int) + 2 = lostD rest.length := by rw [lq]; rfl
    by_cases z2 : many ≤ 3 * lostD rest.length
    · refine if_yes (decide_eq_true (by omega)) ?_
      refine ⟨_, rfl, _, rfl, _, rfl, q, r, m, many, 70, rfl, sqT_same (s1.trans s2) hr', hb70, by decide, ?_, fun h H3 s3 h1 h2 h3 h4 => ?_⟩
      · have : r.length * (many + 2) ≤ 6 * (15 + 2) := Nat.mul_le_mul (by omega) (by omega)
        omega
      · refine fin h H3 (s1.trans (s2.trans s3)) h1 ?_ ?_
        · rcases h3 with h3 | h3
          · exact h3
          · rw [h3]
            exact Int.le_of_lt NI.hit
        · rcases h4 with h4 | h4
          · exact h4
          · rw [h4]
            show val r 0 < m
            omega
    refine if_no (by simp; omega) ?_
    refine ⟨_, rfl, _, rfl, _, rfl, q, r, m, many, 3200, rest.length, rfl, sqT_same (s1.trans s2) hr', lr, l1, l5, NI, NS, by decide, by decide, hm, by rw [lr, Nat.add_sub_cancel] at hd; exact hd, ?_, fun x H3 s3 x1 bx => ?_⟩
    · rw [lr, Nat.add_sub_cancel] at hd
      have : 1 * many ≤ rest.length * many := Nat.mul_le_mul_right _ l1
      show many ≤ lostD rest.length + 4096
      omega
    have bx : BL x ≤ 3200 := by
      refine Nat.le_trans bx ?_
      unfold nearB
      by_cases z1 : rest.length = 1
      · rw [if_pos z1]
        decide
      · rw [if_neg z1]
        rw [lr, Nat.add_sub_cancel] at hd
        exact (nearR_small (by omega) l5 (by omega) L5 hm hd).1
    have S3 := s1.trans (s2.trans s3)
    have hb73 := slo_bdd hb70 (by omega)
    have sl6 : (sloR r).length ≤ 6 := by rw [sloR_eq, slopeZ_len]; omega
    refine ⟨fun t σ H' => ∃ at' step : Int, σ = [some (.ref a), some (.int g), some (.ref q), some (.int m), some (.ref u1), some (.int (many : Int)), some (.int at'), some (.int step)] ∧ Same H3 H' ∧ 1 ≤ at' ∧ (BL at' ≤ 3200 ∨ (m ≤ val r at' ∧ BL at' ≤ 3201)) ∧ (step = 0 → m ≤ val r at') ∧
      t = (if step = 0 then 0 else if m ≤ val r at' then at'.toNat + 1 else (at' + m).toNat + 2), ⟨_, x, 1, rfl, Same.refl _, x1, .inl bx, (fun z => by cases z), rfl⟩, ?_⟩
    rintro t σ H' ⟨at', step, rfl, s4, a1, ab, a0, rfl⟩
    refine ⟨_, rfl, rfl, _, rfl, ?_⟩
    by_cases z3 : step = 0
    · refine if_no (by simp; omega) ?_
      have a0 := a0 z3
      refine ⟨fun t σ H' => ∃ at' : Int, σ = [some (.ref a), some (.int g), some (.ref q), some (.int m), some (.ref u1), some (.int (many : Int)), some (.int at'), some (.int step)] ∧ Same H3 H' ∧ 1 ≤ at' ∧ BL at' ≤ 3201 ∧ m ≤ val r at' ∧ t = at'.toNat, ⟨_, at', rfl, s4, a1, by omega, a0, rfl⟩, ?_⟩
      rintro t σ H4 ⟨b', rfl, s5, b1, bb, b0, rfl⟩
      refine ⟨_, rfl, _, rfl, _, _, rfl, rfl, q, r, b' - 1, rfl, sqT_same (S3.trans s5) hr', fitP (d := 0) hb70 (by decide) (by decide) (by omega) (by omega) (Nat.le_trans (bl_mono (by omega) (show b' - 1 ≤ b' by omega)) (by omega)), fun H5 s6 => ?_⟩
      refine ⟨_, rfl, _, _, rfl, rfl, _, rfl, ?_⟩
      by_cases z4 : m ≤ val r (b' - 1)
      · have b2 : 1 ≤ b' - 1 := by
          by_cases y : b' = 1
          · rw [y] at z4
            have z5 : m ≤ val r 0 := z4
            omega
          · omega
        refine if_yes (decide_eq_true z4) ⟨fun σ' H6 => σ' = [some (.ref a), some (.int g), some (.ref q), some (.int m), some (.ref u1), some (.int (many : Int)), some (.int (b' - 1)), some (.int step)] ∧ Same H3 H6,
          fun σ' H6 ⟨e, s7⟩ => ⟨_, ?_, b' - 1, e, s7, b2, Nat.le_trans (bl_mono (by omega) (show b' - 1 ≤ b' by omega)) bb, z4, rfl⟩, _, rfl, _, _, rfl, rfl, rfl, s5.trans s6⟩
        omega
      · refine if_no (by simpa using z4) ⟨_, rfl, ?_⟩
        exact fin b' H5 (S3.trans (s5.trans s6)) b1 b0 (by omega)
    · refine if_yes (by simpa using z3) ?_
      have a9 : BL at' ≤ 3900 := by omega
      have es := val_sloR r at'
      have hs := NI.slo a1
      obtain ⟨w1, w2, w3, w4, w5⟩ := newton (g := m) NI.nn v0 a1 m1 es.symm (by rw [es]; exact hs)
      rw [← es] at hs
      have dv := divP hs (val_nn0 (by omega) NI.nn) w5 (by omega) (by omega) a9 (by omega : BL m ≤ 3900)
      obtain ⟨st, est⟩ : ∃ st, st = (val r at' - m) / val (sloR r) at' := ⟨_, rfl⟩
      rw [← est] at w1 w2 w3 w4
      refine ⟨fun σ' H6 => σ' = [some (.ref a), some (.int g), some (.ref q), some (.int m), some (.ref u1), some (.int (many : Int)), some (.int (at' - st)), some (.int st)] ∧ Same H3 H6,
        fun σ' H6 ⟨e, s7⟩ => ⟨_, ?_, at' - st, st, e, s7, w1, ?_, (fun _ => w2), rfl⟩, ?_⟩
      · rw [if_neg z3, if_pos w2]
        by_cases z5 : m ≤ val r at'
        · rw [if_pos z5]
          have := w4 z5
          split <;> omega
        · rw [if_neg z5]
          split <;> omega
      · refine .inr ⟨w2, ?_⟩
        by_cases z5 : m ≤ val r at'
        · have := w4 z5
          exact Nat.le_trans (bl_mono (by omega) (show at' - st ≤ at' by omega)) (by omega)
        · have b2 : BL at' ≤ 3200 := by
            rcases ab with ab | ab
            · exact ab
            · exact absurd ab.1 z5
          exact Nat.le_trans (bl_mono (by omega) w3) (bl_add (by omega) (by omega) b2 (by omega))
      · refine ⟨_, rfl, _, rfl, q, r, at', rfl, sqT_same (S3.trans s4) hr', fitP (d := 0) hb70 (by decide) (by decide) (by omega) (by omega) a9, fun H5 s5 => ?_⟩
        refine ⟨_, rfl, _, _, rfl, rfl, _, rfl, _, rfl, u1, sloR r, at', rfl, .inl (.inl ((s2.trans (s3.trans (s4.trans s5))) _ _ hu1)), fitP (d := 0) hb73 (by decide) (by decide) sl6 (by omega) a9, fun H6 s6 => ?_⟩
        refine ⟨_, _, rfl, rfl, dv, _, rfl, _, rfl, _, _, rfl, rfl, ?_, s4.trans (s5.trans s6)⟩
        rw [est]
        rfl
end
end Qp

/-! where values reach -/
namespace Qp
open PySem PySem.Spec PyProof.Rows L2 QN
theorem val_mono {a b : Int} (h0 : 0 ≤ a) (h : a ≤ b) : ∀ {ns : List Int}, (∀ c ∈ ns, okC c) → val ns a ≤ val ns b
  | [], _ => Int.le_refl 0
  | c :: ns, hc => by
    rw [val_cons, val_cons]
    have hns : ∀ x ∈ ns, okC x := fun x hx => hc x (List.mem_cons_of_mem _ hx)
    have h1 := val_mono h0 h hns
    have h2 : val ns a * a ≤ val ns b * b := Int.mul_le_mul h1 h h0 (val_nn (by omega) hns)
    omega
theorem val_pos {m : Int} (hm : 1 ≤ m) {x : Int} (hx : 1 ≤ x) : ∀ {r : List Int}, (∀ c ∈ r, okC c) → 1 ≤ val (r ++ [x]) m
  | [], _ => by
    show 1 ≤ 0 * m + x
    omega
  | c :: r, hc => by
    rw [List.cons_append, val_cons]
    have h1 := val_pos hm hx (r := r) fun y hy => hc y (List.mem_cons_of_mem _ hy)
    have h2 := (hc c List.mem_cons_self).1
    have h3 : 1 * 1 ≤ val (r ++ [x]) m * m := Int.mul_le_mul h1 hm (by decide) (by omega)
    omega
/-- a polynomial of degree at least 1 is at least its argument -/
theorem val_ge {ns : List Int} (hc : ∀ c ∈ ns, okC c) (hcut : cutZ ns = ns) (hl : 2 ≤ ns.length) {m : Int} (hm : 0 ≤ m) : m ≤ val ns m := by
  rcases cut_last ns with e | ⟨r, x, e, nx⟩
  · rw [hcut] at e
    rw [e] at hl
    exact absurd hl (by decide)
  · rw [hcut] at e
    subst e
    have hx : 1 ≤ x := by
      have := (hc x (by simp)).1
      omega
    cases r with
    | nil => exact absurd hl (by simp)
    | cons c r =>
      rw [List.cons_append, val_cons]
      have c0 := (hc c (by simp)).1
      by_cases z : m = 0
      · subst z
        omega
      · have h1 := val_pos (m := m) (by omega) hx (r := r) fun y hy => hc y (by simp [hy])
        have h3 : 1 * m ≤ val (r ++ [x]) m * m := Int.mul_le_mul_of_nonneg_right h1 hm
        omega
/-- what reach of the goal returns -/
def RV (ns : List Int) (g : Int) (v : V) : Prop :=
  (g ≤ val ns 0 ∧ v = .int 0) ∨ (val ns 0 < g ∧ ns.length < 2 ∧ v = .non) ∨ (val ns 0 < g ∧ 2 ≤ ns.length ∧ ∃ n : Int, v = .int n ∧ 1 ≤ n ∧ g ≤ val ns n ∧ val ns (n - 1) < g)
theorem RV.zero {ns : List Int} {g : Int} {v : V} (h : RV ns g v) (z : g ≤ val ns 0) : v = .int 0 := by
  rcases h with h | h | h
  · exact h.2
  · exact absurd z (by omega)
  · exact absurd z (by omega)
theorem RV.none {ns : List Int} {g : Int} {v : V} (h : RV ns g v) (z : val ns 0 < g) (l : ns.length < 2) : v = .non := by
  rcases h with h | h | h
  · exact absurd z (by omega)
  · exact h.2.2
  · exact absurd l (by omega)
theorem RV.at {ns : List Int} {g n0 : Int} {v : V} (h : RV ns g v) (hc : ∀ c ∈ ns, okC c) (z : val ns 0 < g) (l : 2 ≤ ns.length) (h1 : 1 ≤ n0) (a : g ≤ val ns n0) (b : val ns (n0 - 1) < g) : v = .int n0 := by
  rcases h with h | h | h
  · exact absurd z (by omega)
  · exact absurd l (by omega)
  · obtain ⟨_, _, n, rfl, p1, p2, p3⟩ := h
    have c1 : n ≤ n0 := by
      apply Int.not_lt.mp
      intro k
      have := val_mono (a := n0) (b := n - 1) (by omega) (by omega) hc
      omega
    have c2 : n0 ≤ n := by
      apply Int.not_lt.mp
      intro k
      have := val_mono (a := n) (b := n0 - 1) (by omega) (by omega) hc
      omega
    rw [Int.le_antisymm c1 c2]
theorem RV.le {ns : List Int} {g : Int} {n : Int} (hc : ∀ c ∈ ns, okC c) (hcut : cutZ ns = ns) (l : 2 ≤ ns.length) (h1 : 1 ≤ n) (b : val ns (n - 1) < g) : n ≤ g := by
  have := val_ge hc hcut l (m := n - 1) (by omega)
  omega
/-- reach of a drawn polynomial, and of a goal of at most 3000 bits -/
def spReach (K : PySem.W.Frag) (C : Addr) : Sp := fun vs H Q _ => ∃ (p : Addr) (ns : List Int) (g : Int), vs = [.ref p, .int g] ∧ PolyAt K C H p ns ∧ (∀ c ∈ ns, okC c) ∧ cutZ ns = ns ∧ ns.length ≤ 6 ∧ 0 ≤ g ∧ g < 2 ^ 3000 ∧
  ∀ v H', Same H H' → RV ns g v → Q v H'
theorem cut_cut (ns : List Int) : cutZ (cutZ ns) = cutZ ns := by
  rcases cut_last ns with e | ⟨r, x, e, nx⟩
  · rw [e]
    rfl
  · rw [e, cutZ_snoc r nx]
end Qp

/-! whether a reach is right -/
namespace Qp
open PySem PySem.Spec PyProof.Rows L2 QN
abbrev sRR : Stmt := top 36 -- _law_reach_right
theorem scRR : FnScope ["_law_some", "_law_goal", "_law_found"] ["_law_some", "_law_goal"] (defScope sRR) := ⟨rfl, rfl, rfl, by decide +kernel, rfl, by decide +kernel, by decide +kernel⟩
theorem fit0 {ns : List Int} (hc : ∀ c ∈ ns, okC c) (hl : ns.length ≤ 6) : Fit ns 0 := ⟨hc, Int.le_refl 0, 1, by decide, by decide, by omega⟩
theorem fitN {ns : List Int} {n : Int} (hc : ∀ c ∈ ns, okC c) (hl : ns.length ≤ 6) (h0 : 0 ≤ n) (h : n < 2 ^ 3000) : Fit ns n := by
  refine ⟨hc, h0, 3000, h, by decide, ?_⟩
  have : ns.length * (3000 + 1) ≤ 6 * 3001 := Nat.mul_le_mul_right _ hl
  omega
def spRR (K : PySem.W.Frag) : Sp := fun vs H Q _ => ∃ (a : Addr) (ns : List Int) (g : Int), vs = [.ref a, .int g] ∧ SqT K H a (iv ns) ∧ (∀ c ∈ ns, okC c) ∧ ns.length ≤ 6 ∧ 0 ≤ g ∧ g < 2 ^ 3000 ∧ ∀ H', Same H H' → Q (.bl true) H'
structure BltR (mg : Str → Option Value) : Prop where
  rp : mg "repr" = none
section
variable {P : Program} {w : World} {K : PySem.W.Frag} {mg : Str → Option Value} {base : Heap}
theorem ok_rr {f fO fP fR fW fC C : Addr} {mc : Value} {fd fdW fdC : FuncData} {kR k : Nat} (F : Fun K "_law_reach_right" "_law_reach_right" sRR f fd) (T : PolyC K mg C)
    (CR : ClX.CRead K C mc) (CM : ClX.CMet K C mc "of" fP fO) (GO : FnR P w K mg base CX0 5 fO (spOf K C)) (MR : Meth K C "reach" fR) (GR : FnR P w K mg base CX0 kR fR (spReach K C))
    (GW : FnOk P w K mg base CX0 1 fW fdW ["_law_some", "_law_n"] (spWorth K)) (kW : PySem.W.keepIn K (.ref fW) = true) (bW : L2.Binds K fdW ["_law_some", "_law_n"] []) (gW : mg "_law_worth" = some (.ref fW))
    (GC : FnOk P w K mg base CX0 1 fC fdC ["_law_some"] (spCut K)) (kC : PySem.W.keepIn K (.ref fC) = true) (bC : L2.Binds K fdC ["_law_some"] []) (gC : mg "_law_cut" = some (.ref fC))
    (B : BltP mg) (BR : BltR mg) (h5 : 5 ≤ k) (hk : kR ≤ k) : FnOk P w K mg base CX0 (k + 1) f fd ["_law_some", "_law_goal"] (spRR K) := by
  refine F.ok scRR (fun vs H Q E h => ?_) (fun cdv A outer s H vs Q E hr h => ?_)
  · obtain ⟨a, ns, g, rfl, _⟩ := h
    rfl
  · obtain ⟨a, ns, g, rfl, ha, hc, hl, g0, g1, k⟩ := h
    have r1 := hr.mono (by omega : 1 ≤ _)
    refine ⟨_, pss_cons (ps_set (i := 2) scRR.nd rfl (.inl rfl) (pe_methR (ClX.pe_cmeth (pe_glob (v := .ref C) (by rfl) T.gC rfl) CR CM GO (hr.mono h5) pass0 (pa_cons (pv 0) pa_nil)) T.cls MR GR (hr.mono hk) pass0 (pa_cons (pv 1) pa_nil)))
      (pss_cons (ps_if (pt_cmpR op_ge (pe_call GW r1 (by rfl) gW kW bW .nil pass0 (pa_cons (pv 0) (pa_cons pe_int pa_nil))) (pv 1) (nomark _)) (pss_one (ps_ret (pe_cmpR op_eq (pe_callB (SkE.call_repr_int) (by rfl) BR.rp (by decide +kernel) (pa_cons (pv 2) pa_nil)) pe_str (nomark _)))) pss_nil)
      (pss_cons (ps_if (pt_cmpR op_lt (pe_callB call_len_seq (by rfl) B.len PySem.boot_len (pa_cons (pe_call GC r1 (by rfl) gC kC bC .nil pass0 (pa_cons (pv 0) pa_nil)) pa_nil)) pe_int (nomark _)) (pss_one (ps_ret (pe_cmpR op_isN (pv 2) pe_non (nomark _)))) pss_nil)
      (pss_cons (ps_if (PW.pt (pw_or (pt_not (pt_val (pe_callB call_isi (by rfl) B.isi (by decide +kernel) (pa_cons (pv 2) (pa_cons (pe_bltn (v := .ty "int") (by rfl) B.int (by decide +kernel) rfl) pa_nil)))))
          (pw_or (pt_val (pe_callB call_isi (by rfl) B.isi (by decide +kernel) (pa_cons (pv 2) (pa_cons (pe_bltn (v := .ty "bool") (by rfl) B.bool (by decide +kernel) rfl) pa_nil))))
            (pw_or1 (pt_cmpR op_lt (pv 2) pe_int (nomark _)))))) (pss_one (ps_ret pe_bl)) pss_nil)
      (pss_one (ps_ret (pe_and (pe_cmpR op_ge (pe_call GW r1 (by rfl) gW kW bW .nil pass0 (pa_cons (pv 0) (pa_cons (pv 2) pa_nil))) (pv 1) (nomark _))
        (pe_one (pe_cmpR op_lt (pe_call GW r1 (by rfl) gW kW bW .nil pass0 (pa_cons (pv 0) (pa_cons (pe_op op_sub (pv 2) pe_int) pa_nil))) (pv 1) (nomark _))))))))), ?_⟩
    have hcc : ∀ c ∈ cutZ ns, okC c := fun c h => hc c (cut_mem h)
    have hcl : (cutZ ns).length ≤ 6 := Nat.le_trans (cut_len ns) hl
    refine ⟨rfl, _, rfl, a, ns, rfl, ha, fun c h => (hc c h).1, by omega, fun p H1 s1 pa => ?_⟩
    obtain ⟨dx, t, hp, ht⟩ := id pa
    refine ⟨p, dx, _, rfl, hp, rfl, _, rfl, p, cutZ ns, g, rfl, pa, hcc, cut_cut ns, hcl, g0, g1, fun v H2 s2 rv => ?_⟩
    refine ⟨_, rfl, a, ns, 0, rfl, sqT_same (s1.trans s2) ha, fit0 hc hl, fun H3 s3 => ?_⟩
    have v0 : val (cutZ ns) 0 = val ns 0 := val_cut 0 ns
    refine ⟨_, rfl, _, _, rfl, rfl, _, rfl, ?_⟩
    by_cases z : g ≤ val ns 0
    · have ev := rv.zero (by rw [v0]; exact z)
      subst ev
      refine if_yes (decide_eq_true z) ?_
      refine ⟨_, rfl, 0, rfl, by decide, rfl, ?_⟩
      exact k _ (s1.trans (s2.trans s3))
    · refine if_no (by simpa using z) ?_
      refine ⟨_, rfl, a, ns, rfl, .inr (sqT_same (s1.trans (s2.trans s3)) ha), fun q H4 s4 hq => ?_⟩
      refine ⟨q, _, rfl, .inr hq, _, _, rfl, rfl, _, rfl, ?_⟩
      by_cases y : (cutZ ns).length < 2
      · have ev := rv.none (by rw [v0]; omega) y
        subst ev
        refine if_yes (by rw [iv_len]; exact decide_eq_true (by omega)) ?_
        refine ⟨_, rfl, rfl, ?_⟩
        exact k _ (s1.trans (s2.trans (s3.trans s4)))
      · refine if_no (by rw [iv_len]; simp; omega) ?_
        rcases rv with r | r | ⟨r1, r2, n, rfl, r3, r4, r5⟩
        · exact absurd r.1 (by rw [v0]; exact z)
        · exact absurd r.2.1 y
        refine ⟨_, rfl, _, _, _, _, true, rfl, .ty _, .base (.int n), kit_ty (by decide +kernel), _, rfl, if_no (by decide) ?_⟩
        refine ⟨_, rfl, _, _, _, _, false, rfl, .ty _, .base (.int n), kit_ty (by decide +kernel), _, rfl, if_no (by decide) ?_⟩
        refine ⟨_, rfl, _, _, rfl, rfl, _, rfl, if_no (by simp; omega) ?_⟩
        have nle := RV.le hcc (cut_cut ns) r2 r3 r5
        refine ⟨_, rfl, _, rfl, a, ns, n, rfl, sqT_same (s1.trans (s2.trans (s3.trans s4))) ha, fitN hc hl (by omega) (by omega), fun H5 s5 => ?_⟩
        refine ⟨_, rfl, _, _, rfl, rfl, _, rfl, if_yes (decide_eq_true (by rw [← val_cut]; exact r4)) ?_⟩
        refine ⟨_, rfl, ⟨_, rfl, _, _, rfl, rfl, ?_⟩⟩
        refine ⟨a, ns, n - 1, rfl, sqT_same (s1.trans (s2.trans (s3.trans (s4.trans s5)))) ha, fitN hc hl (by omega) (by omega), fun H6 s6 => ?_⟩
        refine ⟨_, rfl, _, _, rfl, rfl, ?_⟩
        show Q (.bl (decide (val ns (n - 1) < g))) H6
        rw [show decide (val ns (n - 1) < g) = true from decide_eq_true (by rw [← val_cut]; exact r5)]
        exact k _ (s1.trans (s2.trans (s3.trans (s4.trans (s5.trans s6)))))
end
end Qp

/-! the law about reach -/
namespace Qp
open PySem PySem.Spec PyProof.Rows L2 QN
abbrev sLaw : Stmt := top 37 -- law
abbrev lNames : List Str := ["_law_script", "_law_at", "_law_dice_here", "_law_turn", "_law_some", "_law_place", "_law_near", "_law_goals", "_law_goal", "_law_told"]
theorem scLaw : FnScope lNames ["_law_script"] (defScope sLaw) := ⟨rfl, rfl, rfl, by decide +kernel, rfl, by decide +kernel, by decide +kernel⟩
def spLaw (K : PySem.W.Frag) : Sp := fun vs H Q _ => ∃ (a : Addr) (ns : List Int), vs = [.ref a] ∧ SqL K H a (ns.map V.int) ∧ ∀ H', Q (.bl true) H'
theorem sqT_but {K : PySem.W.Frag} {H H' : Hp} {p q : Addr} {l : List V} {xs : List V} (b : But p H H') (hp : H p = some (.lst l)) (h : SqT K H q xs) : SqT K H' q xs := by
  rcases h with (h | ⟨o, h⟩) | h
  · exact .inl (.inl (b _ _ (fun c => by rw [c, hp] at h; cases h) h))
  · exact .inl (.inr ⟨o, b _ _ (fun c => by rw [c, hp] at h; cases h) h⟩)
  · exact .inr h
theorem sqL_same {K : PySem.W.Frag} {H H' : Hp} {q : Addr} {xs : List V} (e : Same H H') (a : SqL K H q xs) : SqL K H' q xs := by
  rcases a with (a | ⟨u, a⟩) | a
  · exact .inl (.inl (e _ _ a))
  · exact .inl (.inr ⟨u, e _ _ a⟩)
  · exact .inr a
/-- C(e, ..).reach(goal) -/
theorem made_reach {K : PySem.W.Frag} {C : Addr} {ta tb : TA} {σ : L2.St} {H : Hp} {Q : VK} {E : XK} (ns : List Int) (g : Int) (v0 : V) (hta : ∀ P : List V → Hp → Prop, P (iv ns) H → ta σ H P) (htb : ∀ (H' : Hp) (P : List V → Hp → Prop), P [.int g] H' → tb σ H' P)
    (hc : ∀ c ∈ ns, okC c) (hcut : cutZ ns = ns) (hl : ns.length ≤ 6) (g0 : 0 ≤ g) (g1 : g < 2 ^ 3000) (u : ∀ v, RV ns g v → v = v0) (k : ∀ H', Same H H' → Q v0 H') :
    tMethR C "reach" (spReach K C) E (StX.tMakeR C (spInit K C) E ta) tb σ H Q := by
  refine hta _ fun x dx hx hd ne => ⟨x, dx, ns, rfl, upd_same, fun c h => (hc c h).1, by omega, fun t H1 h1 h2 b => ⟨rfl, x, dx, _, rfl, h1, rfl, htb _ _ ?_⟩⟩
  rw [hcut] at h2
  refine ⟨x, ns, g, rfl, ⟨dx, t, h1, h2⟩, hc, hcut, hl, g0, g1, fun v H2 s2 rv => ?_⟩
  rw [u v rv]
  exact k H2 ((same_made hx hd b).trans s2)
theorem made_reach0 {K : PySem.W.Frag} {C : Addr} {tb : TA} {σ : L2.St} {H : Hp} {Q : VK} {E : XK} (g : Int) (v0 : V) (htb : ∀ (H' : Hp) (P : List V → Hp → Prop), P [.int g] H' → tb σ H' P)
    (g0 : 0 ≤ g) (g1 : g < 2 ^ 3000) (u : ∀ v, RV [] g v → v = v0) (k : ∀ H', Same H H' → Q v0 H') :
    tMethR C "reach" (spReach K C) E (tMakeR0 C (spInit K C) E) tb σ H Q := by
  refine fun x dx hx hd ne => ⟨x, dx, [], rfl, upd_same, (fun c h => by cases h), (by show 0 ≤ 1000; decide), fun t H1 h1 h2 b => ⟨rfl, x, dx, _, rfl, h1, rfl, htb _ _ ?_⟩⟩
  refine ⟨x, [], g, rfl, ⟨dx, t, h1, h2⟩, (fun c h => by cases h), rfl, by decide, g0, g1, fun v H2 s2 rv => ?_⟩
  rw [u v rv]
  exact k H2 ((same_made hx hd b).trans s2)
def okAll (ns : List Int) : Bool := ns.all fun c => decide (0 ≤ c) && decide (c < 10 ^ 21)
theorem of_okAll {ns : List Int} (h : okAll ns = true) : ∀ c ∈ ns, okC c := fun c hc => by
  have z := List.all_eq_true.mp h c hc
  simp only [Bool.and_eq_true, decide_eq_true_eq] at z
  exact z
def goalsOf (u nr : Int) : List Int := [0, 1, u, if (0 : Int) < nr - 1 then nr - 1 else 0, nr, nr + 1, ((10 : Int) ^ (60 : Int).toNat) ^ (15 : Int).toNat]
theorem goals_ok {u nr : Int} (u0 : 0 ≤ u) (u1 : u < 100) (m0 : 0 ≤ nr) (m1 : nr < 2 ^ 800) : ∀ g ∈ goalsOf u nr, 0 ≤ g ∧ g < 2 ^ 3000 := fun g hg => by
  have big : (2 : Int) ^ 800 + 1 < 2 ^ 3000 := by decide +kernel
  have big2 : (200 : Int) < 2 ^ 3000 := by decide +kernel
  unfold goalsOf at hg
  simp only [List.mem_cons, List.not_mem_nil, or_false] at hg
  rcases hg with rfl | rfl | rfl | rfl | rfl | rfl | rfl
  · exact ⟨by decide, by decide +kernel⟩
  · exact ⟨by decide, by decide +kernel⟩
  · exact ⟨u0, by omega⟩
  · split <;> constructor <;> omega
  · exact ⟨m0, by omega⟩
  · constructor <;> omega
  · exact ⟨by decide +kernel, by decide +kernel⟩
structure BltL (mg : Str → Option Value) : Prop where
  rg : mg "range" = none
  min : mg "min" = none
section
variable {P : Program} {w : World} {K : PySem.W.Frag} {mg : Str → Option Value} {base : Heap}
theorem ok_law {f fD fR fO fC fI fQ fW fV C : Addr} {fd fdD fdR fdO fdC fdQ fdW : FuncData} {kR kQ k : Nat} (F : Fun K "law" "law" sLaw f fd) (T : PolyC K mg C) (M : Mk K C fI) (GI : FnR P w K mg base CX0 3 fI (spInit K C))
    (MR : Meth K C "reach" fV) (GV : FnR P w K mg base CX0 kR fV (spReach K C))
    (GD : FnOk P w K mg base CX0 1 fD fdD ["_law_script", "_law_at"] (spDice K)) (kD : PySem.W.keepIn K (.ref fD) = true) (bD : L2.Binds K fdD ["_law_script", "_law_at"] []) (gD : mg "_law_dice" = some (.ref fD))
    (GR : FnOk P w K mg base CX0 1 fR fdR ["_law_dice_here", "_law_total"] spRoll) (kRo : PySem.W.keepIn K (.ref fR) = true) (bR : L2.Binds K fdR ["_law_dice_here", "_law_total"] []) (gR : mg "_law_roll" = some (.ref fR))
    (GO : FnOk P w K mg base CX0 2 fO fdO ["_law_dice_here", "_law_items"] spOne) (kO : PySem.W.keepIn K (.ref fO) = true) (bO : L2.Binds K fdO ["_law_dice_here", "_law_items"] []) (gO : mg "_law_one_of" = some (.ref fO))
    (GC : FnOk P w K mg base CX0 3 fC fdC ["_law_dice_here"] (spCoef K)) (kC : PySem.W.keepIn K (.ref fC) = true) (bC : L2.Binds K fdC ["_law_dice_here"] []) (gC : mg "_law_coefficients" = some (.ref fC))
    (GW : FnOk P w K mg base CX0 1 fW fdW ["_law_some", "_law_n"] (spWorth K)) (kW : PySem.W.keepIn K (.ref fW) = true) (bW : L2.Binds K fdW ["_law_some", "_law_n"] []) (gW : mg "_law_worth" = some (.ref fW))
    (GQ : FnOk P w K mg base CX0 kQ fQ fdQ ["_law_some", "_law_goal"] (spRR K)) (kQq : PySem.W.keepIn K (.ref fQ) = true) (bQ : L2.Binds K fdQ ["_law_some", "_law_goal"] []) (gQ : mg "_law_reach_right" = some (.ref fQ))
    (B : Blt mg) (BP : BltP mg) (BL : BltL mg) (h5 : 4 ≤ k) (hR : kR ≤ k) (hQ : kQ ≤ k) : FnOk P w K mg base CX0 (k + 1) f fd ["_law_script"] (spLaw K) := by
  refine F.ok scLaw (fun vs H Q E h => ?_) (fun cdv A outer s H vs Q E hr h => ?_)
  · obtain ⟨a, ns, rfl, _⟩ := h
    rfl
  · obtain ⟨a, ns, rfl, hS, fin⟩ := h
    have hu : (A.deeper (envOfC "law" (defScope sLaw) s.heap.objs.size f cdv)).units + 64 < cLine := by
      have := hr.un
      omega
    have r1 := hr.mono (by omega : 1 ≤ _)
    have r2 := hr.mono (by omega : 2 ≤ _)
    have r3 := hr.mono (by omega : 3 ≤ _)
    have r4 := hr.mono (by omega : 3 + 1 ≤ _)
    have rR := hr.mono hR
    refine ⟨_, pss_cons (ps_for PassesOwn.never rfl (pi_range1 (by rfl) BL.rg (pa_cons (pe_callB (call_max2 rfl) (by rfl) B.max (by decide +kernel) (pa_cons pe_int (pa_cons (pe_callB (call_min2 rfl) (by rfl) BL.min (by decide +kernel) (pa_cons pe_int (pa_cons (pe_callB call_len_seq (by rfl) B.len PySem.boot_len (pa_cons (pv 0) pa_nil)) pa_nil))) pa_nil))) pa_nil))
        (pg_name (i := 1) scLaw.nd rfl (.inl rfl))
        (pss_cons (ps_set (i := 2) scLaw.nd rfl (.inl rfl) (pe_call GD r1 (by rfl) gD kD bD .nil pass0 (pa_cons (pv 0) (pa_cons (pv 1) pa_nil))))
        (pss_one (ps_for PassesOwn.never rfl (pi_range1 (by rfl) BL.rg (pa_cons pe_int pa_nil)) (pg_name (i := 3) scLaw.nd rfl (.inl rfl))
          (pss_cons (ps_set (i := 4) scLaw.nd rfl (.inr rfl) (pe_call GC r3 (by rfl) gC kC bC .nil pass0 (pa_cons (pv 2) pa_nil)))
          (pss_cons (ps_set (i := 5) scLaw.nd rfl (.inl rfl) (pe_call GO r2 (by rfl) gO kO bO .nil pass0 (pa_cons (pv 2) (pa_cons (pe_lst (pa_cons pe_int (pa_cons pe_int (pa_cons (pe_call GR r1 (by rfl) gR kRo bR .nil pass0 (pa_cons (pv 2) (pa_cons pe_int pa_nil))) (pa_cons (pe_op op_pow pe_int pe_int) (pa_cons (pe_op op_pow pe_int pe_int) (pa_cons (pe_op op_pow pe_int pe_int) pa_nil))))))) pa_nil))))
          (pss_cons (ps_set (i := 6) scLaw.nd rfl (.inl rfl) (pe_call GW r1 (by rfl) gW kW bW .nil pass0 (pa_cons (pv 4) (pa_cons (pv 5) pa_nil))))
          (pss_cons (ps_set (i := 7) scLaw.nd rfl (.inl rfl) (pe_lst (pa_cons pe_int (pa_cons pe_int (pa_cons (pe_call GR r1 (by rfl) gR kRo bR .nil pass0 (pa_cons (pv 2) (pa_cons pe_int pa_nil))) (pa_cons (pe_callB (call_max2 rfl) (by rfl) B.max (by decide +kernel) (pa_cons pe_int (pa_cons (pe_op op_sub (pv 6) pe_int) pa_nil))) (pa_cons (pv 6) (pa_cons (pe_op op_add (pv 6) pe_int) (pa_cons (pe_op op_powX (pe_op op_pow pe_int pe_int) pe_int) pa_nil)))))))))
          (pss_one (ps_if (pt_cmpR (op_neD hu) (pe_lc (own := [("_law_goal", 8)]) (g := gName 8) (tt := tNot (tB (tCall (spRR K) [] L2.E0 (tCons (tVar 4) (tCons (tVar 8) tNil))))) (te := tVar 8) rfl scLaw.nd (pi_list (pv 7)) (blkOk_by (N := lNames) (sc := defScope sLaw) (by decide +kernel))
            (fun _ _ _ _ _ => pg_name (i := 8) scLaw.nd rfl (.inl rfl) (hf := .inr rfl)) (fun _ _ _ _ _ => pts_one (pt_not (pt_val (pe_call GQ (hr.mono hQ) (by rfl) gQ kQq bQ .nil pass0 (pa_cons (pv 4) (pa_cons (pv 8) pa_nil)))))) (fun _ _ _ _ _ => pv 8)) (pe_lst pa_nil) (nomark _)) (pss_one (ps_ret pe_bl)) pss_nil))))))))))
      (pss_cons (ps_set (i := 9) scLaw.nd rfl (.inl rfl) (pe_lst (pa_cons (pe_methR (StX.pe_makeR M GI r4 (by rfl) T.gC pass0 (pa_cons pe_int (pa_cons pe_int (pa_cons pe_int pa_nil)))) T.cls MR GV rR pass0 (pa_cons pe_int pa_nil)) (pa_cons (pe_methR (StX.pe_makeR M GI r4 (by rfl) T.gC pass0 (pa_cons pe_int (pa_cons pe_int (pa_cons pe_int pa_nil)))) T.cls MR GV rR pass0 (pa_cons pe_int pa_nil))
          (pa_cons (pe_methR (StX.pe_makeR M GI r4 (by rfl) T.gC pass0 (pa_cons pe_int pa_nil)) T.cls MR GV rR pass0 (pa_cons pe_int pa_nil)) (pa_cons (pe_methR (pe_makeR0 M GI r4 (by rfl) T.gC pass0) T.cls MR GV rR pass0 (pa_cons pe_int pa_nil)) pa_nil))))))
      (pss_cons (ps_set (i := 9) scLaw.nd rfl (.inl rfl) (pe_op op_cat (pv 9) (pe_lst (pa_cons (pe_methR (StX.pe_makeR M GI r4 (by rfl) T.gC pass0 (pa_cons pe_int pa_nil)) T.cls MR GV rR pass0 (pa_cons pe_int pa_nil)) (pa_cons (pe_methR (pe_makeR0 M GI r4 (by rfl) T.gC pass0) T.cls MR GV rR pass0 (pa_cons pe_int pa_nil))
          (pa_cons (pe_methR (StX.pe_makeR M GI r4 (by rfl) T.gC pass0 (pa_cons pe_int (pa_cons pe_int pa_nil))) T.cls MR GV rR pass0 (pa_cons (pe_op op_powX (pe_op op_pow pe_int pe_int) pe_int) pa_nil)) pa_nil))))))
      (pss_one (ps_ret (pe_cmpR (op_eqD hu) (pv 9) (pe_lst (pa_cons pe_int (pa_cons pe_int (pa_cons pe_non (pa_cons pe_int (pa_cons pe_int (pa_cons pe_non (pa_cons (pe_op op_powX (pe_op op_pow pe_int pe_int) pe_int) pa_nil)))))))) (nomark _)))))), ?_⟩
    refine ⟨_, rfl, a, _, rfl, .inl hS, _, _, rfl, _, _, rfl, _, rfl, ?_, ?_, ?_⟩
    · split <;> split <;> omega
    · split <;> split <;> omega
    refine for_range (fun i σ H' => ∃ y1 y2 y3 y4 y5 y6 y7 y8 y9, σ = [some (.ref a), y1, y2, y3, y4, y5, y6, y7, y8, y9] ∧ Same H H') ⟨none, none, none, none, none, none, none, none, none, rfl, Same.refl _⟩ ?_ ?_
    · rintro i σ H' hi ⟨y1, y2, y3, y4, y5, y6, y7, y8, y9, rfl, sm⟩
      refine ⟨_, rfl, _, rfl, a, ns, i, by rw [Int.zero_add]; rfl, sqL_same sm hS, fun p x y z np => ?_⟩
      refine ⟨5, rfl, by decide, by decide, for_range (n := 5) (fun j σ H2 => ∃ z1 z3 z4 z5 z6 z7 z8 z9, σ = [some (.ref a), z1, some (.ref p), z3, z4, z5, z6, z7, z8, z9] ∧ Same H' H2 ∧ (∃ x y z : Int, H2 p = some (.lst (hand x y z)))) ⟨_, _, _, _, _, _, _, _, rfl, same_new np, ⟨x, y, z, upd_same⟩⟩ ?_ ?_⟩
      · rintro j σ H2 hj ⟨z1, z3, z4, z5, z6, z7, z8, z9, rfl, sm2, ⟨x2, y2', z2, hp2⟩⟩
        have np' : H' p = none := np
        refine ⟨.ref p, rfl, p, x2, y2', z2, rfl, hp2, fun q cs x3 y3 z3 H3 hcs hl hq hp3 b3 => ?_⟩
        -- place
        refine ⟨.ref p, rfl, .ref p, rfl, p, x3, y3, z3, 50, rfl, hp3, by decide, by decide, fun t x4 y4 z4 H4 t0 t1 hp4 b4 => ?_⟩
        refine ⟨_, _, rfl, rfl, ⟨by decide, by decide, by decide⟩, _, _, rfl, rfl, ⟨by decide, by decide, by decide⟩, _, _, rfl, rfl, ⟨by decide, by decide, by decide⟩, (by show 6 ≤ sizeLine; decide), fun l hlN => ?_⟩
        have nlp : l ≠ p := (fun c => by rw [c, hp4] at hlN; cases hlN)
        refine ⟨p, l, x4, y4, z4, _, rfl, by rw [upd_ne nlp.symm]; exact hp4, upd_same, nlp, (by show 0 < 6; decide), (by show 6 < 1073741824; decide), fun v x5 y5 z5 H5 hv hp5 b5 => ?_⟩
        have hv' : ∃ n : Int, v = .int n ∧ 0 ≤ n ∧ n < 2 ^ 100 := by
          simp only [List.mem_cons, List.not_mem_nil, or_false] at hv
          rcases hv with rfl | rfl | rfl | rfl | rfl | rfl
          all_goals refine ⟨_, rfl, ?_, ?_⟩
          all_goals first | decide | omega | decide +kernel
        obtain ⟨n, rfl, n0, n1⟩ := hv'
        have q3 : SqT K H5 q (iv cs) := sqT_but b5 (by rw [upd_ne nlp.symm]; exact hp4) (sqT_same (same_new hlN) (sqT_but b4 hp3 hq))
        have fitp : Fit cs n := ⟨hcs, n0, 100, n1, by decide, by have := Nat.mul_le_mul_right (100 + 1) hl; omega⟩
        refine ⟨_, rfl, _, rfl, q, cs, n, rfl, q3, fitp, fun H6 s6 => ?_⟩
        have m0 : 0 ≤ val cs n := val_nn n0 hcs
        have m1 : val cs n < 2 ^ 800 := Int.lt_of_lt_of_le (val_lt n0 n1 hcs) (pow_mono2 (by have := Nat.mul_le_mul_right (100 + 1) hl; omega))
        generalize val cs n = nr at m0 m1
        -- goals
        refine ⟨.ref p, rfl, p, x5, y5, z5, 100, rfl, s6 _ _ hp5, by decide, by decide, fun u x7 y7 z7 H7 u0 u1 hp7 b7 => ?_⟩
        refine ⟨_, rfl, _, _, rfl, rfl, _, _, rfl, _, rfl, _, rfl, _, _, rfl, rfl, _, _, rfl, rfl, ⟨by decide, by decide, by decide⟩, _, _, rfl, rfl, ⟨by decide, by decide +kernel⟩, (by show 7 ≤ sizeLine; decide), fun L hL => ?_⟩
        have nLp : L ≠ p := (fun c => by rw [c, hp7] at hL; cases hL)
        have s78 : Same H7 (upd H7 L (.lst (iv (goalsOf u nr)))) := same_new hL
        have q7 : SqT K (upd H7 L (.lst (iv (goalsOf u nr)))) q (iv cs) := sqT_same s78 (sqT_but b7 (s6 _ _ hp5) (sqT_same s6 q3))
        have hp8 := s78 _ _ hp7
        have hL8 : (upd H7 L (.lst (iv (goalsOf u nr)))) L = some (.lst (iv (goalsOf u nr))) := upd_same
        have sH : Same H' (upd H7 L (.lst (iv (goalsOf u nr)))) := fun b o e => by
          have nb : b ≠ p := fun c => by rw [c, np'] at e; cases e
          exact s78 _ _ (b7 _ _ nb (s6 _ _ (b5 _ _ nb (same_new hlN _ _ (b4 _ _ nb (b3 _ _ nb (sm2 _ _ e)))))))
        have hgs := goals_ok u0 u1 m0 m1
        refine ⟨.ref L, rfl, L, rfl, ⟨iv (goalsOf u nr), .inl (.inl upd_same)⟩, fun D hD => ?_⟩
        have sD := same_new (o := .lst []) hD
        refine lc_list (xs := iv (goalsOf u nr)) (fun i H9 => Same (upd H7 L (.lst (iv (goalsOf u nr)))) H9 ∧ H9 D = some (.lst [])) ⟨sD, upd_same⟩ (fun i H9 _ hV => .inl (.inl (hV.1 _ _ hL8))) (fun i v H9 hv hV => ?_) fun H9 hV => ?_
        · obtain ⟨s9, hD9⟩ := hV
          unfold iv at hv
          rw [List.getElem?_map] at hv
          cases hc : (goalsOf u nr)[i]? with
          | none => rw [hc] at hv; cases hv
          | some c =>
            rw [hc] at hv
            have ev : V.int c = v := Option.some.inj hv
            subst ev
            have hi := hgs c (List.mem_of_getElem? hc)
            refine ⟨rfl, _, rfl, _, rfl, q, cs, c, rfl, sqT_same s9 q7, hcs, hl, hi.1, hi.2, fun Ha sa => ⟨_, rfl, if_no (by decide) ⟨s9.trans sa, sa _ _ hD9⟩⟩⟩
        · obtain ⟨s9, hD9⟩ := hV
          refine ⟨by decide, fun G hG => ⟨_, _, .lst (.inl (.inl (same_new hG _ _ hD9))) .nil, .lst (.inl (.inl upd_same)) .nil, by decide, by decide, _, rfl, if_no (by decide) ?_⟩⟩
          exact ⟨_, _, _, _, _, _, _, _, rfl, sH.trans (s9.trans (same_new hG)), ⟨_, _, _, same_new hG _ _ (s9 _ _ hp8)⟩⟩
      · rintro σ H2 ⟨z1, z3, z4, z5, z6, z7, z8, z9, rfl, sm2, _⟩
        exact ⟨_, _, _, _, _, _, _, _, _, rfl, sm.trans sm2⟩
    · rintro σ H' ⟨y1, y2, y3, y4, y5, y6, y7, y8, y9, rfl, sm⟩
      refine made_reach (K := K) (E := L2.E0) (ta := (tCons (tC (.int 3)) (tCons (tC (.int 1)) (tCons (tC (.int 2)) tNil)))) (tb := (tCons (tC (.int 24)) tNil)) [3, 1, 2] (24) (.int 3) (by exact fun _ p => p) (by exact fun _ _ p => p) (of_okAll (by decide +kernel)) (by decide +kernel) (by decide) (by decide +kernel) (by decide +kernel) (fun v rv => rv.at (of_okAll (by decide +kernel)) (by decide +kernel) (by decide) (by decide +kernel) (by decide +kernel) (by decide +kernel)) fun H1 s1 => ?_
      refine made_reach (K := K) (E := L2.E0) (ta := (tCons (tC (.int 3)) (tCons (tC (.int 1)) (tCons (tC (.int 2)) tNil)))) (tb := (tCons (tC (.int 25)) tNil)) [3, 1, 2] (25) (.int 4) (by exact fun _ p => p) (by exact fun _ _ p => p) (of_okAll (by decide +kernel)) (by decide +kernel) (by decide) (by decide +kernel) (by decide +kernel) (fun v rv => rv.at (of_okAll (by decide +kernel)) (by decide +kernel) (by decide) (by decide +kernel) (by decide +kernel) (by decide +kernel)) fun H2 s2 => ?_
      refine made_reach (K := K) (E := L2.E0) (ta := (tCons (tC (.int 5)) tNil)) (tb := (tCons (tC (.int 6)) tNil)) [5] (6) (.non) (by exact fun _ p => p) (by exact fun _ _ p => p) (of_okAll (by decide +kernel)) (by decide +kernel) (by decide) (by decide +kernel) (by decide +kernel) (fun v rv => rv.none (by decide +kernel) (by decide)) fun H3 s3 => ?_
      refine made_reach0 (K := K) (E := L2.E0) (tb := (tCons (tC (.int 0)) tNil)) 0 (.int 0) (by exact fun _ _ p => p) (by decide) (by decide +kernel) (fun v rv => rv.zero (by decide +kernel)) fun H4 s4 => ?_
      refine ⟨(by show 4 ≤ sizeLine; decide), fun L hL => ?_⟩
      have hL4 : (upd H4 L (.lst [.int 3, .int 4, .non, .int 0])) L = some (.lst [.int 3, .int 4, .non, .int 0]) := upd_same
      generalize upd H4 L (.lst [.int 3, .int 4, .non, .int 0]) = H5 at hL4
      refine ⟨.ref L, rfl, ?_⟩
      refine made_reach (K := K) (E := L2.E0) (ta := (tCons (tC (.int 5)) tNil)) (tb := (tCons (tC (.int 5)) tNil)) [5] (5) (.int 0) (by exact fun _ p => p) (by exact fun _ _ p => p) (of_okAll (by decide +kernel)) (by decide +kernel) (by decide) (by decide +kernel) (by decide +kernel) (fun v rv => rv.zero (by decide +kernel)) fun H6 s6 => ?_
      refine made_reach0 (K := K) (E := L2.E0) (tb := (tCons (tC (.int 1)) tNil)) 1 .non (by exact fun _ _ p => p) (by decide) (by decide +kernel) (fun v rv => rv.none (by decide +kernel) (by decide)) fun H7 s7 => ?_
      refine made_reach (K := K) (E := L2.E0) (ta := (tCons (tC (.int 0)) (tCons (tC (.int 1)) tNil))) (tb := _) [0, 1] (((10 : Int) ^ (60 : Int).toNat) ^ (15 : Int).toNat) (.int (((10 : Int) ^ (60 : Int).toNat) ^ (15 : Int).toNat)) (by exact fun _ p => p) (by exact fun _ _ p => ⟨_, _, rfl, rfl, ⟨by decide, by decide, by decide⟩, _, _, rfl, rfl, ⟨by decide, by decide +kernel⟩, p⟩) (of_okAll (by decide +kernel)) (by decide +kernel) (by decide) (by decide +kernel) (by decide +kernel) (fun v rv => rv.at (of_okAll (by decide +kernel)) (by decide +kernel) (by decide) (by decide +kernel) (by decide +kernel) (by decide +kernel)) fun H8 s8 => ?_
      refine ⟨(by show 3 ≤ sizeLine; decide), fun L2 hL2 => ?_⟩
      refine ⟨L, L2, _, _, rfl, rfl, (s6.trans (s7.trans (s8.trans (same_new hL2)))) _ _ hL4, upd_same, (by show 7 ≤ sizeLine; decide), fun L3 hL3 => ?_⟩
      have hL3' : (upd (upd H8 L2 (.lst [.int 0, .non, .int (((10 : Int) ^ (60 : Int).toNat) ^ (15 : Int).toNat)])) L3 (.lst ([.int 3, .int 4, .non, .int 0] ++ [.int 0, .non, .int (((10 : Int) ^ (60 : Int).toNat) ^ (15 : Int).toNat)]))) L3 = some (.lst [.int 3, .int 4, .non, .int 0, .int 0, .non, .int (((10 : Int) ^ (60 : Int).toNat) ^ (15 : Int).toNat)]) := upd_same
      generalize upd (upd H8 L2 (.lst [.int 0, .non, .int (((10 : Int) ^ (60 : Int).toNat) ^ (15 : Int).toNat)])) L3 (.lst ([.int 3, .int 4, .non, .int 0] ++ [.int 0, .non, .int (((10 : Int) ^ (60 : Int).toNat) ^ (15 : Int).toNat)])) = H9 at hL3'
      refine ⟨.ref L3, rfl, _, _, rfl, rfl, ⟨by decide, by decide, by decide⟩, _, _, rfl, rfl, ⟨by decide, by decide +kernel⟩, (by show 7 ≤ sizeLine; decide), fun L4 hL4' => ?_⟩
      have dl : ∀ (H : Hp) (q : Addr), H q = some (.lst [.int 3, .int 4, .non, .int 0, .int 0, .non, .int (((10 : Int) ^ (60 : Int).toNat) ^ (15 : Int).toNat)]) → Dp K H (.ref q) (.list [.int 3, .int 4, .none, .int 0, .int 0, .none, .int (((10 : Int) ^ (60 : Int).toNat) ^ (15 : Int).toNat)]) := fun H q e =>
        .lst (.inl (.inl e)) (.cons (.int _) (.cons (.int _) (.cons .non (.cons (.int _) (.cons (.int _) (.cons .non (.cons (.int _) .nil)))))))
      refine ⟨_, _, dl _ _ (same_new hL4' _ _ hL3'), dl _ _ upd_same, by decide +kernel, by decide +kernel, ?_⟩
      exact fin _
end
end Qp

/-! reach itself -/
namespace Qp
open PySem PySem.Spec PyProof.Rows L2 QN
abbrev sReach : Stmt := inClass cPoly 6 -- Polynomial.reach
theorem scReach : FnScope ["self", "goal"] ["self", "goal"] (defScope sReach) := ⟨rfl, rfl, rfl, by decide +kernel, rfl, by decide +kernel, by decide +kernel⟩
section
variable {P : Program} {w : World} {K : PySem.W.Frag} {mg : Str → Option Value} {base : Heap}
theorem ok_reach {f fC fV fL pD fD C : Addr} {fd fdC fdV fdL fdD : FuncData} (F : Fun K "reach" "Polynomial.reach" sReach f fd) (GC : FnOk P w K mg base CX0 3 fC fdC ["number"] spChk) (kC : PySem.W.keepIn K (.ref fC) = true) (bC : L2.Binds K fdC ["number"] []) (gC : mg "check_number" = some (.ref fC))
    (GV : FnOk P w K mg base CX0 1 fV fdV ["coefficients", "n"] (spVal K false)) (kV : PySem.W.keepIn K (.ref fV) = true) (bV : L2.Binds K fdV ["coefficients", "n"] []) (gV : mg "_value" = some (.ref fV))
    (GL : FnOk P w K mg base CX0 17 fL fdL ["coefficients", "goal"] (spLP K)) (kL : PySem.W.keepIn K (.ref fL) = true) (bL : L2.Binds K fdL ["coefficients", "goal"] []) (gL : mg "_least_place" = some (.ref fL))
    (PD : PropOf K C "degree" pD fD) (GD : FnOk P w K mg base CX0 1 fD fdD ["self"] (spDeg K C)) (bD : L2.Binds K fdD ["self"] []) (T : PolyC K mg C) : FnOk P w K mg base CX0 18 f fd ["self", "goal"] (spReach K C) := by
  refine F.ok scReach (fun vs H Q E h => ?_) (fun cdv A outer s H vs Q E hr h => ?_)
  · obtain ⟨a, ns, g, rfl, _⟩ := h
    rfl
  · obtain ⟨p, ns, g, rfl, hp, hc, hcut, hl, g0, g1, k⟩ := h
    have r1 := hr.mono (by decide : 1 ≤ 17)
    have r2 := hr.mono (by decide : 2 ≤ 17)
    have r3 := hr.mono (by decide : 3 ≤ 17)
    refine ⟨_, pss_cons (ps_expr (pe_call GC r3 (by rfl) gC kC bC .nil pass0 (pa_cons (pv 1) pa_nil)))
      (pss_cons (ps_if (pt_cmpR op_ge (pe_call GV r1 (by rfl) gV kV bV .nil pass0 (pa_cons (pe_fld (pv 0) rfl) (pa_cons pe_int pa_nil))) (pv 1) (nomark _)) (pss_one (ps_ret pe_int)) pss_nil)
      (pss_cons (ps_if (pt_cmpR op_lt (pe_prop (pv 0) T.cls PD GD r2 bD .nil pass0 rfl) pe_int (nomark _)) (pss_one (ps_ret pe_non)) pss_nil)
      (pss_one (ps_ret (pe_call GL hr (by rfl) gL kL bL .nil pass0 (pa_cons (pe_fld (pv 0) rfl) (pa_cons (pv 1) pa_nil))))))), ?_⟩
    obtain ⟨dx, t, h1, ht⟩ := id hp
    refine ⟨_, rfl, g, rfl, g0, ?_⟩
    refine ⟨_, rfl, p, C, dx, _, _, rfl, h1, T.cls, T.noF, rfl, t, ns, 0, rfl, ht, (fit0 hc hl).v, fun H1 s1 => ?_⟩
    refine ⟨_, rfl, _, _, rfl, rfl, _, rfl, ?_⟩
    by_cases z : g ≤ val ns 0
    · exact if_yes (decide_eq_true z) (k _ H1 s1 (.inl ⟨z, rfl⟩))
    refine if_no (by simpa using z) ?_
    refine ⟨_, rfl, p, dx, _, rfl, s1 _ _ h1, p, ns, rfl, polyAt_same s1 hp, _, _, rfl, rfl, _, rfl, ?_⟩
    by_cases y : ns.length < 2
    · exact if_yes (decide_eq_true (by omega)) (k _ H1 s1 (.inr (.inl ⟨by omega, y, rfl⟩)))
    refine if_no (by simp; omega) ?_
    refine ⟨_, rfl, p, C, dx, _, _, rfl, s1 _ _ h1, T.cls, T.noF, rfl, _, rfl, t, ns, g, rfl, sqT_same s1 ht, hc, hcut, hl, by omega, by omega, g1, fun n H2 s2 n1 n2 n3 => ?_⟩
    exact k _ H2 (s1.trans s2) (.inr (.inr ⟨by omega, by omega, n, rfl, n1, n2, n3⟩))
end
end Qp

/-! what the top has written -/
namespace Qp
open PySem PySem.Spec PySem.W PyProof.Rows L2 QN
def freeNames : List Str := ["len", "int", "abs", "max", "min", "isinstance", "bool", "tuple", "list", "repr", "range", "all", "enumerate"]
def freeLook (K : Frag) : Bool := freeNames.all fun x => nsIn K mainGlobals x == some none
theorem free_of {K : Frag} {h : Heap} {mg : Str → Option Value} (X : K.In h) (G : h.Ns mainGlobals mg) (e : freeLook K = true) {x : Str} (hx : x ∈ freeNames) : mg x = none := by
  have z := List.all_eq_true.mp e x hx
  exact mg_none_of X G (beq_iff_eq.mp z)
def propLook (K : Frag) (p : Addr) : Bool := specialIn K (.ref p) "__get__" == some (some (.builtin "property.__get__")) && takesIn K (.ref p) == some true
def spLawT (K : PySem.W.Frag) (_ : List (Addr × Addr)) : Sp := spLaw K
def allLook (K : Frag) (C fI pD fO fV : Addr) : Bool :=
  freeLook K && plainGet K C Str.empty && hasDictIn K C && plainOver K C && findIn K (.ref C) "__setattr__" == some (some (.builtin "object.__setattr__")) && findIn K (.ref C) "_coefficients" == some none &&
  makesIn K C && isFn K (.ref fI) && keepIn K (.ref C) && readsIn K C (.type "type") && specialIn K (.ref C) "__getattribute__" == some (some (.builtin "type.__getattribute__")) && fnIn K fO &&
  propLook K pD && isFn K (.ref fV) && keepIn K (.ref fV)

theorem all_mk {p : Program} {w : World} {K : Frag} {h : Heap} {mg : Str → Option Value} {fa C pO pD : Addr} {rest rD : List Value} (X : K.In h) (G : h.Ns mainGlobals mg) (hfa : mg "law" = some (.ref fa))
    {g0 : Addr} {od0 an0 : Option Addr} {sl0 : Array (Option Value)} {oc0 kV0 dc0 pm0 cd0 ct0 : Value}
    {g1 : Addr} {od1 an1 : Option Addr} {sl1 : Array (Option Value)} {oc1 kV1 dc1 pm1 cd1 ct1 : Value}
    {g2 : Addr} {od2 an2 : Option Addr} {sl2 : Array (Option Value)} {oc2 kV2 dc2 pm2 cd2 ct2 : Value}
    {g3 : Addr} {od3 an3 : Option Addr} {sl3 : Array (Option Value)} {oc3 kV3 dc3 pm3 cd3 ct3 : Value}
    {g4 : Addr} {od4 an4 : Option Addr} {sl4 : Array (Option Value)} {oc4 kV4 dc4 pm4 cd4 ct4 : Value}
    {g5 : Addr} {od5 an5 : Option Addr} {sl5 : Array (Option Value)} {oc5 kV5 dc5 pm5 cd5 ct5 : Value}
    {g6 : Addr} {od6 an6 : Option Addr} {sl6 : Array (Option Value)} {oc6 kV6 dc6 pm6 cd6 ct6 : Value}
    {g7 : Addr} {od7 an7 : Option Addr} {sl7 : Array (Option Value)} {oc7 kV7 dc7 pm7 cd7 ct7 : Value}
    {g8 : Addr} {od8 an8 : Option Addr} {sl8 : Array (Option Value)} {oc8 kV8 dc8 pm8 cd8 ct8 : Value}
    {g9 : Addr} {od9 an9 : Option Addr} {sl9 : Array (Option Value)} {oc9 kV9 dc9 pm9 cd9 ct9 : Value}
    {g10 : Addr} {od10 an10 : Option Addr} {sl10 : Array (Option Value)} {oc10 kV10 dc10 pm10 cd10 ct10 : Value}
    {g11 : Addr} {od11 an11 : Option Addr} {sl11 : Array (Option Value)} {oc11 kV11 dc11 pm11 cd11 ct11 : Value}
    {g12 : Addr} {od12 an12 : Option Addr} {sl12 : Array (Option Value)} {oc12 kV12 dc12 pm12 cd12 ct12 : Value}
    {g13 : Addr} {od13 an13 : Option Addr} {sl13 : Array (Option Value)} {oc13 kV13 dc13 pm13 cd13 ct13 : Value}
    {g14 : Addr} {od14 an14 : Option Addr} {sl14 : Array (Option Value)} {oc14 kV14 dc14 pm14 cd14 ct14 : Value}
    {g15 : Addr} {od15 an15 : Option Addr} {sl15 : Array (Option Value)} {oc15 kV15 dc15 pm15 cd15 ct15 : Value}
    {g16 : Addr} {od16 an16 : Option Addr} {sl16 : Array (Option Value)} {oc16 kV16 dc16 pm16 cd16 ct16 : Value}
    {g17 : Addr} {od17 an17 : Option Addr} {sl17 : Array (Option Value)} {oc17 kV17 dc17 pm17 cd17 ct17 : Value}
    {g18 : Addr} {od18 an18 : Option Addr} {sl18 : Array (Option Value)} {oc18 kV18 dc18 pm18 cd18 ct18 : Value}
    {g19 : Addr} {od19 an19 : Option Addr} {sl19 : Array (Option Value)} {oc19 kV19 dc19 pm19 cd19 ct19 : Value}
    {g20 : Addr} {od20 an20 : Option Addr} {sl20 : Array (Option Value)} {oc20 kV20 dc20 pm20 cd20 ct20 : Value}
    {g21 : Addr} {od21 an21 : Option Addr} {sl21 : Array (Option Value)} {oc21 kV21 dc21 pm21 cd21 ct21 : Value}
    {g22 : Addr} {od22 an22 : Option Addr} {sl22 : Array (Option Value)} {oc22 kV22 dc22 pm22 cd22 ct22 : Value}
    {g23 : Addr} {od23 an23 : Option Addr} {sl23 : Array (Option Value)} {oc23 kV23 dc23 pm23 cd23 ct23 : Value}
    {g24 : Addr} {od24 an24 : Option Addr} {sl24 : Array (Option Value)} {oc24 kV24 dc24 pm24 cd24 ct24 : Value}
    (nC : nsIn K mainGlobals "Polynomial" = some (some (.ref C)))
    (a0 : nsIn K mainGlobals "_law_dice" = some (some (.ref g0))) (l0 : K.lookup g0 = some ⟨oc0, od0, .func (fnOf "_law_dice" "_law_dice" (defArgs sDice) (defBody sDice) (defScope sDice) .none kV0 dc0 pm0 an0 cd0 ct0), sl0⟩) (u0 : codeIn K cd0 "_law_dice" = true) (k0 : keepIn K (.ref g0) = true)
    (a1 : nsIn K mainGlobals "_law_roll" = some (some (.ref g1))) (l1 : K.lookup g1 = some ⟨oc1, od1, .func (fnOf "_law_roll" "_law_roll" (defArgs sRoll) (defBody sRoll) (defScope sRoll) .none kV1 dc1 pm1 an1 cd1 ct1), sl1⟩) (u1 : codeIn K cd1 "_law_roll" = true) (k1 : keepIn K (.ref g1) = true)
    (a2 : nsIn K mainGlobals "_law_one_of" = some (some (.ref g2))) (l2 : K.lookup g2 = some ⟨oc2, od2, .func (fnOf "_law_one_of" "_law_one_of" (defArgs sOne) (defBody sOne) (defScope sOne) .none kV2 dc2 pm2 an2 cd2 ct2), sl2⟩) (u2 : codeIn K cd2 "_law_one_of" = true) (k2 : keepIn K (.ref g2) = true)
    (a3 : nsIn K mainGlobals "_law_coefficients" = some (some (.ref g3))) (l3 : K.lookup g3 = some ⟨oc3, od3, .func (fnOf "_law_coefficients" "_law_coefficients" (defArgs sCoef) (defBody sCoef) (defScope sCoef) .none kV3 dc3 pm3 an3 cd3 ct3), sl3⟩) (u3 : codeIn K cd3 "_law_coefficients" = true) (k3 : keepIn K (.ref g3) = true)
    (a4 : nsIn K mainGlobals "_law_cut" = some (some (.ref g4))) (l4 : K.lookup g4 = some ⟨oc4, od4, .func (fnOf "_law_cut" "_law_cut" (defArgs sCut) (defBody sCut) (defScope sCut) .none kV4 dc4 pm4 an4 cd4 ct4), sl4⟩) (u4 : codeIn K cd4 "_law_cut" = true) (k4 : keepIn K (.ref g4) = true)
    (a5 : nsIn K mainGlobals "_law_worth" = some (some (.ref g5))) (l5 : K.lookup g5 = some ⟨oc5, od5, .func (fnOf "_law_worth" "_law_worth" (defArgs sWorth) (defBody sWorth) (defScope sWorth) .none kV5 dc5 pm5 an5 cd5 ct5), sl5⟩) (u5 : codeIn K cd5 "_law_worth" = true) (k5 : keepIn K (.ref g5) = true)
    (a6 : nsIn K mainGlobals "_law_reach_right" = some (some (.ref g6))) (l6 : K.lookup g6 = some ⟨oc6, od6, .func (fnOf "_law_reach_right" "_law_reach_right" (defArgs sRR) (defBody sRR) (defScope sRR) .none kV6 dc6 pm6 an6 cd6 ct6), sl6⟩) (u6 : codeIn K cd6 "_law_reach_right" = true) (k6 : keepIn K (.ref g6) = true)
    (a7 : nsIn K mainGlobals "law" = some (some (.ref g7))) (l7 : K.lookup g7 = some ⟨oc7, od7, .func (fnOf "law" "law" (defArgs sLaw) (defBody sLaw) (defScope sLaw) .none kV7 dc7 pm7 an7 cd7 ct7), sl7⟩) (u7 : codeIn K cd7 "law" = true) (k7 : keepIn K (.ref g7) = true)
    (a8 : nsIn K mainGlobals "is_integer" = some (some (.ref g8))) (l8 : K.lookup g8 = some ⟨oc8, od8, .func (fnOf "is_integer" "is_integer" (defArgs sIsI) (defBody sIsI) (defScope sIsI) .none kV8 dc8 pm8 an8 cd8 ct8), sl8⟩) (u8 : codeIn K cd8 "is_integer" = true) (k8 : keepIn K (.ref g8) = true)
    (a9 : nsIn K mainGlobals "is_natural" = some (some (.ref g9))) (l9 : K.lookup g9 = some ⟨oc9, od9, .func (fnOf "is_natural" "is_natural" (defArgs sIsN) (defBody sIsN) (defScope sIsN) .none kV9 dc9 pm9 an9 cd9 ct9), sl9⟩) (u9 : codeIn K cd9 "is_natural" = true) (k9 : keepIn K (.ref g9) = true)
    (a10 : nsIn K mainGlobals "check_number" = some (some (.ref g10))) (l10 : K.lookup g10 = some ⟨oc10, od10, .func (fnOf "check_number" "check_number" (defArgs sChk) (defBody sChk) (defScope sChk) .none kV10 dc10 pm10 an10 cd10 ct10), sl10⟩) (u10 : codeIn K cd10 "check_number" = true) (k10 : keepIn K (.ref g10) = true)
    (a11 : nsIn K mainGlobals "_without_zeros" = some (some (.ref g11))) (l11 : K.lookup g11 = some ⟨oc11, od11, .func (fnOf "_without_zeros" "_without_zeros" (defArgs sWz) (defBody sWz) (defScope sWz) .none kV11 dc11 pm11 an11 cd11 ct11), sl11⟩) (u11 : codeIn K cd11 "_without_zeros" = true) (k11 : keepIn K (.ref g11) = true)
    (a12 : nsIn K mainGlobals "_value" = some (some (.ref g12))) (l12 : K.lookup g12 = some ⟨oc12, od12, .func (fnOf "_value" "_value" (defArgs sVal) (defBody sVal) (defScope sVal) .none kV12 dc12 pm12 an12 cd12 ct12), sl12⟩) (u12 : codeIn K cd12 "_value" = true) (k12 : keepIn K (.ref g12) = true)
    (a13 : nsIn K mainGlobals "_slopes" = some (some (.ref g13))) (l13 : K.lookup g13 = some ⟨oc13, od13, .func (fnOf "_slopes" "_slopes" (defArgs sSlo) (defBody sSlo) (defScope sSlo) .none kV13 dc13 pm13 an13 cd13 ct13), sl13⟩) (u13 : codeIn K cd13 "_slopes" = true) (k13 : keepIn K (.ref g13) = true)
    (a14 : nsIn K mainGlobals "_least_place" = some (some (.ref g14))) (l14 : K.lookup g14 = some ⟨oc14, od14, .func (fnOf "_least_place" "_least_place" (defArgs sLP) (defBody sLP) (defScope sLP) .none kV14 dc14 pm14 an14 cd14 ct14), sl14⟩) (u14 : codeIn K cd14 "_least_place" = true) (k14 : keepIn K (.ref g14) = true)
    (a15 : nsIn K mainGlobals "_binary_digits" = some (some (.ref g15))) (l15 : K.lookup g15 = some ⟨oc15, od15, .func (fnOf "_binary_digits" "_binary_digits" (defArgs sDig) (defBody sDig) (defScope sDig) .none kV15 dc15 pm15 an15 cd15 ct15), sl15⟩) (u15 : codeIn K cd15 "_binary_digits" = true) (k15 : keepIn K (.ref g15) = true)
    (a16 : nsIn K mainGlobals "_lost_digits" = some (some (.ref g16))) (l16 : K.lookup g16 = some ⟨oc16, od16, .func (fnOf "_lost_digits" "_lost_digits" (defArgs sLost) (defBody sLost) (defScope sLost) .none kV16 dc16 pm16 an16 cd16 ct16), sl16⟩) (u16 : codeIn K cd16 "_lost_digits" = true) (k16 : keepIn K (.ref g16) = true)
    (a17 : nsIn K mainGlobals "_few_digits" = some (some (.ref g17))) (l17 : K.lookup g17 = some ⟨oc17, od17, .func (fnOf "_few_digits" "_few_digits" (defArgs sFew) (defBody sFew) (defScope sFew) .none kV17 dc17 pm17 an17 cd17 ct17), sl17⟩) (u17 : codeIn K cd17 "_few_digits" = true) (k17 : keepIn K (.ref g17) = true)
    (a18 : nsIn K mainGlobals "_near_place" = some (some (.ref g18))) (l18 : K.lookup g18 = some ⟨oc18, od18, .func (fnOf "_near_place" "_near_place" (defArgs sNear) (defBody sNear) (defScope sNear) .none kV18 dc18 pm18 an18 cd18 ct18), sl18⟩) (u18 : codeIn K cd18 "_near_place" = true) (k18 : keepIn K (.ref g18) = true)
    (a19 : nsIn K mainGlobals "_shifted" = some (some (.ref g19))) (l19 : K.lookup g19 = some ⟨oc19, od19, .func (fnOf "_shifted" "_shifted" (defArgs sShf) (defBody sShf) (defScope sShf) .none kV19 dc19 pm19 an19 cd19 ct19), sl19⟩) (u19 : codeIn K cd19 "_shifted" = true) (k19 : keepIn K (.ref g19) = true)
    (a20 : nsIn K mainGlobals "_least_by_halves" = some (some (.ref g20))) (l20 : K.lookup g20 = some ⟨oc20, od20, .func (fnOf "_least_by_halves" "_least_by_halves" (defArgs sHal) (defBody sHal) (defScope sHal) .none kV20 dc20 pm20 an20 cd20 ct20), sl20⟩) (u20 : codeIn K cd20 "_least_by_halves" = true) (k20 : keepIn K (.ref g20) = true)
    (a21 : findIn K (.ref C) "__init__" = some (some (.ref g21))) (l21 : K.lookup g21 = some ⟨oc21, od21, .func (fnOf "__init__" "Polynomial.__init__" (defArgs sInit) (defBody sInit) (defScope sInit) .none kV21 dc21 pm21 an21 cd21 ct21), sl21⟩) (u21 : codeIn K cd21 "Polynomial.__init__" = true) (k21 : keepIn K (.ref g21) = true)
    (a22 : findCls K (.ref C) (.type "type") "of" = some (.get (.builtin "classmethod.__get__") (.ref pO) .none (.ref C))) (r22 : recIn K pO "classmethod" = some (.ref g22 :: rest)) (l22 : K.lookup g22 = some ⟨oc22, od22, .func (fnOf "of" "Polynomial.of" (defArgs sOf) (defBody sOf) (defScope sOf) .none kV22 dc22 pm22 an22 cd22 ct22), sl22⟩) (u22 : codeIn K cd22 "Polynomial.of" = true) (k22 : keepIn K (.ref g22) = true)
    (a23 : findIn K (.ref C) "degree" = some (some (.ref pD))) (r23 : recIn K pD "property" = some (.ref g23 :: rD)) (l23 : K.lookup g23 = some ⟨oc23, od23, .func (fnOf "degree" "Polynomial.degree" (defArgs sDeg) (defBody sDeg) (defScope sDeg) .none kV23 dc23 pm23 an23 cd23 ct23), sl23⟩) (u23 : codeIn K cd23 "Polynomial.degree" = true) (k23 : keepIn K (.ref g23) = true)
    (a24 : findIn K (.ref C) "reach" = some (some (.ref g24))) (l24 : K.lookup g24 = some ⟨oc24, od24, .func (fnOf "reach" "Polynomial.reach" (defArgs sReach) (defBody sReach) (defScope sReach) .none kV24 dc24 pm24 an24 cd24 ct24), sl24⟩) (u24 : codeIn K cd24 "Polynomial.reach" = true) (k24 : keepIn K (.ref g24) = true)
    (look : allLook K C g21 pD g22 g24 = true) :
    ∃ (fd : FuncData) (cs : List (Addr × Addr)), (∀ b ∈ cs.map (·.2), h.get? b = some emptyTab) ∧ (∀ b ∈ cs.map (·.2), K.lookup b = none) ∧ (∀ p ∈ cs, PySem.W.CodeHd h p.1 p.2) ∧ (∀ (s : Shared) (u : Value), BindsTo s fd ⟨[u], []⟩ [("_law_script", u)]) ∧
        (∀ (H : Hp) (a : Addr) (ns : List Int), ns.length ≤ 63 → (∀ z ∈ ns, Builtin.Int.intBits z ≤ 1048576) → (∀ p ∈ cs, H p.2 = some (.tbl #[])) → SqL K H a (ns.map V.int) → spLawT K cs [.ref a] H (fun v _ => v = .bl true) fun _ _ _ => False) ∧
        ∀ base : Heap, K.In base → base.Ns mainGlobals mg → (∀ p ∈ cs, LamX.TabB base mg p.1 p.2) → FnG p w K mg base 21 fa fd ["_law_script"] (spLawT K cs) := by
  have e := hfa.symm.trans (mg_of X G a7)
  cases e
  unfold allLook at look
  unfold propLook at look
  simp only [Bool.and_eq_true, beq_iff_eq] at look
  obtain ⟨⟨⟨⟨⟨⟨⟨⟨⟨⟨⟨⟨⟨⟨q1, q2⟩, q3⟩, q4⟩, q5⟩, q6⟩, q7⟩, q8⟩, q9⟩, q10⟩, q11⟩, q12⟩, q13⟩, q15⟩, q16⟩ := look
  have fr : ∀ {x : Str}, x ∈ freeNames → mg x = none := fun {x} hx => free_of X G q1 hx
  have B1 : Blt mg := ⟨fr (by decide), fr (by decide), fr (by decide), fr (by decide)⟩
  have BP : BltP mg := ⟨fr (by decide), fr (by decide), fr (by decide), fr (by decide), fr (by decide), fr (by decide)⟩
  have B2 : Blt2 mg := ⟨fr (by decide), fr (by decide), fr (by decide)⟩
  have BR : BltR mg := ⟨fr (by decide)⟩
  have BL : BltL mg := ⟨fr (by decide), fr (by decide)⟩
  have BN : BltN mg := ⟨fr (by decide), fr (by decide), fr (by decide), fr (by decide), fr (by decide)⟩
  have T : PolyC K mg C := ⟨mg_of X G nC, ⟨q2, q3, q4, q5⟩, q6⟩
  have MI : Mk K C g21 := ⟨q7, a21, q8, q9⟩
  have CR : ClX.CRead K C (.type "type") := ⟨q10, q11⟩
  have CM : ClX.CMet K C (.type "type") "of" pO g22 := ⟨a22, ⟨rest, r22⟩, q12⟩
  have MV : Meth K C "reach" g24 := ⟨a24, q15, q16⟩
  have PD : PropOf K C "degree" pD g23 := ⟨a23, q13.1, q13.2, rD, r23⟩
  have h0 := mg_of X G a0
  have F0 := fun_mk (st := sDice) l0 u0 k0
  have b0 := F0.binds (ps := ["_law_script", "_law_at"]) fun _ _ _ _ _ _ us hl => match us, hl with | [_, _], _ => rfl
  have h1 := mg_of X G a1
  have F1 := fun_mk (st := sRoll) l1 u1 k1
  have b1 := F1.binds (ps := ["_law_dice_here", "_law_total"]) fun _ _ _ _ _ _ us hl => match us, hl with | [_, _], _ => rfl
  have h2 := mg_of X G a2
  have F2 := fun_mk (st := sOne) l2 u2 k2
  have b2 := F2.binds (ps := ["_law_dice_here", "_law_items"]) fun _ _ _ _ _ _ us hl => match us, hl with | [_, _], _ => rfl
  have h3 := mg_of X G a3
  have F3 := fun_mk (st := sCoef) l3 u3 k3
  have b3 := F3.binds (ps := ["_law_dice_here"]) fun _ _ _ _ _ _ us hl => match us, hl with | [_], _ => rfl
  have h4 := mg_of X G a4
  have F4 := fun_mk (st := sCut) l4 u4 k4
  have b4 := F4.binds (ps := ["_law_some"]) fun _ _ _ _ _ _ us hl => match us, hl with | [_], _ => rfl
  have h5 := mg_of X G a5
  have F5 := fun_mk (st := sWorth) l5 u5 k5
  have b5 := F5.binds (ps := ["_law_some", "_law_n"]) fun _ _ _ _ _ _ us hl => match us, hl with | [_, _], _ => rfl
  have h6 := mg_of X G a6
  have F6 := fun_mk (st := sRR) l6 u6 k6
  have b6 := F6.binds (ps := ["_law_some", "_law_goal"]) fun _ _ _ _ _ _ us hl => match us, hl with | [_, _], _ => rfl
  have h7 := mg_of X G a7
  have F7 := fun_mk (st := sLaw) l7 u7 k7
  have h8 := mg_of X G a8
  have F8 := fun_mk (st := sIsI) l8 u8 k8
  have b8 := F8.binds (ps := ["value"]) fun _ _ _ _ _ _ us hl => match us, hl with | [_], _ => rfl
  have h9 := mg_of X G a9
  have F9 := fun_mk (st := sIsN) l9 u9 k9
  have b9 := F9.binds (ps := ["value"]) fun _ _ _ _ _ _ us hl => match us, hl with | [_], _ => rfl
  have h10 := mg_of X G a10
  have F10 := fun_mk (st := sChk) l10 u10 k10
  have b10 := F10.binds (ps := ["number"]) fun _ _ _ _ _ _ us hl => match us, hl with | [_], _ => rfl
  have h11 := mg_of X G a11
  have F11 := fun_mk (st := sWz) l11 u11 k11
  have b11 := F11.binds (ps := ["coefficients"]) fun _ _ _ _ _ _ us hl => match us, hl with | [_], _ => rfl
  have h12 := mg_of X G a12
  have F12 := fun_mk (st := sVal) l12 u12 k12
  have b12 := F12.binds (ps := ["coefficients", "n"]) fun _ _ _ _ _ _ us hl => match us, hl with | [_, _], _ => rfl
  have h13 := mg_of X G a13
  have F13 := fun_mk (st := sSlo) l13 u13 k13
  have b13 := F13.binds (ps := ["coefficients"]) fun _ _ _ _ _ _ us hl => match us, hl with | [_], _ => rfl
  have h14 := mg_of X G a14
  have F14 := fun_mk (st := sLP) l14 u14 k14
  have b14 := F14.binds (ps := ["coefficients", "goal"]) fun _ _ _ _ _ _ us hl => match us, hl with | [_, _], _ => rfl
  have h15 := mg_of X G a15
  have F15 := fun_mk (st := sDig) l15 u15 k15
  have b15 := F15.binds (ps := ["coefficients", "goal"]) fun _ _ _ _ _ _ us hl => match us, hl with | [_, _], _ => rfl
  have h16 := mg_of X G a16
  have F16 := fun_mk (st := sLost) l16 u16 k16
  have b16 := F16.binds (ps := ["coefficients"]) fun _ _ _ _ _ _ us hl => match us, hl with | [_], _ => rfl
  have h17 := mg_of X G a17
  have F17 := fun_mk (st := sFew) l17 u17 k17
  have b17 := F17.binds (ps := ["coefficients"]) fun _ _ _ _ _ _ us hl => match us, hl with | [_], _ => rfl
  have h18 := mg_of X G a18
  have F18 := fun_mk (st := sNear) l18 u18 k18
  have b18 := F18.binds (ps := ["coefficients", "goal", "many"]) fun _ _ _ _ _ _ us hl => match us, hl with | [_, _, _], _ => rfl
  have h19 := mg_of X G a19
  have F19 := fun_mk (st := sShf) l19 u19 k19
  have b19 := F19.binds (ps := ["number", "by"]) fun _ _ _ _ _ _ us hl => match us, hl with | [_, _], _ => rfl
  have h20 := mg_of X G a20
  have F20 := fun_mk (st := sHal) l20 u20 k20
  have b20 := F20.binds (ps := ["coefficients", "goal", "many"]) fun _ _ _ _ _ _ us hl => match us, hl with | [_, _, _], _ => rfl
  have F22 := fun_mk (st := sOf) l22 u22 k22
  have b22 := F22.binds (ps := ["cls", "coefficients"]) fun _ _ _ _ _ _ us hl => match us, hl with | [_, _], _ => rfl
  have F23 := fun_mk (st := sDeg) l23 u23 k23
  have b23 := F23.binds (ps := ["self"]) fun _ _ _ _ _ _ us hl => match us, hl with | [_], _ => rfl
  have F24 := fun_mk (st := sReach) l24 u24 k24
  have b24 := F24.binds (ps := ["self", "goal"]) fun _ _ _ _ _ _ us hl => match us, hl with | [_, _], _ => rfl
  refine ⟨fnOf "law" "law" (defArgs sLaw) (defBody sLaw) (defScope sLaw) .none kV7 dc7 pm7 an7 cd7 ct7, [], (fun b hb => by cases hb), (fun b hb => by cases hb), (fun b hb => by cases hb), fun s v => .of_eq rfl, fun H a ns _ _ _ hS => ⟨a, ns, rfl, hS, fun _ => rfl⟩, fun base _ _ _ => ?_⟩
  have GN := ok_isN (P := p) (w := w) (base := base) F9 F8 b8 h8 BP
  have GK := ok_chk (P := p) (w := w) (base := base) F10 GN k9 b9 h9
  have GZ := ok_wz (P := p) (w := w) (base := base) F11 BP
  have GI := ok_init (P := p) (w := w) (base := base) l21 u21 GN k9 b9 h9 GZ k11 b11 h11 BP T
  have raw : ∀ {sp : Sp} {vs : List V} {H : Hp} {Q : VK} {E : XK}, sp vs H Q E → sp (vs ++ []) H Q E := fun z => by rw [List.append_nil]; exact z
  have GO : FnR p w K mg base CX0 5 g22 (spOf K C) := FnR.imp ((ok_of F22 MI GI BP).raw b22 .nil) fun vs H Q E z => raw z
  have GD := ok_deg (P := p) (w := w) (base := base) F23 BP T
  have GVa : ∀ kk, FnOk p w K mg base CX0 1 g12 _ ["coefficients", "n"] (spVal K kk) := fun kk => ok_val (P := p) (w := w) (mg := mg) (base := base) kk F12
  have GSl : ∀ kk, FnOk p w K mg base CX0 1 g13 _ ["coefficients"] (spSlo K kk) := fun kk => ok_slo (P := p) (w := w) (base := base) kk F13 BN
  have GHa : ∀ kk, FnOk p w K mg base CX0 2 g20 _ ["coefficients", "goal", "many"] (spHal K kk) := fun kk => ok_hal (P := p) (w := w) (base := base) kk F20 (GVa kk) k12 b12 h12
  have GLo := ok_lost (P := p) (w := w) (base := base) F16 BN
  have GFe := ok_few (P := p) (w := w) (base := base) F17 GLo k16 b16 h16
  have GSh := ok_shf (P := p) (w := w) (mg := mg) (base := base) F19
  have GDi := ok_dig (P := p) (w := w) (base := base) F15 BN
  have GNe : ∀ n, FnOk p w K mg base CX0 (n + 3) g18 (fnOf "_near_place" "_near_place" (defArgs sNear) (defBody sNear) (defScope sNear) .none kV18 dc18 pm18 an18 cd18 ct18) ["coefficients", "goal", "many"] (spNear K true n) := by
    intro n; induction n with
    | zero => exact ok_near0 F18
    | succ n ih => exact ok_near1 F18 GVa k12 b12 h12 (GSl true) k13 b13 h13 (GHa true) k20 b20 h20 GLo k16 b16 h16 GFe k17 b17 h17 GSh k19 b19 h19 ih k18 b18 h18 BN
  have GN0 := ok_near1 (n := 12) (kk := false) F18 GVa k12 b12 h12 (GSl false) k13 b13 h13 (GHa false) k20 b20 h20 GLo k16 b16 h16 GFe k17 b17 h17 GSh k19 b19 h19 (GNe 12) k18 b18 h18 BN
  have GLp := ok_lp F14 GVa k12 b12 h12 (GSl false) k13 b13 h13 (GHa false) k20 b20 h20 GFe k17 b17 h17 GDi k15 b15 h15 GN0 k18 b18 h18
  have GV : FnR p w K mg base CX0 18 g24 (spReach K C) := FnR.imp ((ok_reach F24 GK k10 b10 h10 (GVa false) k12 b12 h12 GLp k14 b14 h14 PD GD b23 T).raw b24 .nil) fun vs H Q E z => raw z
  have GW := ok_worth (P := p) (w := w) (mg := mg) (base := base) F5
  have GC := ok_cut (P := p) (w := w) (base := base) F4 B2
  have GQ := ok_rr (k := 18) F6 T CR CM GO MV GV GW k5 b5 h5 GC k4 b4 h4 BP BR (by decide) (by decide)
  have GL := ok_law (k := 20) F7 T MI GI MV GV (ok_dice F0 B1) k0 b0 h0 (ok_roll F1 B1) k1 b1 h1 (ok_one F2 F1 b1 h1 B1) k2 b2 h2 (ok_coef F3 F1 b1 h1 F2 b2 h2 B1 B2) k3 b3 h3 GW k5 b5 h5 GQ k6 b6 h6 B1 BP BL (by decide) (by decide) (by decide)
  exact FnG.of GL
end Qp

open PySem PySem.W PyProof.Rows
set_option maxRecDepth 100000 in
set_option maxHeartbeats 0 in
theorem PySem.Challenge.cw_loopgrowth_k57_where_polynomials_reach_holds : PySem.Challenge.rw_loopgrowth_k57_where_polynomials_reach.Holds := by
  w_on; o_law; k_head; (case hw => w_witness2)
  k_fill
  refine QN.row_goesT (l := PySem.Challenge.rw_loopgrowth_k57_where_polynomials_reach) (n := 63) (k := 21) (x := "_law_script") (sp := Qp.spLawT) rfl (by decide) rfl ⟨rfl, by decide, by decide⟩ (fun w h Y => PySem.W.kIn_of Y) ?F
  case F =>
    intro w mg mb fa h Y KX T hmg
    obtain ⟨lo, mean, T⟩ := T
    refine' Qp.all_mk KX T.g hmg ?nC ?a0 ?l0 ?u0 ?k0 ?a1 ?l1 ?u1 ?k1 ?a2 ?l2 ?u2 ?k2 ?a3 ?l3 ?u3 ?k3 ?a4 ?l4 ?u4 ?k4 ?a5 ?l5 ?u5 ?k5 ?a6 ?l6 ?u6 ?k6 ?a7 ?l7 ?u7 ?k7 ?a8 ?l8 ?u8 ?k8 ?a9 ?l9 ?u9 ?k9 ?a10 ?l10 ?u10 ?k10 ?a11 ?l11 ?u11 ?k11 ?a12 ?l12 ?u12 ?k12 ?a13 ?l13 ?u13 ?k13 ?a14 ?l14 ?u14 ?k14 ?a15 ?l15 ?u15 ?k15 ?a16 ?l16 ?u16 ?k16 ?a17 ?l17 ?u17 ?k17 ?a18 ?l18 ?u18 ?k18 ?a19 ?l19 ?u19 ?k19 ?a20 ?l20 ?u20 ?k20 ?a21 ?l21 ?u21 ?k21 ?a22 ?r22 ?l22 ?u22 ?k22 ?a23 ?r23 ?l23 ?u23 ?k23 ?a24 ?l24 ?u24 ?k24 ?look
    (case nC => k_is)
    (case a0 => k_is)
    (case l0 => k_is)
    (case u0 => k_is)
    (case k0 => k_is)
    (case a1 => k_is)
    (case l1 => k_is)
    (case u1 => k_is)
    (case k1 => k_is)
    (case a2 => k_is)
    (case l2 => k_is)
    (case u2 => k_is)
    (case k2 => k_is)
    (case a3 => k_is)
    (case l3 => k_is)
    (case u3 => k_is)
    (case k3 => k_is)
    (case a4 => k_is)
    (case l4 => k_is)
    (case u4 => k_is)
    (case k4 => k_is)
    (case a5 => k_is)
    (case l5 => k_is)
    (case u5 => k_is)
    (case k5 => k_is)
    (case a6 => k_is)
    (case l6 => k_is)
    (case u6 => k_is)
    (case k6 => k_is)
    (case a7 => k_is)
    (case l7 => k_is)
    (case u7 => k_is)
    (case k7 => k_is)
    (case a8 => k_is)
    (case l8 => k_is)
    (case u8 => k_is)
    (case k8 => k_is)
    (case a9 => k_is)
    (case l9 => k_is)
    (case u9 => k_is)
    (case k9 => k_is)
    (case a10 => k_is)
    (case l10 => k_is)
    (case u10 => k_is)
    (case k10 => k_is)
    (case a11 => k_is)
    (case l11 => k_is)
    (case u11 => k_is)
    (case k11 => k_is)
    (case a12 => k_is)
    (case l12 => k_is)
    (case u12 => k_is)
    (case k12 => k_is)
    (case a13 => k_is)
    (case l13 => k_is)
    (case u13 => k_is)
    (case k13 => k_is)
    (case a14 => k_is)
    (case l14 => k_is)
    (case u14 => k_is)
    (case k14 => k_is)
    (case a15 => k_is)
    (case l15 => k_is)
    (case u15 => k_is)
    (case k15 => k_is)
    (case a16 => k_is)
    (case l16 => k_is)
    (case u16 => k_is)
    (case k16 => k_is)
    (case a17 => k_is)
    (case l17 => k_is)
    (case u17 => k_is)
    (case k17 => k_is)
    (case a18 => k_is)
    (case l18 => k_is)
    (case u18 => k_is)
    (case k18 => k_is)
    (case a19 => k_is)
    (case l19 => k_is)
    (case u19 => k_is)
    (case k19 => k_is)
    (case a20 => k_is)
    (case l20 => k_is)
    (case u20 => k_is)
    (case k20 => k_is)
    (case a21 => k_is)
    (case l21 => k_is)
    (case u21 => k_is)
    (case k21 => k_is)
    (case a22 => k_is)
    (case r22 => k_is)
    (case l22 => k_is)
    (case u22 => k_is)
    (case k22 => k_is)
    (case a23 => k_is)
    (case r23 => k_is)
    (case l23 => k_is)
    (case u23 => k_is)
    (case k23 => k_is)
    (case a24 => k_is)
    (case l24 => k_is)
    (case u24 => k_is)
    (case k24 => k_is)
    (case look => kernel_rfl)

