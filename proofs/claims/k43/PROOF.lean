import PyProof.Rows.All
import Wide.All
import OpenK.AllK
import Wide.FinOn
import HandS.ForMost
import HandS.Evl
import HandS.Wide
import HandS.IsInst
import HandS.SetKeys
import HandS.Strs
import HandS.Style
import HandS.Walk
import HandS.ForExc
import HandS.MakeKwOnly
import PyProof.ReprRoads
import HandS.SetFor
import PyProof.Rows.StrInSeq3
import HandS.Nested
import HandS.FromBytesMap
import HandS.SortKw
import KE.KMinKey
import HandS.EndTab
import HandS.Words
import HandS.SortRule
import KE.SortData
import PyProof.Draws
import PyProof.EnumMake
import KE.RegKIsAll
import PySem.Challenge.RW_hitlog_k43_first_differences
set_option Elab.async false
set_option linter.all false
set_option maxRecDepth 100000
set_option maxHeartbeats 4000000
/-! KB0: rules of one's own beside the hand layer. -/
namespace KB
open PySem PySem.Spec PyProof.Rows L2

/-! ### powers of wide ints -/
def PowFit (i j : Int) : Prop := 0 ≤ j ∧ j ≤ 8 ∧ i.natAbs < 2 ^ 250
theorem op_powF {X : Cx} : OpR X (binaryOp .Pow) (rI PowFit fun i j => .int (i ^ j.toNat)) := opI fun i j t u s Q E hc q => by
  obtain ⟨h0, h8, hi⟩ := hc
  refine pow_int h0 ?_ q
  have h1 : Builtin.Int.intBits i ≤ 300 := by
    unfold Builtin.Int.intBits
    split
    · omega
    · rename_i hn
      have := PySem.Flt.log2_lt_of (by decide) hi
      omega
  have h2 : (Builtin.Int.intBits i : Int) * j ≤ 300 * 8 := Int.mul_le_mul (by omega) h8 h0 (by decide)
  exact Int.le_trans h2 (by decide)

/-! ### repr of data, where no repr is under way -/
def rReprD (K : PySem.W.Frag) : List V → Hp → VK → Prop := fun xs H Q => ∃ (a : Addr) (d : PyData), xs = [.ref a] ∧ Dp K H (.ref a) d ∧ d.showable = true ∧ d.hasDict = false ∧ d.depth ≤ 40 ∧ d.shown.length ≤ sizeLine ∧ Q (.str d.shown) H
theorem call_reprD {X : Cx} {k : Nat} (hr : Room k X.A) (hG : X.A.guards = some []) : CallR X (.builtin "repr") (rReprD X.K) := by
  intro pins s σ H xs us Q I r h
  obtain ⟨a, d, rfl, hd, hs, hn, hdep, hz, q⟩ := h
  have e := Vals.ref1 r
  subst e
  obtain ⟨as, hR⟩ := Dp.reads I d (.ref a) (.ref a) hd rfl
  have hu := hr.units
  refine PySem.repr_of_reads' (h₀ := s.heap) hR hs (fun z => by rw [hn] at z; cases z) hG (by omega) (fun _ _ z => z) (fun h' u tk hk => ?_) hz
  exact ⟨.str d.shown, H, I.kept hk, ⟨u, rfl⟩, q⟩

/-! ### a call with keywords alone -/
section
variable {X : Cx} {CX : CXT} {k : Nat} {f : Addr} {fd : FuncData} {ps ks : List Str} {sp : Sp} {E : XK} {x : Str} {p pos : Pos} {kws : List Keyword} {tk : TA}
variable {g : List Value → List Value → List Value} {gV : List V → List V → List V}
def tCallK0 (sp : Sp) (gV : List V → List V → List V) (E : XK) (tk : TA) : TE := fun σ H Q => tk σ H fun zs H2 => sp (gV [] zs) H2 Q E
theorem pe_callK0 (F : FnOk X.prog X.w X.K X.mg X.base CX k f fd ps sp) (hr : Room k X.A) (hg : Gl X x) (hm : X.mg x = some (.ref f)) (hk : PySem.W.keepIn X.K (.ref f) = true) (hb : KBinds X.K fd ps ks g gV) (hx : Passes CX X E)
    (hkw : PK X kws tk) (hall : (backToKw pos (keywordEach kws X.env)).all (·.1.isSome) = true := by rfl) (hks : (backToKw pos (keywordEach kws X.env)).filterMap (·.1) = ks := by rfl)
    (hdb : (x == ("__debug__" : Str)) = false := by decide) (hpl : ((backTo pos (starEach [] X.env)).any (·.1) || (backToKw pos (keywordEach kws X.env)).any (·.1.isNone)) = false := by rfl) :
    PE X (.Call (.Name x p) [] kws pos) (tCallK0 sp gV E tk) := by
  refine ⟨fun pins s σ H Q I h => wpAny_Call_Name_kw (ld_glob I hg hm (PySem.W.callWith_KW0 (h₀ := X.base) I.ok.mod.kin hk hall ?_ hpl) hdb)⟩
  refine thn (hkw.run pos pins s σ H _ I h) fun ws s2 ⟨zs, H2, I2, rz, q2⟩ => ⟨I2.kIn, ?_⟩
  rw [hks]
  exact run_fnk (us := []) (vs := []) F hr hb hx I2 .nil rz q2
end

/-! ### defs whose callers have no repr under way -/
structure FnG (P : Program) (w : World) (K : PySem.W.Frag) (mg : Str → Option Value) (base : Heap) (CX : CXT) (k : Nat) (f : Addr) (fd : FuncData) (ps : List Str) (sp : Sp) : Prop where
  len : ∀ vs H Q E, sp vs H Q E → vs.length = ps.length
  go : ∀ (A : Around) (outer : List Env) (s : Shared) (H : Hp) (args : Args) (us : List Value) (vs : List V) (Q : VK) (E : XK), A.guards = some [] → Room k A → Env0 P w K mg base A outer s H → BindsTo s fd args (ps.zip us) → Vals vs us → sp vs H Q E →
    codeAny (model P w) A (.call (.ref f) args) (CR CX outer P w H s Q E) s
/-- such a def, seen at one place A alone -/
theorem FnG.atA {P : Program} {w : World} {K : PySem.W.Frag} {mg : Str → Option Value} {base : Heap} {CX : CXT} {k : Nat} {f : Addr} {fd : FuncData} {ps : List Str} {sp : Sp} (F : FnG P w K mg base CX k f fd ps sp) {A : Around} (hG : A.guards = some []) :
    ∀ (outer : List Env) (s : Shared) (H : Hp) (args : Args) (us : List Value) (vs : List V) (Q : VK) (E : XK), Room k A → Env0 P w K mg base A outer s H → BindsTo s fd args (ps.zip us) → Vals vs us → sp vs H Q E →
    codeAny (model P w) A (.call (.ref f) args) (CR CX outer P w H s Q E) s := fun outer s H args us vs Q E => F.go A outer s H args us vs Q E hG
section
variable {X : Cx} {CX : CXT} {k : Nat} {f : Addr} {fd : FuncData} {ps : List Str} {sp : Sp} {E : XK} {x : Str} {p pos : Pos} {e : Expr} {es : List Expr} {t : TA}
theorem pe_callG (F : FnG X.prog X.w X.K X.mg X.base CX k f fd ps sp) (hG : X.A.guards = some []) (hr : Room k X.A) (hg : Gl X x) (hm : X.mg x = some (.ref f)) (hk : PySem.W.keepIn X.K (.ref f) = true) (hb : Binds X.K fd ps []) (hx : Passes CX X E)
    (ha : PA X (e :: es) t) (hdb : (x == ("__debug__" : Str)) = false := by decide) (he : starEach (e :: es) X.env = (false, eval e X.env) :: starEach es X.env := by rfl) (hpl : (backTo pos (starEach es X.env)).any (·.1) = false := by rfl) :
    PE X (.Call (.Name x p) (e :: es) [] pos) (tCall sp [] E t) := by
  refine ⟨fun pins s σ H Q I h => wpAny_Call_Name_kw (ld_glob I hg hm (PySem.W.callWith_K (h₀ := X.base) I.ok.mod.kin hk ?_ he hpl) hdb)⟩
  refine thn (ha.run pos pins s σ H _ I h) fun us s1 ⟨vs, H1, I1, r, q⟩ => ⟨I1.kIn, ?_⟩
  have q : sp (vs ++ []) H1 Q E := q
  rw [List.append_nil] at q
  have hl : (us ++ ([] : List Value)).length = ps.length := by rw [List.append_nil, ← r.length]; exact F.len _ _ _ _ q
  have bd := hb s1 us I1.kIn hl
  rw [List.append_nil] at bd
  show wpAny (model X.prog X.w) X.A (call (.ref f) us) _ _ _
  refine wpAny_call (codeAny_mono (F.go X.A X.stack s1 H1 ⟨us, []⟩ us vs Q E hG hr I1.env0 bd r q) fun rr s' hq => ?_)
  match rr, hq with
  | .error er, hq => exact hx pins σ H1 s1 er s' I1 hq
  | .ok (.ret u), hq => exact I1.after hq
  | .ok .next, hq => exact hq.elim
  | .ok .brk, hq => exact hq.elim
  | .ok .cont, hq => exact hq.elim
end

section
variable {P : Program} {w : World} {K : PySem.W.Frag} {mg : Str → Option Value} {base : Heap} {CX : CXT}
/-- a def's body, read once, at one place -/
theorem run_body {f : Addr} {name qual : Str} {params : Arguments} {body : List Stmt} {scope : Scope} {kV doc pm cdv ct oc : Value} {an od : Option Addr} {osl : Array (Option Value)} {N ps : List Str} {A : Around} {outer : List Env} {s : Shared} {H : Hp}
    {args : Args} {us : List Value} {vs : List V} {Q : VK} {E : XK} {t : TS} (lk : K.lookup f = some ⟨oc, od, .func (PySem.W.fnOf name qual params body scope .none kV doc pm an cdv ct), osl⟩) (hcd : PySem.W.codeIn K cdv qual = true) (S : FnScope N ps scope)
    (hroom : A.depth < recursionLimit) (hhd : A.handled = none) (e0 : Env0 P w K mg base A outer s H) (hb : BindsTo s (PySem.W.fnOf name qual params body scope .none kV doc pm an cdv ct) args (ps.zip us)) (r : Vals vs us) (hl : vs.length = ps.length)
    (ht : PSs (cxOf CX P w K mg base N qual scope f cdv A outer s H E) body t) (hq : t { nx := fun _ H' => Q .non H', rt := Q } (start N vs) H) : codeAny (model P w) A (.call (.ref f) args) (CR CX outer P w H s Q E) s := by
  have kin : K.In s.heap := e0.mod.kin.keeps fun b o z => (e0.bs b o z).1
  have nol : s.heap.NoLimit := e0.mod.nolimit.keeps fun b o z => (e0.bs b o z).1
  have places : ∀ y ∈ ps.zip us, scope.names.lookup y.1 = some .local ∨ (scope.names.lookup y.1 = some .cell ∧ ((cellsFrom (s.heap.objs.size + 1) scope.names []).lookup y.1).isSome = true) := fun y hy =>
    (S.par y.1 (List.of_mem_zip (show (y.1, y.2) ∈ ps.zip us from hy)).1).elim Or.inl fun c => Or.inr ⟨c, PySem.W.cellsFrom_some _ _ _ (.inl c)⟩
  refine codeAny_call_function hroom (kin _ _ lk) rfl S.co S.gen rfl (PySem.W.codeRec_of kin hcd) (hb _ _ _ _ ?_)
  refine wpAny_newFunctionEnv_cells S.kind places fun env ee s1 frame => ?_
  cases ee
  refine ⟨nol.keeps frame.toInCall.keep, codeAny_func ?_⟩
  have I := inv_start (CX := CX) (E := E) S hhd e0 hl r frame
  refine wpAny_mono (ht.run [] s1 (start N vs) H _ I hq) (fun fl s' done => ?_) (fun e s' gone => gone)
  match fl, done with
  | .ret u, ⟨v, σ', H', J, rv, q⟩ => exact ⟨v, H', J.os, J.bare, J.base, J.hok, rv, q⟩
  | .next, ⟨σ', H', J, q⟩ => exact ⟨.non, H', J.os, J.bare, J.base, J.hok, rfl, q⟩
  | .brk, ⟨_, _, _, q⟩ => exact q.elim
  | .cont, ⟨_, _, _, q⟩ => exact q.elim
/-- a def that asks that no repr be under way -/
theorem okG {x qual : Str} {st : Stmt} {f : Addr} {fd : FuncData} {N ps : List Str} {k : Nat} {sp : Sp} (F : Fun K x qual st f fd) (S : FnScope N ps (defScope st)) (len : ∀ vs H Q E, sp vs H Q E → vs.length = ps.length)
    (hbody : ∀ (cdv : Value) (A : Around) (outer : List Env) (s : Shared) (H : Hp) (vs : List V) (Q : VK) (E : XK), (A.deeper (envOfC qual (defScope st) s.heap.objs.size f cdv)).guards = some [] → Room k (A.deeper (envOfC qual (defScope st) s.heap.objs.size f cdv)) → sp vs H Q E →
      ∃ t, PSs (cxOf CX P w K mg base N qual (defScope st) f cdv A outer s H E) (defBody st) t ∧ t { nx := fun _ H' => Q .non H', rt := Q } (start N vs) H) : FnG P w K mg base CX (k + 1) f fd ps sp := by
  obtain ⟨oc, od, kV, doc, pm, an, cdv, ct, osl, rfl, lk, hcd⟩ := F.ex
  refine ⟨len, fun A outer s H args us vs Q E hG hr e0 hb r hsp => ?_⟩
  obtain ⟨t, h, q⟩ := hbody cdv A outer s H vs Q E hG (hr.deeper _) hsp
  exact run_body lk hcd S hr.depth hr.hd e0 hb r (len _ _ _ _ hsp) h q
end

/-! ### the end of a law whose def asks that no repr be under way -/
/-- the abstract heap in which the script alone is known -/
def oneHp (a : Addr) (o : Obj) (u : HO) : Hp := fun b => if b = a then some (.frz o u) else none
theorem law_callG {P : Program} {w : World} {K : PySem.W.Frag} {mg mb : Str → Option Value} {CX : CXT} {k : Nat} {fa a : Addr} {fd : FuncData} {x : Str} {sp : Sp} {s₁ : Shared} {vs : List Value} {ns : List Int}
    (KX : K.In s₁.heap) (hns : s₁.heap.Ns mainGlobals mg) (hb : s₁.heap.Ns builtinsNs mb) (hbb : ∀ x : Str, x ≠ "__name__" → mb x = bootBuiltins x) (hlim : s₁.heap.NoLimit) (hg : s₁.gens = #[])
    (ha : s₁.heap.get? a = some { cls := .type "list", data := .seq vs.toArray }) (hi : IntsAre vs ns) (hl : ns.length ≤ sizeLine) (hr : Room k callerA)
    (F : ∀ base : Heap, K.In base → base.Ns mainGlobals mg → FnG P w K mg base CX k fa fd [x] sp) (hbind : ∀ (s : Shared) (u : Value), BindsTo s fd ⟨[u], []⟩ [(x, u)])
    (hsp : ∀ H : Hp, Only H → SqL K H a (ns.map V.int) → sp [.ref a] H (fun v _ => v = .bl true) fun _ _ _ => False) (hCX : ∀ H e s', CX [] H s₁ (fun _ _ _ => False) e s' → False) :
    codeAny (model P w) callerA (.call (.ref fa) ⟨[.ref a], []⟩) (fun r s' => r = .ok (.ret (.bool true)) ∧ OldK s₁.heap s'.heap ∧ s'.os = s₁.os ∧ AllBare s'.gens) s₁ := by
  have hv := vals_ints hi
  have hlen := hi.length
  have main : ∀ H : Hp, Only H → SqL K H a (ns.map V.int) → HOk P w H s₁.heap → (∀ b, (H b).isSome = true → b = a ∧ K.lookup a = none) →
      codeAny (model P w) callerA (.call (.ref fa) ⟨[.ref a], []⟩) (fun r s' => r = .ok (.ret (.bool true)) ∧ OldK s₁.heap s'.heap ∧ s'.os = s₁.os ∧ AllBare s'.gens) s₁ := by
    intro H hO hS hok hA
    have free : ∀ {b : Addr}, (b = a → False) → H b = none := fun {b} hn => by
      cases z : H b with
      | none => rfl
      | some u => exact (hn (hA b (by rw [z] <;> rfl)).1).elim
    have ns_ : ∀ {b : Addr} {m : Str → Option Value}, s₁.heap.Ns b m → (hidT s₁.heap H).Ns b m := fun {b m} ⟨o, es, ep, e, d, r⟩ => ⟨o, es, ep, hidT_get e (free fun z => by
      subst z
      rw [ha] at e
      cases e
      have d' : Data.seq vs.toArray _ = Data.dict es ep := d
      cases d'), d, r⟩
    have kin : K.In (hidT s₁.heap H) := fun b o e => hidT_get (KX b o e) (by
      cases z : H b with
      | none => rfl
      | some u =>
        obtain ⟨e1, e2⟩ := hA b (by rw [z] <;> rfl)
        rw [e1, e2] at e
        cases e)
    obtain ⟨mc, l1, l2⟩ := hlim
    have e0 : Env0 P w K mg (hidT s₁.heap H) callerA [] s₁ H := ⟨rfl, ⟨kin, ns_ hns, ⟨mb, ns_ hb, hbb⟩, mc, ns_ l1, l2⟩, fun b o e => of_hidT e, Nat.le_of_eq (hidT_size _ _), trivial, fun b z => absurd (show b ∈ ([] : List Addr) from z) (by simp), hok, .of_eq hg⟩
    refine codeAny_mono ((F _ kin (ns_ hns)).go callerA [] s₁ H ⟨[.ref a], []⟩ [.ref a] [.ref a] _ _ rfl hr e0 (hbind s₁ (.ref a)) (.cons rfl .nil) (hsp H hO hS)) fun r s' h => ?_
    match r, h with
    | .error e, h => exact (hCX H e s' h).elim
    | .ok .next, h => exact h.elim
    | .ok .brk, h => exact h.elim
    | .ok .cont, h => exact h.elim
    | .ok (.ret u), ⟨v, H', os, bare, un, hok', r', q⟩ =>
      have q' : v = .bl true := q
      subst q'
      have r'' : u = Value.bool true := r'
      subst r''
      refine ⟨rfl, OldK.of_keep fun b o e => ?_, os, bare⟩
      rcases hO b with z | ⟨ob, xs, z⟩
      · exact un.keep b o e z (fun z => absurd (show b ∈ ([] : List Addr) from z) (by simp)) (by simp)
      · have k1 := (hok b _ z).1
        have k2 := (hok' b _ (un.frzs b ob _ z)).1
        rw [k1] at e
        rw [← e]
        exact k2
  by_cases hk : K.lookup a = none
  · refine main (oneHp a { cls := .type "list", data := .seq vs.toArray } (.lst (ns.map V.int))) (fun b => ?_) (.inl (.inr ⟨_, if_pos rfl⟩)) (fun b u z => ?_) (fun b z => ?_)
    · by_cases e : b = a
      · exact .inr ⟨_, _, if_pos e⟩
      · exact .inl (if_neg e)
    · by_cases e : b = a
      · have z1 := (show oneHp a { cls := .type "list", data := .seq vs.toArray } (.lst (ns.map V.int)) b = _ from if_pos e).symm.trans z
        cases z1
        subst e
        exact ⟨ha, by rw [List.length_map]; exact hl, vs, _, hv, ha⟩
      · have z1 := (show oneHp a { cls := .type "list", data := .seq vs.toArray } (.lst (ns.map V.int)) b = _ from if_neg e).symm.trans z
        cases z1
    · by_cases e : b = a
      · exact ⟨e, hk⟩
      · have z1 : oneHp a { cls := .type "list", data := .seq vs.toArray } (.lst (ns.map V.int)) b = none := if_neg e
        rw [z1] at z
        cases z
  · obtain ⟨o, ho⟩ := Option.ne_none_iff_exists'.mp hk
    have e := KX a o ho
    rw [ha] at e
    cases e
    exact main (fun _ => none) (fun _ => .inl rfl) (.inr ⟨_, vs.toArray, _, ho, rfl, rfl, rfl, by rw [List.size_toArray, hlen]; exact hl, by simpa using hv⟩) (fun b u z => nomatch (show (none : Option HO) = some u from z)) (fun b z => nomatch z)
theorem walk_ofG {l : PySem.W.OpenLaw} {n k : Nat} {q : Program} {loose : List Str} {XP : (Str → Option Value) → Heap → Prop} {YP : World → Heap → Prop} {d : DefRec} {K : Params → PySem.W.Frag} {CX : World → CXT} {sp : World → Sp} {x : Str}
    (hn : l.most = some n) (hn2 : n ≤ sizeLine) (hdf : d.params.defaults = []) (hr : Room k callerA) (hY : ∀ (w : World) (h : Heap), YP w h → (K w.params).In h)
    (F : ∀ (w : World) (mg : Str → Option Value) (fa : Addr) (h : Heap), (K w.params).In h → h.Ns mainGlobals mg → mg d.name = some (.ref fa) →
      ∃ fd : FuncData, (∀ (s : Shared) (u : Value), BindsTo s fd ⟨[u], []⟩ [(x, u)]) ∧ ∀ base : Heap, (K w.params).In base → base.Ns mainGlobals mg → FnG l.prog w (K w.params) mg base (CX w) k fa fd [x] (sp w))
    (hsp : ∀ (w : World) (H : Hp) (a : Addr) (ns : List Int), ns.length ≤ n → Only H → SqL (K w.params) H a (ns.map V.int) → sp w [.ref a] H (fun v _ => v = .bl true) fun _ _ _ => False)
    (hCX : ∀ (w : World) (H : Hp) (s : Shared) (e : Value) (s' : Shared), CX w [] H s (fun _ _ _ => False) e s' → False) :
    PySem.W.WalkO q loose XP YP l.row.toRowW d [] (fun f vs => PySem.call f vs) :=
  Att.attach_call hn hdf fun w s₀ s₁ mg mb fa o pm cd doc a vs ns G Y ho hd hcd hmg hobj hints hlen hg => by
    have kx := hY w _ Y
    obtain ⟨fd, hb, hF⟩ := F w mg fa _ kx G.T.g hmg
    exact law_callG kx G.T.g G.T.b G.T.builtins G.T.nolimit hg hobj hints (Nat.le_trans hlen hn2) hr hF hb (fun H hO hS => hsp w H a ns hlen hO hS) fun H e s' => hCX w H s₁ e s'
end KB

set_option Elab.async false
set_option linter.all false
set_option maxRecDepth 100000
set_option maxHeartbeats 4000000
/-! KB1: set(tuple of texts) and its length; xs[n:] = ys. -/
namespace KB
open PySem PySem.Spec PyProof.Rows L2

/-- the texts as they are met first -/
def metS (xs : List Str) : List Str := xs.foldl (fun acc x => if x ∈ acc then acc else acc ++ [x]) []
theorem metS_snoc (xs : List Str) (x : Str) : metS (xs ++ [x]) = if x ∈ metS xs then metS xs else metS xs ++ [x] := by
  unfold metS
  rw [List.foldl_append]
  rfl
theorem metS_le : ∀ (n : Nat) (xs : List Str), xs.length = n → (metS xs).length ≤ n := by
  intro n
  induction n with
  | zero =>
    intro xs h
    have e : xs = [] := List.length_eq_zero_iff.mp h
    subst e
    exact Nat.le_refl 0
  | succ n ih =>
    intro xs h
    obtain ⟨ys, y, rfl⟩ : ∃ ys y, xs = ys ++ [y] := ⟨xs.dropLast, xs.getLast (by intro z; rw [z] at h; cases h), (List.dropLast_concat_getLast _).symm⟩
    have hy : ys.length = n := by simpa using h
    have := ih ys hy
    rw [metS_snoc]
    split
    · omega
    · rw [List.length_append]
      show _ + 1 ≤ _
      omega
theorem metS_mem : ∀ (n : Nat) (xs : List Str), xs.length = n → ∀ z, z ∈ metS xs ↔ z ∈ xs := by
  intro n
  induction n with
  | zero =>
    intro xs h z
    have e : xs = [] := List.length_eq_zero_iff.mp h
    subst e
    exact Iff.rfl
  | succ n ih =>
    intro xs h z
    obtain ⟨ys, y, rfl⟩ : ∃ ys y, xs = ys ++ [y] := ⟨xs.dropLast, xs.getLast (by intro z; rw [z] at h; cases h), (List.dropLast_concat_getLast _).symm⟩
    have hy : ys.length = n := by simpa using h
    have := ih ys hy
    rw [metS_snoc]
    split
    · rename_i hin
      rw [this z, List.mem_append, List.mem_singleton]
      constructor
      · exact Or.inl
      · rintro (q | rfl)
        · exact q
        · exact (this z).mp hin
    · rw [List.mem_append, List.mem_append, this z]
theorem metS_eq : ∀ (n : Nat) (xs : List Str), xs.length = n → (metS xs).length = n → xs.Nodup := by
  intro n
  induction n with
  | zero =>
    intro xs h _
    have e : xs = [] := List.length_eq_zero_iff.mp h
    subst e
    exact List.nodup_nil
  | succ n ih =>
    intro xs h hm
    obtain ⟨ys, y, rfl⟩ : ∃ ys y, xs = ys ++ [y] := ⟨xs.dropLast, xs.getLast (by intro z; rw [z] at h; cases h), (List.dropLast_concat_getLast _).symm⟩
    have hy : ys.length = n := by simpa using h
    rw [metS_snoc] at hm
    have hle := metS_le n ys hy
    split at hm
    · omega
    · rename_i hin
      have hl : (metS ys).length = n := by
        rw [List.length_append] at hm
        have : (metS ys).length + 1 = n + 1 := hm
        omega
      have nd := ih ys hy hl
      refine List.nodup_append.mpr ⟨nd, by simp, fun a ha b hb e => ?_⟩
      have hb' := List.mem_singleton.mp hb
      subst hb'
      subst e
      exact hin ((metS_mem n ys hy a).mpr ha)
theorem metS_nodup : ∀ (n : Nat) (xs : List Str), xs.length = n → xs.Nodup → metS xs = xs := by
  intro n
  induction n with
  | zero =>
    intro xs h _
    have e : xs = [] := List.length_eq_zero_iff.mp h
    subst e
    rfl
  | succ n ih =>
    intro xs h nd
    obtain ⟨ys, y, rfl⟩ : ∃ ys y, xs = ys ++ [y] := ⟨xs.dropLast, xs.getLast (by intro z; rw [z] at h; cases h), (List.dropLast_concat_getLast _).symm⟩
    have hy : ys.length = n := by simpa using h
    obtain ⟨n1, _, n3⟩ := List.nodup_append.mp nd
    rw [metS_snoc, ih ys hy n1, if_neg fun hin => n3 y hin y (List.mem_singleton.mpr rfl) rfl]

/-! ### the set at S holds the first i texts -/
def Got (P : Program) (w : World) (h : Heap) (S : Addr) (xs : List Str) : Prop := h.SetOf (PySem.strKind P w) S (fun z => decide (z ∈ metS xs)) (metS xs).length
theorem Got.keep {P : Program} {w : World} {h h' : Heap} {S : Addr} {xs : List Str} (g : Got P w h S xs) (k : ∀ o, h.get? S = some o → h'.get? S = some o) : Got P w h' S xs := by
  obtain ⟨o, es, ep, t, ho, r⟩ := g
  exact ⟨o, es, ep, t, k o ho, r⟩
theorem Got.more {P : Program} {w : World} {h : Heap} {S : Addr} {xs : List Str} {x : Str}
    (g : h.SetOf (PySem.strKind P w) S (fun z => decide (z ∈ metS xs) || decide (z = x)) (if decide (x ∈ metS xs) = true then (metS xs).length else (metS xs).length + 1)) : Got P w h S (xs ++ [x]) := by
  refine SetOf_congr g (fun z => ?_) ?_
  · rw [metS_snoc]
    by_cases hx : x ∈ metS xs
    · rw [if_pos hx]
      by_cases e : z = x
      · subst e
        simp [hx]
      · simp [e]
    · rw [if_neg hx]
      simp [List.mem_append]
  · rw [metS_snoc]
    by_cases hx : x ∈ metS xs
    · rw [if_pos hx, if_pos (decide_eq_true hx)]
    · rw [if_neg hx, if_neg (by simpa using hx), List.length_append]
      rfl
section
variable {P : Program} {w : World} {A : Around} {E : Value → Shared → Prop} {s : Shared}
theorem strs_get : ∀ {us : List Value} {xs : List Str}, StrsAre us xs → ∀ (i : Nat) (v : Value), us[i]? = some v → ∃ x t, xs[i]? = some x ∧ v = .str x t
  | _, _, .nil, i, v, h => by simp at h
  | _, _, .cons x t _, 0, v, h => ⟨x, t, rfl, (Option.some.inj h).symm⟩
  | _, _, .cons _ _ r, i + 1, v, h => strs_get r i v h
/-- the loop of set(..) over an iterator of texts -/
theorem fill_texts {R : Result → Shared → Prop} {I : Addr} {fp wr : List Addr} {G : Array GenState → Array GenState → Prop} {Pv : Nat → Value → Prop} {St : Nat → Shared → Prop} (xs : List Str) (W : WalksS P w A.in1 I fp wr G xs.length Pv St) (S : Addr) (hS : S ∉ fp)
    (hb : xs.length + 1 < scanBound) (hval : ∀ i v, Pv i v → ∃ x t, xs[i]? = some x ∧ v = .str x t) :
    ∀ (m i : Nat) (s : Shared), xs.length - i = m → i ≤ xs.length → St i s → Got P w s.heap S (xs.take i) →
      (∀ s', Moved (S :: wr) G s s' → Got P w s'.heap S xs → R (.ok (.ret .none)) s') → codeAny (model P w) A (.builtin "set.update.loop" ⟨[.ref S, .ref I], []⟩) R s := by
  have ins : ∀ b ∈ wr, b ∈ S :: wr := fun b z => List.mem_cons_of_mem _ z
  have out : S ∉ wr := fun z => hS (W.sub _ z)
  intro m
  induction m with
  | zero =>
    intro i s hm hi hst hg back
    have hi' : i = xs.length := by omega
    rw [hi', List.take_length] at hg
    rw [hi'] at hst
    refine codeAny_builtin PyProof.Rows.F.entry_set_update_loop ?_
    rw [Around.under_plainId PyProof.Rows.F.plain_set_update_loop _]
    show wpAny _ A.in1 (pyNext (.ref I) >>= _) _ _ s
    exact wpAny_bind (W.done s _ _ hst fun s' mv => wpAny_pure (back s' (mv.mono ins) (hg.keep fun o z => mv.heap S o out z)))
  | succ m ih =>
    intro i s hm hi hst hg back
    have lt : i < xs.length := by omega
    refine codeAny_builtin PyProof.Rows.F.entry_set_update_loop ?_
    rw [Around.under_plainId PyProof.Rows.F.plain_set_update_loop _]
    show wpAny _ A.in1 (pyNext (.ref I) >>= _) _ _ s
    refine wpAny_bind (W.item i s _ _ lt hst fun v s' hP hst' mv => ?_)
    obtain ⟨x, t, hx, rfl⟩ := hval i v hP
    have g1 : Got P w s'.heap S (xs.take i) := hg.keep fun o z => mv.heap S o out z
    have small : (metS (xs.take i)).length + 1 < scanBound := by
      have := metS_le _ (xs.take i) rfl
      rw [List.length_take] at this
      omega
    show wpAny _ A.in1 (holding [Value.str x t] (setAdd S (.str x t)) >>= _) _ _ s'
    refine wpAny_bind (wpAny_holding ?_)
    unfold setAdd
    refine wpAny_holding (wpAny_bind ((PySem.strKind P w).pyHash (k := x) (strKind_is _ _ _ _) ?_))
    refine wpAny_setAddHashed_of (knd := PySem.strKind P w) (s := { s' with toks := s'.toks + 1 }) (strKind_is _ _ _ _) rfl g1 small fun h' but g2 => ?_
    have g3 : Got P w h' S (xs.take (i + 1)) := by
      rw [List.take_add_one, hx]
      exact Got.more g2
    refine wpAny_pure ⟨plainId_quiet PyProof.Rows.F.plain_set_update_loop _, ih (i + 1) _ (by omega) lt (W.frame _ s' _ _ hst' (Nat.le_succ _) fun b hb o z => ?_) g3 fun s2 mv2 g4 => ?_⟩
    · rw [but.2 b fun e => hS (e ▸ hb)]
      exact z
    · refine back s2 (Moved.trans W.gtrans ((mv.mono ins).then_heap (Nat.le_succ _) fun b o hb z => ?_) mv2) g4
      rw [but.2 b fun e => hb (e ▸ List.mem_cons_self)]
      exact z
/-- the set that set() lays -/
def bareSet (led : Bool) : Obj := { cls := .type "set", dict := none, data := .set #[] 0 (.fresh 0 0 led) }
set_option maxHeartbeats 8000000 in
theorem set_of_texts {l : Addr} {items : Array Value} {xs : List Str} {Q : Value → Shared → Prop} (hh : A.handled = none) (hl : s.heap.IsTuple l items) (hx : StrsAre items.toList xs) (hb : xs.length + 1 < scanBound)
    (h : ∀ (h' : Heap) (tk : Nat), Got P w h' s.heap.objs.size xs → (∀ b o, s.heap.get? b = some o → h'.get? b = some o) → Q (.ref s.heap.objs.size) { s with heap := h', toks := tk }) : wpAny (model P w) A (call (.type "set") [.ref l]) Q E s := by
  have size_eq : items.size = xs.length := by
    have q := StrsAre.length hx
    simpa using q
  have hmro := PySem.F.called_set.mro
  obtain ⟨c, tl, hmro⟩ := hmro
  have made := PySem.F.called_set.made
  have sub := PySem.F.called_set.sub
  have notT := PySem.F.called_set.notType
  have can := PySem.F.called_set.canCreate
  have chk := PySem.F.typeCall_set_1 (.ref l)
  refine wpAny_call (codeAny_of_tree ?_)
  show wpAny _ _ (callAny (.type "set") _) _ _ _
  refine wpAny_pure ⟨Code.quiet_builtin _ (by decide +kernel), codeAny_builtin PySem.F.entry_type_call ?_⟩
  rw [Around.under_plain (weight_type_call_type "set" [.ref l] []) rfl]
  repeat (any_goals (first | assumption | wp_step))
  refine codeAny_mono (code_set_new_1 (.ref l) (E := E) (Q₁ := fun obj s₁ => ∃ led : Bool, obj = .ref s.heap.objs.size ∧ s₁ = { s with heap := s.heap.push (bareSet led) }) fun led => ⟨led, rfl, rfl⟩) fun r s₁ hr => ?_
  match r, hr with
  | .error e, hr => exact hr
  | .ok .next, hr => exact hr.elim
  | .ok .brk, hr => exact hr.elim
  | .ok .cont, hr => exact hr.elim
  | .ok (.ret obj), hr =>
    obtain ⟨led, rfl, rfl⟩ := hr
    have atS : (s.heap.push (bareSet led)).get? s.heap.objs.size = some (bareSet led) := Heap.get?_push_size _ rfl
    have isS : Shared.TypeIs { s with heap := s.heap.push (bareSet led) } (.ref s.heap.objs.size) "set" := ⟨_, atS, rfl⟩
    have look := PySem.F.called_set.init.lookup
    have bind := PySem.F.called_set.init.bind (.ref s.heap.objs.size)
    repeat (any_goals (first | assumption | wp_step))
    refine codeAny_mono (codeAny_call_builtin (R := wants (fun r s₂ => r = .none ∧ ∃ h' tk, s₂ = { s with heap := h', toks := tk } ∧ Got P w h' s.heap.objs.size xs ∧ (∀ b o, s.heap.get? b = some o → h'.get? b = some o)) E)
      PySem.F.called_set.init.plain PySem.F.entry_set_init (check_set_init_1 isS ?_)) fun r₂ s₂ hr₂ => ?_
    · obtain ⟨⟨ocls, odict, odata, oslots⟩, hol, hcl, nl, hdl⟩ := hl
      simp only at hcl hdl
      subst hcl
      subst hdl
      have atL := Heap.get?_push_of_some (bareSet led) hol
      have hl1 : (s.heap.push (bareSet led)).IsTuple l items := ⟨_, atL, rfl, nl, rfl⟩
      have nots := PySem.F.sub_tuple_set
      have notf := PySem.F.sub_tuple_frozenset
      have notd : (Value.type "tuple" == Value.type "dict") = false := by decide
      unfold Builtin.«set.__init__» noKeywords Builtin.Frozenset.updateFrom
      generalize hPI : pyIter = PI
      wp_walk
      subst hPI
      refine wpAny_pyIter_tuple hl1 ?_
      refine wpAny_bind (wpAny_runValue ?_)
      have lS : l < s.heap.objs.size := Heap.lt_size hol
      have hh3 : A.in1.in1.in1.handled = none := by simp [hh]
      have sz : (s.heap.push (bareSet led)).objs.size = s.heap.objs.size + 1 := Heap.size_push ..
      have neI : l ≠ (s.heap.push (bareSet led)).objs.size := fun z => by
        rw [z, sz] at lS
        exact Nat.lt_irrefl _ (Nat.lt_of_succ_lt lS)
      have apart : s.heap.objs.size ∉ [(s.heap.push (bareSet led)).objs.size, l] := by
        rw [sz]
        simp only [List.mem_cons, List.not_mem_nil, or_false, not_or]
        exact ⟨Nat.ne_of_lt (Nat.lt_succ_self _), Nat.ne_of_gt lS⟩
      have vals : ∀ (i : Nat) (v : Value), items[i]? = some v → ∃ x t, xs[i]? = some x ∧ v = .str x t := fun i v hv => strs_get hx i v (by rw [Array.getElem?_toList]; exact hv)
      have Wk := (Walks.tuple (prog := P) (w := w) hh3 _ l neI items).toS
      rw [size_eq] at Wk
      refine fill_texts xs Wk s.heap.objs.size apart hb vals (xs.length - 0) 0 _ rfl (Nat.zero_le _) ⟨⟨_, Heap.get?_push_size _ rfl, rfl, rfl⟩, (hl1.push _)⟩ ?_ fun s' mv g => ?_
      · have at2 := Heap.get?_push_of_some { cls := .type "tuple_iterator", data := .fields #[.ref l, .int 0 0] } atS
        exact SetOf_congr ((setObjOf_fresh (knd := PySem.strKind P w) led).setOf at2 (by unfold scanBound; omega)) (fun _ => rfl) rfl
      · obtain ⟨h', g', d', tk', os'⟩ := s'
        have e1 : g' = s.gens := mv.gens
        have e2 : d' = s.drawn := mv.drawn
        have e3 : os' = s.os := mv.os
        subst e1
        subst e2
        subst e3
        refine wpAny_pure ?_
        show wpAny _ _ (ret Value.none) _ _ _
        refine wpAny_pure ⟨rfl, h', tk', rfl, g, fun b o z => ?_⟩
        have hbs : b < s.heap.objs.size := Heap.lt_size z
        refine mv.heap b o ?_ (Heap.get?_push_of_some _ (Heap.get?_push_of_some _ z))
        rw [sz]
        simp only [List.mem_cons, List.not_mem_nil, or_false, not_or]
        exact ⟨Nat.ne_of_lt hbs, Nat.ne_of_lt (Nat.lt_succ_of_lt hbs)⟩
    · match r₂, hr₂ with
      | .error e, hr₂ => exact hr₂
      | .ok .next, hr₂ => exact hr₂.elim
      | .ok .brk, hr₂ => exact hr₂.elim
      | .ok .cont, hr₂ => exact hr₂.elim
      | .ok (.ret v), hr₂ =>
        obtain ⟨rfl, h', tk, rfl, g, k⟩ := hr₂
        repeat (any_goals (first | assumption | wp_step))
        exact h _ _ g k
end
/-! ### set(t) and its length, over the layer -/
section
variable {X : Cx}
def SetS (P : Program) (w : World) (a : Addr) (xs : List Str) : HO := .ext fun h => Got P w h a xs
def rSetT (P : Program) (w : World) (K : PySem.W.Frag) : List V → Hp → VK → Prop := fun vs H Q => ∃ (a : Addr) (xs : List Str), vs = [.ref a] ∧ SqT K H a (xs.map V.str) ∧ xs.length ≤ 2000 ∧ ∀ p, H p = none → Q (.ref p) (upd H p (SetS P w p xs))
theorem call_setT (hc : X.calm = true) : CallR X (.type "set") (rSetT X.prog X.w X.K) := by
  intro pins s σ H vs us Q I r h
  obtain ⟨a, xs, rfl, ht, hl, q⟩ := h
  have e := Vals.ref1 r
  subst e
  obtain ⟨its, rv, tp, hz⟩ := I.tuple ht
  refine set_of_texts (P := X.prog) (w := X.w) (xs := xs) (I.ok.hd hc) tp (by simpa using Vals.strs rv) (by unfold scanBound; omega) fun h' tk g k => ?_
  have fr : H s.heap.objs.size = none := I.hok.fresh (Nat.le_refl _)
  have here : ∃ o, h'.get? s.heap.objs.size = some o := by
    obtain ⟨o, _, _, _, ho, _⟩ := id g
    exact ⟨o, ho⟩
  exact ⟨.ref s.heap.objs.size, upd H s.heap.objs.size (SetS X.prog X.w s.heap.objs.size xs), I.laid (t' := tk) k (Nat.le_refl _) ⟨g, here, fun h1 h2 z kk => z.keep kk⟩, rfl, q _ fr⟩
def rLenSetS (P : Program) (w : World) : List V → Hp → VK → Prop := fun vs H Q => ∃ (a : Addr) (xs : List Str), vs = [.ref a] ∧ H a = some (SetS P w a xs) ∧ xs.length ≤ 2000 ∧ Q (.int ((metS xs).length : Nat)) H
theorem call_lenSetS : CallR X (.builtin "len") (rLenSetS X.prog X.w) := by
  intro pins s σ H vs us Q I r h
  obtain ⟨a, xs, rfl, ha, hl, q⟩ := h
  have e := Vals.ref1 r
  subst e
  have g : Got X.prog X.w s.heap a xs := (I.hok a _ ha).1
  obtain ⟨o, es, ep, t, ho, hex, hd, _, _, _, hf, hn⟩ := g
  have hle := metS_le _ xs rfl
  refine call_len_set ho hex hd hf (by rw [hn]; omega) ⟨.int ((metS xs).length : Nat), H, I.tok _, ⟨_, by rw [hn]⟩, q⟩
end
end KB

set_option Elab.async false
set_option linter.all false
set_option maxRecDepth 100000
set_option maxHeartbeats 4000000
/-! KB2: xs[n:] = ys. -/
namespace KB
open PySem PySem.Spec PyProof.Rows L2

theorem tail_bounds {a n : Nat} (h : a ≤ n) : sliceBounds (some (a : Int)) none none n = ((a : Int), (n : Int), 1) := by
  simp only [sliceBounds, Option.getD_none]
  have z : ¬ ((a : Int) < 0) := by omega
  simp only [z, if_false, show (1 : Int) > 0 by decide, if_true]
  congr 1
  omega
section
variable {prog : Program} {w : World} {A : Around} {E : Value → Shared → Prop} {s : Shared}
theorem store_tail {l b sl : Addr} {old new : Array Value} {n n2 : Nat} {vl : Value} {a : Nat} {Q : Unit → Shared → Prop} (e : s.heap.get? l = some { cls := .type "list", data := .seq old n }) (e2 : s.heap.get? b = some { cls := .type "list", data := .seq new n2 }) (hne : l ≠ b)
    (hs : s.heap.IsSliceOf sl vl .none .none) (pl : IsPart vl (some (a : Int))) (ha : a ≤ old.size) (hsz : old.size + new.size ≤ sizeLine)
    (h : Q () { s with heap := s.heap.update l (Obj.mapSeq fun xs => xs.extract 0 a ++ new ++ xs.extract old.size xs.size) }) : wpAny (model prog w) A (setItem (.ref l) (.ref sl) (.ref b)) Q E s := by
  have isL : s.heap.IsList l old := PySem.IsL.isList e
  have isB : s.heap.IsList b new := PySem.IsL.isList e2
  obtain ⟨os, hos, hcs, hds⟩ := id hs
  have tyS : s.TypeIs (.ref sl) "slice" := ⟨os, hos, hcs⟩
  have unlike : Builtin.List.listSameRef (.ref l) (.ref b) = false := by
    unfold Builtin.List.listSameRef
    exact beq_eq_false_iff_ne.mpr hne
  have top : (max (a : Int) (old.size : Int)).toNat = old.size := by omega
  have fits : ((fun xs : Array Value => xs.extract 0 a ++ new ++ xs.extract old.size xs.size) old).size ≤ sizeLine + 1 := by
    simp only [Array.size_append, Array.size_extract]
    omega
  unfold setItem
  try with_reducible refine wpAny_holding ?_
  first | refine wpAny_bind (wpAny_pure ?_) | skip
  refine wpAny_bind (wpAny_sequenceKey isL.typeIs (by decide) ?_)
  refine wpAny_bind (wpAny_callSpecial?_slot (name := Str.ofString "__setitem__") isL.typeIs slot_list_setitem
    (wpAny_call_entry slot_list_setitem isL.typeIs entry_list_setitem ?_ (args_list_setitem _ _ _)))
  show wpAny _ _ (Builtin.List.listSubscript? (.ref sl) >>= _) _ _ s
  unfold Builtin.List.listSubscript?
  refine wpAny_bind (wpAny_bind (wpAny_specialOf tyS slice_no_index ?_))
  simp only [Option.isNone_none, if_true]
  refine wpAny_pure ?_
  show wpAny _ _ (typeOf (.ref sl) >>= _) _ _ s
  refine wpAny_bind (wpAny_typeOf tyS ?_)
  first
    | rw [if_neg (by decide)]
    | refine PySem.W.KFB.if_not (by decide) ?_
  rw [listSliceParts_eq]
  refine wpAny_bind (wpAny_bind (wpAny_field hos hds (x := .none) rfl (wpAny_bind (wpAny_listPart .none ?_))))
  rw [if_neg (show ¬ ((rawPart none == rawInt 0) = true) from Bool.false_ne_true)]
  refine wpAny_bind (wpAny_field hos hds (x := vl) rfl (wpAny_bind (wpAny_listPart pl ?_)))
  refine wpAny_bind (wpAny_field hos hds (x := .none) rfl (wpAny_bind (wpAny_listPart .none (wpAny_pure ?_))))
  first
    | simp only [unlike, Bool.false_eq_true, if_false]
    | refine PySem.W.KFB.if_not unlike ?_
    | (dsimp only
       rw [if_neg (by rw [unlike]; exact Bool.false_ne_true)])
  refine wpAny_bind (m := Builtin.List.listAllItems (.ref b) "must assign iterable to extended slice") ?_
  unfold Builtin.List.listAllItems
  refine wpAny_bind (wpAny_typeOf isB.typeIs ?_)
  first
    | refine PySem.W.KFB.if_so (by decide) ?_
    | rw [if_pos (by decide)]
    | simp only [beq_self_eq_true, Bool.true_or, if_true]
  unfold Builtin.List.listItems
  refine wpAny_bind (wpAny_seqItems e2 rfl (wpAny_pure ?_))
  refine wpAny_bind (wpAny_bind (wpAny_seqItems e rfl (wpAny_pure ?_)))
  have run := (sliceIndices_raw (some (a : Int)) none none old.size (by simp)).trans (congrArg (pure : Int × Int × Int → Sem (Int × Int × Int)) (tail_bounds ha))
  refine wpAny_bind (wpAny_of_eq run ?_)
  show wpAny _ _ (if ((1 : Int) == 1) = true then _ else _) _ _ s
  rw [if_pos (by decide)]
  refine wpAny_bind (wpAny_rule ?_)
  first
    | simp only [notLongL hsz, Bool.false_eq_true, if_false]
    | refine PySem.W.KFB.if_not (notLongL hsz) ?_
  first | refine wpAny_bind (wpAny_pure ?_) | skip
  show wpAny _ _ (updateSeq l (fun xs => xs.extract 0 ((a : Int)).toNat ++ new ++ xs.extract (max (a : Int) (old.size : Int)).toNat xs.size) >>= _) _ _ s
  rw [top, Int.toNat_natCast]
  refine wpAny_bind (wpAny_updateSeq (hz := Nat.le_trans (Nat.le_add_right _ _) hsz) (_hz' := fits) e rfl ?_)
  refine wpAny_bind (wpAny_letGo ?_)
  first
    | exact wpAny_bind (wpAny_pure (wpAny_pure ⟨.none, rfl, wpAny_pure h⟩))
    | exact wpAny_pure ⟨.none, rfl, wpAny_pure h⟩
end
section
variable {X : Cx}
/-- o[lo:] = .. -/
def gTail (to tlo : TE) : TG := fun v σ H Q => to σ H fun o H1 => tlo σ H1 fun i H2 => ∃ (l b : Addr) (xs ys : List V) (n : Nat), o = .ref l ∧ i = .int (n : Int) ∧ v = .ref b ∧ H2 l = some (.lst xs) ∧ H2 b = some (.lst ys) ∧ l ≠ b ∧ n ≤ xs.length ∧ xs.length + ys.length ≤ sizeLine ∧
  Q σ (upd H2 l (.lst (xs.take n ++ ys)))
theorem pg_tail {o lo : Expr} {to tlo : TE} {p2 pos : Pos} (ho : PE X o to) (hlo : PE X lo tlo)
    (ha : ∀ v, assign (.Subscript o (.Slice (some lo) none none p2) pos) X.env v = (do
      let ov ← holding [v] (eval o X.env)
      let iv ← holding [v, ov] (eval (.Slice (some lo) none none p2) X.env)
      standAt pos
      holding [v, ov, iv] (setItem ov iv v)
      release [iv, v, ov] []) := by intro _; rfl) : PG X (.Subscript o (.Slice (some lo) none none p2) pos) (gTail to tlo) := by
  refine ⟨fun pins s σ H v u Q I r h => ?_⟩
  rw [ha]
  refine wpAny_bind (wpAny_holding (thn (ho.run pins s σ H _ I h) fun ov s1 ⟨x, H1, I1, r1, q1⟩ => wpAny_bind (wpAny_holding (wpAny_Slice ?_))))
  refine thn (hlo.run pins s1 σ H1 _ I1 q1) fun vl s2 ⟨i, H2, I2, ri, l, b, xs, ys, n, ex, ei, ev, hl, hb, hne, hn, hz, q2⟩ => ?_
  subst ex
  subst ei
  subst ev
  rw [evalPart_none]
  refine wpAny_pure (wpAny_pure (wpAny_bind (wpAny_standAt (wpAny_bind (wpAny_holding ?_)))))
  cases r1
  cases r
  obtain ⟨t, rfl⟩ := ri
  have I3 : Inv X pins σ H2 { s2 with heap := s2.heap.push { cls := .type "slice", data := .fields #[Value.int (n : Int) t, .none, .none] } } := I2.kept (t' := s2.toks) fun b ob q => Heap.get?_push_of_some _ q
  obtain ⟨z1, its, k1, rv, hlen, e⟩ := I3.lstM hl
  obtain ⟨z2, its2, k2, rv2, hlen2, e2⟩ := I3.lstM hb
  have sa : its.toArray.size = xs.length := by rw [List.size_toArray]; exact rv.length.symm
  have sb : its2.toArray.size = ys.length := by rw [List.size_toArray]; exact rv2.length.symm
  have done : Inv X pins σ (upd H2 l (.lst (xs.take n ++ ys))) { s2 with heap := (s2.heap.push { cls := .type "slice", data := .fields #[Value.int (n : Int) t, .none, .none] }).update l (Obj.mapSeq fun xs => xs.extract 0 n ++ its2.toArray ++ xs.extract its.toArray.size xs.size) } := by
    refine I3.lset (its' := its.take n ++ its2) (t' := s2.toks) hl e ?_ (Vals.append (rv.take n) rv2) ?_
    · have g := splice_eq its its2 n its.toArray.size
      rw [show its.drop its.toArray.size = [] from List.drop_eq_nil_of_le (by rw [List.size_toArray]; exact Nat.le_refl _), List.append_nil] at g
      exact g
    · rw [List.length_append, List.length_take]
      omega
  refine store_tail (a := n) e e2 hne (Heap.IsSliceOf.new ..) (.int _ _) (by rw [sa]; exact hn) (by rw [sa, sb]; exact hz) ?_
  exact wpAny_release ⟨σ, _, done, q2⟩
end
end KB

set_option Elab.async false
set_option linter.all false
set_option maxRecDepth 100000
set_option maxHeartbeats 4000000
/-! KE0: more of what readings evaluate to; pages and logs. -/
namespace KB
open PySem L2 Evl

section
variable {K : PySem.W.Frag} {σ : L2.St} {H H' : Hp} {ta tb tc te tx : TE} {t u : TT} {x y z v : V} {r r' : R2}
theorem et_yes : EvT tYes σ H true := fun H1 _ _ q => q H1 (Ex.refl H1)
theorem ev_chain {k m : Bool} (ha : Ev ta σ H x) (hb : Ev tb σ H y) (hr : RV r x y H (.bl k)) (hc : k = true → Ev tc σ H z) (hr' : k = true → RV r' y z H (.bl m)) : Ev (tChain r r' ta tb tc) σ H (.bl (k && m)) := fun H1 e Q q =>
  ha H1 e _ fun H2 e2 => hb H2 (e.trans e2) _ fun H3 e3 => hr H3 ((e.trans e2).trans e3) _ fun H4 e4 => ⟨k, rfl, by
    cases k with
    | true =>
      show tc σ H4 _
      exact hc rfl H4 (((e.trans e2).trans e3).trans e4) _ fun H5 e5 => hr' rfl H5 ((((e.trans e2).trans e3).trans e4).trans e5) Q fun H6 e6 => q H6 ((((e2.trans e3).trans e4).trans e5).trans e6)
    | false =>
      show Q (.bl false) H4
      exact q H4 ((e2.trans e3).trans e4)⟩
/-- isinstance(e, T), T a built-in type -/
theorem ev_isi {T T' : String} {b : Bool} (ha : Ev ta σ H x) (hx : ∀ H1, Ex H H1 → TyX K H1 x (.type T)) (hk : kitB T T' = some b) : Ev (tCB (rIsi K) (tCons ta (tCons (tC (.ty T')) tNil))) σ H (.bl b) := fun H1 e Q q =>
  ha H1 e _ fun H2 e2 => ⟨x, .ty T', .type T, .type T', b, rfl, .ty T', hx H2 (e.trans e2), kit_ty hk, q H2 e2⟩
def rLenStr : List V → Hp → VK → Prop := fun xs H Q => ∃ z : Str, xs = [.str z] ∧ z.length ≤ sizeLine ∧ Q (.int z.length) H
theorem ev_lenStr {z : Str} (ha : Ev ta σ H (.str z)) (hz : z.length ≤ 100000) : Ev (tCB rLenStr (tCons ta tNil)) σ H (.int (z.length : Int)) := fun H1 e Q q =>
  ha H1 e _ fun H2 e2 => ⟨z, rfl, sz_of hz, q H2 e2⟩
theorem ev_lenTup {p : Addr} {xs : List V} (ha : Ev ta σ H (.ref p)) (h : SqT K H p xs) : Ev (tCB (rLenS K) (tCons ta tNil)) σ H (.int (xs.length : Int)) := fun H1 e Q q =>
  ha H1 e _ fun H2 e2 => ⟨p, xs, rfl, Or.inr (ex_t (e.trans e2) h), q H2 e2⟩
/-- all(..) of a new list of truth values -/
theorem ev_all {bs : List Bool} (ha : EvL ta σ H (bs.map V.bl)) : Ev (tCB (rAll K) (tCons ta tNil)) σ H (.bl (bs.all id)) := fun H1 e Q q =>
  ha H1 e _ fun p H2 _ e2 hp => ⟨p, bs, rfl, sq_of hp, q H2 e2⟩
theorem rv_inSign {c : Nat} {z : Str} : RV (fun x y H Q => ∃ (c : Nat) (z : Str), x = .str ⟨#[c]⟩ ∧ y = .str z ∧ Q (.bl (decide (c ∈ z.cps.toList))) H) (.str ⟨#[c]⟩) (.str z) H (.bl (decide (c ∈ z.cps.toList))) := fun H1 _ _ q => ⟨c, z, rfl, rfl, q H1 (Ex.refl H1)⟩
/-- a comprehension over the signs of a text -/
theorem el_lcS {s : Str} {tl : TE} {j : Nat} {vs : List Nat} (f : Nat → Bool) (v : Nat → V) (h : Ev tl σ H (.str s)) (hz : s.cps.size ≤ 40000) (hw : ∀ x, wipe ((wipe σ vs).set j (some x)) vs = wipe σ vs)
    (ht : ∀ (i c : Nat) H1, Ex H H1 → s.cps[i]? = some c → EvT t ((wipe σ vs).set j (some (.str ⟨#[c]⟩))) H1 (f i)) (he : ∀ (i c : Nat) H1, Ex H H1 → s.cps[i]? = some c → f i = true → Ev te ((wipe σ vs).set j (some (.str ⟨#[c]⟩))) H1 (v i)) :
    EvL (tLc (iStr tl) (gName j) t te vs) σ H (given s.cps.size f v) := fun H0 e Q q => h H0 e _ fun H1 e1 => ⟨s, rfl, fun Dl hD =>
  lc_it walk_str (Cw H1 f v Dl) ⟨hD, Ex.new hD, upd_same⟩ (fun _ _ _ _ => trivial) (fun i x H' H'' hi p hy => by
    obtain ⟨rfl, c, hc, rfl⟩ := hy
    exact ⟨hw _, cw_turn p (by omega) (ht i c H1 (e.trans e1) hc) (fun hf => he i c H1 (e.trans e1) hc hf)⟩) (fun H' p => q Dl H' (fresh_back e1 p.1) (e1.trans p.2.1) p.2.2)⟩
/-- over a tuple -/
theorem el_lcT {a : Addr} {xs : List V} {tl : TE} {j : Nat} {vs : List Nat} (f : Nat → Bool) (v : Nat → V) (h : Ev tl σ H (.ref a)) (hx : SqT K H a xs) (hz : xs.length ≤ 40000) (hw : ∀ x, wipe ((wipe σ vs).set j (some x)) vs = wipe σ vs)
    (ht : ∀ (i : Nat) (x : V) H1, Ex H H1 → xs[i]? = some x → EvT t ((wipe σ vs).set j (some x)) H1 (f i)) (he : ∀ (i : Nat) (x : V) H1, Ex H H1 → xs[i]? = some x → f i = true → Ev te ((wipe σ vs).set j (some x)) H1 (v i)) :
    EvL (tLc (iTup K tl) (gName j) t te vs) σ H (given xs.length f v) := fun H0 e Q q => h H0 e _ fun H1 e1 => ⟨a, rfl, ⟨xs, ex_t (e.trans e1) hx⟩, fun Dl hD =>
  lc_it (walk_tup (K := K) (a := a) (xs := xs)) (Cw H1 f v Dl) ⟨hD, Ex.new hD, upd_same⟩ (fun i H' _ p => ex_t ((e.trans e1).trans p.2.1) hx) (fun i x H' H'' hi p hy => by
    obtain ⟨rfl, hc⟩ := hy
    exact ⟨hw _, cw_turn p (by omega) (ht i x H1 (e.trans e1) hc) (fun hf => he i x H1 (e.trans e1) hc hf)⟩) (fun H' p => q Dl H' (fresh_back e1 p.1) (e1.trans p.2.1) p.2.2)⟩
/-- a, b = t at values -/
theorem given_all {n : Nat} (v : Nat → V) : given n (fun _ => true) v = (List.range n).map v := by
  unfold given
  rw [List.filter_eq_self.mpr (fun _ _ => rfl)]
theorem ex_tyT {a : Addr} {xs : List V} (h : SqT K H a xs) : TyX K H (.ref a) (.type "tuple") := by
  rcases h with (h | ⟨o, h⟩) | ⟨o, its, n, h1, h2, _⟩
  · exact .base (.tup h)
  · exact .fTuple h
  · exact .kTuple h1 h2
theorem ex_tyL {a : Addr} {xs : List V} (h : SqL K H a xs) : TyX K H (.ref a) (.type "list") := by
  rcases h with (h | ⟨o, h⟩) | ⟨o, its, n, h1, h2, _⟩
  · exact .base (.lst h)
  · exact .base (.frz h)
  · exact .kList h1 h2
end

/-! ### pages, events, logs -/
def LETS : List Nat := ("abcdefghijklmnopqrstuvwxyz" : Str).cps.toList
def pageB (x : Str) : Bool := (decide ((1 : Int) ≤ x.length) && decide ((x.length : Int) ≤ 4)) && x.cps.toList.all fun c => decide (c ∈ LETS)
theorem pageB_len {x : Str} (h : pageB x = true) : x.length ≤ 4 := by
  unfold pageB at h
  simp only [Bool.and_eq_true, decide_eq_true_eq] at h
  omega
def hitS : Str := "hit"
def missS : Str := "miss"
abbrev Ev1 := Str × Str
def okE (e : Ev1) : Prop := (e.1 = hitS ∨ e.1 = missS) ∧ pageB e.2 = true
structure Pages (ps : List Str) : Prop where
  all : ∀ p ∈ ps, pageB p = true
  nd : ps.Nodup
  len : ps.length ≤ 200
structure LogK (K : PySem.W.Frag) (H : Hp) (l : Addr) (es : List Ev1) : Prop where
  at_ : ∃ ts : List Addr, SqL K H l (ts.map V.ref) ∧ Paired (fun t (e : Ev1) => SqT K H t [.str e.1, .str e.2]) ts es
  ok : ∀ e ∈ es, okE e
  len : es.length ≤ 300
theorem Paired.imp {α β : Type} {R S : α → β → Prop} : ∀ {as : List α} {bs : List β}, Paired R as bs → (∀ a b, R a b → S a b) → Paired S as bs
  | _, _, .nil, _ => .nil
  | _, _, .cons h t, k => .cons (k _ _ h) (Paired.imp t k)
theorem LogK.mono {K : PySem.W.Frag} {H H' : Hp} {l : Addr} {es : List Ev1} (e : Ex H H') (h : LogK K H l es) : LogK K H' l es := by
  obtain ⟨⟨ts, h1, h2⟩, h3, h4⟩ := h
  exact ⟨⟨ts, ex_l e h1, Paired.imp h2 fun _ _ z => ex_t e z⟩, h3, h4⟩
theorem paired_at {α β : Type} {R : α → β → Prop} : ∀ {as : List α} {bs : List β} {i : Nat} {b : β}, Paired R as bs → bs[i]? = some b → ∃ a, as[i]? = some a ∧ R a b
  | _, _, 0, b, .cons h t, e => ⟨_, rfl, by cases e; exact h⟩
  | _, _, i + 1, b, .cons h t, e => paired_at (i := i) t e
  | _, _, 0, b, .nil, e => nomatch e
  | _, _, i + 1, b, .nil, e => nomatch e
theorem paired_at' {α β : Type} {R : α → β → Prop} : ∀ {as : List α} {bs : List β} {i : Nat} {a : α}, Paired R as bs → as[i]? = some a → ∃ b, bs[i]? = some b ∧ R a b
  | _, _, 0, b, .cons h t, e => ⟨_, rfl, by cases e; exact h⟩
  | _, _, i + 1, b, .cons h t, e => paired_at' (i := i) t e
  | _, _, 0, b, .nil, e => nomatch e
  | _, _, i + 1, b, .nil, e => nomatch e
theorem paired_len {α β : Type} {R : α → β → Prop} : ∀ {as : List α} {bs : List β}, Paired R as bs → as.length = bs.length
  | _, _, .nil => rfl
  | _, _, .cons _ t => by rw [List.length_cons, List.length_cons, paired_len t]
theorem paired_snoc {α β : Type} {R : α → β → Prop} {a : α} {b : β} (h : R a b) : ∀ {as : List α} {bs : List β}, Paired R as bs → Paired R (as ++ [a]) (bs ++ [b])
  | _, _, .nil => .cons h .nil
  | _, _, .cons h1 t => .cons h1 (paired_snoc h t)

/-! ### sizes -/
def isMiss (e : Ev1) : Bool := decide (e.1 = missS)
def misses (es : List Ev1) : Nat := es.countP isMiss
/-- the number of pages at moment t -/
def szAt (c n : Nat) (es : List Ev1) (t : Nat) : Nat := min c (n + misses (es.take t))
def szs (c n : Nat) (es : List Ev1) : List Nat := (List.range (es.length + 1)).map (szAt c n es)
/-- is event e an evicting miss -/
def lateB (c n : Nat) (es : List Ev1) (e : Nat) : Bool := match es[e]? with
  | some v => isMiss v && decide (szAt c n es e = c)
  | none => false
def lates (c n : Nat) (es : List Ev1) : List Nat := (List.range es.length).filter (lateB c n es)
def natV (n : Nat) : V := .int (n : Int)
theorem misses_succ {es : List Ev1} {t : Nat} {e : Ev1} (h : es[t]? = some e) : misses (es.take (t + 1)) = misses (es.take t) + (if isMiss e = true then 1 else 0) := by
  unfold misses
  rw [List.take_add_one, h, List.countP_append]
  simp [List.countP_cons]
end KB

set_option Elab.async false
set_option linter.all false
set_option maxRecDepth 100000
set_option maxHeartbeats 4000000
namespace KB
open PySem L2
/-! ### the text -/
def topS (i : Nat) : Stmt := PySem.Challenge.pw_hitlog_k43_first_differences.main.body.getD i (.Pass ⟨0, 0, 0, 0⟩)
abbrev sIsInteger : Stmt := topS 11
abbrev sIsPage : Stmt := topS 12
abbrev sIsMark : Stmt := topS 13
abbrev sIsEvent : Stmt := topS 14
abbrev sIsShelf : Stmt := topS 15
abbrev sIsLog : Stmt := topS 16
abbrev sCheckCapacity : Stmt := topS 17
abbrev sCheckShelf : Stmt := topS 18
abbrev sCheckStart : Stmt := topS 19
abbrev sCheckLog : Stmt := topS 20
abbrev sFirstDiff : Stmt := topS 25
abbrev sCkRule : Stmt := topS 26
abbrev sPlay : Stmt := topS 27
abbrev sVictim : Stmt := topS 28
abbrev sSource : Stmt := topS 30
abbrev sDraw : Stmt := topS 31
abbrev sPages : Stmt := topS 32
abbrev sSetup : Stmt := topS 33
abbrev sNext : Stmt := topS 34
abbrev sLVictim : Stmt := topS 35
abbrev sRuled : Stmt := topS 36
abbrev sWanted : Stmt := topS 37
abbrev sTurned : Stmt := topS 38
abbrev sDue : Stmt := topS 39
abbrev sRight : Stmt := topS 40
abbrev sLaw : Stmt := topS 41
abbrev sIsPageList : Stmt := topS 0
abbrev sRuleLog : Stmt := topS 0
abbrev sRuleEv : Stmt := topS 0
abbrev sCkReq : Stmt := topS 0
abbrev sCheckArguments : Stmt := topS 0
abbrev sSizes : Stmt := topS 0
abbrev sEvicting : Stmt := topS 0
abbrev sRun : Stmt := topS 0
abbrev sCounted : Stmt := topS 0
end KB

set_option Elab.async false
set_option linter.all false
set_option maxRecDepth 100000
set_option maxHeartbeats 4000000
/-! KP1: the program's defs of hitlog.logs, at valid arguments. -/
namespace KB
open PySem L2 Evl
/-- the built-in names that the module leaves alone, its constants -/
structure Bn (mg : Str → Option Value) : Prop where
  isinstance : mg "isinstance" = none
  int : mg "int" = none
  bool : mg "bool" = none
  str : mg "str" = none
  len : mg "len" = none
  all : mg "all" = none
  tuple : mg "tuple" = none
  set : mg "set" = none
  list : mg "list" = none
  range : mg "range" = none
  min : mg "min" = none
  HIT : ∃ t, mg "HIT" = some (.str "hit" t)
  MISS : ∃ t, mg "MISS" = some (.str "miss" t)
  LETTERS : ∃ t, mg "LETTERS" = some (.str "abcdefghijklmnopqrstuvwxyz" t)
  LONGEST : ∃ t, mg "LONGEST_PAGE" = some (.int 4 t)
theorem bt_isinstance : bootBuiltins "isinstance" = some (.builtin "isinstance") := by decide +kernel
theorem bt_all : bootBuiltins "all" = some (.builtin "all") := by decide +kernel
theorem bt_len : bootBuiltins "len" = some (.builtin "len") := by decide +kernel
theorem bt_min : bootBuiltins "min" = some (.builtin "min") := by decide +kernel
theorem bt_int : bootBuiltins "int" = some (.type "int") := by decide +kernel
theorem bt_bool : bootBuiltins "bool" = some (.type "bool") := by decide +kernel
theorem bt_str : bootBuiltins "str" = some (.type "str") := by decide +kernel
theorem bt_tuple : bootBuiltins "tuple" = some (.type "tuple") := by decide +kernel
theorem bt_list : bootBuiltins "list" = some (.type "list") := by decide +kernel
theorem bt_set : bootBuiltins "set" = some (.type "set") := by decide +kernel

section
variable {P : Program} {w : World} {K : PySem.W.Frag} {mg : Str → Option Value} {base : Heap}
/-! is_integer -/
theorem scInt : FnScope ["value"] ["value"] (defScope sIsInteger) := ⟨rfl, rfl, rfl, by decide +kernel, rfl, by decide +kernel, by decide +kernel⟩
def spIsInteger : Sp := fun vs H Q _ => ∃ i : Int, vs = [.int i] ∧ RetV (.bl true) H Q
theorem ok_isInteger {f : Addr} {fd : FuncData} {k : Nat} (F : Fun K "is_integer" "is_integer" sIsInteger f fd) (B : Bn mg) : FnOk P w K mg base CX0 (k + 1) f fd ["value"] spIsInteger := by
  refine F.ok scInt (fun vs H Q E h => ?_) (fun cdv A outer s H vs Q E hr h => ?_)
  · obtain ⟨i, rfl, _⟩ := h
    rfl
  · obtain ⟨i, rfl, q⟩ := h
    refine ⟨_, pss_one (ps_ret (pe_and (pe_callB call_isi (by rfl) B.isinstance bt_isinstance (pa_cons (pv 0) (pa_cons (pe_bltn (v := .ty "int") (by rfl) B.int bt_int rfl) pa_nil)))
      (pe_one (pe_not (pe_callB call_isi (by rfl) B.isinstance bt_isinstance (pa_cons (pv 0) (pa_cons (pe_bltn (v := .ty "bool") (by rfl) B.bool bt_bool rfl) pa_nil))))))), ?_⟩
    refine s_ret (v := .bl true) ?_ fun H1 e => q H1 e
    exact ev_andV (a := true) (b := true) (ev_isi (T := "int") (ev_var rfl) (fun _ _ => .base (.int i)) (by decide +kernel)) fun _ =>
      ev_notV (a := false) (ev_isi (T := "int") (ev_var rfl) (fun _ _ => .base (.int i)) (by decide +kernel))

/-! is_page -/
theorem scPage : FnScope ["value", "letter"] ["value"] (defScope sIsPage) := ⟨rfl, rfl, rfl, by decide +kernel, rfl, by decide +kernel, by decide +kernel⟩
def spIsPage : Sp := fun vs H Q _ => ∃ x : Str, vs = [.str x] ∧ x.length ≤ 10000 ∧ RetV (.bl (pageB x)) H Q
theorem lets_eq : ("abcdefghijklmnopqrstuvwxyz" : Str).cps.toList = LETS := rfl
theorem page_bits (x : Str) : (given x.cps.size (fun _ => true) fun i => V.bl (decide (x.cps.getD i 0 ∈ LETS))) = (x.cps.toList.map fun c => decide (c ∈ LETS)).map V.bl := by
  rw [given_all, List.map_map]
  apply List.ext_getElem
  · simp
  · intro i h1 h2
    have hi : i < x.cps.size := by simpa using h1
    simp [Array.getD, hi]
theorem ok_isPage {f : Addr} {fd : FuncData} {k : Nat} (F : Fun K "is_page" "is_page" sIsPage f fd) (B : Bn mg) : FnOk P w K mg base CX0 (k + 1) f fd ["value"] spIsPage := by
  refine F.ok scPage (fun vs H Q E h => ?_) (fun cdv A outer s H vs Q E hr h => ?_)
  · obtain ⟨i, rfl, _⟩ := h
    rfl
  · obtain ⟨x, rfl, hx, q⟩ := h
    obtain ⟨t4, m4⟩ := B.LONGEST
    obtain ⟨tl, ml⟩ := B.LETTERS
    refine ⟨_, pss_cons (ps_if (PW.pt (pw_or (pt_not (pt_val (pe_callB call_isi (by rfl) B.isinstance bt_isinstance (pa_cons (pv 0) (pa_cons (pe_bltn (v := .ty "str") (by rfl) B.str bt_str rfl) pa_nil)))))
        (pw_or1 (pt_not (pt_chain op_le op_le pe_int (pe_callB call_len_str (by rfl) B.len bt_len (pa_cons (pv 0) pa_nil)) (pe_glob (v := .int 4) (by rfl) m4 ⟨_, rfl⟩))))))
        (pss_one (ps_ret pe_bl)) pss_nil)
      (pss_one (ps_ret (pe_callB (cr_all rfl) (by rfl) B.all bt_all (pa_cons (pe_lc (own := [("letter", 1)]) (g := gName 1) (tt := tYes) rfl scPage.nd (pi_str (pv 0)) (blkOk_by (N := ["value", "letter"]) (sc := defScope sIsPage) (by decide +kernel))
        (fun _ _ _ _ _ => pg_name (i := 1) scPage.nd rfl (Or.inl rfl)) (fun _ _ _ _ _ => pts_nil) (fun _ _ _ _ _ => pe_cmpR op_in_sign (pv 1) (pe_glob (v := .str "abcdefghijklmnopqrstuvwxyz") (by rfl) ml ⟨_, rfl⟩) rfl)) pa_nil)))), ?_⟩
    have hlen : x.length ≤ 100000 := by omega
    refine q_when (b := !true || !(decide ((1 : Int) ≤ x.length) && decide ((x.length : Int) ≤ 4))) ?_ (fun hb H1 e => ?_) (fun hb H1 e => ?_)
    · refine et_or (et_not (et_B (ev_isi (T := "str") (ev_var rfl) (fun _ _ => .base (.str x)) (by decide +kernel)))) fun _ => et_not (et_test ?_)
      exact ev_chain ev_c (ev_lenStr (ev_var rfl) hlen) rv_I0 (fun _ => ev_c) fun _ => rv_I0
    · have e0 : pageB x = false := by
        unfold pageB
        rw [Bool.not_true, Bool.false_or, Bool.not_eq_true'] at hb
        rw [hb, Bool.false_and]
      refine s_ret ev_c fun H2 e2 => ?_
      have g := q H2 (e.trans e2)
      rw [e0] at g
      exact g
    · have e0 : pageB x = ((x.cps.toList.map fun c => decide (c ∈ LETS)).all id) := by
        unfold pageB
        rw [Bool.not_true, Bool.false_or, Bool.not_eq_false'] at hb
        rw [hb, Bool.true_and, List.all_map]
        rfl
      rw [e0] at q
      refine s_ret (ev_all ?_) fun H2 e2 => q H2 (e.trans e2)
      rw [← page_bits]
      refine el_lcS _ _ (ev_var rfl) (by show x.length ≤ 40000; omega) (fun _ => rfl) (fun i c H3 e3 hc => et_yes) fun i c H3 e3 hc _ => ?_
      have ec : x.cps.getD i 0 = c := by
        obtain ⟨h1, h2⟩ := Array.getElem?_eq_some_iff.mp hc
        rw [Array.getD, dif_pos h1]
        exact h2
      rw [ec]
      exact ev_op (ev_var rfl) ev_c rv_inSign

/-! is_event -/
theorem scEvent : FnScope ["value", "mark", "page"] ["value"] (defScope sIsEvent) := ⟨rfl, rfl, rfl, by decide +kernel, rfl, by decide +kernel, by decide +kernel⟩
def spIsEvent (K : PySem.W.Frag) : Sp := fun vs H Q _ => ∃ (t : Addr) (e : Ev1), vs = [.ref t] ∧ SqT K H t [.str e.1, .str e.2] ∧ okE e ∧ RetV (.bl true) H Q
end
end KB

set_option Elab.async false
set_option linter.all false
set_option maxRecDepth 100000
set_option maxHeartbeats 4000000
/-! KP2: is_event, is_shelf, is_log, the checks, at valid arguments. -/
namespace KB
open PySem L2 Evl
/-- a def as its callers know it -/
structure Cl (P : Program) (w : World) (K : PySem.W.Frag) (mg : Str → Option Value) (base : Heap) (k : Nat) (x : Str) (ps : List Str) (sp : Sp) : Prop where
  ex : ∃ (f : Addr) (fd : FuncData), FnOk P w K mg base CX0 k f fd ps sp ∧ mg x = some (.ref f) ∧ PySem.W.keepIn K (.ref f) = true ∧ Binds K fd ps []
section
variable {X : Cx} {k j : Nat} {ps : List Str} {sp : Sp} {x : Str} {p pos : Pos} {e : Expr} {es : List Expr} {t : TA}
theorem pe_cl (c : Cl X.prog X.w X.K X.mg X.base k x ps sp) (hr : Room j X.A) (ha : PA X (e :: es) t) (hk : k ≤ j := by decide) (hg : Gl X x := by rfl) (hdb : (x == ("__debug__" : Str)) = false := by decide)
    (he : starEach (e :: es) X.env = (false, eval e X.env) :: starEach es X.env := by rfl) (hpl : (backTo pos (starEach es X.env)).any (·.1) = false := by rfl) : PE X (.Call (.Name x p) (e :: es) [] pos) (tCall sp [] E0 t) := by
  obtain ⟨f, fd, F, hm, kp, hb⟩ := c.ex
  exact pe_call F (hr.mono hk) hg hm kp hb .nil pass0 ha hdb he hpl
end
section
variable {K : PySem.W.Frag} {σ : L2.St} {H : Hp} {te : TE} {D : Ends}
theorem s_unp2 {i j : Nat} {a : Addr} {x y : V} (h : Ev te σ H (.ref a)) (hs : SqT K H a [x, y]) (k : ∀ H1, Ex H H1 → D.nx ((σ.set i (some x)).set j (some y)) H1) : tAsg te (gTup K 2 (gCons (gName i) (gCons (gName j) gNil))) D σ H :=
  h H (Ex.refl H) _ fun H1 e => ⟨a, [x, y], rfl, ex_t e hs, rfl, x, [y], rfl, y, [], rfl, rfl, k H1 e⟩
theorem q_unp2 {tz : TS} {i j : Nat} {a : Addr} {x y : V} (h : Ev te σ H (.ref a)) (hs : SqT K H a [x, y]) (k : ∀ H1, Ex H H1 → tz D ((σ.set i (some x)).set j (some y)) H1) : tSeq (tAsg te (gTup K 2 (gCons (gName i) (gCons (gName j) gNil)))) tz D σ H :=
  s_unp2 (D := { D with nx := tz D }) h hs k
/-- a call of a def whose promise has the plain form -/
theorem ev_fn {sp : Sp} {vs : List V} {z : V} {ta : TA} (h : EvA ta σ H vs) (hs : ∀ H1, Ex H H1 → ∀ Q : VK, RetV z H1 Q → sp vs H1 Q E0) : Ev (tCall sp [] E0 ta) σ H z := fun H1 e Q q =>
  h H1 e _ fun H2 e2 => by
    rw [List.append_nil]
    exact hs H2 (e.trans e2) Q fun H3 e3 => q H3 (e2.trans e3)
theorem el_fn {sp : Sp} {vs xs : List V} {ta : TA} (h : EvA ta σ H vs) (hs : ∀ H1, Ex H H1 → ∀ Q : VK, RetL xs H1 Q → sp vs H1 Q E0) : EvL (tCall sp [] E0 ta) σ H xs := fun H1 e Q q =>
  h H1 e _ fun H2 e2 => by
    rw [List.append_nil]
    exact hs H2 (e.trans e2) Q fun p H3 hp e3 h3 => q p H3 (fresh_back e2 hp) (e2.trans e3) h3
end
section
variable {P : Program} {w : World} {K : PySem.W.Frag} {mg : Str → Option Value} {base : Heap}
theorem in_marks {m : Str} (h : m = hitS ∨ m = missS) : inV (.str m) [.str "hit", .str "miss"] = true := by
  rcases h with rfl | rfl <;> decide
theorem scMark : FnScope ["value"] ["value"] (defScope sIsMark) := ⟨rfl, rfl, rfl, by decide +kernel, rfl, by decide +kernel, by decide +kernel⟩
def spIsMark : Sp := fun vs H Q _ => ∃ m : Str, vs = [.str m] ∧ (m = hitS ∨ m = missS) ∧ RetV (.bl true) H Q
theorem ok_isMark {f : Addr} {fd : FuncData} (F : Fun K "is_mark" "is_mark" sIsMark f fd) (B : Bn mg) : FnOk P w K mg base CX0 1 f fd ["value"] spIsMark := by
  refine F.ok scMark (fun vs H Q E h => ?_) (fun cdv A outer s H vs Q E hr h => ?_)
  · obtain ⟨m, rfl, _⟩ := h
    rfl
  · obtain ⟨m, rfl, ho, q⟩ := h
    obtain ⟨th, mh⟩ := B.HIT
    obtain ⟨tm, mm⟩ := B.MISS
    refine ⟨_, pss_one (ps_ret (pe_and (pe_callB call_isi (by rfl) B.isinstance bt_isinstance (pa_cons (pv 0) (pa_cons (pe_bltn (v := .ty "str") (by rfl) B.str bt_str rfl) pa_nil)))
        (pe_one (pe_cmpR op_in_seq (pv 0) (pe_tup (pa_cons (pe_glob (v := .str "hit") (by rfl) mh ⟨_, rfl⟩) (pa_cons (pe_glob (v := .str "miss") (by rfl) mm ⟨_, rfl⟩) pa_nil))) (by with_unfolding_all rfl))))), ?_⟩
    refine s_ret (v := .bl true) ?_ fun H3 e3 => q H3 e3
    exact ev_andV (a := true) (b := true) (ev_isi (K := K) (T := "str") (ev_var rfl) (fun _ _ => .base (.str _)) (by decide +kernel)) fun _ => ev_is (ev_inU (ev_var rfl) (eu_tup (ea_cons ev_c (ea_cons ev_c ea_nil)) (by decide)) rfl rfl) (by rw [in_marks ho])
theorem ok_isEvent {f : Addr} {fd : FuncData} (F : Fun K "is_event" "is_event" sIsEvent f fd) (B : Bn mg) (cM : Cl P w K mg base 1 "is_mark" ["value"] spIsMark) (cP : Cl P w K mg base 1 "is_page" ["value"] spIsPage) : FnOk P w K mg base CX0 2 f fd ["value"] (spIsEvent K) := by
  refine F.ok scEvent (fun vs H Q E h => ?_) (fun cdv A outer s H vs Q E hr h => ?_)
  · obtain ⟨t, e, rfl, _⟩ := h
    rfl
  · obtain ⟨t, e, rfl, ht, ho, q⟩ := h
    refine ⟨_, pss_cons (ps_if (PW.pt (pw_or (pt_not (pt_val (pe_callB call_isi (by rfl) B.isinstance bt_isinstance (pa_cons (pv 0) (pa_cons (pe_bltn (v := .ty "tuple") (by rfl) B.tuple bt_tuple rfl) pa_nil)))))
        (pw_or1 (pt_cmpR op_ne (pe_callB call_len_seq (by rfl) B.len bt_len (pa_cons (pv 0) pa_nil)) pe_int (nomark _))))) (pss_one (ps_ret pe_bl)) pss_nil)
      (pss_cons (ps_asg (pv 0) (pg_tup rfl (pgs_cons (pg_name (i := 1) scEvent.nd rfl (Or.inl rfl)) (pgs_cons (pg_name (i := 2) scEvent.nd rfl (Or.inl rfl)) pgs_nil))))
      (pss_one (ps_ret (pe_and (pe_cl cM hr (pa_cons (pv 1) pa_nil)) (pe_one (pe_cl cP hr (pa_cons (pv 2) pa_nil))))))), ?_⟩
    refine q_when (b := !true || !decide ((V.int 2) = V.int 2)) ?_ (fun hb => by simp at hb) (fun _ H1 e1 => ?_)
    · exact et_or (et_not (et_B (ev_isi (T := "tuple") (ev_var rfl) (fun _ e1 => ex_tyT (ex_t e1 ht)) (by decide +kernel)))) fun _ => et_test (ev_op (ev_lenTup (ev_var rfl) ht) ev_c (rv_ne rfl))
    · refine q_unp2 (ev_var rfl) (ex_t e1 ht) fun H2 e2 => ?_
      refine s_ret (v := .bl true) ?_ fun H3 e3 => q H3 ((e1.trans e2).trans e3)
      refine ev_andV (a := true) (b := true) ?_ fun _ => ?_
      · exact ev_fn (ea_cons (ev_var rfl) ea_nil) fun H4 e4 Q' k => ⟨e.1, rfl, ho.1, k⟩
      · refine ev_fn (ea_cons (ev_var rfl) ea_nil) fun H4 e4 Q' k => ⟨e.2, rfl, ?_, ?_⟩
        · have := pageB_len ho.2
          omega
        · rw [ho.2]
          exact k

/-! is_shelf -/
theorem scShelf : FnScope ["value", "page"] ["value"] (defScope sIsShelf) := ⟨rfl, rfl, rfl, by decide +kernel, rfl, by decide +kernel, by decide +kernel⟩
def spIsShelf (K : PySem.W.Frag) : Sp := fun vs H Q _ => ∃ (t : Addr) (ps : List Str), vs = [.ref t] ∧ SqT K H t (ps.map V.str) ∧ Pages ps ∧ RetV (.bl true) H Q
theorem all_true (n : Nat) : (given n (fun _ => true) fun _ => V.bl true) = (List.replicate n true).map V.bl := by
  rw [given_all]
  apply List.ext_getElem <;> simp
theorem rep_all (n : Nat) : (List.replicate n true).all id = true := by
  rw [List.all_eq_true]
  intro b hb
  exact List.eq_of_mem_replicate hb
theorem ok_isShelf {f : Addr} {fd : FuncData} (F : Fun K "is_shelf" "is_shelf" sIsShelf f fd) (B : Bn mg) (cP : Cl P w K mg base 1 "is_page" ["value"] spIsPage) : FnOk P w K mg base CX0 3 f fd ["value"] (spIsShelf K) := by
  refine F.ok scShelf (fun vs H Q E h => ?_) (fun cdv A outer s H vs Q E hr h => ?_)
  · obtain ⟨t, e, rfl, _⟩ := h
    rfl
  · obtain ⟨t, ps, rfl, ht, hp, q⟩ := h
    refine ⟨_, pss_cons (ps_if (PW.pt (pw_or (pt_not (pt_val (pe_callB call_isi (by rfl) B.isinstance bt_isinstance (pa_cons (pv 0) (pa_cons (pe_bltn (v := .ty "tuple") (by rfl) B.tuple bt_tuple rfl) pa_nil)))))
        (pw_or1 (pt_not (pt_val (pe_callB (cr_all rfl) (by rfl) B.all bt_all (pa_cons (pe_lc (own := [("page", 1)]) (g := gName 1) (tt := tYes) rfl scShelf.nd (pi_tup (pv 0)) (blkOk_by (N := ["value", "page"]) (sc := defScope sIsShelf) (by decide +kernel))
          (fun _ _ _ _ _ => pg_name (i := 1) scShelf.nd rfl (Or.inl rfl)) (fun _ _ _ _ _ => pts_nil) (fun _ _ _ _ _ => pe_cl cP hr (pa_cons (pv 1) pa_nil))) pa_nil)))))))
        (pss_one (ps_ret pe_bl)) pss_nil)
      (pss_one (ps_ret (pe_cmpR op_eq (pe_callB call_lenSetS (by rfl) B.len bt_len (pa_cons (pe_callTy (call_setT rfl) (by rfl) B.set bt_set (pa_cons (pv 0) pa_nil)) pa_nil)) (pe_callB call_len_seq (by rfl) B.len bt_len (pa_cons (pv 0) pa_nil)) (nomark _)))), ?_⟩
    have hl := hp.len
    refine q_when (b := !true || !(List.replicate ps.length true).all id) ?_ (fun hb => by rw [rep_all] at hb; cases hb) (fun _ H1 e1 => ?_)
    · refine et_or (et_not (et_B (ev_isi (T := "tuple") (ev_var rfl) (fun _ e1 => ex_tyT (ex_t e1 ht)) (by decide +kernel)))) fun _ => et_not (et_B (ev_all ?_))
      rw [← all_true]
      have hm : (ps.map V.str).length = ps.length := List.length_map ..
      rw [← hm]
      refine el_lcT _ _ (ev_var rfl) ht (by rw [hm]; omega) (fun _ => rfl) (fun i x H3 e3 hx => et_yes) fun i x H3 e3 hx _ => ?_
      rw [List.getElem?_map] at hx
      obtain ⟨y, hy, rfl⟩ := Option.map_eq_some_iff.mp hx
      have py := hp.all y (List.mem_of_getElem? hy)
      refine ev_fn (ea_cons (ev_var rfl) ea_nil) fun H4 e4 Q' k => ⟨y, rfl, ?_, ?_⟩
      · have := pageB_len py
        omega
      · rw [py]
        exact k
    · -- len(set(value)) == len(value)
      refine ⟨.ref t, rfl, t, ps, rfl, ex_t e1 ht, by omega, fun p np => ?_⟩
      refine ⟨p, ps, rfl, upd_same, by omega, .ref t, rfl, t, ps.map V.str, rfl, .inr (ex_t (e1.trans (Ex.new np)) ht), ?_⟩
      refine ⟨rfl, ?_⟩
      rw [metS_nodup _ ps rfl hp.nd, List.length_map, decide_eq_true rfl]
      exact q _ (e1.trans (Ex.new np))

/-! is_log -/
theorem scLog : FnScope ["value", "event"] ["value"] (defScope sIsLog) := ⟨rfl, rfl, rfl, by decide +kernel, rfl, by decide +kernel, by decide +kernel⟩
def spIsLog (K : PySem.W.Frag) : Sp := fun vs H Q _ => ∃ (l : Addr) (es : List Ev1), vs = [.ref l] ∧ LogK K H l es ∧ RetV (.bl true) H Q
theorem ok_isLog {f : Addr} {fd : FuncData} (F : Fun K "is_log" "is_log" sIsLog f fd) (B : Bn mg) (cE : Cl P w K mg base 2 "is_event" ["value"] (spIsEvent K)) : FnOk P w K mg base CX0 3 f fd ["value"] (spIsLog K) := by
  refine F.ok scLog (fun vs H Q E h => ?_) (fun cdv A outer s H vs Q E hr h => ?_)
  · obtain ⟨t, e, rfl, _⟩ := h
    rfl
  · obtain ⟨l, es, rfl, hL, q⟩ := h
    refine ⟨_, pss_one (ps_ret (pe_and (pe_callB call_isi (by rfl) B.isinstance bt_isinstance (pa_cons (pv 0) (pa_cons (pe_bltn (v := .ty "list") (by rfl) B.list bt_list rfl) pa_nil)))
      (pe_one (pe_callB (cr_all rfl) (by rfl) B.all bt_all (pa_cons (pe_lc (own := [("event", 1)]) (g := gName 1) (tt := tYes) rfl scLog.nd (pi_list (pv 0)) (blkOk_by (N := ["value", "event"]) (sc := defScope sIsLog) (by decide +kernel))
          (fun _ _ _ _ _ => pg_name (i := 1) scLog.nd rfl (Or.inl rfl)) (fun _ _ _ _ _ => pts_nil) (fun _ _ _ _ _ => pe_cl cE hr (pa_cons (pv 1) pa_nil))) pa_nil))))), ?_⟩
    obtain ⟨ts, h1, h2⟩ := hL.at_
    have hn := paired_len h2
    have hl := hL.len
    refine s_ret (v := .bl (true && (List.replicate ts.length true).all id)) ?_ fun H1 e1 => ?_
    · refine ev_andV (ev_isi (T := "list") (ev_var rfl) (fun _ e1 => ex_tyL (ex_l e1 h1)) (by decide +kernel)) fun _ => ev_all ?_
      rw [← all_true]
      have hm : (ts.map V.ref).length = ts.length := List.length_map ..
      rw [← hm]
      refine el_lcL _ _ (ev_var rfl) h1 (by rw [hm]; omega) (fun _ => rfl) (fun i x H3 e3 hx => et_yes) fun i x H3 e3 hx _ => ?_
      rw [List.getElem?_map] at hx
      obtain ⟨y, hy, rfl⟩ := Option.map_eq_some_iff.mp hx
      obtain ⟨v, hv, hT⟩ := paired_at' h2 hy
      exact ev_fn (ea_cons (ev_var rfl) ea_nil) fun H4 e4 Q' k => ⟨y, v, rfl, ex_t (e3.trans e4) hT, hL.ok v (List.mem_of_getElem? hv), k⟩
    · rw [rep_all]
      exact q H1 e1
end
end KB

set_option Elab.async false
set_option linter.all false
set_option maxRecDepth 100000
set_option maxHeartbeats 4000000
/-! KP3: the checks, sizes, evicting_misses, at valid arguments. -/
namespace KB
open PySem L2 Evl
section
variable {P : Program} {w : World} {K : PySem.W.Frag} {mg : Str → Option Value} {base : Heap}
theorem scCap : FnScope ["capacity"] ["capacity"] (defScope sCheckCapacity) := ⟨rfl, rfl, rfl, by decide +kernel, rfl, by decide +kernel, by decide +kernel⟩
def spCheckCapacity : Sp := fun vs H Q _ => ∃ i : Int, vs = [.int i] ∧ 1 ≤ i ∧ RetV .non H Q
theorem ok_checkCapacity {f : Addr} {fd : FuncData} (F : Fun K "check_capacity" "check_capacity" sCheckCapacity f fd) (cI : Cl P w K mg base 1 "is_integer" ["value"] spIsInteger) : FnOk P w K mg base CX0 2 f fd ["capacity"] spCheckCapacity := by
  refine F.ok scCap (fun vs H Q E h => ?_) (fun cdv A outer s H vs Q E hr h => ?_)
  · obtain ⟨i, rfl, _⟩ := h
    rfl
  · obtain ⟨i, rfl, hi, q⟩ := h
    refine ⟨_, pss_one (ps_if (PW.pt (pw_or (pt_not (pt_val (pe_cl cI hr (pa_cons (pv 0) pa_nil)))) (pw_or1 (pt_cmpR op_lt (pv 0) pe_int (nomark _))))) pss_never pss_nil), ?_⟩
    refine s_when (b := !true || decide (i < 1)) ?_ (fun hb => ?_) (fun _ H1 e1 => q H1 e1)
    · exact et_or (et_not (et_B (ev_fn (ea_cons (ev_var rfl) ea_nil) fun H4 e4 Q' k => ⟨i, rfl, k⟩))) fun _ => et_test (ev_op (ev_var rfl) ev_c rv_I0)
    · rw [Bool.not_true, Bool.false_or, decide_eq_true_eq] at hb
      omega
theorem scCkShelf : FnScope ["start"] ["start"] (defScope sCheckShelf) := ⟨rfl, rfl, rfl, by decide +kernel, rfl, by decide +kernel, by decide +kernel⟩
def spCheckShelf (K : PySem.W.Frag) : Sp := fun vs H Q _ => ∃ (t : Addr) (ps : List Str), vs = [.ref t] ∧ SqT K H t (ps.map V.str) ∧ Pages ps ∧ RetV .non H Q
theorem ok_checkShelf {f : Addr} {fd : FuncData} (F : Fun K "check_shelf" "check_shelf" sCheckShelf f fd) (cS : Cl P w K mg base 3 "is_shelf" ["value"] (spIsShelf K)) : FnOk P w K mg base CX0 4 f fd ["start"] (spCheckShelf K) := by
  refine F.ok scCkShelf (fun vs H Q E h => ?_) (fun cdv A outer s H vs Q E hr h => ?_)
  · obtain ⟨t, ps, rfl, _⟩ := h
    rfl
  · obtain ⟨t, ps, rfl, ht, hp, q⟩ := h
    refine ⟨_, pss_one (ps_if (pt_not (pt_val (pe_cl cS hr (pa_cons (pv 0) pa_nil)))) pss_never pss_nil), ?_⟩
    refine s_when (b := !true) ?_ (fun hb => by cases hb) (fun _ H1 e1 => q H1 e1)
    exact et_not (et_B (ev_fn (ea_cons (ev_var rfl) ea_nil) fun H4 e4 Q' k => ⟨t, ps, rfl, ex_t e4 ht, hp, k⟩))
theorem scCkLog : FnScope ["log"] ["log"] (defScope sCheckLog) := ⟨rfl, rfl, rfl, by decide +kernel, rfl, by decide +kernel, by decide +kernel⟩
def spCheckLog (K : PySem.W.Frag) : Sp := fun vs H Q _ => ∃ (l : Addr) (es : List Ev1), vs = [.ref l] ∧ LogK K H l es ∧ RetV .non H Q
theorem ok_checkLog {f : Addr} {fd : FuncData} (F : Fun K "check_log" "check_log" sCheckLog f fd) (cL : Cl P w K mg base 3 "is_log" ["value"] (spIsLog K)) : FnOk P w K mg base CX0 4 f fd ["log"] (spCheckLog K) := by
  refine F.ok scCkLog (fun vs H Q E h => ?_) (fun cdv A outer s H vs Q E hr h => ?_)
  · obtain ⟨t, ps, rfl, _⟩ := h
    rfl
  · obtain ⟨t, es, rfl, hl, q⟩ := h
    refine ⟨_, pss_one (ps_if (pt_not (pt_val (pe_cl cL hr (pa_cons (pv 0) pa_nil)))) pss_never pss_nil), ?_⟩
    refine s_when (b := !true) ?_ (fun hb => by cases hb) (fun _ H1 e1 => q H1 e1)
    exact et_not (et_B (ev_fn (ea_cons (ev_var rfl) ea_nil) fun H4 e4 Q' k => ⟨t, es, rfl, hl.mono e4, k⟩))
theorem scStart : FnScope ["capacity", "start"] ["capacity", "start"] (defScope sCheckStart) := ⟨rfl, rfl, rfl, by decide +kernel, rfl, by decide +kernel, by decide +kernel⟩
def spCheckStart (K : PySem.W.Frag) : Sp := fun vs H Q _ => ∃ (i : Int) (t : Addr) (ps : List Str), vs = [.int i, .ref t] ∧ SqT K H t (ps.map V.str) ∧ Pages ps ∧ (ps.length : Int) ≤ i ∧ RetV .non H Q
theorem ok_checkStart {f : Addr} {fd : FuncData} (F : Fun K "check_start" "check_start" sCheckStart f fd) (B : Bn mg) (cS : Cl P w K mg base 4 "check_shelf" ["start"] (spCheckShelf K)) : FnOk P w K mg base CX0 5 f fd ["capacity", "start"] (spCheckStart K) := by
  refine F.ok scStart (fun vs H Q E h => ?_) (fun cdv A outer s H vs Q E hr h => ?_)
  · obtain ⟨i, t, ps, rfl, _⟩ := h
    rfl
  · obtain ⟨i, t, ps, rfl, ht, hp, hi, q⟩ := h
    refine ⟨_, pss_cons (ps_expr (pe_cl cS hr (pa_cons (pv 1) pa_nil))) (pss_one (ps_if (pt_cmpR op_gt (pe_callB call_len_seq (by rfl) B.len bt_len (pa_cons (pv 1) pa_nil)) (pv 0) (nomark _)) pss_never pss_nil)), ?_⟩
    refine q_drop (ev_fn (ea_cons (ev_var rfl) ea_nil) fun H4 e4 Q' k => ⟨t, ps, rfl, ex_t e4 ht, hp, k⟩) fun H1 e1 => ?_
    refine s_when (b := decide (i < ((ps.map V.str).length : Int))) (et_test (ev_op (ev_lenTup (ev_var rfl) (ex_t e1 ht)) (ev_var rfl) rv_I0)) (fun hb => ?_) (fun _ H2 e2 => q H2 (e1.trans e2))
    rw [decide_eq_true_eq, List.length_map] at hb
    omega
end
end KB


set_option Elab.async false
set_option linter.all false
set_option maxRecDepth 100000
set_option maxHeartbeats 4000000
/-! KL1: the law's source of numbers and its draws. -/
namespace KB
open PySem L2 Evl
/-- the abstract heap without a -/
def hid (H : Hp) (a : Addr) : Hp := fun b => if b = a then none else H b
theorem hid_self {H : Hp} {a : Addr} : hid H a a = none := if_pos rfl
theorem hid_ne {H : Hp} {a b : Addr} (h : b ≠ a) : hid H a b = H b := if_neg h
theorem hid_none {H : Hp} {a b : Addr} (h : H b = none) : hid H a b = none := by
  by_cases e : b = a
  · exact if_pos e
  · rw [hid_ne e]; exact h
theorem hid_some {H : Hp} {a b : Addr} {o : HO} (h : hid H a b = some o) : b ≠ a ∧ H b = some o := by
  by_cases e : b = a
  · rw [e, hid_self] at h
    cases h
  · rw [hid_ne e] at h
    exact ⟨e, h⟩
theorem ex_hid (H : Hp) (a : Addr) : Ex (hid H a) H := fun b o h => (hid_some h).2
theorem hidE {H H' : Hp} (e : Ex H H') (a : Addr) : Ex (hid H a) H' := (ex_hid H a).trans e
theorem ex_hid2 {H H1 H2 : Hp} {a : Addr} (e : Ex (hid H a) H1) (e2 : Ex (hid H1 a) H2) : Ex (hid H a) H2 := fun b o h => e2 b o (by rw [hid_ne (hid_some h).1]; exact e b o h)
/-- a fresh place was fresh all along -/
theorem fresh_hid {H H' : Hp} {a p : Addr} {o : HO} (e : Ex (hid H a) H') (ha : H' a = some o) (h : H' p = none) : H p = none := by
  have n : p ≠ a := fun z => by rw [z, ha] at h; cases h
  have q := fresh_back e h
  rw [hid_ne n] at q
  exact q
theorem sqt_hid {K : PySem.W.Frag} {H : Hp} {a t : Addr} {xs ys : List V} (h : SqT K H t xs) (ha : H a = some (.lst ys)) : SqT K (hid H a) t xs := by
  rcases h with (h | ⟨o, h⟩) | h
  · exact .inl (.inl (by rw [hid_ne (ne_of h ha (by intro z; cases z))]; exact h))
  · exact .inl (.inr ⟨o, by rw [hid_ne (ne_of h ha (by intro z; cases z))]; exact h⟩)
  · exact .inr h
theorem sql_hid {K : PySem.W.Frag} {H : Hp} {a t : Addr} {xs : List V} (h : SqL K H t xs) (ha : t ≠ a) : SqL K (hid H a) t xs := by
  rcases h with (h | ⟨o, h⟩) | h
  · exact .inl (.inl (by rw [hid_ne ha]; exact h))
  · exact .inl (.inr ⟨o, by rw [hid_ne ha]; exact h⟩)
  · exact .inr h
/-- the source at a, that has given at most B mixed numbers -/
def SrcAt (H : Hp) (a : Addr) (B : Int) : Prop := ∃ x y z : Int, H a = some (.lst [.int x, .int y, .int z]) ∧ 0 ≤ x ∧ 0 ≤ y ∧ y < 2 ^ 200 ∧ 0 ≤ z ∧ z ≤ B
theorem SrcAt.mono {H H' : Hp} {a : Addr} {B : Int} (e : Ex H H') (h : SrcAt H a B) : SrcAt H' a B := by
  obtain ⟨x, y, z, h, r⟩ := h
  exact ⟨x, y, z, e a _ h, r⟩
theorem SrcAt.le {H : Hp} {a : Addr} {B C : Int} (h : SrcAt H a B) (hb : B ≤ C) : SrcAt H a C := by
  obtain ⟨x, y, z, h, r1, r2, r3, r4, r5⟩ := h
  exact ⟨x, y, z, h, r1, r2, r3, r4, Int.le_trans r5 hb⟩
theorem SrcAt.is {H : Hp} {a : Addr} {B : Int} (h : SrcAt H a B) : ∃ xs, H a = some (.lst xs) := by
  obtain ⟨x, y, z, h, _⟩ := h
  exact ⟨_, h⟩
structure Bl (mg : Str → Option Value) : Prop where
  max : mg "max" = none
  abs : mg "abs" = none
  repr : mg "repr" = none
theorem bt_max : bootBuiltins "max" = some (.builtin "max") := by decide +kernel
theorem bt_abs : bootBuiltins "abs" = some (.builtin "abs") := by decide +kernel
theorem bt_repr : bootBuiltins "repr" = some (.builtin "repr") := by decide +kernel
section
variable {P : Program} {w : World} {K : PySem.W.Frag} {mg : Str → Option Value} {base : Heap}
theorem scSource : FnScope ["script", "k", "cell"] ["script", "k"] (defScope sSource) := ⟨rfl, rfl, rfl, by decide +kernel, rfl, by decide +kernel, by decide +kernel⟩
def spSource (K : PySem.W.Frag) : Sp := fun vs H Q _ => ∃ (a : Addr) (k : Nat) (ns : List Int), vs = [.ref a, .int (k : Int)] ∧ SqL K H a (ns.map V.int) ∧ k ≤ 100 ∧ ∀ p H2, H p = none → Ex H H2 → SrcAt H2 p 0 → Q (.ref p) H2
theorem cell_le {ns : List Int} {k : Nat} (h : k < ns.length) : atI (ns.map V.int) ((k : Nat) : Int) = some (V.int (ns.getD k 0)) := by
  refine atI_nat ?_
  rw [List.getElem?_map, List.getElem?_eq_getElem h, List.getD_eq_getElem?_getD, List.getElem?_eq_getElem h]
  rfl
theorem ok_source {f : Addr} {fd : FuncData} (F : Fun K "_law_source" "_law_source" sSource f fd) (B : Bn mg) (B2 : Bl mg) : FnOk P w K mg base CX0 1 f fd ["script", "k"] (spSource K) := by
  refine F.ok scSource (fun vs H Q E h => ?_) (fun cdv A outer s H vs Q E hr h => ?_)
  · obtain ⟨a, k, ns, rfl, _⟩ := h
    rfl
  · obtain ⟨a, k, ns, rfl, hs, hk, q⟩ := h
    refine ⟨_, pss_cons (ps_set (i := 2) scSource.nd rfl (Or.inl rfl) (pe_ifExp (pt_cmpR op_lt (pv 1) (pe_callB call_len_seq (by rfl) B.len bt_len (pa_cons (pv 0) pa_nil)) (nomark _)) (pe_ix ix_list (pv 0) (pv 1) (fun _ _ => rfl)) pe_int))
      (pss_one (ps_ret (pe_lst (pa_cons (pe_callB (call_max2 rfl) (by rfl) B2.max bt_max (pa_cons pe_int (pa_cons (pe_op op_sub (pe_callB call_abs (by rfl) B2.abs bt_abs (pa_cons (pv 2) pa_nil)) (pe_op op_pow pe_int pe_int)) pa_nil)))
        (pa_cons (pe_op op_add (pe_op op_mod (pv 2) (pe_op op_add (pe_op op_pow pe_int pe_int) pe_int)) (pe_op op_mul pe_int (pv 1))) (pa_cons pe_int pa_nil)))))), ?_⟩
    have hm : (ns.map V.int).length = ns.length := List.length_map ..
    refine q_asg (v := .int (ns.getD k 0)) (ev_if (b := decide ((k : Int) < ((ns.map V.int).length : Int))) (et_test (ev_op (ev_var rfl) (ev_len (ev_var rfl) hs) rv_I0)) (fun hb => ?_) (fun hb => ?_)) fun H1 e1 => ?_
    · rw [decide_eq_true_eq, hm] at hb
      exact ev_op (ev_var rfl) (ev_var rfl) (rv_ixL hs (cell_le (by omega)))
    · rw [decide_eq_false_iff_not, hm] at hb
      have e0 : ns.getD k 0 = 0 := by
        rw [List.getD_eq_getElem?_getD, List.getElem?_eq_none (by omega)]
        rfl
      rw [e0]
      exact ev_c
    · generalize ns.getD k 0 = c
      refine s_retL (xs := [.int (if (if c < 0 then -c else c) - 10 ^ (18 : Int).toNat > 0 then (if c < 0 then -c else c) - 10 ^ (18 : Int).toNat else 0), .int (c % (10 ^ (39 : Int).toNat + 7) + 27644437 * (k : Int)), .int 0]) (el_lst (ea_cons ?_ (ea_cons ?_ (ea_cons ev_c ea_nil))) (show 3 ≤ 100000 by decide)) fun p H2 hp e2 h2 => q p H2 (fresh_back e1 hp) (e1.trans e2) ⟨_, _, _, h2, ?_, ?_, ?_, by decide, by decide⟩
      · exact ev_cb (ea_cons ev_c (ea_cons (ev_op (ev_cb (ea_cons (ev_var rfl) ea_nil) fun H7 e7 Q' k => ⟨_, rfl, k H7 (Ex.refl H7)⟩) (ev_op ev_c ev_c (rv_I ⟨by decide, by decide, by decide⟩)) rv_I0) ea_nil)) fun H7 e7 Q' k => ⟨_, _, rfl, k H7 (Ex.refl H7)⟩
      · refine ev_op (ev_op (ev_var rfl) (ev_op (ev_op ev_c ev_c (rv_I ⟨by decide, by decide, by decide⟩)) ev_c rv_I0) (rv_I (show (0 : Int) < 10 ^ (39 : Int).toNat + 7 by decide))) (ev_op ev_c (ev_var rfl) (rv_I (.inl ⟨by decide, by decide⟩))) rv_I0
      · split <;> omega
      · have h1 : 0 ≤ c % (10 ^ (39 : Int).toNat + 7) := Int.emod_nonneg _ (by decide)
        omega
      · have h1 : c % (10 ^ (39 : Int).toNat + 7) < 10 ^ (39 : Int).toNat + 7 := Int.emod_lt_of_pos _ (by decide)
        have h2 : ((10 : Int) ^ (39 : Int).toNat + 7) + 27644437 * 100 < 2 ^ 200 := by decide
        have h3 : 27644437 * (k : Int) ≤ 27644437 * 100 := by omega
        generalize (10 : Int) ^ (39 : Int).toNat + 7 = m at h1 h2 ⊢
        generalize (2 : Int) ^ 200 = b at h2 ⊢
        omega

/-! _law_draw -/
theorem scDraw : FnScope ["source", "bound", "found", "mixed"] ["source", "bound"] (defScope sDraw) := ⟨rfl, rfl, rfl, by decide +kernel, rfl, by decide +kernel, by decide +kernel⟩
def spDraw : Sp := fun vs H Q _ => ∃ (a : Addr) (b B : Int), vs = [.ref a, .int b] ∧ 0 < b ∧ b ≤ 100000 ∧ SrcAt H a B ∧ B ≤ 1000000 ∧ ∀ d H2, 0 ≤ d → d < b → Ex (hid H a) H2 → SrcAt H2 a (B + 1) → Q (.int d) H2
theorem mix_fit {y z : Int} (h1 : 0 ≤ y) (h2 : y < 2 ^ 200) (h3 : 0 ≤ z) (h4 : z ≤ 1000002) : PowFit (y + 86028121 * z) 3 := by
  refine ⟨by decide, by decide, ?_⟩
  have h5 : y + 86028121 * z < 2 ^ 201 := by
    have : (2 : Int) ^ 201 = 2 ^ 200 + 2 ^ 200 := by decide
    have h6 : (86028121 * 1000002 : Int) < 2 ^ 200 := by decide
    rw [this]
    generalize (2 : Int) ^ 200 = b at *
    omega
  have h7 : (2 : Int) ^ 201 < 2 ^ 250 := by decide
  have h8 : (y + 86028121 * z).natAbs < 2 ^ 250 := by
    have h9 : ((y + 86028121 * z).natAbs : Int) < ((2 ^ 250 : Nat) : Int) := by
      rw [Int.natAbs_of_nonneg (by omega)]
      exact Int.lt_trans h5 h7
    exact Int.ofNat_lt.mp h9
  exact h8
theorem mix_fit2 {m z : Int} (h1 : 0 ≤ m) (h2 : m < 10 ^ (38 : Int).toNat + 133) (h3 : 0 ≤ z) (h4 : z ≤ 1000002) : PowFit (m + 32452843 * z) 3 := by
  refine ⟨by decide, by decide, ?_⟩
  have h5 : m + 32452843 * z < 2 ^ 250 := by
    have h6 : (10 : Int) ^ (38 : Int).toNat + 133 + 32452843 * 1000002 < 2 ^ 250 := by decide
    generalize (10 : Int) ^ (38 : Int).toNat + 133 = c at *
    generalize (2 : Int) ^ 300 = b at *
    omega
  have h9 : ((m + 32452843 * z).natAbs : Int) < ((2 ^ 250 : Nat) : Int) := by
    rw [Int.natAbs_of_nonneg (by omega)]
    exact h5
  exact Int.ofNat_lt.mp h9
theorem ok_draw {f : Addr} {fd : FuncData} (F : Fun K "_law_draw" "_law_draw" sDraw f fd) : FnOk P w K mg base CX0 1 f fd ["source", "bound"] spDraw := by
  refine F.ok scDraw (fun vs H Q E h => ?_) (fun cdv A outer s H vs Q E hr h => ?_)
  · obtain ⟨a, b, B, rfl, _⟩ := h
    rfl
  · obtain ⟨a, b, B, rfl, hb0, hb1, hS, hB, q⟩ := h
    obtain ⟨x, y, z, ha, hx, hy, hy2, hz, hz2⟩ := hS
    refine ⟨_, pss_cons (ps_if (pt_cmpR op_gt (pe_ix ix_list (pv 0) pe_int (fun _ _ => rfl)) pe_int (nomark _))
        (pss_cons (ps_set (i := 2) scDraw.nd rfl (Or.inl rfl) (pe_op op_mod (pe_ix ix_list (pv 0) pe_int (fun _ _ => rfl)) (pv 1)))
        (pss_cons (ps_asg (pe_op op_fdiv (pe_ix ix_list (pv 0) pe_int (fun _ _ => rfl)) (pv 1)) (pg_sub (pv 0) pe_int set_list))
        (pss_one (ps_ret (pv 2))))) pss_nil)
      (pss_cons (ps_asg (pe_op op_add (pe_ix ix_list (pv 0) pe_int (fun _ _ => rfl)) pe_int) (pg_sub (pv 0) pe_int set_list))
      (pss_cons (ps_set (i := 3) scDraw.nd rfl (Or.inl rfl) (pe_op op_mod (pe_op op_powF (pe_op op_add (pe_ix ix_list (pv 0) pe_int (fun _ _ => rfl)) (pe_op op_mul pe_int (pe_ix ix_list (pv 0) pe_int (fun _ _ => rfl)))) pe_int) (pe_op op_add (pe_op op_pow pe_int pe_int) pe_int)))
      (pss_cons (ps_set (i := 3) scDraw.nd rfl (Or.inl rfl) (pe_op op_mod (pe_op op_powF (pe_op op_add (pv 3) (pe_op op_mul pe_int (pe_ix ix_list (pv 0) pe_int (fun _ _ => rfl)))) pe_int) (pe_op op_add (pe_op op_pow pe_int pe_int) pe_int)))
      (pss_one (ps_ret (pe_op op_mod (pe_op op_fdiv (pv 3) pe_int) (pv 1))))))), ?_⟩
    have ix : ∀ {H' : Hp} {σ : L2.St} {xs : List V} (j : Nat) {v : V}, σ[0]? = some (some (.ref a)) → H' a = some (.lst xs) → xs[j]? = some v → Ev (tOp (rIxL K) (tVar 0) (tC (.int (j : Int)))) σ H' v := fun {_ _ _} j {_} hv hh hj => ev_op (ev_var hv) ev_c (rv_ixL (sq_of hh) (atI_nat hj))
    refine q_when (b := decide (0 < x)) (et_test (ev_op (ix 0 rfl ha rfl) ev_c rv_I0)) (fun hc H1 e1 => ?_) (fun hc H1 e1 => ?_)
    · have a1 := e1 a _ ha
      refine q_asg (ev_op (ix 0 rfl a1 rfl) (ev_var rfl) (rv_I hb0)) fun H2 e2 => ?_
      have a2 := e2 a _ a1
      refine q_setL (j := 0) a2 (ev_op (ix 0 rfl a2 rfl) (ev_var rfl) (rv_I ⟨hb0, by omega⟩)) (ev_var rfl) ev_c (show 0 < 3 by decide) fun H3 e3 => ?_
      refine s_ret (ev_var rfl) fun H4 e4 => q _ H4 (Int.emod_nonneg _ (by omega)) (Int.emod_lt_of_pos _ hb0) ?_ ⟨_, y, z, e4 a _ upd_same, Int.ediv_nonneg hx (by omega), hy, hy2, hz, by omega⟩
      exact (Ex.mut (hidE ((e1.trans e2).trans e3) a) hid_self).trans e4
    · have a1 := e1 a _ ha
      refine q_setL (j := 2) a1 (ev_op (ix 2 rfl a1 rfl) ev_c rv_I0) (ev_var rfl) ev_c (show 2 < 3 by decide) fun H2 e2 => ?_
      have a2 : (upd H2 a (.lst [.int x, .int y, .int (z + 1)])) a = _ := upd_same
      have ex2 := Ex.mut (hidE (e1.trans e2) a) (p := a) (o := .lst [.int x, .int y, .int (z + 1)]) hid_self
      show _
      refine q_asg (ev_op (ev_op (ev_op (ix 1 rfl a2 rfl) (ev_op ev_c (ix 2 rfl a2 rfl) (rv_I (.inl ⟨by decide, by decide⟩))) rv_I0) ev_c (rv_I (mix_fit hy hy2 (by omega) (by omega)))) (ev_op (ev_op ev_c ev_c (rv_I ⟨by decide, by decide, by decide⟩)) ev_c rv_I0) (rv_I (show (0 : Int) < 10 ^ (38 : Int).toNat + 133 by decide))) fun H3 e3 => ?_
      have a3 := e3 a _ a2
      have m0 : 0 ≤ (y + 86028121 * (z + 1)) ^ (3 : Int).toNat % (10 ^ (38 : Int).toNat + 133) := Int.emod_nonneg _ (by decide)
      have m1 : (y + 86028121 * (z + 1)) ^ (3 : Int).toNat % (10 ^ (38 : Int).toNat + 133) < 10 ^ (38 : Int).toNat + 133 := Int.emod_lt_of_pos _ (by decide)
      generalize (y + 86028121 * (z + 1)) ^ (3 : Int).toNat % (10 ^ (38 : Int).toNat + 133) = m at m0 m1 ⊢
      refine q_asg (ev_op (ev_op (ev_op (ev_var rfl) (ev_op ev_c (ix 2 rfl a3 rfl) (rv_I (.inl ⟨by decide, by decide⟩))) rv_I0) ev_c (rv_I (mix_fit2 m0 m1 (by omega) (by omega)))) (ev_op (ev_op ev_c ev_c (rv_I ⟨by decide, by decide, by decide⟩)) ev_c rv_I0) (rv_I (show (0 : Int) < 10 ^ (37 : Int).toNat + 43 by decide))) fun H4 e4 => ?_
      refine s_ret (ev_op (ev_op (ev_var rfl) ev_c (rv_I ⟨by decide, by decide⟩)) (ev_var rfl) (rv_I hb0)) fun H5 e5 => q _ H5 (Int.emod_nonneg _ (by omega)) (Int.emod_lt_of_pos _ hb0) ?_ ?_
      · exact ((ex2.trans e3).trans e4).trans e5
      · exact ⟨x, y, z + 1, e5 a _ (e4 a _ a3), hx, hy, hy2, by omega, by omega⟩
end
end KB

set_option Elab.async false
set_option linter.all false
set_option maxRecDepth 100000
set_option maxHeartbeats 4000000
/-! KL2: the law's pages. -/
namespace KB
open PySem L2 Evl

/-! ### names -/
def nameAt (k : Nat) : Str := ⟨#[97 + k / 26, 97 + k % 26]⟩
def styled (s k : Nat) : Str := match s with
  | 0 => nameAt k ++ "zy"
  | 1 => nameAt k
  | 2 => nameAt k ++ "q"
  | _ => "zy" ++ nameAt k
def specials : List Str := ["a", "b", "aa", "ab", "aaaa", "aaab", "zzzz", "hit", "miss", "z"]
def plainNames (s n : Nat) : List Str := (List.range n).map (styled s)
def allNames (s : Nat) : List Str := if s = 2 then specials ++ plainNames 2 160 else plainNames s 160
def drawnNames (s n : Nat) : List Str := if s = 2 then (specials ++ plainNames 2 n).take n else plainNames s n
theorem plain_take (s : Nat) {n : Nat} (h : n ≤ 160) : (plainNames s 160).take n = plainNames s n := by
  unfold plainNames
  rw [← List.map_take, List.take_range, Nat.min_eq_left h]
theorem drawn_take {s n : Nat} (h : n ≤ 160) : drawnNames s n = (allNames s).take n := by
  unfold drawnNames allNames
  by_cases e : s = 2
  · subst e
    rw [if_pos rfl, if_pos rfl, List.take_append, List.take_append]
    congr 1
    rw [plain_take 2 (show n - specials.length ≤ 160 by omega)]
    have := plain_take 2 h
    unfold plainNames
    rw [← List.map_take, List.take_range]
    congr 1
    congr 1
    omega
  · rw [if_neg e, if_neg e, plain_take s h]
def styledL (s k : Nat) : List Nat := match s with
  | 0 => [97 + k / 26, 97 + k % 26, 122, 121]
  | 1 => [97 + k / 26, 97 + k % 26]
  | 2 => [97 + k / 26, 97 + k % 26, 113]
  | _ => [122, 121, 97 + k / 26, 97 + k % 26]
theorem styled_cps : ∀ s k, (styled s k).cps.toList = styledL s k
  | 0, _ => rfl
  | 1, _ => rfl
  | 2, _ => rfl
  | _ + 3, _ => rfl
theorem styledL_inj : ∀ s a b, styledL s a = styledL s b → a = b
  | 0, a, b, h => by
    simp only [styledL, List.cons.injEq] at h
    omega
  | 1, a, b, h => by
    simp only [styledL, List.cons.injEq] at h
    omega
  | 2, a, b, h => by
    simp only [styledL, List.cons.injEq] at h
    omega
  | _ + 3, a, b, h => by
    simp only [styledL, List.cons.injEq] at h
    omega
theorem styled_inj {s a b : Nat} (h : styled s a = styled s b) : a = b := styledL_inj s a b (by rw [← styled_cps, ← styled_cps, h])
theorem plain_nodup (s n : Nat) : (plainNames s n).Nodup := List.Pairwise.map _ (fun a b hab e => hab (styled_inj e)) List.nodup_range
theorem lets_at : ∀ j, j < 26 → LETS[j]? = some (97 + j) := by decide
theorem lets_mem {j : Nat} (h : j < 26) : 97 + j ∈ LETS := List.mem_of_getElem? (lets_at j h)
theorem styled_page : ∀ (s k : Nat), k < 676 → pageB (styled s k) = true := by
  intro s k hk
  have m1 : 97 + k / 26 ∈ LETS := lets_mem (by omega)
  have m2 : 97 + k % 26 ∈ LETS := lets_mem (by omega)
  have m3 : 122 ∈ LETS := by decide
  have m4 : 121 ∈ LETS := by decide
  have m5 : 113 ∈ LETS := by decide
  have hl : (styled s k).length = (styledL s k).length := by
    rw [← styled_cps, Array.length_toList]
    rfl
  unfold pageB
  rw [hl, styled_cps]
  match s with
  | 0 => simp [styledL, m1, m2, m3, m4, m5]
  | 1 => simp [styledL, m1, m2, m3, m4, m5]
  | 2 => simp [styledL, m1, m2, m3, m4, m5]
  | _ + 3 => simp [styledL, m1, m2, m3, m4, m5]
theorem specials_good : (∀ p ∈ specials, pageB p = true ∧ p.cps.toList.getLast? ≠ some 113) ∧ specials.Nodup := by decide +kernel
theorem all_good (s : Nat) : (∀ p ∈ allNames s, pageB p = true) ∧ (allNames s).Nodup := by
  have plain : ∀ p ∈ plainNames s 160, pageB p = true := fun p hp => by
    obtain ⟨k, hk, rfl⟩ := List.mem_map.mp hp
    have := List.mem_range.mp hk
    exact styled_page s k (by omega)
  unfold allNames
  by_cases e : s = 2
  · subst e
    rw [if_pos rfl]
    refine ⟨fun p hp => ?_, List.nodup_append.mpr ⟨specials_good.2, plain_nodup 2 160, fun a ha b hb z => ?_⟩⟩
    · rcases List.mem_append.mp hp with h | h
      · exact (specials_good.1 p h).1
      · exact plain p h
    · obtain ⟨k, hk, rfl⟩ := List.mem_map.mp hb
      refine (specials_good.1 a ha).2 ?_
      rw [z, styled_cps]
      rfl
  · rw [if_neg e]
    exact ⟨plain, plain_nodup s 160⟩
theorem all_len (s : Nat) : 160 ≤ (allNames s).length := by
  unfold allNames plainNames
  split <;> simp [specials]
theorem drawn_good {s n : Nat} (hn : n ≤ 160) : Pages (drawnNames s n) ∧ (drawnNames s n).length = n := by
  rw [drawn_take hn]
  obtain ⟨h1, h2⟩ := all_good s
  have hl := all_len s
  refine ⟨⟨fun p hp => h1 p (List.mem_of_mem_take hp), h2.sublist (List.take_sublist _ _), ?_⟩, ?_⟩
  · rw [List.length_take]
    omega
  · rw [List.length_take]
    omega
theorem Pages.perm {ps qs : List Str} (h : Pages ps) (p : qs.Perm ps) : Pages qs := ⟨fun x hx => h.all x (p.mem_iff.mp hx), p.nodup_iff.mpr h.nd, by rw [p.length_eq]; exact h.len⟩
end KB

set_option Elab.async false
set_option linter.all false
set_option maxRecDepth 100000
set_option maxHeartbeats 4000000
/-! KL3: the law's pages, walked. -/
namespace KB
open PySem L2 Evl
section
variable {K : PySem.W.Frag} {σ : L2.St} {H H' : Hp} {ta tb tc te tx : TE} {x y z v : V} {D : Ends}
theorem ev_catS {a b : Str} (ha : Ev ta σ H (.str a)) (hb : Ev tb σ H (.str b)) (hl : a.length + b.length ≤ 1000) :
    Ev (tOp (fun x y H Q => ∃ i j, x = .str i ∧ y = .str j ∧ i.length + j.length ≤ sizeLine ∧ Q (.str (i ++ j)) H) ta tb) σ H (.str (a ++ b)) := ev_op ha hb fun H1 _ Q q => ⟨a, b, rfl, rfl, Nat.le_trans hl (by decide), q H1 (Ex.refl H1)⟩
/-- a draw, wherever it stands -/
theorem w_draw {i : Nat} {a : Addr} {b B : Int} {Q : VK} (hs : σ[i]? = some (some (.ref a))) (hb : Ev tb σ H (.int b)) (h1 : 0 < b) (h2 : b ≤ 100000) (S : SrcAt H a B) (hB : B ≤ 1000000) (k : ∀ d H', 0 ≤ d → d < b → Ex (hid H a) H' → SrcAt H' a (B + 1) → Q (.int d) H') :
    tCall spDraw [] E0 (tCons (tVar i) (tCons tb tNil)) σ H Q :=
  ⟨.ref a, hs, hb H (Ex.refl H) _ fun H1 e1 => ⟨a, b, B, rfl, h1, h2, S.mono e1, hB, fun d H2 d0 d1 e2 S2 => k d H2 d0 d1 (ex_hid2 (hidE e1 a) e2) S2⟩⟩
/-- a comprehension over range(n) whose element may change what is told -/
theorem w_lcR {ta : TA} {j n : Nat} {vs : List Nat} {Q : VK} (h : EvA ta σ H [.int (n : Int)]) (hn : n ≤ 40000) (Pv : Addr → Nat → Hp → Prop) (h0 : ∀ Dl H1, H1 Dl = none → Ex H H1 → Pv Dl 0 (upd H1 Dl (.lst [])))
    (hw : ∀ x, wipe ((wipe σ vs).set j (some x)) vs = wipe σ vs)
    (hs : ∀ Dl i H1, i < n → Pv Dl i H1 → te ((wipe σ vs).set j (some (.int (i : Int)))) H1 fun y H4 => ∃ acc, H4 Dl = some (.lst acc) ∧ acc.length < sizeLine ∧ Pv Dl (i + 1) (upd H4 Dl (.lst (acc ++ [y]))))
    (hd : ∀ Dl H1, Pv Dl n H1 → Q (.ref Dl) H1) : tLc (iRng1 ta) (gName j) tYes te vs σ H Q :=
  h H (Ex.refl H) _ fun H1 e1 => ⟨(n : Int), rfl, by omega, by omega, fun Dl hD => lc_range (lo := 0) (n := n) (Pv Dl) (h0 Dl H1 hD e1) (fun i H' hi p => by
    have e0 : (0 : Int) + (i : Int) = (i : Int) := Int.zero_add _
    show wipe ((wipe σ vs).set j (some (.int ((0 : Int) + (i : Int))))) vs = wipe σ vs ∧ (if true = true then te ((wipe σ vs).set j (some (.int ((0 : Int) + (i : Int))))) H' fun y H4 => ∃ acc, H4 Dl = some (.lst acc) ∧ acc.length < sizeLine ∧ Pv Dl (i + 1) (upd H4 Dl (.lst (acc ++ [y]))) else Pv Dl (i + 1) H')
    rw [e0, if_pos rfl]
    exact ⟨hw _, hs Dl i H' hi p⟩) (fun H' p => hd Dl H' p)⟩
/-- a for over range(n), in the midst of a block -/
theorem q_forN {ta : TA} {tu tz : TS} {j n : Nat} (h : EvA ta σ H [.int (n : Int)]) (hn : n ≤ 100000) (Pv : Nat → L2.St → Hp → Prop) (h0 : ∀ H1, Ex H H1 → Pv 0 σ H1)
    (hs : ∀ (i : Nat) σ' H', i < n → Pv i σ' H' → tu { D with nx := Pv (i + 1), ct := Pv (i + 1), bk := tz D } (σ'.set j (some (.int (i : Int)))) H') (hd : ∀ σ' H', Pv n σ' H' → tz D σ' H') : tSeq (tFor (iRng1 ta) (gName j) tu) tz D σ H :=
  q_forR1 (n := (n : Int)) h (by omega) Pv h0 (fun i σ' H' hi p => hs i σ' H' (by omega) p) fun σ' H' p => hd σ' H' p
end
section
variable {P : Program} {w : World} {K : PySem.W.Frag} {mg : Str → Option Value} {base : Heap}
theorem scPages : FnScope ["source", "count", "letters", "style", "names", "k", "name"] ["source", "count"] (defScope sPages) := ⟨rfl, rfl, rfl, by decide +kernel, rfl, by decide +kernel, by decide +kernel⟩
def spPages : Sp := fun vs H Q _ => ∃ (a : Addr) (n : Nat) (B : Int), vs = [.ref a, .int (n : Int)] ∧ 1 ≤ n ∧ n ≤ 160 ∧ SrcAt H a B ∧ B ≤ 900000 ∧
  ∀ p ps H2, H p = none → Ex (hid H a) H2 → SrcAt H2 a (B + 161) → Pages ps → ps.length = n → H2 p = some (.lst (ps.map V.str)) → Q (.ref p) H2
abbrev ALPHA : Str := "abcdefghijklmnopqrstuvwxyz"
theorem alpha_at {H : Hp} {σ : L2.St} {ta tb : TE} {j : Nat} (ha : Ev ta σ H (.str ALPHA)) (hb : Ev tb σ H (.int (j : Int))) (hj : j < 26) : Ev (tOp rIxS ta tb) σ H (.str ⟨#[97 + j]⟩) :=
  ev_op ha hb (rv_ixS (by decide) (atI_nat (lets_at j hj)))
theorem styled_ix (k : Nat) {d : Int} (h0 : 0 ≤ d) (h1 : d < 4) : atI [V.str (nameAt k ++ "zy"), V.str (nameAt k), V.str (nameAt k ++ "q"), V.str ("zy" ++ nameAt k)] d = some (V.str (styled d.toNat k)) := by
  have : d = 0 ∨ d = 1 ∨ d = 2 ∨ d = 3 := by omega
  rcases this with rfl | rfl | rfl | rfl <;> rfl
theorem take_cut (xs : List V) (n : Nat) : cutV xs none (some (n : Int)) = xs.take n := by
  unfold cutV
  rw [HT.sIx_none, HT.sIx_nat, List.drop_zero, Nat.sub_zero]
  by_cases h : n ≤ xs.length
  · rw [Nat.min_eq_left h]
  · rw [Nat.min_eq_right (by omega), List.take_length, List.take_of_length_le (by omega)]
theorem seq_nat {g : Int} {n : Nat} (h0 : 0 ≤ g) (h : g < n) : seqIndex? g n = some g.toNat := by
  unfold seqIndex?
  simp only [show ¬ g < 0 by omega, if_false]
  rw [if_pos]
  simp [h0, h]
theorem erase_map {α β : Type} (f : α → β) : ∀ (l : List α) (k : Nat), (l.map f).eraseIdx k = (l.eraseIdx k).map f
  | [], k => by simp
  | a :: l, 0 => rfl
  | a :: l, k + 1 => by
    have ih := erase_map f l k
    simp [ih]
theorem erase_len {α : Type} : ∀ (l : List α) (k : Nat), k < l.length → (l.eraseIdx k).length + 1 = l.length
  | [], k, h => absurd h (Nat.not_lt_zero _)
  | a :: l, 0, _ => rfl
  | a :: l, k + 1, h => by
    have ih := erase_len l k (by simpa using h)
    simp [ih]
theorem perm_pop {α : Type} : ∀ (l : List α) (k : Nat) (x : α), l[k]? = some x → l.Perm (x :: l.eraseIdx k)
  | [], k, x, h => by simp at h
  | a :: l, 0, x, h => by
    have e : a = x := by simpa using h
    subst e
    exact List.Perm.refl _
  | a :: l, k + 1, x, h => by
    have ih := perm_pop l k x (by simpa using h)
    exact (ih.cons a).trans (List.Perm.swap x a _)
theorem ok_pages {f : Addr} {fd : FuncData} (F : Fun K "_law_pages" "_law_pages" sPages f fd) (B0 : Bn mg) (cD : Cl P w K mg base 1 "_law_draw" ["source", "bound"] spDraw) : FnOk P w K mg base CX0 2 f fd ["source", "count"] spPages := by
  refine F.ok scPages (fun vs H Q E h => ?_) (fun cdv A outer s H vs Q E hr h => ?_)
  · obtain ⟨a, n, B, rfl, _⟩ := h
    rfl
  · obtain ⟨a, n, B, rfl, hn1, hn2, hS, hB, q⟩ := h
    refine ⟨_, pss_cons (ps_set (i := 2) scPages.nd rfl (Or.inl rfl) pe_str)
      (pss_cons (ps_asg (pe_tup (pa_cons (pe_cl cD hr (pa_cons (pv 0) (pa_cons pe_int pa_nil))) (pa_cons (pe_lst pa_nil) pa_nil))) (pg_tup rfl (pgs_cons (pg_name (i := 3) scPages.nd rfl (Or.inl rfl)) (pgs_cons (pg_name (i := 4) scPages.nd rfl (Or.inr rfl)) pgs_nil))))
      (pss_cons (ps_for PassesOwn.never rfl (pi_range1 (by rfl) B0.range (pa_cons (pv 1) pa_nil)) (pg_name (i := 5) scPages.nd rfl (Or.inl rfl))
        (pss_cons (ps_set (i := 6) scPages.nd rfl (Or.inl rfl) (pe_op op_add_str (pe_ix ix_str (pv 2) (pe_op op_fdiv (pv 5) pe_int) (fun _ _ => rfl)) (pe_ix ix_str (pv 2) (pe_op op_mod (pv 5) pe_int) (fun _ _ => rfl))))
        (pss_one (ps_expr (pe_bm PySem.F.plainAttrs_list PySem.F.slot_list_append PySem.F.type_list_append mt_append (pv 4) (pa_cons (pe_ix ix_list (pe_lst (pa_cons (pe_op op_add_str (pv 6) pe_str) (pa_cons (pv 6) (pa_cons (pe_op op_add_str (pv 6) pe_str) (pa_cons (pe_op op_add_str pe_str (pv 6)) pa_nil))))) (pv 3) (fun _ _ => rfl)) pa_nil))))))
      (pss_cut (ps_if (pt_cmpR op_eq (pv 3) pe_int (nomark _)) (pss_one (ps_set (i := 4) scPages.nd rfl (Or.inr rfl) (pe_slice sl_list (pe_op op_cat (pe_lst (pa_cons pe_str (pa_cons pe_str (pa_cons pe_str (pa_cons pe_str (pa_cons pe_str (pa_cons pe_str (pa_cons pe_str (pa_cons pe_str (pa_cons pe_str (pa_cons pe_str pa_nil))))))))))) (pv 4)) po_none (po_some (pv 1))))) pss_nil)
      (pss_one (ps_ret (pe_lc (own := [("k", 5)]) (g := gName 5) (tt := tYes) (te := tBM K "list" rPopAt (tVar 4) (tCons (tCall spDraw [] E0 (tCons (tVar 0) (tCons (tCB (rLenS K) (tCons (tVar 4) tNil)) tNil))) tNil)) rfl scPages.nd (pi_range1 (by rfl) B0.range (pa_cons (pv 1) pa_nil)) (blkOk_by (N := ["source", "count", "letters", "style", "names", "k", "name"]) (sc := defScope sPages) (by decide +kernel))
        (fun _ _ _ _ _ => pg_name (i := 5) scPages.nd rfl (Or.inl rfl)) (fun _ _ _ _ _ => pts_nil)
        (fun _ _ _ _ _ => pe_bm PySem.F.plainAttrs_list PySem.F.slot_list_pop PySem.F.type_list_pop mt_popAt (pv 4) (pa_cons (pe_cl cD hr (pa_cons (pv 0) (pa_cons (pe_callB call_len_seq (by rfl) B0.len bt_len (pa_cons (pv 4) pa_nil)) pa_nil))) pa_nil)))))))), ?_⟩
    refine q_asg ev_c fun H1 e1 => ?_
    -- style, names
    show tCall spDraw [] E0 (tCons (tVar 0) (tCons (tC (.int 4)) tNil)) _ H1 _
    refine w_draw rfl ev_c (by decide) (by decide) (hS.mono e1) (by omega) fun d H2 d0 d1 e2 S2 => ?_
    have k2 : Ex (hid H a) H2 := ex_hid2 (hidE e1 a) e2
    obtain ⟨xs2, a2⟩ := S2.is
    refine ⟨Nat.zero_le _, fun nm hnm => ⟨by show 2 ≤ sizeLine; decide, fun T hT => ?_⟩⟩
    have nmT : nm ≠ T := fun z => by rw [z, upd_same] at hT; cases hT
    have anm : a ≠ nm := fun z => by rw [z, hnm] at a2; cases a2
    have k3 : Ex H2 (upd (upd H2 nm (.lst [])) T (.tup [.int d, .ref nm])) := (Ex.new hnm).trans (Ex.new hT)
    have nm3 : (upd (upd H2 nm (.lst [])) T (.tup [.int d, .ref nm])) nm = some (.lst []) := by rw [upd_ne nmT, upd_same]
    refine ⟨T, _, rfl, .inl (.inl upd_same), rfl, .int d, [.ref nm], rfl, .ref nm, [], rfl, rfl, ?_⟩
    generalize upd (upd H2 nm (.lst [])) T (.tup [.int d, .ref nm]) = H3 at k3 nm3
    have fnm : H nm = none := fresh_hid k2 a2 hnm
    have k3' : Ex (hid H a) H3 := k2.trans k3
    -- the names, one by one
    refine q_forN (n := n) (ea_cons (ev_var rfl) ea_nil) (by omega) (fun i σ H' => ∃ y5 y6, σ = [some (.ref a), some (.int (n : Int)), some (.str ALPHA), some (.int d), some (.ref nm), y5, y6] ∧ Ex (hid H a) H' ∧ SrcAt H' a (B + 1) ∧ H' nm = some (.lst ((plainNames d.toNat i).map V.str)))
      (fun H4 e4 => ⟨none, none, rfl, k3'.trans e4, S2.mono (k3.trans e4), e4 nm _ nm3⟩) (fun i σ H' hi hP => ?_) (fun σ H' hP => ?_)
    · obtain ⟨y5, y6, rfl, e, S, hn⟩ := hP
      have ix : ∀ {H5 : Hp} {σ : L2.St}, σ[2]? = some (some (.str ALPHA)) → σ[5]? = some (some (.int (i : Int))) → Ev (tOp (fun x y H Q => ∃ i j, x = .str i ∧ y = .str j ∧ i.length + j.length ≤ sizeLine ∧ Q (.str (i ++ j)) H) (tOp rIxS (tVar 2) (tOp (rI CDiv fun i j => .int (i / j)) (tVar 5) (tC (.int 26)))) (tOp rIxS (tVar 2) (tOp (rI (fun _ j => 0 < j) fun i j => .int (i % j)) (tVar 5) (tC (.int 26))))) σ H5 (.str (nameAt i)) := fun hA h5 => by
        refine ev_is (ev_catS (alpha_at (j := i / 26) (ev_var hA) (ev_op (ev_var h5) ev_c (rv_I ⟨by decide, by decide⟩)) (by omega)) (alpha_at (j := i % 26) (ev_var hA) (ev_op (ev_var h5) ev_c (rv_I (by decide))) (by omega)) (show 1 + 1 ≤ 1000 by decide)) ?_
        rfl
      refine q_asg (ix rfl rfl) fun H5 e5 => ?_
      have two : (nameAt i).length = 2 := rfl
      have small : ((plainNames d.toNat i).map V.str).length < 100000 := by
        unfold plainNames
        rw [List.length_map, List.length_map, List.length_range]
        omega
      refine s_app (l := nm) (xs := (plainNames d.toNat i).map V.str) (v := .str (styled d.toNat i)) (e5 nm _ hn) (ev_var rfl) ?_ small fun H6 e6 => ?_
      · exact ev_opL1 (el_lst (ea_cons (ev_catS (ev_var rfl) ev_c (show 2 + 2 ≤ 1000 by decide)) (ea_cons (ev_var rfl) (ea_cons (ev_catS (ev_var rfl) ev_c (show 2 + 1 ≤ 1000 by decide)) (ea_cons (ev_catS ev_c (ev_var rfl) (show 2 + 2 ≤ 1000 by decide)) ea_nil)))) (show 4 ≤ 100000 by decide))
          (fun _ _ => ev_var rfl) (fun p H7 h7 _ => rv_ixL (sq_of h7) (styled_ix i d0 d1))
      · refine ⟨_, _, rfl, Ex.mut ((e.trans e5).trans e6) (hid_none fnm), ?_, ?_⟩
        · obtain ⟨x, y, z, ha, r⟩ := S.mono (e5.trans e6)
          exact ⟨x, y, z, by rw [upd_ne anm]; exact ha, r⟩
        · rw [upd_same]
          unfold plainNames
          rw [List.range_succ, List.map_append, List.map_append]
          rfl
    · obtain ⟨y5, y6, rfl, e, S, hn⟩ := hP
      -- if style == 2
      refine ⟨fun σ H' => ∃ nm2, σ = [some (.ref a), some (.int (n : Int)), some (.str ALPHA), some (.int d), some (.ref nm2), y5, y6] ∧ nm2 ≠ a ∧ H nm2 = none ∧ Ex (hid H a) H' ∧ SrcAt H' a (B + 1) ∧ H' nm2 = some (.lst ((drawnNames d.toNat n).map V.str)), ?_, fun σ' H'' hM => ?_⟩
      · refine s_when (b := decide (V.int d = V.int 2)) (et_test (ev_op (ev_var rfl) ev_c (rv_eq rfl))) (fun hb H5 e5 => ?_) (fun hb H5 e5 => ?_)
        · have hd : d = 2 := by
            have := of_decide_eq_true hb
            injection this
          subst hd
          refine s_asgL (xs := (specials.map V.str ++ (plainNames 2 n).map V.str).take n) ?_ fun p H6 hp e6 h6 => ?_
          · rw [← take_cut]
            intro H0 e0 Q' k0
            have n0 := e0 nm _ (e5 nm _ hn)
            refine ⟨by show 10 ≤ sizeLine; decide, fun p1 hp1 => ?_⟩
            have n1 := Ex.new (o := .lst (specials.map V.str)) hp1 nm _ n0
            have x1 : Ex H0 (upd H0 p1 (.lst (specials.map V.str))) := Ex.new hp1
            refine ⟨.ref nm, rfl, p1, nm, specials.map V.str, (plainNames (2 : Int).toNat n).map V.str, rfl, rfl, upd_same, n1, ?_, fun p2 hp2 => ⟨.int (n : Int), rfl, (n : Int), rfl, p2, _, rfl, sq_of upd_same, fun p3 hp3 => ?_⟩⟩
            · have : ((plainNames (2 : Int).toNat n).map V.str).length = n := by
                unfold plainNames
                rw [List.length_map, List.length_map, List.length_range]
              rw [this]
              refine Nat.le_trans ?_ (show 1000 ≤ sizeLine by decide)
              show 10 + n ≤ 1000
              omega
            · have x2 := Ex.new (o := .lst (specials.map V.str ++ (plainNames (2 : Int).toNat n).map V.str)) hp2
              have x3 := Ex.new (o := .lst (cutV (specials.map V.str ++ (plainNames (2 : Int).toNat n).map V.str) none (some (n : Int)))) hp3
              exact k0 p3 _ (fresh_back (x1.trans x2) hp3) ((x1.trans x2).trans x3) upd_same
          · obtain ⟨xs5, a5⟩ := (S.mono e5).is
            have fp : H p = none := fresh_hid (e.trans e5) a5 hp
            have pa : p ≠ a := fun z => by rw [z, a5] at hp; cases hp
            refine ⟨p, rfl, pa, fp, (e.trans e5).trans e6, S.mono (e5.trans e6), ?_⟩
            rw [h6]
            show _ = some (HO.lst ((drawnNames 2 n).map V.str))
            unfold drawnNames
            rw [if_pos rfl, List.map_take, List.map_append]
        · have hd : d.toNat ≠ 2 := by
            intro z
            have z2 : d = 2 := by omega
            rw [z2] at hb
            simp at hb
          refine ⟨nm, rfl, anm.symm, fnm, e.trans e5, S.mono e5, ?_⟩
          rw [e5 nm _ hn]
          unfold drawnNames
          rw [if_neg hd]
      · -- the names drawn out, one by one
        obtain ⟨nm2, rfl, an2, fn2, ee, SS, hn2'⟩ := hM
        obtain ⟨gp, gl⟩ := drawn_good (s := d.toNat) hn2
        obtain ⟨xs5, a5⟩ := SS.is
        generalize drawnNames d.toNat n = N0 at hn2' gp gl
        show tLc _ _ _ _ _ _ _ _
        refine w_lcR (n := n) (ea_cons (ev_var rfl) ea_nil) (by omega) (fun Dl i H' => Dl ≠ a ∧ Dl ≠ nm2 ∧ H Dl = none ∧ ∃ rest out : List Str, rest.length + i = n ∧ (out ++ rest).Perm N0 ∧ H' nm2 = some (.lst (rest.map V.str)) ∧ H' Dl = some (.lst (out.map V.str)) ∧ out.length = i ∧ Ex (hid H a) H' ∧ SrcAt H' a (B + 1 + i)) (fun Dl H1 hD e1 => ?_) (fun _ => rfl) (fun Dl i H1 hi hP => ?_) (fun Dl H1 hP => ?_)
        · obtain ⟨x, y, z, ha, r⟩ := SS.mono e1
          have n1 : Dl ≠ a := fun z => by rw [z, ha] at hD; cases hD
          have n2 : Dl ≠ nm2 := fun z => by rw [z, e1 nm2 _ hn2'] at hD; cases hD
          have n3 := fresh_hid (ee.trans e1) ha hD
          refine ⟨n1, n2, n3, N0, [], by rw [gl]; rfl, List.Perm.refl _, ?_, upd_same, rfl, Ex.mut (ee.trans e1) (hid_none n3), ⟨x, y, z, ?_, r.1, r.2.1, r.2.2.1, r.2.2.2.1, ?_⟩⟩
          · rw [upd_ne n2.symm]
            exact e1 nm2 _ hn2'
          · rw [upd_ne n1.symm]
            exact ha
          · have := r.2.2.2.2
            show z ≤ B + 1 + ((0 : Nat) : Int)
            omega
        · obtain ⟨n1, n2, n3, rest, out, hl, hp, hr1, ho, hol, e, S⟩ := hP
          have rl : 0 < rest.length := by omega
          refine ⟨.ref nm2, rfl, .inl ⟨rfl, _, sq_of hr1⟩, ?_⟩
          refine w_draw rfl (b := (rest.length : Int)) (ev_is (ev_len (ev_var rfl) (sq_of hr1)) (by rw [List.length_map])) (by omega) (by omega) S (by omega) fun g H2 g0 g1 e2 S2 => ?_
          have k2 : Ex (hid H a) H2 := ex_hid2 e e2
          have c1 : H2 nm2 = some (.lst (rest.map V.str)) := e2 nm2 _ (by rw [hid_ne an2]; exact hr1)
          have c2 : H2 Dl = some (.lst (out.map V.str)) := e2 Dl _ (by rw [hid_ne n1]; exact ho)
          have gi : g.toNat < rest.length := by omega
          have gat : rest[g.toNat]? = some rest[g.toNat] := List.getElem?_eq_getElem gi
          refine ⟨nm2, rest.map V.str, g, g.toNat, .str rest[g.toNat], rfl, rfl, c1, by omega, ?_, ?_, ?_, out.map V.str, ?_, ?_, n1, n2, n3, rest.eraseIdx g.toNat, out ++ [rest[g.toNat]], ?_, ?_, ?_, ?_, ?_, ?_, ?_⟩
          · omega
          · rw [List.length_map]
            exact seq_nat g0 g1
          · rw [List.getElem?_map, gat]
            rfl
          · rw [upd_ne n2]
            exact c2
          · rw [List.length_map, hol]
            exact Nat.lt_of_le_of_lt (show i ≤ 200 by omega) (by decide)
          · have := erase_len rest g.toNat gi
            omega
          · have pp := perm_pop rest g.toNat _ gat
            rw [List.append_assoc]
            exact (List.Perm.append_left out pp.symm).trans hp
          · rw [upd_ne n2.symm, upd_same, erase_map]
          · rw [upd_same, List.map_append]
            rfl
          · rw [List.length_append, hol]
            rfl
          · exact Ex.mut (Ex.mut k2 (hid_none fn2)) (hid_none n3)
          · obtain ⟨x, y, z, ha, r⟩ := S2
            refine ⟨x, y, z, ?_, r.1, r.2.1, r.2.2.1, r.2.2.2.1, ?_⟩
            · rw [upd_ne n1.symm, upd_ne an2.symm]
              exact ha
            · have := r.2.2.2.2
              omega
        · obtain ⟨n1, n2, n3, rest, out, hl, hp, hr1, ho, hol, e, S⟩ := hP
          have rl : rest = [] := List.length_eq_zero_iff.mp (by omega)
          subst rl
          rw [List.append_nil] at hp
          exact q Dl out H1 n3 e (S.le (by omega)) (gp.perm hp) hol ho
end
end KB

set_option Elab.async false
set_option linter.all false
set_option maxRecDepth 100000
set_option maxHeartbeats 4000000
/-! KD: data of texts and of ints; what a run of a shelf is. -/
namespace KB
open PySem L2 Evl

theorem dp_strs {K : PySem.W.Frag} {H : Hp} : ∀ xs : List Str, DpAll K H (xs.map V.str) (xs.map PyData.str)
  | [] => .nil
  | x :: xs => .cons (.str x) (dp_strs xs)
theorem dp_ints {K : PySem.W.Frag} {H : Hp} : ∀ xs : List Nat, DpAll K H (xs.map natV) (xs.map fun (n : Nat) => PyData.int (n : Int))
  | [] => .nil
  | x :: xs => .cons (.int (x : Int)) (dp_ints xs)
theorem lay_strs : ∀ {xs : List Str}, (∀ x ∈ xs, pageB x = true) → PyData.canLayAll0 (xs.map PyData.str) = true
  | [], _ => rfl
  | x :: xs, h => by
    have ih := lay_strs (xs := xs) fun y hy => h y (List.mem_cons_of_mem _ hy)
    have hx := h x List.mem_cons_self
    rw [List.map_cons, PyData.canLayAll0, ih, Bool.and_true]
    show PyData.strOk x = true
    unfold pageB at hx
    simp only [Bool.and_eq_true, decide_eq_true_eq, List.all_eq_true] at hx
    have small : ∀ c ∈ LETS, c < 1114112 := by decide
    unfold PyData.strOk
    rw [← Array.all_toList, List.all_eq_true]
    intro c hc
    exact decide_eq_true (small c (hx.2 c hc))
theorem lay_ints : ∀ xs : List Nat, PyData.canLayAll0 (xs.map fun (n : Nat) => PyData.int (n : Int)) = true
  | [] => rfl
  | x :: xs => by
    rw [List.map_cons, PyData.canLayAll0, lay_ints xs]
    rfl
theorem depth_strs : ∀ xs : List Str, PyData.depthAll (xs.map PyData.str) = 0
  | [] => rfl
  | x :: xs => by
    rw [List.map_cons, PyData.depthAll, depth_strs xs]
    rfl
theorem depth_ints : ∀ xs : List Nat, PyData.depthAll (xs.map fun (n : Nat) => PyData.int (n : Int)) = 0
  | [] => rfl
  | x :: xs => by
    rw [List.map_cons, PyData.depthAll, depth_ints xs]
    rfl
theorem shaped_strs {xs : List Str} (h : ∀ x ∈ xs, pageB x = true) : SeqAt.shaped (.list (xs.map PyData.str)) = true := by
  unfold SeqAt.shaped
  rw [show PyData.canLay0 (.list (xs.map PyData.str)) = PyData.canLayAll0 (xs.map PyData.str) from rfl, lay_strs h, show PyData.depth (.list (xs.map PyData.str)) = PyData.depthAll (xs.map PyData.str) + 1 from rfl, depth_strs]
  rfl
theorem shaped_ints (xs : List Nat) : SeqAt.shaped (.list (xs.map fun (n : Nat) => PyData.int (n : Int))) = true := by
  unfold SeqAt.shaped
  rw [show PyData.canLay0 (.list (xs.map fun (n : Nat) => PyData.int (n : Int))) = PyData.canLayAll0 (xs.map fun (n : Nat) => PyData.int (n : Int)) from rfl, lay_ints, show PyData.depth (.list (xs.map fun (n : Nat) => PyData.int (n : Int))) = PyData.depthAll (xs.map fun (n : Nat) => PyData.int (n : Int)) + 1 from rfl, depth_ints]
  rfl
theorem eqv_nil (xs : List Str) : PyData.eqv (.list (xs.map PyData.str)) (.list []) = xs.isEmpty := by
  cases xs <;> rfl
theorem in_strs (x : Str) : ∀ cs : List Str, inV (.str x) (cs.map V.str) = decide (x ∈ cs)
  | [] => rfl
  | c :: cs => by
    have ih := in_strs x cs
    unfold inV at ih ⊢
    rw [List.map_cons, List.any_cons, ih]
    show (c == x || decide (x ∈ cs)) = decide (x ∈ c :: cs)
    by_cases e : c = x
    · subst e
      simp
    · have e2 : ¬ x = c := fun z => e z.symm
      simp [e, e2, List.mem_cons]
theorem flat_all (cs : List Str) : (cs.map V.str).all flatV = true := by
  rw [List.all_map, List.all_eq_true]
  intro _ _
  rfl
theorem range_get (ps : List Str) (d : Str) : (List.range ps.length).map (fun i => ps.getD i d) = ps := by
  apply List.ext_getElem
  · simp
  · intro i h1 h2
    simp [List.getD_eq_getElem?_getD, List.getElem?_eq_getElem h2]
theorem given_filter (ps : List Str) (f : Str → Bool) (d : Str) : given ps.length (fun i => f (ps.getD i d)) (fun i => V.str (ps.getD i d)) = (ps.filter f).map V.str := by
  have h := range_get ps d
  unfold given
  rw [← h, List.filter_map, List.map_map]
  simp only [List.length_map, List.length_range]
  rw [h]
  rfl

/-! ### a run: the events, the evicted pages, the contents at all moments, the contents now -/
inductive RunTo (room : Nat) (c0 : List Str) : List Ev1 → List Str → List (List Str) → List Str → Prop where
  | nil : RunTo room c0 [] [] [c0] c0
  | hit {es gs css cs} {p : Str} (r : RunTo room c0 es gs css cs) (h : p ∈ cs) : RunTo room c0 (es ++ [(hitS, p)]) gs (css ++ [cs]) cs
  | add {es gs css cs} {p : Str} (r : RunTo room c0 es gs css cs) (h : p ∉ cs) (hp : pageB p = true) (hl : cs.length ≠ room) : RunTo room c0 (es ++ [(missS, p)]) gs (css ++ [cs ++ [p]]) (cs ++ [p])
  | evict {es gs css cs} {p g : Str} {j : Nat} (r : RunTo room c0 es gs css cs) (h : p ∉ cs) (hp : pageB p = true) (hl : cs.length = room) (hj : cs[j]? = some g) : RunTo room c0 (es ++ [(missS, p)]) (gs ++ [g]) (css ++ [cs.eraseIdx j ++ [p]]) (cs.eraseIdx j ++ [p])
section
variable {room : Nat} {c0 : List Str} {es : List Ev1} {gs : List Str} {css : List (List Str)} {cs : List Str}
theorem szAt_snoc {n : Nat} {e : Ev1} {t : Nat} (h : t ≤ es.length) : szAt room n (es ++ [e]) t = szAt room n es t := by
  unfold szAt
  rw [List.take_append_of_le_length h]
theorem szAt_end {n : Nat} {e : Ev1} : szAt room n (es ++ [e]) (es.length + 1) = min room (n + misses es + (if isMiss e = true then 1 else 0)) := by
  unfold szAt misses
  rw [List.take_of_length_le (by simp), List.countP_append]
  simp only [List.countP_cons, List.countP_nil]
  rw [Nat.add_assoc]
  simp
theorem szs_snoc {n : Nat} {e : Ev1} : szs room n (es ++ [e]) = szs room n es ++ [szAt room n (es ++ [e]) (es.length + 1)] := by
  unfold szs
  rw [List.length_append]
  show (List.range (es.length + 1 + 1)).map _ = _
  rw [List.range_succ, List.map_append]
  congr 1
  refine List.map_congr_left fun t ht => szAt_snoc ?_
  have := List.mem_range.mp ht
  omega
theorem late_snoc {n : Nat} {e : Ev1} : lates room n (es ++ [e]) = lates room n es ++ (if (isMiss e && decide (szAt room n es es.length = room)) = true then [es.length] else []) := by
  unfold lates
  rw [List.length_append]
  show (List.range (es.length + 1)).filter _ = _
  rw [List.range_succ, List.filter_append]
  congr 1
  · refine List.filter_congr fun t ht => ?_
    have ht' := List.mem_range.mp ht
    unfold lateB
    rw [List.getElem?_append_left ht', szAt_snoc (Nat.le_of_lt ht')]
  · have e1 : lateB room n (es ++ [e]) es.length = (isMiss e && decide (szAt room n es es.length = room)) := by
      unfold lateB
      rw [List.getElem?_append_right (Nat.le_refl _), Nat.sub_self, szAt_snoc (Nat.le_refl _)]
      rfl
    rw [List.filter_cons, e1]
    split <;> rfl
theorem miss_isMiss (p : Str) : isMiss (missS, p) = true := by
  show decide (missS = missS) = true
  decide
theorem hit_isMiss (p : Str) : isMiss (hitS, p) = false := by
  show decide (hitS = missS) = false
  decide
/-- what the sizes of a run are -/
theorem RunTo.facts (h0 : c0.length ≤ room) (n0 : c0.Nodup) (p0 : ∀ p ∈ c0, pageB p = true) (r : RunTo room c0 es gs css cs) :
    cs.length = szAt room c0.length es es.length ∧ css.map List.length = szs room c0.length es ∧ gs.length = (lates room c0.length es).length ∧ cs.Nodup ∧ (∀ p ∈ cs, pageB p = true) ∧ (∀ e ∈ es, okE e) ∧ szAt room c0.length es es.length = min room (c0.length + misses es) := by
  have top : ∀ es : List Ev1, szAt room c0.length es es.length = min room (c0.length + misses es) := fun es => by
    unfold szAt
    rw [List.take_length]
  induction r with
  | nil =>
    have e0 : szAt room c0.length [] 0 = c0.length := by
      show min room (c0.length + 0) = c0.length
      omega
    refine ⟨e0.symm, ?_, rfl, n0, p0, (fun e he => nomatch he), top _⟩
    show [c0.length] = [szAt room c0.length [] 0]
    rw [e0]
  | @hit es gs css cs p r h ih =>
    obtain ⟨i1, i2, i3, i4, i5, i6, i7⟩ := ih
    have e1 : szAt room c0.length (es ++ [(hitS, p)]) (es.length + 1) = cs.length := by
      rw [szAt_end, hit_isMiss, i1, i7]
      rfl
    refine ⟨by rw [List.length_append]; exact e1.symm, ?_, ?_, i4, i5, fun e he => ?_, top _⟩
    · rw [List.map_append, i2, szs_snoc, e1]
      rfl
    · rw [late_snoc, hit_isMiss, i3]
      simp
    · rcases List.mem_append.mp he with q | q
      · exact i6 e q
      · rw [List.mem_singleton.mp q]
        exact ⟨.inl rfl, i5 p h⟩
  | @add es gs css cs p r h hp hl ih =>
    obtain ⟨i1, i2, i3, i4, i5, i6, i7⟩ := ih
    have e1 : szAt room c0.length (es ++ [(missS, p)]) (es.length + 1) = (cs ++ [p]).length := by
      rw [szAt_end, miss_isMiss, List.length_append, i1, i7]
      rw [i1, i7] at hl
      show _ = _ + 1
      simp only [if_true]
      omega
    refine ⟨by rw [show (es ++ [(missS, p)]).length = es.length + 1 by simp]; exact e1.symm, ?_, ?_, ?_, fun q hq => ?_, fun e he => ?_, top _⟩
    · rw [List.map_append, i2, szs_snoc, e1]
      rfl
    · rw [late_snoc, i3]
      have : ¬ (isMiss (missS, p) && decide (szAt room c0.length es es.length = room)) = true := by
        rw [← i1]
        simp [hl]
      rw [if_neg this, List.append_nil]
    · exact List.nodup_append.mpr ⟨i4, by simp, fun a ha b hb z => h (by rw [← List.mem_singleton.mp hb, ← z]; exact ha)⟩
    · rcases List.mem_append.mp hq with q2 | q2
      · exact i5 q q2
      · rw [List.mem_singleton.mp q2]
        exact hp
    · rcases List.mem_append.mp he with q | q
      · exact i6 e q
      · rw [List.mem_singleton.mp q]
        exact ⟨.inr rfl, hp⟩
  | @evict es gs css cs p g j r h hp hl hj ih =>
    obtain ⟨i1, i2, i3, i4, i5, i6, i7⟩ := ih
    have jl : j < cs.length := (List.getElem?_eq_some_iff.mp hj).1
    have el := erase_len cs j jl
    have e1 : szAt room c0.length (es ++ [(missS, p)]) (es.length + 1) = (cs.eraseIdx j ++ [p]).length := by
      rw [szAt_end, miss_isMiss, List.length_append]
      rw [hl] at el
      rw [i1, i7] at hl
      show _ = _ + 1
      simp only [if_true]
      omega
    have sub : ∀ q ∈ cs.eraseIdx j, q ∈ cs := fun q hq => List.mem_of_mem_eraseIdx hq
    refine ⟨by rw [show (es ++ [(missS, p)]).length = es.length + 1 by simp]; exact e1.symm, ?_, ?_, ?_, fun q hq => ?_, fun e he => ?_, top _⟩
    · rw [List.map_append, i2, szs_snoc, e1]
      rfl
    · rw [late_snoc, List.length_append, i3]
      have : (isMiss (missS, p) && decide (szAt room c0.length es es.length = room)) = true := by
        rw [← i1]
        simp [hl, miss_isMiss]
      rw [if_pos this, List.length_append]
      rfl
    · exact List.nodup_append.mpr ⟨i4.sublist (List.eraseIdx_sublist _ _), by simp, fun a ha b hb z => h (by rw [← List.mem_singleton.mp hb, ← z]; exact sub a ha)⟩
    · rcases List.mem_append.mp hq with q2 | q2
      · exact i5 q (sub q q2)
      · rw [List.mem_singleton.mp q2]
        exact hp
    · rcases List.mem_append.mp he with q | q
      · exact i6 e q
      · rw [List.mem_singleton.mp q]
        exact ⟨.inr rfl, hp⟩
end
end KB

set_option Elab.async false
set_option linter.all false
set_option maxRecDepth 100000
set_option maxHeartbeats 8000000
/-! KS: the law's setup and count, walked. -/
namespace KB
open PySem L2 Evl
theorem drop_cut (xs : List V) {n : Nat} (h : n ≤ xs.length) : cutV xs (some (n : Int)) none = xs.drop n := by
  unfold cutV
  rw [HT.sIx_none, HT.sIx_nat, Nat.min_eq_left h, List.take_of_length_le (by rw [List.length_drop]; exact Nat.le_refl _)]
section
variable {P : Program} {w : World} {K : PySem.W.Frag} {mg : Str → Option Value} {base : Heap}
theorem scSetup : FnScope ["source", "most", "size", "pages", "room", "initial"] ["source", "most", "size"] (defScope sSetup) := ⟨rfl, rfl, rfl, by decide +kernel, rfl, by decide +kernel, by decide +kernel⟩
def spSetup : Sp := fun vs H Q _ => ∃ (a : Addr) (m sz B : Int), vs = [.ref a, .int m, .int sz] ∧ SrcAt H a B ∧ B ≤ 700000 ∧ 1 ≤ m ∧ m ≤ 160 ∧ 0 ≤ sz ∧ sz ≤ 199 ∧
  ∀ (T t pg : Addr) (room n : Nat) (c0 pages : List Str) H2, H T = none → H t = none → H pg = none → pg ≠ a → Ex (hid H a) H2 → SrcAt H2 a (B + 170) → H2 T = some (.tup [.int (room : Int), .ref t, .ref pg, .int (n : Int)]) →
    H2 t = some (.tup (c0.map V.str)) → H2 pg = some (.lst (pages.map V.str)) → 1 ≤ room → room ≤ 41 → Pages c0 → c0.length ≤ room → Pages pages → pages ≠ [] → (n : Int) ≤ sz → Q (.ref T) H2
theorem caps_at {d : Int} (h0 : 0 ≤ d) (h1 : d < 3) : ∃ v : Int, atI [V.int 2, V.int 5, V.int 40] d = some (V.int v) ∧ 0 < v ∧ v ≤ 40 := by
  have : d = 0 ∨ d = 1 ∨ d = 2 := by omega
  rcases this with rfl | rfl | rfl
  · exact ⟨2, rfl, by decide, by decide⟩
  · exact ⟨5, rfl, by decide, by decide⟩
  · exact ⟨40, rfl, by decide, by decide⟩
theorem nat_of {i : Int} (h : 0 ≤ i) : ∃ n : Nat, i = (n : Int) := ⟨i.toNat, (Int.toNat_of_nonneg h).symm⟩
theorem ok_setup {f : Addr} {fd : FuncData} (F : Fun K "_law_setup" "_law_setup" sSetup f fd) (B0 : Bn mg) (cD : Cl P w K mg base 1 "_law_draw" ["source", "bound"] spDraw) (cP : Cl P w K mg base 2 "_law_pages" ["source", "count"] spPages) : FnOk P w K mg base CX0 3 f fd ["source", "most", "size"] spSetup := by
  refine F.ok scSetup (fun vs H Q E h => ?_) (fun cdv A outer s H vs Q E hr h => ?_)
  · obtain ⟨a, m, sz, B, rfl, _⟩ := h
    rfl
  · obtain ⟨a, m, sz, B, rfl, hS, hB, m0, m1, s0, s1, q⟩ := h
    have nd := scSetup.nd
    refine ⟨_, pss_cons (ps_set (i := 3) nd rfl (Or.inl rfl) (pe_cl cP hr (pa_cons (pv 0) (pa_cons (pe_op op_add pe_int (pe_cl cD hr (pa_cons (pv 0) (pa_cons (pv 1) pa_nil)))) pa_nil))))
      (pss_cons (ps_set (i := 4) nd rfl (Or.inl rfl) (pe_op op_add pe_int (pe_cl cD hr (pa_cons (pv 0) (pa_cons (pe_ix ix_list (pe_lst (pa_cons pe_int (pa_cons pe_int (pa_cons pe_int pa_nil)))) (pe_cl cD hr (pa_cons (pv 0) (pa_cons pe_int pa_nil))) (fun _ _ => rfl)) pa_nil)))))
      (pss_cons (ps_set (i := 5) nd rfl (Or.inl rfl) (pe_callTy call_tuple_of (by rfl) B0.tuple bt_tuple (pa_cons (pe_slice sl_list (pv 3) po_none (po_some (pe_callB (call_min2 rfl) (by rfl) B0.min bt_min (pa_cons (pv 4) (pa_cons (pe_cl cD hr (pa_cons (pv 0) (pa_cons (pe_op op_add (pe_callB call_len_seq (by rfl) B0.len bt_len (pa_cons (pv 3) pa_nil)) pe_int) pa_nil))) pa_nil))))) pa_nil)))
      (pss_one (ps_ret (pe_tup (pa_cons (pv 4) (pa_cons (pv 5) (pa_cons (pe_op op_cat (pe_slice sl_list (pv 3) (po_some (pe_callB call_len_seq (by rfl) B0.len bt_len (pa_cons (pv 5) pa_nil))) po_none) (pe_callTy call_list_of (by rfl) B0.list bt_list (pa_cons (pv 5) pa_nil)))
        (pa_cons (pe_cl cD hr (pa_cons (pv 0) (pa_cons (pe_op op_add (pv 2) pe_int) pa_nil))) pa_nil))))))))), ?_⟩
    obtain ⟨xsa, ha⟩ := hS.is
    -- pages
    refine ⟨.ref a, rfl, ?_⟩
    refine w_draw rfl (ev_var rfl) (by omega) (by omega) hS (by omega) fun d H1 d0 d1 e1 S1 => ⟨1, d, rfl, rfl, ?_⟩
    obtain ⟨n1, hn1⟩ := nat_of (show 0 ≤ 1 + d by omega)
    refine ⟨a, n1, B + 1, by rw [← hn1]; rfl, by omega, by omega, S1, by omega, fun pg ps H2 hpg0 e2 S2 pps hps hpg => ?_⟩
    have k2 : Ex (hid H a) H2 := ex_hid2 e1 e2
    obtain ⟨xs1, ha1⟩ := S1.is
    have fpg : H pg = none := fresh_hid e1 ha1 hpg0
    have npg : pg ≠ a := (ne_of_none ha fpg).symm
    -- room
    refine ⟨.ref a, rfl, by show 3 ≤ sizeLine; decide, fun lp nlp => ?_⟩
    have x1 := Ex.new (o := .lst [V.int 2, V.int 5, V.int 40]) nlp
    obtain ⟨xs2, ha2⟩ := S2.is
    have nla : lp ≠ a := (ne_of_none ha2 nlp).symm
    refine w_draw rfl ev_c (by decide) (by decide) (S2.mono x1) (by omega) fun d2 H3 f0 f1 e3 S3 => ?_
    obtain ⟨v, hv, v0, v1⟩ := caps_at f0 f1
    have hlp : H3 lp = some (.lst [V.int 2, V.int 5, V.int 40]) := e3 _ _ (by rw [hid_ne nla, upd_same])
    have k3 : Ex (hid H a) H3 := ex_hid2 (k2.trans x1) e3
    have hpg3 : H3 pg = some (.lst (ps.map V.str)) := e3 _ _ (by rw [hid_ne npg]; exact x1 _ _ hpg)
    refine ⟨lp, [V.int 2, V.int 5, V.int 40], d2, .int v, rfl, rfl, sq_of hlp, hv, ?_⟩
    refine ⟨a, v, _, rfl, v0, by omega, S3, by omega, fun d3 H4 g0 g1 e4 S4 => ⟨1, d3, rfl, rfl, ?_⟩⟩
    have k4 : Ex (hid H a) H4 := ex_hid2 k3 e4
    have hpg4 : H4 pg = some (.lst (ps.map V.str)) := e4 _ _ (by rw [hid_ne npg]; exact hpg3)
    obtain ⟨room, hroom⟩ := nat_of (show 0 ≤ 1 + d3 by omega)
    -- initial
    refine ⟨.ref pg, rfl, .int (1 + d3), rfl, ?_⟩
    refine w_draw rfl (b := (ps.length : Int) + 1) (ev_op (ev_is (ev_len (ev_var rfl) (sq_of hpg4)) (by rw [List.length_map])) ev_c rv_I0) (by omega) (by omega) S4 (by omega) fun d4 H5 h0 h1 e5 S5 => ?_
    have k5 : Ex (hid H a) H5 := ex_hid2 k4 e5
    have hpg5 : H5 pg = some (.lst (ps.map V.str)) := e5 _ _ (by rw [hid_ne npg]; exact hpg4)
    obtain ⟨mn, hmn⟩ := nat_of (show 0 ≤ (if d4 < 1 + d3 then d4 else 1 + d3) by split <;> omega)
    have mn1 : mn ≤ ps.length := by
      split at hmn <;> omega
    have mn2 : mn ≤ room := by
      split at hmn <;> omega
    refine ⟨1 + d3, d4, rfl, (if d4 < 1 + d3 then d4 else 1 + d3), rfl, pg, ps.map V.str, rfl, sq_of hpg5, fun sp1 nsp => ?_⟩
    have hcut : cutV (ps.map V.str) none (some (if d4 < 1 + d3 then d4 else 1 + d3)) = (ps.take mn).map V.str := by rw [hmn, take_cut, List.map_take]
    have x2 := Ex.new (o := .lst (cutV (ps.map V.str) none (some (if d4 < 1 + d3 then d4 else 1 + d3)))) nsp
    refine ⟨sp1, _, rfl, .inl ⟨sq_of upd_same, fun t nt => ?_⟩⟩
    have x3 := Ex.new (o := .tup (cutV (ps.map V.str) none (some (if d4 < 1 + d3 then d4 else 1 + d3)))) nt
    have ht : upd (upd H5 sp1 (.lst (cutV (ps.map V.str) none (some (if d4 < 1 + d3 then d4 else 1 + d3))))) t (.tup (cutV (ps.map V.str) none (some (if d4 < 1 + d3 then d4 else 1 + d3)))) t = some (.tup ((ps.take mn).map V.str)) := by rw [upd_same, hcut]
    have k6 : Ex (hid H a) _ := k5.trans (x2.trans x3)
    have S6 := S5.mono (x2.trans x3)
    have hpg6 := (x2.trans x3) _ _ hpg5
    obtain ⟨xs5, ha5⟩ := S5.is
    have ft : H t = none := fresh_hid k5 ha5 (fresh_back x2 nt)
    have tlen : ((ps.take mn).map V.str).length = mn := by
      rw [List.length_map, List.length_take]
      omega
    generalize upd (upd H5 sp1 _) t _ = H6 at ht k6 S6 hpg6 ⊢
    -- return
    refine ⟨.int (1 + d3), rfl, .ref t, rfl, .ref pg, rfl, .ref t, rfl, t, _, rfl, .inr (.inl (.inl ht)), _, rfl, pg, ps.map V.str, rfl, sq_of hpg6, fun p2 np2 => ?_⟩
    have hdrop : cutV (ps.map V.str) (some ((((ps.take mn).map V.str).length : Nat) : Int)) none = (ps.drop mn).map V.str := by rw [tlen, drop_cut _ (by rw [List.length_map]; exact mn1), List.map_drop]
    have y1 := Ex.new (o := .lst (cutV (ps.map V.str) (some ((((ps.take mn).map V.str).length : Nat) : Int)) none)) np2
    refine ⟨.ref t, rfl, t, _, rfl, .inr (.inl (.inl (y1 _ _ ht))), fun p3 np3 => ?_⟩
    have y2 := Ex.new (o := .lst ((ps.take mn).map V.str)) np3
    refine ⟨p2, p3, _, _, rfl, rfl, y2 _ _ upd_same, upd_same, ?_, fun p4 np4 => ?_⟩
    · rw [hdrop, List.length_map, List.length_drop, tlen]
      exact Nat.le_trans (show _ ≤ 1000 by omega) (by decide)
    · have y3 := Ex.new (o := .lst (cutV (ps.map V.str) (some ((((ps.take mn).map V.str).length : Nat) : Int)) none ++ (ps.take mn).map V.str)) np4
      have yy := (y1.trans y2).trans y3
      have hp4 : upd (upd (upd H6 p2 (.lst (cutV (ps.map V.str) (some ((((ps.take mn).map V.str).length : Nat) : Int)) none))) p3 (.lst ((ps.take mn).map V.str))) p4 (.lst (cutV (ps.map V.str) (some ((((ps.take mn).map V.str).length : Nat) : Int)) none ++ (ps.take mn).map V.str)) p4 = some (.lst ((ps.drop mn ++ ps.take mn).map V.str)) := by rw [upd_same, hdrop, List.map_append]
      have S7 := S6.mono yy
      have ht7 := yy _ _ ht
      obtain ⟨xs6, ha6⟩ := S6.is
      have fp4 : H p4 = none := fresh_hid k6 ha6 (fresh_back (y1.trans y2) np4)
      have k7 : Ex (hid H a) _ := k6.trans yy
      generalize upd (upd (upd H6 p2 _) p3 _) p4 _ = H7 at hp4 S7 ht7 k7 ⊢
      refine w_draw rfl (b := sz + 1) (ev_op (ev_var rfl) ev_c rv_I0) (by omega) (by omega) S7 (by omega) fun d5 H8 i0 i1 e8 S8 => ?_
      have n4a : p4 ≠ a := (ne_of_none ha fp4).symm
      have hp8 : H8 p4 = some (.lst ((ps.drop mn ++ ps.take mn).map V.str)) := e8 _ _ (by rw [hid_ne n4a]; exact hp4)
      obtain ⟨xs7, ha7⟩ := S7.is
      have nta : t ≠ a := ne_of ht7 ha7 (by intro z; cases z)
      have ht8 : H8 t = some (.tup ((ps.take mn).map V.str)) := e8 _ _ (by rw [hid_ne nta]; exact ht7)
      have k8 : Ex (hid H a) H8 := ex_hid2 k7 e8
      refine ⟨by show 4 ≤ sizeLine; decide, fun T nT => ?_⟩
      obtain ⟨nn, hnn⟩ := nat_of i0
      have z1 := Ex.new (o := .tup [V.int (1 + d3), .ref t, .ref p4, .int d5]) nT
      obtain ⟨xs8, ha8⟩ := S8.is
      have fT : H T = none := fresh_hid k8 ha8 nT
      have perm : (ps.drop mn ++ ps.take mn).Perm ps := List.perm_append_comm.trans (by rw [List.take_append_drop])
      have ptake : Pages (ps.take mn) := ⟨fun x hx => pps.all x (List.mem_of_mem_take hx), pps.nd.sublist (List.take_sublist _ _), by have := pps.len; rw [List.length_take]; omega⟩
      refine q T t p4 room nn (ps.take mn) (ps.drop mn ++ ps.take mn) _ fT ft fp4 n4a (k8.trans z1) ((S8.mono z1).le (by omega)) (by rw [upd_same, hnn, hroom]) (z1 _ _ ht8) (z1 _ _ hp8) (by omega) (by omega) ptake ?_ (pps.perm perm) ?_ (by omega)
      · rw [List.length_take]
        omega
      · intro z
        have := perm.length_eq
        rw [z] at this
        simp at this
        omega
end
end KB

set_option Elab.async false
set_option linter.all false
set_option maxRecDepth 100000
set_option maxHeartbeats 4000000
/-! R1: what a rule of eviction does, as plain functions; how the law sees it. -/
namespace KB
open PySem L2 Evl
def lruS : Str := "LRU"
def fifoS : Str := "FIFO"
def optS : Str := "OPT"
/-- where p stands in xs -/
def ixS (p : Str) (xs : List Str) : Nat := xs.idxOf p
/-- of two pages the one that is requested later -/
def farther (later : List Str) (b p : Str) : Str := if ixS b later < ixS p later then p else b
def victimS (rule : Str) (shelf later : List Str) : Str :=
  if rule ≠ optS then shelf.headD "" else match shelf.find? fun p => !decide (p ∈ later) with
    | some p => p
    | none => shelf.foldl (farther later) (shelf.headD "")
structure RSt where
  shelf : List Str
  log : List Ev1
  gone : List Str
def stepS (rule : Str) (cap : Nat) (s : RSt) (page : Str) (later : List Str) : RSt :=
  if page ∈ s.shelf then ⟨if rule ≠ fifoS then s.shelf.erase page ++ [page] else s.shelf, s.log ++ [(hitS, page)], s.gone⟩
  else if s.shelf.length = cap then ⟨s.shelf.erase (victimS rule s.shelf later) ++ [page], s.log ++ [(missS, page)], s.gone ++ [victimS rule s.shelf later]⟩
  else ⟨s.shelf ++ [page], s.log ++ [(missS, page)], s.gone⟩
def stS (rule : Str) (cap : Nat) (start reqs : List Str) : Nat → RSt
  | 0 => ⟨start, [], []⟩
  | i + 1 => stepS rule cap (stS rule cap start reqs i) (reqs.getD i "") (reqs.drop (i + 1))
def logS (rule : Str) (cap : Nat) (start reqs : List Str) : List Ev1 := (stS rule cap start reqs reqs.length).log
def goneS (rule : Str) (cap : Nat) (start reqs : List Str) : List Str := (stS rule cap start reqs reqs.length).gone
theorem victim_mem {rule : Str} {shelf later : List Str} (h : shelf ≠ []) : victimS rule shelf later ∈ shelf := by
  have hd : shelf.headD "" ∈ shelf := by
    cases shelf with
    | nil => exact absurd rfl h
    | cons a r => exact List.mem_cons_self
  unfold victimS
  split
  · exact hd
  · split
    · rename_i p hp
      exact List.mem_of_find?_eq_some hp
    · have key : ∀ (l : List Str) (b : Str), b ∈ shelf → (∀ x ∈ l, x ∈ shelf) → l.foldl (farther later) b ∈ shelf := by
        intro l
        induction l with
        | nil => exact fun b hb _ => hb
        | cons x l ih =>
          intro b hb hl
          refine ih _ ?_ fun y hy => hl y (List.mem_cons_of_mem _ hy)
          unfold farther
          split
          · exact hl x List.mem_cons_self
          · exact hb
      exact key shelf _ hd fun x hx => hx
/-- the shelf keeps distinct pages, at most cap -/
structure OkSt (cap : Nat) (s : RSt) : Prop where
  nd : s.shelf.Nodup
  le : s.shelf.length ≤ cap
theorem nodup_snoc {xs : List Str} {p : Str} (h : xs.Nodup) (n : p ∉ xs) : (xs ++ [p]).Nodup := by
  rw [(List.perm_append_singleton _ _).nodup_iff]
  exact List.nodup_cons.mpr ⟨n, h⟩
theorem step_ok {rule : Str} {cap : Nat} {s : RSt} {page : Str} {later : List Str} (hc : 1 ≤ cap) (h : OkSt cap s) : OkSt cap (stepS rule cap s page later) := by
  unfold stepS
  split
  · rename_i hp
    by_cases hr : rule ≠ fifoS
    · rw [if_pos hr]
      refine ⟨nodup_snoc (h.nd.erase _) fun z => ?_, ?_⟩
      · exact (List.Nodup.mem_erase_iff h.nd).mp z |>.1 rfl
      · show (s.shelf.erase page ++ [page]).length ≤ cap
        have := List.length_erase_of_mem hp
        have := List.length_pos_of_mem hp
        have := h.le
        rw [List.length_append]
        show _ + 1 ≤ cap
        omega
    · rw [if_neg hr]
      exact ⟨h.nd, h.le⟩
  · rename_i hp
    split
    · rename_i hf
      have hne : s.shelf ≠ [] := fun z => by rw [z] at hf; simp at hf; omega
      have hm := victim_mem (rule := rule) (later := later) hne
      refine ⟨nodup_snoc (h.nd.erase _) fun z => hp (List.mem_of_mem_erase z), ?_⟩
      show (s.shelf.erase _ ++ [page]).length ≤ cap
      have := List.length_erase_of_mem hm
      have := List.length_pos_of_mem hm
      have := h.le
      rw [List.length_append]
      show _ + 1 ≤ cap
      omega
    · rename_i hf
      refine ⟨nodup_snoc h.nd hp, ?_⟩
      show (s.shelf ++ [page]).length ≤ cap
      have := h.le
      rw [List.length_append]
      show _ + 1 ≤ cap
      omega
theorem st_ok {rule : Str} {cap : Nat} {start reqs : List Str} (hc : 1 ≤ cap) (nd : start.Nodup) (le : start.length ≤ cap) : ∀ i, OkSt cap (stS rule cap start reqs i)
  | 0 => ⟨nd, le⟩
  | i + 1 => step_ok hc (st_ok hc nd le i)
theorem st_mem {rule : Str} {cap : Nat} {start reqs : List Str} {P : Str → Prop} (hs : ∀ p ∈ start, P p) (hr : ∀ p ∈ reqs, P p) : ∀ i, i ≤ reqs.length → (∀ p ∈ (stS rule cap start reqs i).shelf, P p) ∧ (∀ e ∈ (stS rule cap start reqs i).log, (e.1 = hitS ∨ e.1 = missS) ∧ P e.2) ∧ (stS rule cap start reqs i).log.length = i ∧ (stS rule cap start reqs i).gone.length ≤ i ∧ (1 ≤ cap → ∀ p ∈ (stS rule cap start reqs i).gone, P p)
  | 0, _ => ⟨hs, (fun e he => nomatch he), rfl, Nat.le_refl _, fun _ p hp => nomatch hp⟩
  | i + 1, h => by
    obtain ⟨h1, h2, h3, h4, h5⟩ := st_mem (rule := rule) (cap := cap) hs hr i (by omega)
    have hp : P (reqs.getD i "") := by
      rw [List.getD_eq_getElem?_getD, List.getElem?_eq_getElem (by omega)]
      exact hr _ (List.getElem_mem _)
    show (∀ p ∈ (stepS rule cap (stS rule cap start reqs i) (reqs.getD i "") (reqs.drop (i + 1))).shelf, P p) ∧ _
    rw [show stS rule cap start reqs (i + 1) = stepS rule cap (stS rule cap start reqs i) (reqs.getD i "") (reqs.drop (i + 1)) from rfl]
    generalize reqs.getD i "" = page at hp ⊢
    generalize reqs.drop (i + 1) = later
    generalize stS rule cap start reqs i = s at h1 h2 h3 h4 h5 ⊢
    have snoc : ∀ {m : Str}, m = hitS ∨ m = missS → ∀ e ∈ s.log ++ [(m, page)], (e.1 = hitS ∨ e.1 = missS) ∧ P e.2 := fun {m} hm e he => by
      rcases List.mem_append.mp he with z | z
      · exact h2 e z
      · rw [List.mem_singleton.mp z]
        exact ⟨hm, hp⟩
    have sh : ∀ {xs : List Str}, (∀ p ∈ xs, P p) → ∀ p ∈ xs ++ [page], P p := fun {xs} hx p h => by
      rcases List.mem_append.mp h with z | z
      · exact hx p z
      · rw [List.mem_singleton.mp z]; exact hp
    have len : ∀ m : Str, (s.log ++ [(m, page)]).length = i + 1 := fun m => by rw [List.length_append, h3]; rfl
    unfold stepS
    split
    · refine ⟨?_, snoc (.inl rfl), len _, by show s.gone.length ≤ i + 1; omega, h5⟩
      show ∀ p ∈ (if rule ≠ fifoS then s.shelf.erase page ++ [page] else s.shelf), P p
      split
      · exact sh fun p h => h1 p (List.mem_of_mem_erase h)
      · exact h1
    · split
      · rename_i hf
        refine ⟨sh fun p h => h1 p (List.mem_of_mem_erase h), snoc (.inr rfl), len _, by show (s.gone ++ [_]).length ≤ i + 1; rw [List.length_append]; show s.gone.length + 1 ≤ i + 1; omega, fun hc p hp => ?_⟩
        rcases List.mem_append.mp hp with z | z
        · exact h5 hc p z
        · rw [List.mem_singleton.mp z]
          exact h1 _ (victim_mem fun z => by rw [z] at hf; simp at hf; omega)
      · exact ⟨sh h1, snoc (.inr rfl), len _, by show s.gone.length ≤ i + 1; omega, h5⟩
/-! ### how the law sees it: a page's time, by which the shelf stands in order -/
/-- the shelf stands in the order of the times -/
def Timed (U : Str → Int) (shelf : List Str) : Prop := shelf.Pairwise fun p q => U p < U q
theorem Timed.congr {U U' : Str → Int} {shelf : List Str} (h : Timed U shelf) (e : ∀ p ∈ shelf, U' p = U p) : Timed U' shelf := by
  unfold Timed at h ⊢
  refine h.imp_of_mem fun {a b} ha hb hab => ?_
  rw [e a ha, e b hb]
  exact hab
theorem Timed.erase {U : Str → Int} {shelf : List Str} (h : Timed U shelf) (p : Str) : Timed U (shelf.erase p) := List.Pairwise.sublist List.erase_sublist h
/-- a page is put at the end with the latest time -/
theorem Timed.put {U : Str → Int} {shelf : List Str} {p : Str} {n : Int} (h : Timed U shelf) (hp : p ∉ shelf) (hn : ∀ q ∈ shelf, U q < n) : Timed (fun q => if q = p then n else U q) (shelf ++ [p]) := by
  unfold Timed
  rw [List.pairwise_append]
  refine ⟨?_, List.pairwise_singleton _ _, fun a ha b hb => ?_⟩
  · refine Timed.congr h fun q hq => if_neg fun z => hp (by rw [← z]; exact hq)
  · rw [List.mem_singleton.mp hb]
    show (if a = p then n else U a) < (if p = p then n else U p)
    rw [if_pos rfl, if_neg fun z => hp (by rw [← z]; exact ha)]
    exact hn a ha
/-- the least time is the head's -/
theorem Timed.least {U : Str → Int} {shelf : List Str} (h : Timed U shelf) {p : Str} (hp : p ∈ shelf) (hm : ∀ q ∈ shelf, U p ≤ U q) : shelf.headD "" = p := by
  cases shelf with
  | nil => cases hp
  | cons a r =>
    show a = p
    rcases List.mem_cons.mp hp with z | z
    · exact z.symm
    · have := (List.pairwise_cons.mp h).1 p z
      have := hm a List.mem_cons_self
      omega
theorem Timed.first {U : Str → Int} {f : Str → Bool} : ∀ {shelf : List Str}, Timed U shelf → ∀ {p : Str}, p ∈ shelf → f p = true → (∀ q ∈ shelf, f q = true → U p ≤ U q) → shelf.find? f = some p
  | [], _, p, hp, _, _ => by cases hp
  | a :: r, h, p, hp, hf, hm => by
    obtain ⟨h1, h2⟩ := List.pairwise_cons.mp h
    by_cases ha : f a = true
    · rw [List.find?_cons_of_pos ha]
      rcases List.mem_cons.mp hp with z | z
      · rw [z]
      · have := h1 p z
        have := hm a List.mem_cons_self ha
        omega
    · rw [List.find?_cons_of_neg ha]
      rcases List.mem_cons.mp hp with z | z
      · rw [z] at hf; exact absurd hf ha
      · exact Timed.first h2 z hf fun q hq => hm q (List.mem_cons_of_mem _ hq)
/-- the page that is requested the latest -/
theorem far_best {later : List Str} : ∀ (l : List Str) (b : Str), ixS b later ≤ ixS (l.foldl (farther later) b) later ∧ ∀ x ∈ l, ixS x later ≤ ixS (l.foldl (farther later) b) later
  | [], b => ⟨Nat.le_refl _, fun x hx => nomatch hx⟩
  | x :: l, b => by
    obtain ⟨h1, h2⟩ := far_best l (farther later b x)
    have hb : ixS b later ≤ ixS (farther later b x) later ∧ ixS x later ≤ ixS (farther later b x) later := by
      unfold farther
      split <;> omega
    refine ⟨Nat.le_trans hb.1 h1, fun y hy => ?_⟩
    rcases List.mem_cons.mp hy with z | z
    · rw [z]; exact Nat.le_trans hb.2 h1
    · exact h2 y z
theorem ix_inj {later : List Str} {p q : Str} (hp : p ∈ later) (hq : q ∈ later) (h : ixS p later = ixS q later) : p = q := by
  unfold ixS at h
  have h1 := List.idxOf_lt_length_iff.mpr hp
  have e1 := List.getElem_idxOf h1
  have h2 := List.idxOf_lt_length_iff.mpr hq
  have e2 := List.getElem_idxOf h2
  rw [← e1, ← e2]
  congr 1
/-- what the law asks of a victim -/
theorem victim_is {rule : Str} {shelf later : List Str} {U : Str → Int} {v : Str} (hT : Timed U shelf) (hv : v ∈ shelf)
    (h : (rule ≠ optS ∧ ∀ q ∈ shelf, U v ≤ U q) ∨ (rule = optS ∧ v ∉ later ∧ ∀ q ∈ shelf, q ∉ later → U v ≤ U q) ∨ (rule = optS ∧ (∀ q ∈ shelf, q ∈ later) ∧ ∀ q ∈ shelf, ixS q later ≤ ixS v later)) : victimS rule shelf later = v := by
  unfold victimS
  rcases h with ⟨h1, h2⟩ | ⟨h1, h2, h3⟩ | ⟨h1, h2, h3⟩
  · rw [if_pos h1]
    exact hT.least hv h2
  · rw [if_neg (by rw [h1]; exact fun z => z rfl)]
    have := Timed.first (f := fun p => !decide (p ∈ later)) hT hv (by rw [decide_eq_false h2]; rfl) fun q hq hf => h3 q hq (by simpa using hf)
    rw [this]
  · rw [if_neg (by rw [h1]; exact fun z => z rfl)]
    have : shelf.find? (fun p => !decide (p ∈ later)) = none := by
      rw [List.find?_eq_none]
      intro p hp
      rw [decide_eq_true (h2 p hp)]
      exact Bool.false_ne_true
    rw [this]
    show shelf.foldl (farther later) (shelf.headD "") = v
    obtain ⟨b1, b2⟩ := far_best (later := later) shelf (shelf.headD "")
    have hm : shelf.foldl (farther later) (shelf.headD "") ∈ shelf := by
      have := victim_mem (rule := optS) (shelf := shelf) (later := later) (fun z => by rw [z] at hv; cases hv)
      unfold victimS at this
      rw [if_neg (fun z => z rfl), ‹shelf.find? _ = none›] at this
      exact this
    exact ix_inj (h2 _ hm) (h2 _ hv) (Nat.le_antisymm (h3 _ hm) (b2 _ hv))
end KB


set_option Elab.async false
set_option linter.all false
set_option maxRecDepth 100000
set_option maxHeartbeats 4000000
/-! W2: xs.remove(x) of texts. -/
namespace KB
open PySem PySem.Spec PyProof.Rows L2 Evl
def isTx (k : Str) (v : Value) : Bool := match v with
  | .str n _ => n == k
  | _ => false
theorem isTx_gives {k : Str} {t : Tok} : ∀ {us : List Value} {zs : List Str}, Vals (zs.map V.str) us → ∀ y ∈ us, MeetsSeq.EqGives y (.str k t) (isTx k y)
  | [], _, _ => fun y hy => by cases hy
  | u :: us, [], h => by cases h
  | u :: us, z :: zs, h => fun y hy => by
    cases h with
    | cons h1 h2 =>
      obtain ⟨t', rfl⟩ : ∃ t', u = .str z t' := h1
      rcases List.mem_cons.mp hy with e | e
      · rw [e]
        exact eqGives_str z k t' t
      · exact isTx_gives h2 y e
/-- where it stands first -/
theorem first_tx : ∀ {zs : List Str} {k : Str}, k ∈ zs → ∃ j, zs[j]? = some k ∧ (∀ m, m < j → zs[m]? ≠ some k) ∧ zs.eraseIdx j = zs.erase k
  | [], _, h => by cases h
  | z :: zs, k, h => by
    by_cases e : z = k
    · subst e
      exact ⟨0, rfl, fun m hm => absurd hm (Nat.not_lt_zero m), by rw [List.erase_cons_head]; rfl⟩
    · rcases List.mem_cons.mp h with q | q
      · exact absurd q.symm e
      · obtain ⟨j, h1, h2, h3⟩ := first_tx q
        refine ⟨j + 1, h1, fun m hm => ?_, ?_⟩
        · cases m with
          | zero =>
            intro q
            exact e (Option.some.inj q)
          | succ m => exact h2 m (by omega)
        · rw [List.erase_cons_tail (by rw [beq_iff_eq]; exact e), List.eraseIdx_cons_succ, h3]
def rRemT : V → List V → Hp → VK → Prop := fun x xs H Q => ∃ (l : Addr) (zs : List Str) (k : Str), x = .ref l ∧ xs = [.str k] ∧ H l = some (.lst (zs.map V.str)) ∧ k ∈ zs ∧ Q .non (upd H l (.lst ((zs.erase k).map V.str)))
theorem map_eraseT : ∀ (zs : List Str) (j : Nat), (zs.map V.str).eraseIdx j = (zs.eraseIdx j).map V.str
  | [], _ => rfl
  | _ :: _, 0 => rfl
  | z :: zs, j + 1 => by
    show V.str z :: (zs.map V.str).eraseIdx j = V.str z :: (zs.eraseIdx j).map V.str
    rw [map_eraseT zs j]
section
variable {X : Cx}
theorem mt_removeT : MtM X "list.remove" rRemT := by
  intro pins s σ H x xs v us Q I rx rxs h
  obtain ⟨l, zs, k, rfl, rfl, hH, hk, q⟩ := h
  obtain ⟨j, hj, hno, he⟩ := first_tx hk
  cases rx
  obtain ⟨u, rfl, t, rfl⟩ := vals1 rxs
  obtain ⟨z, its, n, r, hl, e⟩ := I.lstM hH
  rw [List.length_map] at hl z
  have hjn : j < zs.length := (List.getElem?_eq_some_iff.mp hj).1
  have hjl : j < its.toArray.size := by rw [List.size_toArray]; omega
  have at' : ∀ (m : Nat) (hm : m < its.toArray.size), ∃ y t', zs[m]? = some y ∧ its.toArray[m] = Value.str y t' := fun m hm => by
    have hm' : m < zs.length := by rw [List.size_toArray] at hm; omega
    obtain ⟨w, hw, t', hw'⟩ := r.get (i := m) (x := .str zs[m]) (by simp [hm'])
    refine ⟨zs[m], t', List.getElem?_eq_getElem hm', ?_⟩
    have e := (List.getElem?_eq_some_iff.mp hw).2
    rw [← hw', ← e]
    simp
  refine call_meets PySem.F.slot_list_remove ⟨_, e, rfl⟩ PySem.F.entry_list_remove (PySem.F.args_list_remove_2 _ _)
    (MeetsSeq.list_remove l its.toArray n (.str k t) (isTx k) (fun y hy => isTx_gives r y (by simpa using hy)) j hjl ?_ ?_ (by rw [List.size_toArray]; omega)) ⟨e, ?_⟩
  · obtain ⟨y, t', h1, h2⟩ := at' j hjl
    rw [hj] at h1
    cases h1
    rw [h2]
    exact beq_self_eq_true k
  · intro m hm hmj
    obtain ⟨y, t', h1, h2⟩ := at' m hm
    rw [h2]
    exact beq_eq_false_iff_ne.mpr fun e2 => hno m hmj (e2 ▸ h1)
  · have rr := r.eraseIdx j
    rw [map_eraseT] at rr
    rw [← he] at q
    refine ⟨.non, _, I.lset (its' := its.eraseIdx j) (t' := s.toks) hH e ?_ rr ?_, rfl, q⟩
    · show its.toArray.eraseIdxIfInBounds j = (its.eraseIdx j).toArray
      rw [List.eraseIdxIfInBounds_toArray]
    · have z2 := len_erase zs j
      rw [List.length_map]
      omega
end
end KB

set_option Elab.async false
set_option linter.all false
set_option maxRecDepth 100000
set_option maxHeartbeats 8000000
/-! R2: the rules' functions, walked. -/
namespace KB
open PySem L2 Evl
structure Bru (mg : Str → Option Value) : Prop where
  enumerate : mg "enumerate" = none
  LRU : ∃ t, mg "LRU" = some (.str "LRU" t)
  FIFO : ∃ t, mg "FIFO" = some (.str "FIFO" t)
  OPT : ∃ t, mg "OPT" = some (.str "OPT" t)
  HIT : ∃ t, mg "HIT" = some (.str "hit" t)
  MISS : ∃ t, mg "MISS" = some (.str "miss" t)
def isRule (r : Str) : Prop := r = lruS ∨ r = fifoS ∨ r = optS
section
variable {P : Program} {w : World} {K : PySem.W.Frag} {mg : Str → Option Value} {base : Heap}
theorem scCkRule : FnScope ["rule", "capacity", "start"] ["rule", "capacity", "start"] (defScope sCkRule) := ⟨rfl, rfl, rfl, by decide +kernel, rfl, by decide +kernel, by decide +kernel⟩
def spCkRule (K : PySem.W.Frag) : Sp := fun vs H Q _ => ∃ (r : Str) (c : Nat) (t : Addr) (ps : List Str), vs = [.str r, .int (c : Int), .ref t] ∧ isRule r ∧ 1 ≤ c ∧ SqT K H t (ps.map V.str) ∧ Pages ps ∧ ps.length ≤ c ∧ RetV .non H Q
theorem in_rules {r : Str} (h : isRule r) : inV (.str r) [.str "LRU", .str "FIFO", .str "OPT"] = true := by
  rcases h with rfl | rfl | rfl <;> decide
theorem ok_ckRule {f : Addr} {fd : FuncData} (F : Fun K "_check_rule_and_shelf" "_check_rule_and_shelf" sCkRule f fd) (B : Bn mg) (BR : Bru mg) (c1 : Cl P w K mg base 2 "check_capacity" ["capacity"] spCheckCapacity) (c2 : Cl P w K mg base 5 "check_start" ["capacity", "start"] (spCheckStart K)) : FnOk P w K mg base CX0 6 f fd ["rule", "capacity", "start"] (spCkRule K) := by
  refine F.ok scCkRule (fun vs H Q E h => ?_) (fun cdv A outer s H vs Q E hr h => ?_)
  · obtain ⟨r, c, t, ps, rfl, _⟩ := h
    rfl
  · obtain ⟨r, c, t, ps, rfl, hR, hc, ht, hp, hle, q⟩ := h
    obtain ⟨t1, m1⟩ := BR.LRU
    obtain ⟨t2, m2⟩ := BR.FIFO
    obtain ⟨t3, m3⟩ := BR.OPT
    refine ⟨_, pss_cons (ps_if (PW.pt (pw_or (pt_not (pt_val (pe_callB call_isi (by rfl) B.isinstance bt_isinstance (pa_cons (pv 0) (pa_cons (pe_bltn (v := .ty "str") (by rfl) B.str bt_str rfl) pa_nil)))))
        (pw_or1 (pt_cmpR (r := rIn K true) op_notIn_seq (pv 0) (pe_tup (pa_cons (pe_glob (v := .str "LRU") (by rfl) m1 ⟨_, rfl⟩) (pa_cons (pe_glob (v := .str "FIFO") (by rfl) m2 ⟨_, rfl⟩) (pa_cons (pe_glob (v := .str "OPT") (by rfl) m3 ⟨_, rfl⟩) pa_nil)))) (by with_unfolding_all rfl))))) pss_never pss_nil)
      (pss_cons (ps_expr (pe_cl c1 hr (pa_cons (pv 1) pa_nil)))
      (pss_one (ps_expr (pe_cl c2 hr (pa_cons (pv 1) (pa_cons (pv 2) pa_nil)))))), ?_⟩
    refine q_when (b := !true || !(inV (.str r) [.str "LRU", .str "FIFO", .str "OPT"])) (et_or (et_not (et_B (ev_isi (T := "str") (ev_var rfl) (fun _ _ => .base (.str _)) (by decide +kernel)))) fun _ => et_test (ev_niU (ev_var rfl) (eu_tup (ea_cons ev_c (ea_cons ev_c (ea_cons ev_c ea_nil))) (show 3 ≤ 100000 by decide)) rfl rfl)) (fun hb => by rw [in_rules hR] at hb; cases hb) (fun _ H1 e1 => ?_)
    refine q_drop (ev_fn (ea_cons (ev_var rfl) ea_nil) fun H4 e4 Q' k => ⟨(c : Int), rfl, by omega, k⟩) fun H2 e2 => ?_
    exact s_drop (ev_fn (ea_cons (ev_var rfl) (ea_cons (ev_var rfl) ea_nil)) fun H4 e4 Q' k => ⟨(c : Int), t, ps, rfl, ex_t ((e1.trans e2).trans e4) ht, hp, by omega, k⟩) fun H3 e3 => q H3 ((e1.trans e2).trans e3)
/-! _victim: LRU and FIFO -/
abbrev NVi : List Str := ["rule", "shelf", "later", "page"]
theorem scVi : FnScope NVi ["rule", "shelf", "later"] (defScope sVictim) := ⟨rfl, rfl, rfl, by decide +kernel, rfl, by decide +kernel, by decide +kernel⟩
def spVictim (K : PySem.W.Frag) (ok : Str → Prop) : Sp := fun vs H Q _ => ∃ (r : Str) (s l : Addr) (cs ls : List Str), vs = [.str r, .ref s, .ref l] ∧ isRule r ∧ ok r ∧ H s = some (.lst (cs.map V.str)) ∧ cs ≠ [] ∧ H l = some (.lst (ls.map V.str)) ∧ RetV (.str (victimS r cs ls)) H Q
theorem head_ix {cs : List Str} (h : cs ≠ []) : atI (cs.map V.str) 0 = some (.str (cs.headD "")) := by
  cases cs with
  | nil => exact absurd rfl h
  | cons a r => exact atI_nat (j := 0) rfl
theorem ok_victim2 {f : Addr} {fd : FuncData} (F : Fun K "_victim" "_victim" sVictim f fd) (BR : Bru mg) : FnOk P w K mg base CX0 1 f fd ["rule", "shelf", "later"] (spVictim K fun r => r ≠ optS) := by
  refine F.ok scVi (fun vs H Q E h => ?_) (fun cdv A outer s H vs Q E hr h => ?_)
  · obtain ⟨r, s, l, cs, ls, rfl, _⟩ := h
    rfl
  · obtain ⟨r, sh, l, cs, ls, rfl, hR, ho, hs, hne, hl, q⟩ := h
    obtain ⟨t3, m3⟩ := BR.OPT
    refine ⟨_, pss_cons (ps_if (pt_cmpR op_ne (pv 0) (pe_glob (v := .str "OPT") (by rfl) m3 ⟨_, rfl⟩) (nomark _)) (pss_one (ps_ret (pe_ix (r := rIxL K) ix_list (pv 1) pe_int (fun _ _ => rfl)))) pss_nil) pss_never, ?_⟩
    refine q_when (b := !decide (V.str r = V.str "OPT")) (et_test (ev_op (ev_var rfl) ev_c (rv_ne rfl))) (fun _ H1 e1 => ?_) (fun hb => ?_)
    · refine s_ret (ev_op (ev_var rfl) ev_c (rv_ixL (sq_of (e1 _ _ hs)) (head_ix hne))) fun H2 e2 => ?_
      have : victimS r cs ls = cs.headD "" := by unfold victimS; rw [if_pos ho]
      rw [← this]
      exact q H2 (e1.trans e2)
    · have hd : V.str r = V.str "OPT" := by simpa using hb
      exact absurd (V.str.inj hd) ho
end
end KB

set_option Elab.async false
set_option linter.all false
set_option maxRecDepth 100000
set_option maxHeartbeats 8000000
/-! KR2: the law's run of a shelf, walked. -/
namespace KB
open PySem L2 Evl
abbrev TupAt (H : Hp) (t : Addr) (e : Ev1) : Prop := H t = some (.tup [.str e.1, .str e.2])
abbrev LstAt (H : Hp) (q : Addr) (c : List Str) : Prop := H q = some (.lst (c.map V.str))
theorem SrcAt.upd {H : Hp} {a l : Addr} {B : Int} {o : HO} (h : SrcAt H a B) (n : a ≠ l) : SrcAt (L2.upd H l o) a B := by
  obtain ⟨x, y, z, e, r⟩ := h
  exact ⟨x, y, z, by rw [upd_ne n]; exact e, r⟩
theorem Paired.impM {α β : Type} {R S : α → β → Prop} : ∀ {as : List α} {bs : List β}, Paired R as bs → (∀ a b, a ∈ as → R a b → S a b) → Paired S as bs
  | _, _, .nil, _ => .nil
  | _, _, .cons h t, k => .cons (k _ _ List.mem_cons_self h) (Paired.impM t fun a b ha => k a b (List.mem_cons_of_mem _ ha))
theorem tup_upd {H : Hp} {l : Addr} {xs : List V} {o : HO} {ts : List Addr} {es : List Ev1} (hl : H l = some (.lst xs)) (h : Paired (TupAt H) ts es) : Paired (TupAt (L2.upd H l o)) ts es :=
  Paired.imp h fun t e z => by
    show L2.upd H l o t = _
    rw [upd_ne (ne_of z hl (by intro q; cases q))]
    exact z
section
variable {K : PySem.W.Frag} {σ : L2.St} {H : Hp} {te ta : TE} {D : Ends}
/-- list(e) of a list or tuple -/
theorem el_listT {p : Addr} {xs : List V} (ha : Ev ta σ H (.ref p)) (h : SqT K H p xs) : EvL (tCB (rListS K) (tCons ta tNil)) σ H xs := fun H1 e Q q =>
  ha H1 e _ fun H2 e2 => ⟨p, xs, rfl, Or.inr (ex_t (e.trans e2) h), fun l hl => q l _ (fresh_back e2 hl) (e2.trans (Ex.new hl)) upd_same⟩
end
section
variable {K : PySem.W.Frag} {σ : L2.St} {H H1 H' : Hp} {ta tb tc te tx tl : TE} {x y z v : V} {D : Ends} {Q : VK}
theorem q_forE {ta : TA} {g : TG} {tu tz : TS} {a : Addr} {xs : List V} (h : EvA ta σ H [.ref a]) (hx : SqL K H a xs) (Pv : Nat → L2.St → Hp → Prop) (h0 : ∀ H1, Ex H H1 → Pv 0 σ H1) (hG : ∀ i σ' H', Pv i σ' H' → SqL K H' a xs)
    (hs : ∀ i x σ' H' T, xs[i]? = some x → Pv i σ' H' → H' T = none → g (.ref T) σ' (upd H' T (.tup [.int (i : Int), x])) fun σ2 H2 => tu { D with nx := Pv (i + 1), ct := Pv (i + 1), bk := tz D } σ2 H2) (hd : ∀ σ' H', Pv xs.length σ' H' → tz D σ' H') : tSeq (tFor (iEnum K ta) g tu) tz D σ H :=
  h H (Ex.refl H) _ fun H1 e => ⟨a, xs, rfl, ex_l e hx, for_it (D := { D with nx := tz D }) walk_enum Pv (h0 H1 e) (fun i σ' H' _ p => hG i σ' H' p) (fun i x σ' H' H'' hi p hy => by
    obtain ⟨T, x1, x2, rfl, hT, rfl, e1, e2⟩ := hy
    injection e1 with e1
    subst e1
    exact hs i x2 σ' H' T e2 p hT) hd⟩
end
end KB

set_option Elab.async false
set_option linter.all false
set_option maxRecDepth 100000
set_option maxHeartbeats 4000000
/-! LP: a lambda with one parameter, handed to a def with another argument before it, and called there. -/
namespace LP
open PySem PySem.Spec PyProof.Rows L2 LamX
/-- one parameter, no other name of its own: captured ones and globals -/
structure LamS1 (p : Str) (N : List Str) (sc scope : Scope) : Prop where
  kind : scope.kind = .function
  co : scope.isCoroutine = false
  gen : scope.isGenerator = false
  own : ∀ y ∈ scope.names, y.2 ≠ .cell ∧ (y.2 = .local → y.1 = p)
  par : scope.names.lookup p = some .local
  free : ∀ y ∈ scope.names, y.2 = .free → sc.names.lookup y.1 = some .cell ∨ sc.names.lookup y.1 = some .free
  new : p ∉ N
def lamS1B (p : Str) (N : List Str) (sc scope : Scope) : Bool :=
  decide (scope.kind = .function) && !scope.isCoroutine && !scope.isGenerator && (scope.names.all fun y => !decide (y.2 = .cell) && (!decide (y.2 = .local) || decide (y.1 = p)) && (!decide (y.2 = .free) || decide (sc.names.lookup y.1 = some .cell) || decide (sc.names.lookup y.1 = some .free))) && decide (scope.names.lookup p = some .local) && !decide (p ∈ N)
theorem lamS1_by {p : Str} {N : List Str} {sc scope : Scope} (h : lamS1B p N sc scope = true) : LamS1 p N sc scope := by
  unfold lamS1B at h
  simp only [Bool.and_eq_true, Bool.or_eq_true, Bool.not_eq_true', decide_eq_true_eq, decide_eq_false_iff_not, List.all_eq_true] at h
  obtain ⟨⟨⟨⟨⟨h1, h2⟩, h3⟩, h4⟩, h5⟩, h6⟩ := h
  refine ⟨h1, h2, h3, fun y hy => ⟨(h4 y hy).1.1, fun e => ?_⟩, h5, fun y hy e => ?_, h6⟩
  · rcases (h4 y hy).1.2 with z | z
    · exact absurd e z
    · exact z
  · rcases (h4 y hy).2 with (z | z) | z
    · exact absurd e z
    · exact .inl z
    · exact .inr z
section
variable {X : Cx} {p : Str}
theorem LamS1.has {scope : Scope} (L : LamS1 p X.N X.env.scope scope) (ok : X.Ok) : ∀ y ∈ scope.names, y.2 = .free → ∃ c, X.env.cells.lookup y.1 = some c := fun y hy e => by
  rcases L.free y hy e with k | k
  · exact ok.has _ (.inl k)
  · exact ok.has _ (.inr k)
end
/-- the context of the lambda's body -/
def lamCx1 (X : Cx) (A : Around) (outer : List Env) (s : Shared) (H : Hp) (scope : Scope) (f c' : Addr) (p : Str) : Cx where
  prog := X.prog
  w := X.w
  K := X.K
  mg := X.mg
  base := X.base
  A := A.deeper (lamEnv X scope s.heap.objs.size f c')
  N := X.N ++ [p]
  s_0 := s
  H_0 := H
  env := lamEnv X scope s.heap.objs.size f c'
  outer := outer
  stack := lamEnv X scope s.heap.objs.size f c' :: outer
  ex := []
  fn := fun _ => false
  calm := true
  pn := []
  xe := fun _ _ => False
section
variable {X : Cx} {pins : List (Addr × Obj)} {σ : L2.St} {H HZ : Hp} {s s1 : Shared} {p : Str}
theorem lam_start1 {A : Around} {outer : List Env} {scope : Scope} {f c' : Addr} {h₁ : Heap} {tk : Nat} {v0 : V} {u0 : Value} (I : Inv X pins σ H s) (L : LamS1 p X.N X.env.scope scope) (e0 : Env0 X.prog X.w X.K X.mg X.base A outer s1 HZ) (hd : A.handled = none)
    (un : Un (frs X.stack) [] H HZ s.heap s1.heap) (rv : L2.RelV v0 u0) (hns : h₁.Ns s1.heap.objs.size fun y => ([(p, u0)] : List (Str × Value)).reverse.lookup y) (kp : ∀ b o, s1.heap.get? b = some o → h₁.get? b = some o) :
    Inv (lamCx1 X A outer s1 HZ scope f c' p) [] (σ ++ [some v0]) HZ { s1 with heap := h₁, toks := tk } := by
  have hfree := L.has I.ok
  have cm : ∀ {y c}, (cloFrom X.env.cells scope.names []).lookup y = some c → X.env.cells.lookup y = some c := fun {y c} e => by
    rcases cloFrom_mem (PySem.mem_of_lookup e) with hm | ⟨h1, h2⟩
    · cases hm
    · obtain ⟨c1, hc⟩ := hfree _ h1 rfl
      have hc : X.env.cells.lookup y = some c1 := hc
      have e2 : c = c1 := by
        rw [h2, hc] <;> rfl
      rw [e2]
      exact hc
  have look : ∀ {y}, scope.names.lookup y = some .free → ∃ c, (cloFrom X.env.cells scope.names []).lookup y = some c := fun {y} hl => by
    have hy : (y, NameKind.free) ∈ scope.names := PySem.mem_of_lookup hl
    exact mem_lookup (cloFrom_has (cells := X.env.cells) (acc := []) hy)
  have cellK : ∀ {c : Addr} {v : Option Value}, H c = none → s.heap.IsCell c v → h₁.IsCell c v := fun {c v} n ⟨o, ho, hd⟩ => by
    obtain ⟨sl, q⟩ := un.any ho n (by simp)
    exact ⟨_, kp _ _ q, hd⟩
  have noA : ∀ b : Addr, b ∉ (lamCx1 X A outer s1 HZ scope f c' p).ex := fun b z => absurd (show b ∈ ([] : List Addr) from z) (by simp)
  refine ⟨⟨e0.mod, L.kind, rfl, rfl, Nat.le_refl _, fun y z c e1 e2 => I.ok.inj y z c (cm e1) (cm e2), fun y hy => ?_, fun y c z _ => ?_, fun _ => hd, Around.frames_deeper e0.frames, .inr ⟨rfl, rfl⟩, fun b z => absurd z (noA b), e0.bs, e0.bsz, fun b _ _ => noA b,
      fun b z => absurd z (noA b), e0.funs, e0.frf⟩,
    rfl, e0.bare, Un.kept kp, ⟨_, hns, fun i y v e1 e2 e3 => ?_⟩, fun y c e => ?_, e0.hok.fresh (Nat.le_refl _), fun y c e => ?_, fun q hq => absurd (show q ∈ ([] : List (Addr × Obj)) ++ [] from hq) (by simp), e0.hok.kept kp, ?_⟩
  · have hy : scope.names.lookup y = some .cell ∨ scope.names.lookup y = some .free := hy
    rcases hy with hy | hy
    · exact absurd rfl (L.own _ (PySem.mem_of_lookup hy)).1
    · exact look hy
  · have z : false = true := z
    cases z
  · have e1 : (X.N ++ [p])[i]? = some y := e1
    have e3 : Vis scope y := e3
    have hlen : σ.length = X.N.length := I.len
    by_cases hi : i < X.N.length
    · rw [List.getElem?_append_left hi] at e1
      rw [List.getElem?_append_left (by omega)] at e2
      have hyN : y ∈ X.N := List.mem_of_getElem? e1
      rcases e3 with k | k | k
      · exact absurd ((L.own _ (PySem.mem_of_lookup k)).2 rfl) (fun z => L.new (by rw [← show y = p from z]; exact hyN))
      · exact absurd rfl (L.own _ (PySem.mem_of_lookup k)).1
      · obtain ⟨m, hn, hl⟩ := I.loc
        have hvis : Vis X.env.scope y := (L.free _ (PySem.mem_of_lookup k) rfl).elim (fun k => .inr (.inl k)) (fun k => .inr (.inr k))
        obtain ⟨w', r, q⟩ := hl i y v e1 e2 hvis
        obtain ⟨c2, h2⟩ := look k
        refine ⟨w', r, .inr ⟨.inr k, c2, h2, ?_⟩⟩
        have c1 := cm h2
        rcases q with ⟨k', _⟩ | ⟨_, c3, e', z⟩
        · have k' : X.env.scope.names.lookup y = some .local := k'
          rcases L.free _ (PySem.mem_of_lookup k) rfl with k2 | k2 <;> rw [show X.env.scope.names.lookup y = _ from k2] at k' <;> cases k'
        · rw [c1] at e'
          cases e'
          exact cellK (I.freeC y _ c1) z
    · rw [List.getElem?_append_right (by omega)] at e1 e2
      have hz : i - X.N.length = 0 := by
        rcases Nat.eq_zero_or_pos (i - X.N.length) with z | z
        · exact z
        · rw [List.getElem?_eq_none (by simp; omega)] at e1
          cases e1
      rw [hz] at e1
      rw [hlen, hz] at e2
      obtain rfl : p = y := by simpa using e1
      obtain rfl : v0 = v := by simpa using e2
      exact ⟨u0, rv, .inl ⟨L.par, by simp⟩⟩
  · obtain ⟨w', z⟩ := I.cell y c (cm e)
    exact ⟨w', cellK (I.freeC y c (cm e)) z⟩
  · obtain ⟨v, o, ho, hd⟩ := I.cell y c (cm e)
    exact un.free c o ho (I.freeC y c (cm e)) (by simp)
  · show (σ ++ [some v0]).length = (X.N ++ [p]).length
    rw [List.length_append, List.length_append, I.len]
    rfl
/-- x(e), in the def that got the lambda: Z is that def's context, entered at s -/
theorem pe_act1 {Ng : List Str} {qg : Str} {sg : Scope} {g f c' : Addr} {cdg pm ctv : Value} {params : Arguments} {body : Expr} {scope : Scope} {k i : Nat} {a : Str} {tb te : TE} {e : Expr} {p1 p2 : Pos}
    (I : Inv X pins σ H s) (L : LamS1 p X.N X.env.scope scope) (hf : s.heap.get? f = some (PySem.W.kla_obj "<lambda>" (X.env.qual ++ "<lambda>") params body scope (cloFrom X.env.cells scope.names []) pm c' ctv)) (hfn : H f = none) (hfr : f ∉ frs X.stack)
    (hbind : ∀ u, bindArgs (PySem.W.kla_fn "<lambda>" (X.env.qual ++ "<lambda>") params body scope (cloFrom X.env.cells scope.names []) pm (.ref c') ctv) ⟨[u], []⟩ = pure [(p, u)])
    (hr : Room (k + 1) (X.A.deeper (envOfC qg sg s.heap.objs.size g cdg)))
    (hbody : ∀ (A : Around) (outer : List Env) (s : Shared) (H : Hp), Room k (A.deeper (lamEnv X scope s.heap.objs.size f c')) → PE (lamCx1 X A outer s H scope f c' p) body tb)
    (he : PE (cxOf C8.CX0 X.prog X.w X.K X.mg X.base Ng qg sg g cdg X.A X.stack s H C8.E0).nox e te)
    (hN : Ng[i]? = some a) (hv : Vis sg a) (hd : (a == ("__debug__" : Str)) = false := by decide) (hcd : (a == ("__classdict__" : Str)) = false := by decide)
    (hst : starEach [e] (cxOf C8.CX0 X.prog X.w X.K X.mg X.base Ng qg sg g cdg X.A X.stack s H C8.E0).env = [(false, eval e (cxOf C8.CX0 X.prog X.w X.K X.mg X.base Ng qg sg g cdg X.A X.stack s H C8.E0).env)] := by rfl) :
    PE (cxOf C8.CX0 X.prog X.w X.K X.mg X.base Ng qg sg g cdg X.A X.stack s H C8.E0).nox (.Call (.Name a p1) [e] [] p2)
      (fun σZ HZ Q => σZ[i]? = some (some (.ref f)) ∧ te σZ HZ fun v H1 => H1 c' = some (CodeO c' (X.env.qual ++ "<lambda>")) ∧ tb (σ ++ [some v]) H1 Q) := by
  refine ⟨fun pinsZ sZ σZ HZ Q IZ h => ?_⟩
  obtain ⟨hs, ht⟩ := h
  refine wpAny_Call_Name_kw (thn ((pe_var (pos := p1) (i := i) hN hv hd hcd).run pinsZ sZ σZ HZ (fun v H1 => v = .ref f ∧ H1 = HZ) IZ ⟨.ref f, hs, rfl, rfl⟩) fun u s1 ⟨v, H1, I1, r1, q1⟩ => ?_)
  obtain ⟨ev, eH⟩ := q1
  subst ev
  rw [eH] at I1
  obtain rfl : u = Value.ref f := r1
  have of_ : ∀ {s2 : Shared} {H2 : Hp} {σ2 : L2.St}, Inv (cxOf C8.CX0 X.prog X.w X.K X.mg X.base Ng qg sg g cdg X.A X.stack s H C8.E0).nox pinsZ σ2 H2 s2 → s2.heap.get? f = some (PySem.W.kla_obj "<lambda>" (X.env.qual ++ "<lambda>") params body scope (cloFrom X.env.cells scope.names []) pm c' ctv) := fun J => J.base.keep f _ hf hfn hfr (fun z => nomatch (show f ∈ ([] : List Addr) from z))
  refine PySem.W.callWith_F (first := []) ⟨_, _, _, _, of_ I1⟩ ?_ (by rw [hst]; rfl) rfl
  rw [hst]
  refine Calls.spliced_cons (thn (he.run pinsZ s1 σZ HZ _ I1 ht) fun u s2 ⟨v, H2, I2, rv, hc, ht2⟩ => Calls.spliced_nil ?_)
  have of2 := of_ I2
  refine ⟨⟨_, _, _, _, of2⟩, ?_⟩
  have un : Un (frs X.stack) [] H H2 s.heap s2.heap := I2.base
  obtain ⟨⟨oc, vs, t, hoc, hdc, hvc⟩, _, _⟩ := I2.hok c' _ hc
  have rc : codeAny (model X.prog X.w) (X.A.deeper (envOfC qg sg s.heap.objs.size g cdg)) (.call (.ref f) ⟨[u], []⟩) (CR C8.CX0 (envOfC qg sg s.heap.objs.size g cdg :: X.stack) X.prog X.w H2 s2 Q C8.E0) s2 := by
    refine PySem.W.kla_callFunE hr.depth of2 rfl L.co L.gen rfl ⟨c', oc, vs, t, rfl, hoc, hdc, hvc⟩ ?_
    rw [hbind]
    refine wpAny_pure (wpAny_newFunctionEnv (fun y hy => (L.own y hy).1) (fun y hy => ?_) (fun h₁ hns hsb => ⟨I2.nolimit.fresh _ hsb, ?_⟩) L.kind)
    · rw [List.mem_singleton.mp hy]
      exact L.par
    show codeAny _ _ (.expr body (lamEnv X scope s2.heap.objs.size f c')) _ _
    have kp : ∀ b o, s2.heap.get? b = some o → h₁.get? b = some o := fun b o e => hsb.extBut b o (Nat.ne_of_lt (Heap.lt_size e)) (Heap.get?_push_of_some _ e)
    have J : Inv (lamCx1 X (X.A.deeper (envOfC qg sg s.heap.objs.size g cdg)) (envOfC qg sg s.heap.objs.size g cdg :: X.stack) s2 H2 scope f c' p) [] (σ ++ [some v]) H2 { s2 with heap := h₁, toks := s2.toks + ([(p, u)] : List (Str × Value)).length } :=
      lam_start1 I L I2.env0 hr.hd un rv hns kp
    refine PySem.W.kla_codeExpr (wpAny_mono ((hbody _ _ s2 H2 (hr.deeper _)).run [] _ _ H2 Q J ht2) (fun v s' hq => ?_) fun e s' hq => False.elim hq)
    obtain ⟨w', H', J', rv, q⟩ := hq
    exact ⟨w', H', J'.os, J'.bare, J'.base, J'.hok, rv, q⟩
  refine wpAny_call (codeAny_mono rc fun r s' hq => ?_)
  cases r with
  | error e => exact (show False from hq).elim
  | ok fl =>
    cases fl with
    | ret u => exact I2.after hq
    | next => exact False.elim hq
    | brk => exact False.elim hq
    | cont => exact False.elim hq
end
/-- what the lambda's reading is in the def that calls it -/
abbrev TLam := V → Hp → VK → Prop
/-- the def that calls what it got, its first argument and the lambda: TT, what it makes of the lambda's reading -/
def GivesTo1 (X : Cx) (Ng : List Str) (x : Str) (sg : Scope) (g : Addr) (cdg : Value) (bg : List Stmt) (a : Str) (q : Str) (TT : TLam → V → Hp → VK → Prop) : Prop :=
  ∀ (f c' : Addr) (s : Shared) (H : Hp) (Q : VK) (v1 : V) (tl : TLam),
    (∀ (e : Expr) (te : TE) (p1 p2 : Pos), PE (cxOf C8.CX0 X.prog X.w X.K X.mg X.base Ng x sg g cdg X.A X.stack s H C8.E0).nox e te →
      starEach [e] (cxOf C8.CX0 X.prog X.w X.K X.mg X.base Ng x sg g cdg X.A X.stack s H C8.E0).env = [(false, eval e (cxOf C8.CX0 X.prog X.w X.K X.mg X.base Ng x sg g cdg X.A X.stack s H C8.E0).env)] →
      PE (cxOf C8.CX0 X.prog X.w X.K X.mg X.base Ng x sg g cdg X.A X.stack s H C8.E0).nox (.Call (.Name a p1) [e] [] p2) (fun σZ HZ Q => σZ[1]? = some (some (.ref f)) ∧ te σZ HZ fun v H1 => H1 c' = some (CodeO c' q) ∧ tl v H1 Q)) →
    H c' = some (CodeO c' q) → TT tl v1 H Q →
    ∃ t, PSs (cxOf C8.CX0 X.prog X.w X.K X.mg X.base Ng x sg g cdg X.A X.stack s H C8.E0).nox bg t ∧ t { nx := fun _ H' => Q .non H', rt := Q } (L2.start Ng [v1, .ref f]) H
/-- x(e1, lambda p: body): t the body's reading, over the maker's slots and the parameter behind them -/
def tLam1 (T : List (Addr × Str)) (TT : TLam → V → Hp → VK → Prop) (te t : TE) : TE := fun σ H Q => te σ H fun v1 H0 => Tabs T H0 ∧ ∀ H1, ExtN H0 H1 → Tabs T H1 → TT (fun v H' Q' => t (σ ++ [some v]) H' Q') v1 H1 Q
section
variable {X : Cx}
theorem pe_lamcall1 {T : List (Addr × Str)} {TT : TLam → V → Hp → VK → Prop} {x a b p : Str} {g c P : Addr} {k : Nat} {pg : Arguments} {bg : List Stmt} {sg : Scope} {dV kV doc pm cdv ct oc : Value} {an od : Option Addr} {osl : Array (Option Value)} {Ng : List Str}
    {params : Arguments} {body : Expr} {scope : Scope} {e1 : Expr} {te t : TE} {pp lpos pos : Pos} (hg : Gl X x) (hm : X.mg x = some (.ref g)) (hk : PySem.W.keepIn X.K (.ref g) = true)
    (lk : X.K.lookup g = some ⟨oc, od, .func (PySem.W.fnOf x x pg bg sg dV kV doc pm an cdv ct), osl⟩) (hcg : PySem.W.codeIn X.K cdv x = true) (hb : L2.Binds X.K (PySem.W.fnOf x x pg bg sg dV kV doc pm an cdv ct) [b, a] []) (Sg : FnScope Ng [b, a] sg) (hNg : Ng[1]? = some a) (hva : Vis sg a)
    (hG : GivesTo1 X Ng x sg g cdv bg a (X.env.qual ++ "<lambda>") TT)
    (TB : TabB X.base X.mg c P) (hcode : X.env.code = .ref c) (hmT : (P, X.env.qual ++ "<lambda>") ∈ T) (hu : ∀ p ∈ T, p.1 = P → p.2 = X.env.qual ++ "<lambda>") (hr : Room (k + 2) X.A) (L : LamS1 p X.N X.env.scope scope) (hdef : defaultsOf params X.env = ([], []))
    (hbind : ∀ (q : Str) (cl : List (Str × Addr)) (pm cv ctv : Value) (u : Value), bindArgs (PySem.W.kla_fn "<lambda>" q params body scope cl pm cv ctv) ⟨[u], []⟩ = pure [(p, u)])
    (he : PE X e1 te)
    (hbody : ∀ (A : Around) (outer : List Env) (s : Shared) (H : Hp) (f c' : Addr), Room k (A.deeper (lamEnv X scope s.heap.objs.size f c')) → PE (lamCx1 X A outer s H scope f c' p) body t)
    (hdb : (x == ("__debug__" : Str)) = false := by decide) (hd : (a == ("__debug__" : Str)) = false := by decide) (hcd : (a == ("__classdict__" : Str)) = false := by decide)
    (hst : starEach [e1, .Lambda params body scope lpos] X.env = [(false, eval e1 X.env), (false, eval (.Lambda params body scope lpos) X.env)] := by rfl) :
    PE X (.Call (.Name x pp) [e1, .Lambda params body scope lpos] [] pos) (tLam1 T TT te t) := by
  refine ⟨fun pins s σ H Q I h => ?_⟩
  refine wpAny_Call_Name_kw (ld_glob I hg hm ?_ hdb)
  refine PySem.W.callWith_K (h₀ := X.base) I.ok.mod.kin hk ?_ (by rw [hst]; rfl) (by rfl)
  rw [hst]
  show wpAny _ _ (spliced ((false, eval e1 X.env) :: (false, eval (.Lambda params body scope lpos) X.env) :: [])) _ _ s
  refine Calls.spliced_cons (thn (he.run pins s σ H _ I h) fun u1 s0 ⟨v1, H0, I0, rv1, hT, h⟩ => ?_)
  refine Calls.spliced_cons (lam_make2 I0 TB hcode hmT hu hT hdef (L.has I0.ok) fun f c' pm' ctv H1 s' I1 eN T1 hf hfn hfr hco => ?_)
  refine Calls.spliced_nil ⟨I1.kIn, ?_⟩
  have rc : codeAny (model X.prog X.w) X.A (.call (.ref g) ⟨[u1, .ref f], []⟩) (CR C8.CX0 X.stack X.prog X.w H1 s' Q C8.E0) s' := by
    refine run_ofS (N := Ng) (ps := [b, a]) (us := [u1, .ref f]) (vs := [v1, .ref f]) lk hcg Sg hr I1.env0 (hb s' [u1, .ref f] I1.kIn rfl) (.cons rv1 (.cons rfl .nil)) rfl fun hr' => ?_
    obtain ⟨t', ht', hq'⟩ := hG f c' s' H1 Q v1 (fun v H' Q' => t (σ ++ [some v]) H' Q') (fun e te p1 p2 he hst => pe_act1 (i := 1) I1 L hf hfn hfr (hbind _ _ _ _ _) hr' (fun A outer s H hr2 => hbody A outer s H f c' hr2) he hNg hva hd hcd hst) hco (h H1 eN T1)
    exact ⟨t', ht'.nox, hq'⟩
  refine wpAny_call (codeAny_mono rc fun r s2 hq => ?_)
  cases r with
  | error e => exact (show False from hq).elim
  | ok fl =>
    cases fl with
    | ret u => exact I1.after hq
    | next => exact False.elim hq
    | brk => exact False.elim hq
    | cont => exact False.elim hq
end
end LP

set_option Elab.async false
set_option linter.all false
set_option maxRecDepth 100000
set_option maxHeartbeats 4000000
/-! MK: max(xs, key=lambda p: body), each key an int. -/
namespace MK
open PySem PySem.Spec PyProof.Rows L2 LamX LP FbM
section
variable {X : Cx} {pins : List (Addr × Obj)} {σ : L2.St} {H : Hp} {s : Shared} {p : Str}
/-- the lambda called, by whom ever stands within this def -/
theorem lam_call1 {A' : Around} {E : Value → Shared → Prop} {params : Arguments} {body : Expr} {scope : Scope} {f c' : Addr} {pm ctv : Value} {k : Nat} {tb : TE} {v : V} {u : Value} {Q : VK} (hA : A'.frames = some X.stack) (hr : Room (k + 1) A') (I : Inv X pins σ H s) (L : LamS1 p X.N X.env.scope scope)
    (hf : s.heap.get? f = some (PySem.W.kla_obj "<lambda>" (X.env.qual ++ "<lambda>") params body scope (cloFrom X.env.cells scope.names []) pm c' ctv)) (hc : H c' = some (CodeO c' (X.env.qual ++ "<lambda>")))
    (hbind : ∀ u, bindArgs (PySem.W.kla_fn "<lambda>" (X.env.qual ++ "<lambda>") params body scope (cloFrom X.env.cells scope.names []) pm (.ref c') ctv) ⟨[u], []⟩ = pure [(p, u)])
    (hbody : ∀ (A : Around) (outer : List Env) (s : Shared) (H : Hp), Room k (A.deeper (lamEnv X scope s.heap.objs.size f c')) → PE (lamCx1 X A outer s H scope f c' p) body tb)
    (rv : RelV v u) (h : tb (σ ++ [some v]) H Q) :
    wpAny (model X.prog X.w) A' (call (.ref f) [u]) (fun w s2 => ∃ v' H', Inv X pins σ H' s2 ∧ RelV v' w ∧ Un (frs X.stack) [] H H' s.heap s2.heap ∧ Q v' H') E s := by
  obtain ⟨⟨oc, vs, t, hoc, hdc, hvc⟩, _, _⟩ := I.hok c' _ hc
  have e0 := I.env0
  have e1 : Env0 X.prog X.w X.K X.mg X.base A' X.stack s H := ⟨hA, e0.mod, e0.bs, e0.bsz, e0.funs, e0.frf, e0.hok, e0.bare⟩
  have rc : codeAny (model X.prog X.w) A' (.call (.ref f) ⟨[u], []⟩) (CR C8.CX0 X.stack X.prog X.w H s Q C8.E0) s := by
    refine PySem.W.kla_callFunE hr.depth hf rfl L.co L.gen rfl ⟨c', oc, vs, t, rfl, hoc, hdc, hvc⟩ ?_
    rw [hbind]
    refine wpAny_pure (wpAny_newFunctionEnv (fun y hy => (L.own y hy).1) (fun y hy => ?_) (fun h₁ hns hsb => ⟨I.nolimit.fresh _ hsb, ?_⟩) L.kind)
    · rw [List.mem_singleton.mp hy]
      exact L.par
    show codeAny _ _ (.expr body (lamEnv X scope s.heap.objs.size f c')) _ _
    have kp : ∀ b o, s.heap.get? b = some o → h₁.get? b = some o := fun b o e => hsb.extBut b o (Nat.ne_of_lt (Heap.lt_size e)) (Heap.get?_push_of_some _ e)
    have J : Inv (lamCx1 X A' X.stack s H scope f c' p) [] (σ ++ [some v]) H { s with heap := h₁, toks := s.toks + ([(p, u)] : List (Str × Value)).length } :=
      lam_start1 I L e1 hr.hd Un.refl rv hns kp
    refine PySem.W.kla_codeExpr (wpAny_mono ((hbody A' X.stack s H (hr.deeper _)).run [] _ _ H Q J h) (fun v s' hq => ?_) fun e s' hq => False.elim hq)
    obtain ⟨w', H', J', rv, q⟩ := hq
    exact ⟨w', H', J'.os, J'.bare, J'.base, J'.hok, rv, q⟩
  refine wpAny_call (codeAny_mono rc fun r s' hq => ?_)
  cases r with
  | error e => exact (show False from hq).elim
  | ok fl =>
    cases fl with
    | ret u =>
      obtain ⟨v', H', os, bare, un, hok, rv', q⟩ := (show CE X.stack X.prog X.w H s Q u s' from hq)
      exact ⟨v', H', I.call' os un hok bare (fun b y => absurd y List.not_mem_nil), rv', un, q⟩
    | next => exact False.elim hq
    | brk => exact False.elim hq
    | cont => exact False.elim hq
end
section
variable {X : Cx} {pins : List (Addr × Obj)} {σ : L2.St} {H : Hp} {l f it S : Addr} {fo : Obj} {xs : List V} {A : Around} {R : Result → Shared → Prop} {E : Value → Shared → Prop}
/-- where the greatest key stands first -/
def Best (kf : Nat → Int) (n i : Nat) : Prop := ∀ j, j < n → kf j ≤ kf i ∧ (j < i → kf j < kf i)
theorem max_loop (kf : Nat → Int) (hh : A.handled = none) (hl : H l = some (.lst xs)) (ff : f ∉ frs X.stack) (uf : H f = none) (rI : Rec X pins it) (rS : Rec X pins S) (ui : H it = none) (uS : H S = none) (Si : S ≠ it) (li : l ≠ it) (lS : l ≠ S) (fi : f ≠ it) (fS : f ≠ S)
    (turn : ∀ i x u s1, xs[i]? = some x → RelV x u → Inv X pins σ H s1 → s1.heap.get? f = some fo → wpAny (model X.prog X.w) A.in1 (call (.ref f) [u]) (fun w s2 => ∃ tk, w = .int (kf i) tk ∧ Inv X pins σ H s2 ∧ Un (frs X.stack) [] H H s1.heap s2.heap) (fun _ _ => False) s1)
    (hR : ∀ i x v s', xs[i]? = some x → RelV x v → Best kf xs.length i → Inv X pins σ H s' → R (.ok (.ret v)) s') :
    ∀ (r j i : Nat) (s : Shared) (vb : Value) (tb : Tok) (c : Nat) (xb : V), xs.length - (j + 1) = r → j + 1 ≤ xs.length → Inv X pins σ H s → s.heap.get? f = some fo → s.heap.get? S = some (seqObj "list" #[vb, .int (kf i) tb] c) → s.heap.IsListIter it l (j + 1) →
      xs[i]? = some xb → RelV xb vb → i ≤ j → Best kf (j + 1) i → codeAny (model X.prog X.w) A (.builtin "max.loop" ⟨[.ref it, .ref f, .ref S], []⟩) R s := by
  have hname : (toString "max" ++ toString ".loop" : String) = "max.loop" := by decide
  intro r
  induction r with
  | zero =>
    intro j i s vb tb c xb hr hj I hf hS hit hxb rb hij hbest
    have hin : j + 1 = xs.length := by omega
    obtain ⟨z, its, n, rv, hlt, e⟩ := I.lstM hl
    have W := Walks.list (prog := X.prog) (w := X.w) (A := A.in1) hh it l li its.toArray
    have pl : s.heap.IsList l its.toArray := ⟨_, e, rfl, _, rfl⟩
    have hsz : its.toArray.size = xs.length := by rw [List.size_toArray]; exact rv.length.symm
    refine codeAny_builtin PySem.F.entry_max_loop ?_
    rw [Around.under_plainId PySem.F.plain_max_loop _]
    show wpAny _ A.in1 (seqItems? (.ref S) >>= _) _ _ _
    refine wpAny_bind (wpAny_seqItems hS rfl ?_)
    show wpAny _ A.in1 (tryCatch (pyNext (.ref it)) _ >>= _) _ _ _
    refine wpAny_bind (wpAny_tryCatch (W.done _ _ _ ⟨by rw [hsz, ← hin]; exact hit, pl⟩ fun h' tk' hk' => ?_))
    have hS' := hk' S _ (by simpa using Si) hS
    have I1 : Inv X pins σ H { s with heap := h', toks := tk' } := rI.turn (t' := tk') I ui fun b o hb q => hk' b o (by simpa using hb) q
    show wpAny _ A.in1 (updateSeq S (fun _ => #[]) >>= _) _ _ _
    refine wpAny_bind ?_
    refine wpAny_updateSeq hS' rfl (wpAny_bind (wpAny_letGo (wpAny_pure ?_)))
    refine hR i xb vb _ hxb rb (by rw [← hin]; exact hbest) ?_
    have s1 := Heap.SameBut.update h' S (Obj.mapSeq fun _ => (#[] : Array Value))
    exact rS.turn (t' := tk') I1 uS fun b o hb q => s1.extBut b o hb q
  | succ r ih =>
    intro j i s vb tb c xb hr hj I hf hS hit hxb rb hij hbest
    have hlt : j + 1 < xs.length := by omega
    obtain ⟨z, its, n, rv, hlt2, e⟩ := I.lstM hl
    have W := Walks.list (prog := X.prog) (w := X.w) (A := A.in1) hh it l li its.toArray
    have pl : s.heap.IsList l its.toArray := ⟨_, e, rfl, _, rfl⟩
    have hsz : its.toArray.size = xs.length := by rw [List.size_toArray]; exact rv.length.symm
    have hxj : xs[j + 1]? = some xs[j + 1] := List.getElem?_eq_getElem hlt
    obtain ⟨u, hu, ru⟩ := rv.get hxj
    refine codeAny_builtin PySem.F.entry_max_loop ?_
    rw [Around.under_plainId PySem.F.plain_max_loop _]
    show wpAny _ A.in1 (seqItems? (.ref S) >>= _) _ _ _
    refine wpAny_bind (wpAny_seqItems hS rfl ?_)
    show wpAny _ A.in1 (tryCatch (pyNext (.ref it)) _ >>= _) _ _ _
    refine wpAny_bind (wpAny_tryCatch (W.item (j + 1) _ _ _ (by rw [hsz]; exact hlt) ⟨hit, pl⟩ fun v h' tk' hP hst' hk' => ?_))
    have hv : v = u := by
      have h1 : its.toArray[j + 1]? = some v := hP
      have h2 : its.toArray[j + 1]? = some u := by simpa using hu
      exact Option.some.inj (h1.symm.trans h2)
    subst hv
    have I1 : Inv X pins σ H { s with heap := h', toks := tk' } := rI.turn (t' := tk') I ui fun b o hb q => hk' b o (by simpa using hb) q
    have hf1 := hk' f _ (by simpa using fi) hf
    have hS1 := hk' S _ (by simpa using Si) hS
    obtain ⟨oI', hoI', hoc, hod⟩ := id hst'.1
    show wpAny _ A.in1 (tryCatch (holding [v] (call (.ref f) [v])) _ >>= _) _ _ _
    refine wpAny_bind (wpAny_tryCatch (wpAny_holding (wpAny_mono (turn (j + 1) _ v _ hxj ru I1 hf1) (fun x s2 he => ?_) fun _ _ hF => hF.elim)))
    obtain ⟨t2, rfl, I2, un⟩ := he
    have hf2 := un.keep f _ hf1 uf ff List.not_mem_nil
    have hS2 := un.keep S _ hS1 uS rS.fr List.not_mem_nil
    have hI2 := un.keep it _ hoI' ui rI.fr List.not_mem_nil
    have hit2 : s2.heap.IsListIter it l (j + 1 + 1) := ⟨oI', hI2, hoc, hod⟩
    show wpAny _ A.in1 (tryCatch (holding [v, .int (kf (j + 1)) t2] (richCompare .Gt (.int (kf (j + 1)) t2) (.int (kf i) tb) >>= _)) _ >>= _) _ _ _
    refine wpAny_bind (wpAny_tryCatch (wpAny_holding (wpAny_bind (CmpOf.ints_gt (prog := X.prog) (w := X.w) (A := A.in1) (P := fun i v => ∃ t, v = .int (kf i) t) kf (fun i v h => h) (j + 1) i _ _ _ _ _ ⟨t2, rfl⟩ ⟨tb, rfl⟩ ?_))))
    refine wpAny_bind (wpAny_holding (wpAny_truthy_bool ?_))
    refine wpAny_bind (wpAny_letGo (wpAny_pure ?_))
    by_cases hb' : kf (j + 1) > kf i
    · have s1 := Heap.SameBut.update s2.heap S (Obj.mapSeq fun _ => #[v, .int (kf (j + 1)) t2])
      obtain ⟨c2, hc2⟩ : ∃ c2, (s2.heap.update S (Obj.mapSeq fun _ => #[v, .int (kf (j + 1)) t2])).get? S = some (seqObj "list" #[v, .int (kf (j + 1)) t2] c2) := ⟨_, get?_update_seq hS2 fun _ => #[v, .int (kf (j + 1)) t2]⟩
      simp only [hb', decide_true, if_true]
      refine wpAny_bind ?_
      refine wpAny_updateSeq hS2 rfl (wpAny_bind (wpAny_letGo ?_))
      rw [hname]
      have I3 : Inv X pins σ H { s2 with heap := s2.heap.update S (Obj.mapSeq fun _ => #[v, .int (kf (j + 1)) t2]) } := rS.turn (t' := s2.toks) I2 uS fun b o hb q => s1.extBut b o hb q
      refine wpAny_pure ⟨plainId_quiet PySem.F.plain_max_loop _, ih (j + 1) (j + 1) _ v t2 c2 _ (by omega) hlt I3 (s1.extBut _ _ fS hf2) hc2 ⟨oI', (s1.2 it Si.symm).trans hI2, hoc, hod⟩ hxj ru (Nat.le_refl _) fun j' hj' => ?_⟩
      by_cases e : j' = j + 1
      · subst e
        exact ⟨by omega, fun _ => by omega⟩
      · have hb1 := hbest j' (by omega)
        have hb2 := hb1.1
        exact ⟨by omega, fun _ => by omega⟩
    · simp only [hb', decide_false, Bool.false_eq_true, if_false]
      refine wpAny_bind (wpAny_letGo ?_)
      rw [hname]
      refine wpAny_pure ⟨plainId_quiet PySem.F.plain_max_loop _, ih (j + 1) i _ vb tb c xb (by omega) hlt I2 hf2 hS2 hit2 hxb rb (by omega) fun j' hj' => ?_⟩
      by_cases e : j' = j + 1
      · subst e
        exact ⟨by omega, fun _ => by omega⟩
      · exact hbest j' (by omega)
theorem max_key {s : Shared} {Q : Value → Shared → Prop} (kf : Nat → Int) (hh : A.handled = none) (hl : H l = some (.lst xs)) (hne : xs ≠ []) (I : Inv X pins σ H s) (hf : s.heap.get? f = some fo) (ff : f ∉ frs X.stack) (uf : H f = none)
    (turn : ∀ i x u s1, xs[i]? = some x → RelV x u → Inv X pins σ H s1 → s1.heap.get? f = some fo → wpAny (model X.prog X.w) A.in1 (call (.ref f) [u]) (fun w s2 => ∃ tk, w = .int (kf i) tk ∧ Inv X pins σ H s2 ∧ Un (frs X.stack) [] H H s1.heap s2.heap) (fun _ _ => False) s1)
    (hR : ∀ i x v s', xs[i]? = some x → RelV x v → Best kf xs.length i → Inv X pins σ H s' → Q v s') : wpAny (model X.prog X.w) A (call (.builtin "max") [.ref l] [(Str.ofString "key", .ref f)]) Q E s := by
  have hname : (toString "max" ++ toString ".loop" : String) = "max.loop" := by decide
  obtain ⟨z, its, n, rv, hlt2, e⟩ := I.lstM hl
  have hls : s.heap.IsList l its.toArray := ⟨_, e, rfl, _, rfl⟩
  have hll : l < s.heap.objs.size := Heap.lt_size e
  have hfl : f < s.heap.objs.size := Heap.lt_size hf
  refine kmk_tree PySem.F.kind_max PySem.F.plain_max PySem.F.entry_max (kmk_max_key _ _) ?_
  show wpAny _ A.in1 (Builtin.Builtins.bindParams "max" ["key", "default"] 0 ⟨[], [(Str.ofString "key", .ref f)]⟩ >>= _) _ _ s
  refine wpAny_bind (wpAny_of_eq (show Builtin.Builtins.bindParams "max" ["key", "default"] 0 ⟨[], [(Str.ofString "key", .ref f)]⟩ = pure [some (.ref f), none] from rfl) ?_)
  refine wpAny_bind (wpAny_pure ?_)
  refine wpAny_bind (wpAny_pyIter_list hls ?_)
  refine wpAny_bind (wpAny_newList ?_ (Nat.zero_le _))
  rw [hname]
  have hS : (s.heap.push { cls := .type "list_iterator", data := .fields #[.ref l, .int 0 0] }).objs.size = s.heap.objs.size + 1 := size_push' ..
  refine wpAny_pure ⟨plainId_quiet PySem.F.plain_max_loop _, ?_⟩
  have gI : ((s.heap.push { cls := .type "list_iterator", data := .fields #[.ref l, .int 0 0] }).push (seqObj "list" #[] 0)).get? s.heap.objs.size = some { cls := .type "list_iterator", data := .fields #[.ref l, .int 0 0] } :=
    Heap.get?_push_of_some _ (Heap.get?_push_size _ rfl)
  have gS : ((s.heap.push { cls := .type "list_iterator", data := .fields #[.ref l, .int 0 0] }).push (seqObj "list" #[] 0)).get? (s.heap.push { cls := .type "list_iterator", data := .fields #[.ref l, .int 0 0] }).objs.size = some (seqObj "list" #[] 0) := Heap.get?_push_size _ rfl
  have kp : ∀ b o, s.heap.get? b = some o → ((s.heap.push { cls := .type "list_iterator", data := .fields #[.ref l, .int 0 0] }).push (seqObj "list" #[] 0)).get? b = some o := fun b o q => Heap.get?_push_of_some _ (Heap.get?_push_of_some _ q)
  rw [hS] at gS ⊢
  generalize (s.heap.push { cls := .type "list_iterator", data := .fields #[.ref l, .int 0 0] }).push (seqObj "list" #[] 0) = h0 at gI gS kp ⊢
  have I0 : Inv X pins σ H { s with heap := h0 } := I.kept (t' := s.toks) kp
  have rI : Rec X pins s.heap.objs.size := rec_new I (Nat.le_refl _)
  have rS : Rec X pins (s.heap.objs.size + 1) := rec_new I (Nat.le_succ _)
  have ui : H s.heap.objs.size = none := I.hok.fresh (Nat.le_refl _)
  have uS : H (s.heap.objs.size + 1) = none := I.hok.fresh (Nat.le_succ _)
  have li : l ≠ s.heap.objs.size := Nat.ne_of_lt hll
  have lS : l ≠ s.heap.objs.size + 1 := Nat.ne_of_lt (Nat.lt_succ_of_lt hll)
  have fi : f ≠ s.heap.objs.size := Nat.ne_of_lt hfl
  have fS : f ≠ s.heap.objs.size + 1 := Nat.ne_of_lt (Nat.lt_succ_of_lt hfl)
  have Si : s.heap.objs.size + 1 ≠ s.heap.objs.size := Nat.succ_ne_self _
  have hf0 := kp _ _ hf
  have pl0 : h0.IsList l its.toArray := ⟨_, kp _ _ e, rfl, _, rfl⟩
  generalize s.heap.objs.size = it at *
  have W := Walks.list (prog := X.prog) (w := X.w) (A := A.in1) hh it l li its.toArray
  have hsz : its.toArray.size = xs.length := by rw [List.size_toArray]; exact rv.length.symm
  have hpos : 0 < xs.length := List.length_pos_iff.mpr hne
  have hx0 : xs[0]? = some xs[0] := List.getElem?_eq_getElem hpos
  obtain ⟨u, hu, ru⟩ := rv.get hx0
  refine codeAny_builtin PySem.F.entry_max_loop ?_
  rw [Around.under_plainId PySem.F.plain_max_loop _]
  show wpAny _ A.in1 (seqItems? (.ref _) >>= _) _ _ _
  refine wpAny_bind (wpAny_seqItems gS rfl ?_)
  show wpAny _ A.in1 (tryCatch (pyNext (.ref it)) _ >>= _) _ _ _
  refine wpAny_bind (wpAny_tryCatch (W.item 0 _ _ _ (by rw [hsz]; exact hpos) ⟨⟨_, gI, rfl, rfl⟩, pl0⟩ fun v h' tk' hP hst' hk' => ?_))
  have hv : v = u := by
    have h1 : its.toArray[0]? = some v := hP
    have h2 : its.toArray[0]? = some u := by simpa using hu
    exact Option.some.inj (h1.symm.trans h2)
  subst hv
  have I1 : Inv X pins σ H { s with heap := h', toks := tk' } := Rec.turn (s := { s with heap := h0 }) (t' := tk') rI I0 ui fun b o hb q => hk' b o (by simpa using hb) q
  have hf1 := hk' f _ (by simpa using fi) hf0
  have hS1 := hk' (it + 1) _ (by simpa using Si) gS
  obtain ⟨oI', hoI', hoc, hod⟩ := id hst'.1
  show wpAny _ A.in1 (tryCatch (holding [v] (call (.ref f) [v])) _ >>= _) _ _ _
  refine wpAny_bind (wpAny_tryCatch (wpAny_holding (wpAny_mono (turn 0 _ v _ hx0 ru I1 hf1) (fun x s2 he => ?_) fun _ _ hF => hF.elim)))
  obtain ⟨t2, rfl, I2, un⟩ := he
  have hf2 := un.keep f _ hf1 uf ff List.not_mem_nil
  have hS2 := un.keep (it + 1) _ hS1 uS rS.fr List.not_mem_nil
  have hI2 := un.keep it _ hoI' ui rI.fr List.not_mem_nil
  have s1 := Heap.SameBut.update s2.heap (it + 1) (Obj.mapSeq fun _ => #[v, .int (kf 0) t2])
  obtain ⟨c2, hc2⟩ : ∃ c2, (s2.heap.update (it + 1) (Obj.mapSeq fun _ => #[v, .int (kf 0) t2])).get? (it + 1) = some (seqObj "list" #[v, .int (kf 0) t2] c2) := ⟨_, get?_update_seq hS2 fun _ => #[v, .int (kf 0) t2]⟩
  show wpAny _ A.in1 (updateSeq (it + 1) (fun _ => #[v, .int (kf 0) t2]) >>= _) _ _ _
  refine wpAny_bind ?_
  refine wpAny_updateSeq hS2 rfl ?_
  rw [hname]
  have I3 : Inv X pins σ H { s2 with heap := s2.heap.update (it + 1) (Obj.mapSeq fun _ => #[v, .int (kf 0) t2]) } := rS.turn (t' := s2.toks) I2 uS fun b o hb q => s1.extBut b o hb q
  refine wpAny_pure ⟨plainId_quiet PySem.F.plain_max_loop _, max_loop kf hh hl ff uf rI rS ui uS Si li lS fi fS turn hR _ 0 0 _ v t2 c2 _ rfl hpos I3 (s1.extBut _ _ fS hf2) hc2 ⟨oI', (s1.2 it Si.symm).trans hI2, hoc, hod⟩ hx0 ru (Nat.le_refl _) fun j' hj' => ?_⟩
  have e : j' = 0 := by omega
  subst e
  exact ⟨by omega, fun h => absurd h (Nat.lt_irrefl _)⟩
end
/-- max(e, key=lambda p: body): tb the body's reading, over the maker's slots and the parameter behind them -/
def tMaxLam (T : List (Addr × Str)) (ta : TA) (tb : TE) : TE := fun σ H Q => ta σ H fun vs H0 => Tabs T H0 ∧ ∀ H1, ExtN H0 H1 → Tabs T H1 → ∃ (a : Addr) (xs : List V) (kf : Nat → Int), vs = [.ref a] ∧ H1 a = some (.lst xs) ∧ xs ≠ [] ∧
  (∀ (i : Nat) (y : V), xs[i]? = some y → ∀ Q' : VK, Q' (.int (kf i)) H1 → tb (σ ++ [some y]) H1 Q') ∧ ∀ (i : Nat) (y : V), xs[i]? = some y → Best kf xs.length i → Q y H1
section
variable {X : Cx}
theorem pe_maxLam {T : List (Addr × Str)} {p : Str} {c P : Addr} {k : Nat} {params : Arguments} {body : Expr} {scope : Scope} {e : Expr} {ta : TA} {tb : TE} {pp lpos kpos pos : Pos} (hg : Gl X "max") (hm : X.mg "max" = none)
    (TB : TabB X.base X.mg c P) (hcode : X.env.code = .ref c) (hmT : (P, X.env.qual ++ "<lambda>") ∈ T) (hu : ∀ p ∈ T, p.1 = P → p.2 = X.env.qual ++ "<lambda>") (hr : Room (k + 2) X.A) (L : LamS1 p X.N X.env.scope scope) (hdef : defaultsOf params X.env = ([], []))
    (hbind : ∀ (q : Str) (cl : List (Str × Addr)) (pm cv ctv : Value) (u : Value), bindArgs (PySem.W.kla_fn "<lambda>" q params body scope cl pm cv ctv) ⟨[u], []⟩ = pure [(p, u)])
    (ha : PA X [e] ta)
    (hbody : ∀ (A : Around) (outer : List Env) (s : Shared) (H : Hp) (f c' : Addr), Room k (A.deeper (lamEnv X scope s.heap.objs.size f c')) → PE (lamCx1 X A outer s H scope f c' p) body tb)
    (hst : backTo pos (starEach [e] X.env) = (false, eval e X.env) :: backTo pos (starEach [] X.env) := by rfl) (hpl : (backTo pos (starEach [e] X.env)).any (·.1) = false := by rfl)
    (hall : (backToKw pos (keywordEach [⟨some "key", .Lambda params body scope lpos, kpos⟩] X.env)).all (·.1.isSome) = true := by rfl) (hnone : (backToKw pos (keywordEach [⟨some "key", .Lambda params body scope lpos, kpos⟩] X.env)).any (·.1.isNone) = false := by rfl) (hks : (backToKw pos (keywordEach [⟨some "key", .Lambda params body scope lpos, kpos⟩] X.env)).filterMap (·.1) = [Str.ofString "key"] := by rfl) :
    PE X (.Call (.Name "max" pp) [e] [⟨some "key", .Lambda params body scope lpos, kpos⟩] pos) (tMaxLam T ta tb) := by
  refine ⟨fun pins s σ H Q I h => ?_⟩
  refine wpAny_Call_Name_kw (ld_blt I hg hm (show bootBuiltins "max" = some (.builtin "max") by decide +kernel) ?_ (by decide) (by decide))
  refine PyProof.Rows.callWith_kw (thn (ha.run pos pins s σ H _ I h) fun us s1 ⟨vs, H0, I0, r1, hT, h⟩ => ?_) hst hpl hall hnone
  rw [hks]
  show wpAny _ _ (evalAll ((do let v ← eval (.Lambda params body scope lpos) X.env; standAt pos; pure v) :: [])) _ _ s1
  refine wpAny_evalAll_cons (wpAny_bind (lam_make2 I0 TB hcode hmT hu hT hdef (L.has I0.ok) fun f c' pm' ctv H1 s' I1 eN T1 hf hfn hfr hco => wpAny_bind (wpAny_standAt (wpAny_pure ?_))))
  refine wpAny_evalAll_nil ?_
  obtain ⟨a, xs, kf, rfl, hl, hne, hk, hq⟩ := h H1 eN T1
  obtain ⟨u, rfl, ru⟩ := vals1 r1
  obtain rfl : u = Value.ref a := ru
  refine max_key kf hr.hd hl hne I1 hf hfr hfn (fun i y u s1 hy ry J hf1 => ?_) fun i y v s2 hy rv hb J => ⟨y, H1, J, rv, hq i y hy hb⟩
  refine wpAny_mono (lam_call1 (A' := X.A.in1) (Q := fun v' H' => v' = .int (kf i) ∧ H' = H1) J.env0.frames (Room.in1 hr) J L hf1 hco (fun u => hbind _ _ _ _ _ u) (fun A outer s H hr2 => hbody A outer s H f c' hr2) ry (hk i y hy _ ⟨rfl, rfl⟩)) (fun w s2 he => ?_) fun _ _ z => z
  obtain ⟨v', H', J2, rv, un, rfl, rfl⟩ := he
  obtain ⟨t, rfl⟩ := rv
  exact ⟨t, rfl, J2, un⟩
end
end MK

set_option Elab.async false
set_option linter.all false
set_option maxRecDepth 100000
set_option maxHeartbeats 4000000
/-! LT: the tables of code objects: a def that makes lambdas, a law's start with such defs. -/
namespace LP
open PySem PySem.Spec PyProof.Rows L2 LamX
/-- the code object that cd names, and its table, which is no part of K -/
def tabAddr (K : PySem.W.Frag) (cd : Value) : Option (Addr × Addr) := match cd with
  | .ref c => (match K.lookup c with
    | some ⟨_, _, .fields vs, _⟩ => (match (vs[11]? : Option Value) with
      | some (Value.ref P) => (match K.lookup P with
        | none => some (c, P)
        | some _ => none)
      | _ => none)
    | _ => none)
  | _ => none
theorem tabAddr_is {K : PySem.W.Frag} {cd : Value} {c P : Addr} (h : tabAddr K cd = some (c, P)) : cd = .ref c ∧ K.lookup P = none ∧ ∃ e dd vs sl, K.lookup c = some ⟨e, dd, .fields vs, sl⟩ ∧ vs[11]? = some (.ref P) := by
  unfold tabAddr at h
  split at h
  · rename_i c'
    split at h
    · rename_i e dd vs sl hc
      split at h
      · rename_i P' hv
        split at h
        · rename_i hP
          cases h
          exact ⟨rfl, hP, e, dd, vs, sl, hc, hv⟩
        · cases h
      · cases h
    · cases h
  · cases h
/-- a def with its code object and table, as the top has left it -/
structure FunT (K : PySem.W.Frag) (x qual : Str) (st : Stmt) (f : Addr) (fd : FuncData) (c P : Addr) : Prop where
  ex : ∃ (oc : Value) (od : Option Addr) (kV doc pm : Value) (an : Option Addr) (ct : Value) (osl : Array (Option Value)),
    fd = PySem.W.fnOf x qual (defArgs st) (defBody st) (defScope st) .none kV doc pm an (.ref c) ct ∧ K.lookup f = some ⟨oc, od, .func fd, osl⟩ ∧ PySem.W.codeIn K (.ref c) qual = true
  kp : PySem.W.keepIn K (.ref f) = true
  tab : tabAddr K (.ref c) = some (c, P)
section
variable {P : Program} {w : World} {K : PySem.W.Frag} {mg : Str → Option Value} {base : Heap}
theorem FunT.fn {x qual : Str} {st : Stmt} {f : Addr} {fd : FuncData} {c T : Addr} (F : FunT K x qual st f fd c T) : Fun K x qual st f fd := by
  obtain ⟨oc, od, kV, doc, pm, an, ct, osl, h1, h2, h3⟩ := F.ex
  exact ⟨⟨oc, od, kV, doc, pm, an, .ref c, ct, osl, h1, h2, h3⟩, F.kp⟩
/-- a def that makes lambdas, by its body; nothing is raised -/
theorem FunT.ok {x qual : Str} {st : Stmt} {f : Addr} {fd : FuncData} {c T : Addr} {N ps : List Str} {k : Nat} {sp : Sp} (F : FunT K x qual st f fd c T) (S : FnScope N ps (defScope st)) (len : ∀ vs H Q E, sp vs H Q E → vs.length = ps.length)
    (hbody : ∀ (A : Around) (outer : List Env) (s : Shared) (H : Hp) (vs : List V) (Q : VK) (E : XK), Room k (A.deeper (envOfC qual (defScope st) s.heap.objs.size f (.ref c))) → sp vs H Q E →
      ∃ t, PSs (cxOf CX0 P w K mg base N qual (defScope st) f (.ref c) A outer s H E).nox (defBody st) t ∧ t { nx := fun _ H' => Q .non H', rt := Q } (start N vs) H) : FnOk P w K mg base CX0 (k + 1) f fd ps sp := by
  obtain ⟨oc, od, kV, doc, pm, an, ct, osl, rfl, lk, hcd⟩ := F.ex
  refine fn_of lk hcd S len fun A outer s H vs Q E hr hsp => ?_
  obtain ⟨t, h, q⟩ := hbody A outer s H vs Q E hr hsp
  exact ⟨t, h.nox, q⟩
end
/-- p: the code object and the table of a def of the program q -/
def HasTab (q : Program) (K : PySem.W.Frag) (mg : Str → Option Value) (p : Addr × Addr) : Prop :=
  ∃ (x : Str) (f : Addr) (o : Obj) (fd : FuncData), ((recsOf q).any fun e => e.name == x) = true ∧ mg x = some (.ref f) ∧ K.lookup f = some o ∧ o.data = .func fd ∧ tabAddr K fd.code = some p
theorem FunT.has {q : Program} {K : PySem.W.Frag} {mg : Str → Option Value} {x qual : Str} {st : Stmt} {f : Addr} {fd : FuncData} {c T : Addr} (F : FunT K x qual st f fd c T) (hm : mg x = some (.ref f)) (hr : ((recsOf q).any fun e => e.name == x) = true) : HasTab q K mg (c, T) := by
  obtain ⟨oc, od, kV, doc, pm, an, ct, osl, rfl, lk, hcd⟩ := F.ex
  exact ⟨x, f, _, _, hr, hm, lk, rfl, F.tab⟩
theorem walk_ofT {l : PySem.W.OpenLaw} {n k : Nat} {q : Program} {loose : List Str} {XP : (Str → Option Value) → Heap → Prop} {YP : World → Heap → Prop} {d : DefRec} {K : Params → PySem.W.Frag} {CX : World → CXT} {sp : World → List (Addr × Addr) → Sp} {x : Str}
    (hn : l.most = some n) (hn2 : n ≤ sizeLine) (hdf : d.params.defaults = []) (hr : Room k callerA) (hY : ∀ (w : World) (h : Heap), YP w h → (K w.params).In h)
    (F : ∀ (w : World) (mg : Str → Option Value) (fa : Addr) (h : Heap), (K w.params).In h → h.Ns mainGlobals mg → mg d.name = some (.ref fa) →
      ∃ (cs : List (Addr × Addr)) (fd : FuncData), (∀ p ∈ cs, HasTab q (K w.params) mg p) ∧ (∀ (s : Shared) (u : Value), BindsTo s fd ⟨[u], []⟩ [(x, u)]) ∧
        ∀ base : Heap, (K w.params).In base → base.Ns mainGlobals mg → (∀ p ∈ cs, TabB base mg p.1 p.2) → FnOk l.prog w (K w.params) mg base (CX w) k fa fd [x] (sp w cs))
    (hsp : ∀ (w : World) (H : Hp) (a : Addr) (ns : List Int) (cs : List (Addr × Addr)), ns.length ≤ n → (∀ p ∈ cs, H p.2 = some (.tbl #[])) → SqL (K w.params) H a (ns.map V.int) → sp w cs [.ref a] H (fun v _ => v = .bl true) fun _ _ _ => False)
    (hCX : ∀ (w : World) (H : Hp) (s : Shared) (e : Value) (s' : Shared), CX w [] H s (fun _ _ _ => False) e s' → False) :
    PySem.W.WalkO q loose XP YP l.row.toRowW d [] (fun f vs => PySem.call f vs) := by
  refine Att.attach_callB hn hdf fun w s₀ s₁ mg mb fa o pm cd doc a vs ns G Y ho hd hcd hmg hobj hints hlen hbits hg => ?_
  have KX := hY w _ Y
  obtain ⟨cs, fd, ht, hb, hF⟩ := F w mg fa _ KX G.T.g hmg
  have key : ∀ p ∈ cs, s₁.heap.get? p.2 = some { cls := .none, data := .fields #[] } ∧ (K w.params).lookup p.2 = none ∧ PySem.W.CodeHd s₁.heap p.1 p.2 := fun p hp => by
    obtain ⟨x0, f0, o0, fd0, t1, t2, t3, t4, t5⟩ := ht p hp
    obtain ⟨dL, hm, hn1⟩ := List.any_eq_true.mp t1
    have hn2 : dL.name = x0 := beq_iff_eq.mp hn1
    obtain ⟨a', o', fd', c', P', h1, h2, h3, h4, h5, h6⟩ := G.T.tab dL hm
    rw [hn2, t2] at h1
    cases h1
    rw [KX _ _ t3] at h2
    cases h2
    rw [t4] at h3
    cases h3
    obtain ⟨p1, p2⟩ := p
    obtain ⟨c1, c2, e, dd, vs', sl, c3, c4⟩ := tabAddr_is t5
    rw [c1] at h4
    cases h4
    have hd := PySem.W.CodeHd.of h5 h6
    obtain ⟨⟨oc, vc, e1, _, e3, e4⟩, hP⟩ := h6
    rw [KX _ _ c3] at e1
    cases e1
    cases e3
    rw [c4] at e4
    cases e4
    exact ⟨hP, c2, hd⟩
  exact law_callTs KX G.T.g G.T.b G.T.builtins G.T.nolimit hg (fun p hp => (key p hp).1) (fun p hp => (key p hp).2.1) (fun p hp => (key p hp).2.2) G.T.bmain hobj hints (Nat.le_trans hlen hn2) hr hF hb (fun H hH hS => hsp w H a ns cs hlen hH hS) fun H e s' => hCX w H s₁ e s'
end LP

set_option Elab.async false
set_option linter.all false
set_option maxRecDepth 100000
set_option maxHeartbeats 8000000
/-! NT: the memory without the tables of code objects. -/
namespace KB
open PySem PySem.Spec PyProof.Rows L2 Evl LamX LP
def noTab (H : Hp) : Hp := fun b => match H b with
  | some (.tbl _) => none
  | o => o
theorem noTab_some {H : Hp} {b : Addr} {o : HO} (h : noTab H b = some o) : H b = some o ∧ ∀ ps, o ≠ .tbl ps := by
  unfold noTab at h
  split at h
  · cases h
  · rename_i h2
    refine ⟨h, fun ps z => ?_⟩
    rw [z] at h
    exact h2 ps h
theorem noTab_of {H : Hp} {b : Addr} {o : HO} (h : H b = some o) (n : ∀ ps, o ≠ .tbl ps) : noTab H b = some o := by
  unfold noTab
  split
  · rename_i ps h2
    rw [h] at h2
    cases h2
    exact absurd rfl (n ps)
  · exact h
theorem noTab_none {H : Hp} {b : Addr} (h : H b = none) : noTab H b = none := by
  unfold noTab
  rw [h]
theorem ex_noTab {H H' : Hp} (e : Ex H H') : Ex (noTab H) H' := fun b o h => e b o (noTab_some h).1
theorem exN {H H' H1 : Hp} (e : Ex (noTab H) H') (e2 : ExtN H' H1) : Ex (noTab H) H1 := fun b o h => e2 b o (e b o h) (noTab_some h).2
theorem nn {H H' H1 : Hp} (e : Ex (noTab H) H') (e2 : Ex (noTab H') H1) : Ex (noTab H) H1 := fun b o h => e2 b o (noTab_of (e b o h) (noTab_some h).2)
theorem sq_noTab {K : PySem.W.Frag} {H : Hp} {a : Addr} {xs : List V} (h : SqL K H a xs) : SqL K (noTab H) a xs := by
  rcases h with (h | ⟨o, h⟩) | h
  · exact .inl (.inl (noTab_of h fun _ z => by cases z))
  · exact .inl (.inr ⟨o, noTab_of h fun _ z => by cases z⟩)
  · exact .inr h
theorem st_noTab {K : PySem.W.Frag} {H : Hp} {a : Addr} {xs : List V} (h : SqT K H a xs) : SqT K (noTab H) a xs := by
  rcases h with (h | ⟨o, h⟩) | h
  · exact .inl (.inl (noTab_of h fun _ z => by cases z))
  · exact .inl (.inr ⟨o, noTab_of h fun _ z => by cases z⟩)
  · exact .inr h
theorem nlst {xs : List V} : ∀ ps, HO.lst xs ≠ .tbl ps := fun _ z => by cases z
theorem ntup {xs : List V} : ∀ ps, HO.tup xs ≠ .tbl ps := fun _ z => by cases z
theorem n_lst {H H' : Hp} {a : Addr} {xs : List V} (e : Ex (noTab H) H') (h : H a = some (.lst xs)) : H' a = some (.lst xs) := e _ _ (noTab_of h nlst)
theorem n_tup {H H' : Hp} {a : Addr} {xs : List V} (e : Ex (noTab H) H') (h : H a = some (.tup xs)) : H' a = some (.tup xs) := e _ _ (noTab_of h ntup)
theorem tab_updL {H : Hp} {T l : Addr} {q : Str} {xs : List V} {o : HO} (t : TabS H T q) (hl : H l = some (.lst xs)) : TabS (upd H l o) T q := by
  obtain ⟨ps, h1, h2, h3⟩ := t
  refine ⟨ps, by rw [upd_ne (ne_of h1 hl (by intro z; cases z))]; exact h1, h2, fun pos cv hc => ?_⟩
  obtain ⟨c, e1, e2⟩ := h3 pos cv hc
  exact ⟨c, e1, by rw [upd_ne (ne_of e2 hl (by intro z; unfold CodeO at z; cases z))]; exact e2⟩
theorem tab_hid {H H1 : Hp} {T ba : Addr} {q : Str} {xs : List V} (t : TabS H T q) (hb : H ba = some (.lst xs)) (e : Ex (hid H ba) H1) : TabS H1 T q := by
  obtain ⟨ps, h1, h2, h3⟩ := t
  refine ⟨ps, e _ _ (by rw [hid_ne (ne_of h1 hb (by intro z; cases z))]; exact h1), h2, fun pos cv hc => ?_⟩
  obtain ⟨c, e1, e2⟩ := h3 pos cv hc
  exact ⟨c, e1, e _ _ (by rw [hid_ne (ne_of e2 hb (by intro z; unfold CodeO at z; cases z))]; exact e2)⟩
theorem SrcAt.no {H H' : Hp} {a : Addr} {B : Int} (h : SrcAt H a B) (e : Ex (noTab H) H') : SrcAt H' a B := by
  obtain ⟨x, y, z, ha, r⟩ := h
  exact ⟨x, y, z, n_lst e ha, r⟩
end KB

set_option Elab.async false
set_option linter.all false
set_option maxRecDepth 100000
set_option maxHeartbeats 8000000
/-! R2T: _victim, walked, for all rules. -/
namespace KB
open PySem PySem.Spec PyProof.Rows L2 Evl LamX LP MK
def viQ : Str := ("_victim.<locals>." : Str) ++ "<lambda>"
theorem victim_far {shelf later : List Str} {v : Str} (hv : v ∈ shelf) (h1 : ∀ q ∈ shelf, q ∈ later) (h2 : ∀ q ∈ shelf, ixS q later ≤ ixS v later) : victimS optS shelf later = v := by
  unfold victimS
  rw [if_neg (fun z => z rfl)]
  have : shelf.find? (fun p => !decide (p ∈ later)) = none := by
    rw [List.find?_eq_none]
    intro p hp
    rw [decide_eq_true (h1 p hp)]
    exact Bool.false_ne_true
  rw [this]
  show shelf.foldl (farther later) (shelf.headD "") = v
  obtain ⟨b1, b2⟩ := far_best (later := later) shelf (shelf.headD "")
  have hm : shelf.foldl (farther later) (shelf.headD "") ∈ shelf := by
    have := victim_mem (rule := optS) (shelf := shelf) (later := later) (fun z => by rw [z] at hv; cases hv)
    unfold victimS at this
    rw [if_neg (fun z => z rfl), ‹shelf.find? _ = none›] at this
    exact this
  exact ix_inj (h1 _ hm) (h1 _ hv) (Nat.le_antisymm (h2 _ hm) (b2 _ hv))
theorem victim_idle {shelf later : List Str} {i : Nat} {v : Str} (hv : shelf[i]? = some v) (h1 : v ∉ later) (h2 : ∀ j p, j < i → shelf[j]? = some p → p ∈ later) : victimS optS shelf later = v := by
  unfold victimS
  rw [if_neg (fun z => z rfl)]
  have : shelf.find? (fun p => !decide (p ∈ later)) = some v := by
    rw [List.find?_eq_some_iff_getElem]
    refine ⟨by rw [decide_eq_false h1]; rfl, i, (List.getElem?_eq_some_iff.mp hv).1, (List.getElem?_eq_some_iff.mp hv).2, fun j hj => ?_⟩
    have := h2 j _ hj (List.getElem?_eq_getElem (by have := (List.getElem?_eq_some_iff.mp hv).1; omega))
    rw [decide_eq_true this]
    rfl
  rw [this]
theorem go_maxLam {T : List (Addr × Str)} {ta : TA} {tb : TE} {D : Ends} {σ : L2.St} {H : Hp} (h : ta σ H fun vs H0 => Tabs T H0 ∧ ∀ H1, ExtN H0 H1 → Tabs T H1 → ∃ (a : Addr) (xs : List V) (kf : Nat → Int), vs = [.ref a] ∧ H1 a = some (.lst xs) ∧ xs ≠ [] ∧
  (∀ (i : Nat) (y : V), xs[i]? = some y → ∀ Q' : VK, Q' (.int (kf i)) H1 → tb (σ ++ [some y]) H1 Q') ∧ ∀ (i : Nat) (y : V), xs[i]? = some y → Best kf xs.length i → D.rt y H1) : tRet (tMaxLam T ta tb) D σ H := h
section
variable {P : Program} {w : World} {K : PySem.W.Frag} {mg : Str → Option Value} {base : Heap}
def spVictimT (T : Addr) : Sp := fun vs H Q _ => ∃ (r : Str) (s l : Addr) (cs ls : List Str), vs = [.str r, .ref s, .ref l] ∧ isRule r ∧ H s = some (.lst (cs.map V.str)) ∧ cs ≠ [] ∧ H l = some (.lst (ls.map V.str)) ∧ TabS H T viQ ∧ ∀ H', Ex (noTab H) H' → TabS H' T viQ → Q (.str (victimS r cs ls)) H'
theorem ok_victimT {f c T : Addr} {fd : FuncData} (F : FunT K "_victim" "_victim" sVictim f fd c T) (TB : TabB base mg c T) (BR : Bru mg) (hmax : mg "max" = none) : FnOk P w K mg base CX0 4 f fd ["rule", "shelf", "later"] (spVictimT T) := by
  refine F.ok scVi (fun vs H Q E h => ?_) (fun A outer s H vs Q E hr h => ?_)
  · obtain ⟨r, s, l, cs, ls, rfl, _⟩ := h
    rfl
  · obtain ⟨r, sh, l, cs, ls, rfl, hR, hs, hne, hl, hT, q⟩ := h
    have nd := scVi.nd
    obtain ⟨t3, m3⟩ := BR.OPT
    refine ⟨_, pss_cons (ps_if (pt_cmpR op_ne (pv 0) (pe_glob (v := .str "OPT") (by rfl) m3 ⟨_, rfl⟩) (nomark _)) (pss_one (ps_ret (pe_ix (r := rIxL K) ix_list (pv 1) pe_int (fun _ _ => rfl)))) pss_nil)
      (pss_cons (ps_for PassesOwn.never rfl (pi_list (pv 1)) (pg_name (i := 3) nd rfl (Or.inl rfl)) (pss_one (ps_if (pt_cmpR (r := rIn K true) op_notIn_seq (pv 3) (pv 2) (by with_unfolding_all rfl)) (pss_one (ps_ret (pv 3))) pss_nil)))
      (pss_one (ps_ret (pe_maxLam (k := 1) (p := "other") (tb := tBM K "list" (rIndex K) (tVar 2) (tCons (tVar 4) tNil)) (T := [(T, viQ)]) (by rfl) hmax TB rfl (List.mem_singleton.mpr rfl) (fun p hp _ => by rw [List.mem_singleton.mp hp]; rfl) hr (lamS1_by (N := NVi) (sc := defScope sVictim) (by decide +kernel)) rfl (fun _ _ _ _ _ _ => rfl)
        (pa_cons (pv 1) pa_nil) (fun A outer s H f c' hr2 => pe_bm PySem.F.plainAttrs_list PySem.F.slot_list_index PySem.F.type_list_index mt_index (pv 2) (pa_cons (pv 4) pa_nil)))))), ?_⟩
    have done : ∀ {H' : Hp}, Ex H H' → ∀ {v : Str}, victimS r cs ls = v → Q (.str v) H' := fun e v hv => by
      rw [← hv]
      exact q _ (ex_noTab e) (hT.ext e)
    refine q_when (b := !decide (V.str r = V.str "OPT")) (et_test (ev_op (ev_var rfl) ev_c (rv_ne rfl))) (fun hb H1 e1 => ?_) (fun hb H1 e1 => ?_)
    · have ho : r ≠ optS := fun z => by rw [z] at hb; revert hb; decide
      refine s_ret (ev_op (ev_var rfl) ev_c (rv_ixL (sq_of (e1 _ _ hs)) (head_ix hne))) fun H2 e2 => done (e1.trans e2) ?_
      unfold victimS
      rw [if_pos ho]
    · have ho : r = optS := by
        have hd : V.str r = V.str "OPT" := by simpa using hb
        exact V.str.inj hd
      subst ho
      have hm : (cs.map V.str).length = cs.length := List.length_map ..
      refine q_forL (a := sh) (xs := cs.map V.str) (ev_var rfl) (sq_of (e1 _ _ hs)) (fun i σ H' => ∃ y3, σ = [some (.str optS), some (.ref sh), some (.ref l), y3] ∧ Ex H H' ∧ ∀ j p, j < i → cs[j]? = some p → p ∈ ls) (fun H2 e2 => ⟨_, rfl, e1.trans e2, fun j p hj => absurd hj (Nat.not_lt_zero j)⟩) (fun i σ H' _ hP => ?_) (fun i x σ H' hx hP => ?_) (fun σ H' hP => ?_)
      · obtain ⟨_, _, e2, _⟩ := hP
        exact sq_of (e2 _ _ hs)
      · obtain ⟨y3, rfl, e2, h0⟩ := hP
        rw [List.getElem?_map] at hx
        obtain ⟨p, hp, rfl⟩ := Option.map_eq_some_iff.mp hx
        refine s_when (b := !decide (p ∈ ls)) (et_is (et_test (ev_op (ev_var rfl) (ev_var rfl) (rv_niL (sq_of (e2 _ _ hl)) rfl (flat_all _)))) (by rw [in_strs])) (fun hb2 H3 e3 => ?_) (fun hb2 H3 e3 => ⟨_, rfl, e2.trans e3, fun j p' hj hp' => ?_⟩)
        · have hn : p ∉ ls := of_decide_eq_false (by simpa using hb2)
          exact s_ret (ev_var rfl) fun H4 e4 => done ((e2.trans e3).trans e4) (victim_idle hp hn h0)
        · by_cases z : j < i
          · exact h0 j p' z hp'
          · have : j = i := by omega
            subst this
            rw [hp] at hp'
            injection hp' with hp'
            rw [← hp']
            simpa using hb2
      · obtain ⟨y3, rfl, e2, h0⟩ := hP
        rw [hm] at h0
        have hall : ∀ p ∈ cs, p ∈ ls := fun p hp => by
          obtain ⟨j, hj⟩ := List.getElem?_of_mem hp
          exact h0 j p (List.getElem?_eq_some_iff.mp hj).1 hj
        refine go_maxLam (ea_cons (ev_var rfl) ea_nil H' (Ex.refl _) _ fun H3 e3 => ⟨fun p hp => ?_, fun H4 eN T4 => ?_⟩)
        · rw [List.mem_singleton.mp hp]
          exact hT.ext (e2.trans e3)
        · have eN4 : ExtN H H4 := (ExtN.of (e2.trans e3)).trans eN
          have hs4 := eN4 _ _ hs nlst
          have hl4 := eN4 _ _ hl nlst
          have at' : ∀ {i : Nat} {y : V}, (cs.map V.str)[i]? = some y → ∃ u, y = .str u ∧ cs.getD i "" = u ∧ u ∈ cs := fun {i y} hy => by
            rw [List.getElem?_map] at hy
            obtain ⟨u, hu, rfl⟩ := Option.map_eq_some_iff.mp hy
            exact ⟨u, rfl, by rw [List.getD_eq_getElem?_getD, hu]; rfl, List.mem_of_getElem? hu⟩
          refine ⟨sh, cs.map V.str, fun i => (ixS (cs.getD i "") ls : Int), rfl, hs4, fun z => hne (List.map_eq_nil_iff.mp z), fun i y hy Q' q' => ?_, fun i y hy hB => ?_⟩
          · obtain ⟨u, rfl, hg, hu⟩ := at' hy
            have hin := hall u hu
            have hlt := List.idxOf_lt_length_iff.mpr hin
            simp only [hg] at q'
            refine ⟨.ref l, rfl, .inl ⟨rfl, _, sq_of hl4⟩, .str u, rfl, l, ls.map V.str, .str u, ixS u ls, .str u, rfl, rfl, sq_of hl4, rfl, flat_all _, ?_, beq_self_eq_true u, fun m z hm hz => ?_, q'⟩
            · rw [List.getElem?_map, show ls[ixS u ls]? = some u from by unfold ixS; rw [List.getElem?_eq_getElem hlt, List.getElem_idxOf hlt]]
              rfl
            · rw [List.getElem?_map] at hz
              obtain ⟨u2, hu2, rfl⟩ := Option.map_eq_some_iff.mp hz
              refine beq_eq_false_iff_ne.mpr fun e5 => ?_
              subst e5
              obtain ⟨h1, h2⟩ := List.getElem?_eq_some_iff.mp hu2
              have h3 := List.not_of_lt_findIdx (p := fun x => x == u2) (xs := ls) (i := m) hm
              rw [h2, beq_self_eq_true] at h3
              cases h3
          · obtain ⟨u, rfl, hg, hu⟩ := at' hy
            have hv : victimS optS cs ls = u := victim_far hu hall fun p hp => by
              obtain ⟨j, hj⟩ := List.getElem?_of_mem hp
              have hjl := (List.getElem?_eq_some_iff.mp hj).1
              have := (hB j (by rw [hm]; exact hjl)).1
              have hgj : cs.getD j "" = p := by rw [List.getD_eq_getElem?_getD, hj]; rfl
              simp only [hgj, hg] at this
              omega
            rw [← hv]
            exact q _ (exN (ex_noTab (Ex.refl H)) eN4) (T4 (T, viQ) (List.mem_singleton.mpr rfl))
end
end KB

set_option Elab.async false
set_option linter.all false
set_option maxRecDepth 100000
set_option maxHeartbeats 8000000
/-! R3T: _play, rule_log, rule_evictions, walked. -/
namespace KB
open PySem PySem.Spec PyProof.Rows L2 Evl LamX LP
/-- what _play holds in memory -/
structure PyS (H H' : Hp) (T cp hp gp : Addr) (ts : List Addr) (s : RSt) : Prop where
  ex : Ex H H'
  hcp : H' cp = some (.lst (s.shelf.map V.str))
  hhp : H' hp = some (.lst (ts.map V.ref))
  hts : Paired (TupAt H') ts s.log
  hgp : H' gp = some (.lst (s.gone.map V.str))
  f1 : H cp = none
  f2 : H hp = none
  f3 : H gp = none
  d1 : cp ≠ hp
  d2 : cp ≠ gp
  d4 : hp ≠ gp
  tab : TabS H' T viQ
theorem st_len {rule : Str} {cap : Nat} {start reqs : List Str} (hc : 1 ≤ cap) : ∀ i, (stS rule cap start reqs i).shelf.length ≤ start.length + i
  | 0 => Nat.le_refl _
  | i + 1 => by
    have ih := st_len (rule := rule) (start := start) (reqs := reqs) hc i
    rw [show stS rule cap start reqs (i + 1) = stepS rule cap (stS rule cap start reqs i) (reqs.getD i "") (reqs.drop (i + 1)) from rfl]
    generalize stS rule cap start reqs i = s at ih ⊢
    generalize reqs.getD i "" = p
    unfold stepS
    split
    · rename_i hp
      show (if rule ≠ fifoS then s.shelf.erase p ++ [p] else s.shelf).length ≤ _
      split
      · have := List.length_erase_of_mem hp
        have := List.length_pos_of_mem hp
        rw [List.length_append]
        show _ + 1 ≤ _
        omega
      · omega
    · split
      · show (s.shelf.erase _ ++ [p]).length ≤ _
        have := List.length_erase_le (a := victimS rule s.shelf (reqs.drop (i + 1))) (l := s.shelf)
        rw [List.length_append]
        show _ + 1 ≤ _
        omega
      · show (s.shelf ++ [p]).length ≤ _
        rw [List.length_append]
        show _ + 1 ≤ _
        omega
section
variable {H H' H1 : Hp} {T cp hp gp : Addr} {ts : List Addr} {s : RSt}
theorem PyS.mono (p : PyS H H' T cp hp gp ts s) (e : Ex H' H1) : PyS H H1 T cp hp gp ts s := { p with ex := p.ex.trans e, hcp := e _ _ p.hcp, hhp := e _ _ p.hhp, hts := Paired.imp p.hts fun _ _ z => e _ _ z, hgp := e _ _ p.hgp, tab := p.tab.ext e }
theorem PyS.no {H0 : Hp} (p : PyS (noTab H0) H' T cp hp gp ts s) (e : Ex (noTab H') H1) (t : TabS H1 T viQ) : PyS (noTab H0) H1 T cp hp gp ts s := { p with ex := nn p.ex e, hcp := n_lst e p.hcp, hhp := n_lst e p.hhp, hts := Paired.imp p.hts fun _ _ z => n_tup e z, hgp := n_lst e p.hgp, tab := t }
theorem PyS.event {t : Addr} {e : Ev1} (p : PyS H H' T cp hp gp ts s) (ht : H' t = some (.tup [.str e.1, .str e.2])) : PyS H (upd H' hp (.lst (ts.map V.ref ++ [V.ref t]))) T cp hp gp (ts ++ [t]) { s with log := s.log ++ [e] } := by
  have nt : t ≠ hp := ne_of ht p.hhp (by intro q; cases q)
  exact { p with
    ex := Ex.mut p.ex p.f2, hcp := by rw [upd_ne p.d1]; exact p.hcp
    hhp := by rw [upd_same, List.map_append]; rfl
    hts := paired_snoc (by show upd H' hp _ t = _; rw [upd_ne nt]; exact ht) (tup_upd p.hhp p.hts)
    hgp := by rw [upd_ne p.d4.symm]; exact p.hgp
    tab := tab_updL p.tab p.hhp }
theorem PyS.left {g : Str} (p : PyS H H' T cp hp gp ts s) : PyS H (upd H' gp (.lst (s.gone.map V.str ++ [V.str g]))) T cp hp gp ts { s with gone := s.gone ++ [g] } :=
  { p with
    ex := Ex.mut p.ex p.f3, hcp := by rw [upd_ne p.d2]; exact p.hcp
    hgp := by rw [upd_same, List.map_append]; rfl
    hts := tup_upd p.hgp p.hts
    hhp := by rw [upd_ne p.d4]; exact p.hhp
    tab := tab_updL p.tab p.hgp }
theorem PyS.shelf {cs2 : List Str} (p : PyS H H' T cp hp gp ts s) : PyS H (upd H' cp (.lst (cs2.map V.str))) T cp hp gp ts { s with shelf := cs2 } :=
  { p with
    ex := Ex.mut p.ex p.f1, hcp := upd_same
    hts := tup_upd p.hcp p.hts
    hhp := by rw [upd_ne p.d1.symm]; exact p.hhp
    hgp := by rw [upd_ne p.d2.symm]; exact p.hgp
    tab := tab_updL p.tab p.hcp }
end
theorem fresh_no {H H2 : Hp} {p : Addr} (e : Ex (noTab H) H2) (n : noTab H2 p = none) : noTab H p = none := by
  cases z : noTab H p with
  | none => rfl
  | some o =>
    rw [noTab_of (e _ _ z) (noTab_some z).2] at n
    cases n
section
variable {P : Program} {w : World} {K : PySem.W.Frag} {mg : Str → Option Value} {base : Heap}
abbrev NPl : List Str := ["rule", "capacity", "start", "requests", "shelf", "log", "evicted", "index", "page", "victim"]
theorem scPl : FnScope NPl ["rule", "capacity", "start", "requests"] (defScope sPlay) := ⟨rfl, rfl, rfl, by decide +kernel, rfl, by decide +kernel, by decide +kernel⟩
def spPlayT (K : PySem.W.Frag) (T : Addr) : Sp := fun vs H Q _ => ∃ (r : Str) (c : Nat) (t l : Addr) (ps rs : List Str), vs = [.str r, .int (c : Int), .ref t, .ref l] ∧ isRule r ∧ TabS H T viQ ∧ 1 ≤ c ∧ SqT K H t (ps.map V.str) ∧ Pages ps ∧ ps.length ≤ c ∧ SqL K H l (rs.map V.str) ∧ (∀ p ∈ rs, pageB p = true) ∧ rs.length ≤ 300 ∧
  ∀ (T0 hp gp : Addr) (ts : List Addr) H2, noTab H T0 = none → noTab H hp = none → noTab H gp = none → hp ≠ gp → Ex (noTab H) H2 → TabS H2 T viQ → H2 T0 = some (.tup [.ref hp, .ref gp]) → H2 hp = some (.lst (ts.map V.ref)) → Paired (TupAt H2) ts (logS r c ps rs) → H2 gp = some (.lst ((goneS r c ps rs).map V.str)) → Q (.ref T0) H2
theorem ok_playT {f T : Addr} {fd : FuncData} {kv : Nat} (F : Fun K "_play" "_play" sPlay f fd) (B : Bn mg) (BR : Bru mg) (cV : Cl P w K mg base kv "_victim" ["rule", "shelf", "later"] (spVictimT T)) (hk : kv ≤ 5 := by decide) : FnOk P w K mg base CX0 6 f fd ["rule", "capacity", "start", "requests"] (spPlayT K T) := by
  refine F.ok scPl (fun vs H Q E h => ?_) (fun cdv A outer s H vs Q E hr h => ?_)
  · obtain ⟨r, c, t, l, ps, rs, rfl, _⟩ := h
    rfl
  · obtain ⟨r, c, t, l, ps, rs, rfl, hR, hT, hc, ht, hp, hle, hl, hrs, hz, q⟩ := h
    have hl := sq_noTab hl
    have nd := scPl.nd
    obtain ⟨t1, mH⟩ := BR.HIT
    obtain ⟨t2, mM⟩ := BR.MISS
    obtain ⟨t3, mF⟩ := BR.FIFO
    refine ⟨_, pss_cons (ps_set (i := 4) nd rfl (Or.inl rfl) (pe_callTy call_list_of (by rfl) B.list bt_list (pa_cons (pv 2) pa_nil)))
      (pss_cons (ps_set (i := 5) nd rfl (Or.inl rfl) (pe_lst pa_nil))
      (pss_cons (ps_set (i := 6) nd rfl (Or.inl rfl) (pe_lst pa_nil))
      (pss_cons (ps_for PassesOwn.never rfl (pi_enum (by rfl) BR.enumerate (pa_cons (pv 3) pa_nil)) (pg_tup rfl (pgs_cons (pg_name (i := 7) nd rfl (Or.inl rfl)) (pgs_cons (pg_name (i := 8) nd rfl (Or.inl rfl)) pgs_nil)))
        (pss_cons (ps_if (pt_cmpR (r := rIn K false) op_in_seq (pv 8) (pv 4) (by with_unfolding_all rfl))
          (pss_cons (ps_expr (pe_bm PySem.F.plainAttrs_list PySem.F.slot_list_append PySem.F.type_list_append mt_append (pv 5) (pa_cons (pe_tup (pa_cons (pe_glob (v := .str "hit") (by rfl) mH ⟨_, rfl⟩) (pa_cons (pv 8) pa_nil))) pa_nil)))
          (pss_cut (ps_if (pt_cmpR op_ne (pv 0) (pe_glob (v := .str "FIFO") (by rfl) mF ⟨_, rfl⟩) (nomark _))
            (pss_cons (ps_expr (pe_bm PySem.F.plainAttrs_list PySem.F.slot_list_remove PySem.F.type_list_remove mt_removeT (pv 4) (pa_cons (pv 8) pa_nil)))
            (pss_one (ps_expr (pe_bm PySem.F.plainAttrs_list PySem.F.slot_list_append PySem.F.type_list_append mt_append (pv 4) (pa_cons (pv 8) pa_nil))))) pss_nil)
          (pss_one ps_continue))) pss_nil)
        (pss_cons (ps_expr (pe_bm PySem.F.plainAttrs_list PySem.F.slot_list_append PySem.F.type_list_append mt_append (pv 5) (pa_cons (pe_tup (pa_cons (pe_glob (v := .str "miss") (by rfl) mM ⟨_, rfl⟩) (pa_cons (pv 8) pa_nil))) pa_nil)))
        (pss_cut (ps_if (pt_cmpR op_eq (pe_callB call_len_seq (by rfl) B.len bt_len (pa_cons (pv 4) pa_nil)) (pv 1) (nomark _))
          (pss_cons (ps_set (i := 9) nd rfl (Or.inl rfl) (pe_cl cV hr (pa_cons (pv 0) (pa_cons (pv 4) (pa_cons (pe_slice (r := rSlL K) sl_list (pv 3) (po_some (pe_op op_add (pv 7) pe_int)) po_none) pa_nil))) hk))
          (pss_cons (ps_expr (pe_bm PySem.F.plainAttrs_list PySem.F.slot_list_append PySem.F.type_list_append mt_append (pv 6) (pa_cons (pv 9) pa_nil)))
          (pss_one (ps_expr (pe_bm PySem.F.plainAttrs_list PySem.F.slot_list_remove PySem.F.type_list_remove mt_removeT (pv 4) (pa_cons (pv 9) pa_nil)))))) pss_nil)
        (pss_one (ps_expr (pe_bm PySem.F.plainAttrs_list PySem.F.slot_list_append PySem.F.type_list_append mt_append (pv 4) (pa_cons (pv 8) pa_nil))))))))
      (pss_one (ps_ret (pe_tup (pa_cons (pv 5) (pa_cons (pv 6) pa_nil)))))))), ?_⟩
    have hm : (rs.map V.str).length = rs.length := List.length_map ..
    have pl := hp.len
    refine q_asgL (el_listT (ev_var rfl) ht) fun cp H1 ncp e1 hcp => ?_
    refine q_asgL (el_lst ea_nil (Nat.zero_le _)) fun hp' H2 nhp e2 hhp => ?_
    refine q_asgL (el_lst ea_nil (Nat.zero_le _)) fun gp H3 ngp e3 hgp => ?_
    have e12 := e1.trans e2
    have w0 : PyS (noTab H) H3 T cp hp' gp [] (stS r c ps rs 0) := { ex := ex_noTab (e12.trans e3), hcp := e3 _ _ (e2 _ _ hcp), hhp := e3 _ _ hhp, hts := .nil, hgp := hgp, f1 := noTab_none ncp, f2 := noTab_none (fresh_back e1 nhp), f3 := noTab_none (fresh_back e12 ngp), tab := hT.ext (e12.trans e3), d1 := ne_of_none hcp nhp, d2 := ne_of_none (e2 _ _ hcp) ngp, d4 := ne_of_none hhp ngp }
    refine q_forE (a := l) (xs := rs.map V.str) (ea_cons (ev_var rfl) ea_nil) (ex_l w0.ex hl) (fun i σ H' => ∃ y7 y8 y9 ts, σ = [some (.str r), some (.int (c : Int)), some (.ref t), some (.ref l), some (.ref cp), some (.ref hp'), some (.ref gp), y7, y8, y9] ∧ PyS (noTab H) H' T cp hp' gp ts (stS r c ps rs i)) (fun H4 e4 => ⟨_, _, _, [], rfl, w0.mono e4⟩) (fun i σ H' hP => ?_) (fun i x σ H' T' hx hP nT' => ?_) (fun σ H' hP => ?_)
    · obtain ⟨_, _, _, _, _, w1⟩ := hP
      exact ex_l w1.ex hl
    · obtain ⟨y7, y8, y9, ts, rfl, w1⟩ := hP
      rw [List.getElem?_map] at hx
      obtain ⟨p, hpi, rfl⟩ := Option.map_eq_some_iff.mp hx
      have hi := (List.getElem?_eq_some_iff.mp hpi).1
      have hgd : rs.getD i "" = p := by rw [List.getD_eq_getElem?_getD, hpi]; rfl
      have w2 := w1.mono (Ex.new (o := .tup [.int (i : Int), .str p]) nT')
      refine ⟨T', [.int (i : Int), .str p], rfl, .inl (.inl upd_same), rfl, .int (i : Int), _, rfl, .str p, [], rfl, rfl, ?_⟩
      generalize upd H' T' _ = H4 at w2 ⊢
      obtain ⟨m1, m2, m3, m4, m5⟩ := st_mem (rule := r) (cap := c) (P := fun p => pageB p = true) hp.all hrs i (by omega)
      have okS := st_ok (rule := r) (start := ps) (reqs := rs) hc hp.nd hle i
      have hst : stS r c ps rs (i + 1) = stepS r c (stS r c ps rs i) p (rs.drop (i + 1)) := by rw [← hgd]; rfl
      have hlt : ts.length = i := by rw [paired_len w1.hts]; exact m3
      have pp := hrs p (List.mem_of_getElem? hpi)
      have hsl := st_len (rule := r) (cap := c) (start := ps) (reqs := rs) hc i
      generalize stS r c ps rs i = s at w1 w2 m1 m2 m3 m4 m5 okS hst hsl
      have lsh : s.shelf.length ≤ 600 := by omega
      clear w1
      refine q_when (b := decide (p ∈ s.shelf)) (et_is (et_test (ev_op (ev_var rfl) (ev_var rfl) (rv_isL (sq_of w2.hcp) rfl (flat_all _)))) (in_strs p _)) (fun hb H5 e5 => ?_) (fun hb H5 e5 => ?_)
      · have hin := of_decide_eq_true hb
        have w3 := w2.mono e5
        refine q_appU (l := hp') (xs := ts.map V.ref) (ys := [.str "hit", .str p]) w3.hhp (ev_var rfl) (eu_tup (ea_cons ev_c (ea_cons (ev_var rfl) ea_nil)) (show 2 ≤ 100000 by decide)) (by rw [List.length_map, hlt]; omega) fun tp H6 htp e6 h6 => ?_
        have w4 := (w3.mono e6).event (e := (hitS, p)) h6
        generalize upd H6 hp' _ = H7 at w4 ⊢
        refine ⟨fun σ' H'' => σ' = [some (.str r), some (.int (c : Int)), some (.ref t), some (.ref l), some (.ref cp), some (.ref hp'), some (.ref gp), some (.int (i : Int)), some (.str p), y9] ∧ PyS (noTab H) H'' T cp hp' gp (ts ++ [tp]) (stS r c ps rs (i + 1)), ?_, fun σ' H'' hM => ?_⟩
        · refine s_when (b := !decide (V.str r = V.str "FIFO")) (et_test (ev_op (ev_var rfl) ev_c (rv_ne rfl))) (fun hb2 H8 e8 => ?_) (fun hb2 H8 e8 => ⟨rfl, ?_⟩)
          · have hr2 : r ≠ fifoS := fun z => by rw [z] at hb2; revert hb2; decide
            have w5 := w4.mono e8
            refine ⟨.ref cp, rfl, .inl ⟨rfl, _, sq_of w5.hcp⟩, .str p, rfl, cp, s.shelf, p, rfl, rfl, w5.hcp, hin, ?_⟩
            have w6 := w5.shelf (cs2 := s.shelf.erase p)
            refine s_app (l := cp) (xs := (s.shelf.erase p).map V.str) (v := .str p) w6.hcp (ev_var rfl) (ev_var rfl) (by rw [List.length_map]; have := List.length_erase_le (a := p) (l := s.shelf); omega) fun H9 e9 => ⟨rfl, ?_⟩
            have w7 := (w6.mono e9).shelf (cs2 := s.shelf.erase p ++ [p])
            rw [List.map_append] at w7
            rw [hst]
            unfold stepS
            rw [if_pos hin, if_pos hr2]
            exact w7
          · have hr3 : r = ("FIFO" : Str) := by simpa using hb2
            have hr2 : ¬ r ≠ fifoS := fun z => z hr3
            rw [hst]
            unfold stepS
            rw [if_pos hin, if_neg hr2]
            exact w4.mono e8
        · obtain ⟨rfl, w5⟩ := hM
          exact ⟨_, _, _, _, rfl, w5⟩
      · have hin := of_decide_eq_false hb
        have w3 := w2.mono e5
        refine q_appU (l := hp') (xs := ts.map V.ref) (ys := [.str "miss", .str p]) w3.hhp (ev_var rfl) (eu_tup (ea_cons ev_c (ea_cons (ev_var rfl) ea_nil)) (show 2 ≤ 100000 by decide)) (by rw [List.length_map, hlt]; omega) fun tp H6 htp e6 h6 => ?_
        have w4 := (w3.mono e6).event (e := (missS, p)) h6
        generalize upd H6 hp' _ = H7 at w4 ⊢
        refine ⟨fun σ' H'' => ∃ y9 s2, σ' = [some (.str r), some (.int (c : Int)), some (.ref t), some (.ref l), some (.ref cp), some (.ref hp'), some (.ref gp), some (.int (i : Int)), some (.str p), y9] ∧ PyS (noTab H) H'' T cp hp' gp (ts ++ [tp]) s2 ∧ s2.shelf.length ≤ 600 ∧ stS r c ps rs (i + 1) = { s2 with shelf := s2.shelf ++ [p] }, ?_, fun σ' H'' hM => ?_⟩
        · refine s_when (b := decide (V.int (((s.shelf.map V.str).length : Nat) : Int) = V.int (c : Int))) (et_test (ev_op (ev_len (ev_var rfl) (sq_of w4.hcp)) (ev_var rfl) (rv_eq rfl))) (fun hb2 H8 e8 => ?_) (fun hb2 H8 e8 => ⟨_, _, rfl, w4.mono e8, lsh, ?_⟩)
          · have full : s.shelf.length = c := by
              have z := V.int.inj (of_decide_eq_true hb2)
              rw [List.length_map] at z
              omega
            have hne : s.shelf ≠ [] := fun z => by rw [z] at full; simp at full; omega
            have w5 := w4.mono e8
            have hm' := victim_mem (rule := r) (later := rs.drop (i + 1)) hne
            refine ⟨.str r, rfl, .ref cp, rfl, .ref l, rfl, ?_⟩
            refine ev_op (ev_var rfl) ev_c rv_I0 H8 (Ex.refl _) _ fun H9 e9 => ?_
            have w6 := w5.mono e9
            refine ⟨(i : Int) + 1, rfl, l, rs.map V.str, rfl, ex_l w6.ex hl, fun sp nsp => ?_⟩
            have hcut : cutV (rs.map V.str) (some ((i : Int) + 1)) none = (rs.drop (i + 1)).map V.str := by
              rw [show ((i : Int) + 1) = ((i + 1 : Nat) : Int) by omega, drop_cut _ (by rw [hm]; omega), List.map_drop]
            rw [hcut]
            have w7 := w6.mono (Ex.new (o := .lst ((rs.drop (i + 1)).map V.str)) nsp)
            refine ⟨r, cp, sp, s.shelf, rs.drop (i + 1), rfl, hR, w7.hcp, hne, upd_same, w7.tab, fun Ha ea ta => ?_⟩
            have w8 := w7.no ea ta
            generalize hvv : victimS r s.shelf (rs.drop (i + 1)) = v at hm' ⊢
            refine q_app (l := gp) (xs := s.gone.map V.str) (v := .str v) w8.hgp (ev_var rfl) (ev_var rfl) (by rw [List.length_map]; omega) fun Hb eb => ?_
            have w9 := (w8.mono eb).left (g := v)
            generalize upd Hb gp _ = Hc at w9 ⊢
            refine ⟨.ref cp, rfl, .inl ⟨rfl, _, sq_of w9.hcp⟩, .str v, rfl, cp, s.shelf, v, rfl, rfl, w9.hcp, hm', _, _, rfl, w9.shelf (cs2 := s.shelf.erase v), ?_, ?_⟩
            · have := List.length_erase_le (a := v) (l := s.shelf)
              show (s.shelf.erase v).length ≤ 600
              omega
            · rw [hst]
              unfold stepS
              rw [if_neg hin, if_pos full, hvv]
          · have nf : ¬ s.shelf.length = c := fun z => of_decide_eq_false hb2 (by rw [List.length_map, z])
            rw [hst]
            unfold stepS
            rw [if_neg hin, if_neg nf]
        · obtain ⟨y9, s2, rfl, w5, l5, hs2⟩ := hM
          refine s_app (l := cp) (xs := s2.shelf.map V.str) (v := .str p) w5.hcp (ev_var rfl) (ev_var rfl) (by rw [List.length_map]; omega) fun H8 e8 => ⟨_, _, _, ts ++ [tp], rfl, ?_⟩
          have w6 := (w5.mono e8).shelf (cs2 := s2.shelf ++ [p])
          rw [List.map_append] at w6
          rw [hs2]
          exact w6
    · obtain ⟨y7, y8, y9, ts, rfl, w1⟩ := hP
      rw [hm] at w1
      exact s_retU (eu_tup (ea_cons (ev_var rfl) (ea_cons (ev_var rfl) ea_nil)) (show 2 ≤ 100000 by decide)) fun T0 H4 nT e4 hT0 => q T0 hp' gp ts H4 (fresh_back w1.ex nT) w1.f2 w1.f3 w1.d4 (w1.ex.trans e4) (w1.tab.ext e4) hT0 (e4 _ _ w1.hhp) (Paired.imp w1.hts fun _ _ z => e4 _ _ z) (e4 _ _ w1.hgp)
/-! rule_log, rule_evictions -/
abbrev P4r : List Str := ["rule", "capacity", "start", "requests"]
/-- valid arguments of the rules -/
structure RA (K : PySem.W.Frag) (H : Hp) (r : Str) (c : Nat) (t l : Addr) (ps rs : List Str) : Prop where
  R : isRule r
  c1 : 1 ≤ c
  ht : SqT K H t (ps.map V.str)
  pg : Pages ps
  le : ps.length ≤ c
  hl : SqL K H l (rs.map V.str)
  rp : ∀ p ∈ rs, pageB p = true
  rl : rs.length ≤ 300
theorem RA.no {H H' : Hp} {r : Str} {c : Nat} {t l : Addr} {ps rs : List Str} (a : RA K H r c t l ps rs) (e : Ex (noTab H) H') : RA K H' r c t l ps rs := { a with ht := ex_t e (st_noTab a.ht), hl := ex_l e (sq_noTab a.hl) }
theorem RA.mono {H H' : Hp} {r : Str} {c : Nat} {t l : Addr} {ps rs : List Str} (a : RA K H r c t l ps rs) (e : Ex H H') : RA K H' r c t l ps rs := { a with ht := ex_t e a.ht, hl := ex_l e a.hl }
end
end KB

set_option Elab.async false
set_option linter.all false
set_option maxRecDepth 100000
set_option maxHeartbeats 4000000
/-! S1: sorted(list of pairs of an int and a text). -/
namespace L2
open PySem PySem.Spec PyProof.Rows
def encIS (k : Addr → Int × Str) (t : Addr) : PyData := .tuple [.int (k t).1, .str (k t).2]
theorem le_IS {k : Addr → Int × Str} {a b : Addr} (h : PySem.W.dataLe false (encIS k) a b = true) : (k a).1 ≤ (k b).1 := by
  rw [PySem.W.dataLe_eq] at h
  have h : (!PySem.W.dataLt (.tuple [.int (k b).1, .str (k b).2]) (.tuple [.int (k a).1, .str (k a).2])) = true := h
  rw [PySem.W.dataLt_pair rfl rfl] at h
  refine Int.not_lt.mp fun c => ?_
  have e : PyData.eqv (.int (k b).1) (.int (k a).1) = false := by
    show ((k b).1 == (k a).1) = false
    exact beq_eq_false_iff_ne.mpr (by omega)
  rw [e, if_neg Bool.false_ne_true, PySem.W.dataLt_int, decide_eq_true c] at h
  cases h
section
variable {X : Cx}
def rSortIS (K : PySem.W.Frag) : List V → Hp → VK → Prop := fun vs H Q => ∃ (a : Addr) (ts : List Addr) (k : Addr → Int × Str), vs = [V.ref a] ∧ SqL K H a (ts.map V.ref) ∧ (∀ t ∈ ts, H t = some (.tup [.int (k t).1, .str (k t).2])) ∧
  ∀ (ys : List Addr) (p : Addr), ys.Perm ts → ys.Pairwise (fun x y => (k x).1 ≤ (k y).1) → H p = none → Q (.ref p) (upd H p (.lst (ys.map V.ref)))
theorem each_refs : ∀ {ts : List Addr} {us : List Value}, Vals (ts.map V.ref) us → us = ts.map Value.ref
  | [], _, h => by cases h; rfl
  | t :: ts, _, h => by
    cases h with
    | cons h1 h2 =>
      cases h1
      rw [each_refs h2]
      rfl
theorem each_of : ∀ (ts : List Addr) {R : Value → Addr → Prop}, (∀ t ∈ ts, R (Value.ref t) t) → PySem.W.EachIs R (ts.map Value.ref) ts
  | [], _, _ => .nil
  | t :: ts, _, h => .cons (h t List.mem_cons_self) (each_of ts fun x hx => h x (List.mem_cons_of_mem _ hx))
theorem each_eq : ∀ {us : List Value} {ts : List Addr}, PySem.W.EachIs (fun v t => v = Value.ref t) us ts → us = ts.map Value.ref
  | _, _, .nil => rfl
  | _, _, .cons h t => by rw [h, each_eq t]; rfl
theorem vals_refsT : ∀ ts : List Addr, Vals (ts.map V.ref) (ts.map Value.ref)
  | [] => .nil
  | _ :: ts => .cons rfl (vals_refsT ts)
theorem cr_sortedIS (hu : X.A.units + 64 < cLine) : CallR X (.builtin "sorted") (rSortIS X.K) := by
  intro pins s σ H vs us Q I r h
  obtain ⟨a, ts, k, rfl, hs, ht, q⟩ := h
  obtain ⟨its, rv, hl, hz⟩ := I.list hs
  obtain ⟨u, rfl, ru⟩ := vals1 r
  obtain rfl : u = Value.ref a := ru
  obtain rfl := each_refs rv
  rw [List.length_map] at hz
  have er : PySem.W.EachIs (fun v b => ∃ as, Reads s.heap v (encIS k b) as) (ts.map Value.ref) ts := each_of ts fun t hm => by
    obtain ⟨_, its2, r2, o, ho, hc, n, hd⟩ := I.hok _ _ (ht t hm)
    obtain ⟨u1, u2, rfl, ri, rj⟩ := vals2 r2
    obtain ⟨t1, rfl⟩ := ri
    obtain ⟨t2, rfl⟩ := rj
    exact ⟨_, .tuple ho hc hd (.cons (.int _ t1) (.cons (.str _ t2) .nil))⟩
  refine PySem.W.sorted_data (R := fun v t => v = Value.ref t) hl.isList (each_of ts fun _ _ => rfl) er (PySem.W.AllAlike.of fun b b' => rfl) (PySem.W.Sortable.tuples fun b => ⟨_, _, rfl⟩) hz (fun b _ => by show X.A.units + 2 + 1 < cLine; omega) fun out hlen ho => ?_
  have ho := each_eq ho
  subst ho
  have hp := List.mergeSort_perm ts (PySem.W.dataLe false (encIS k))
  have hw : (ts.mergeSort (PySem.W.dataLe false (encIS k))).Pairwise (fun a b => PySem.W.dataLe false (encIS k) a b = true) := PySem.W.sort_pairwise (PySem.W.sortLe_total _ false _ : PySem.W.TotalLe (PySem.W.dataLe false (encIS k))) ts
  obtain ⟨ep, he'⟩ := PyProof.Rows.sortedAll_at s.heap (ts.map Value.ref) (List.toArray ((ts.mergeSort (PySem.W.dataLe false (encIS k))).map Value.ref))
  generalize ts.mergeSort (PySem.W.dataLe false (encIS k)) = ys at hp hw hlen ep he' ⊢
  exact ⟨.ref _, upd H (s.heap.objs.size + 1) (.lst (ys.map V.ref)), I.laid (t' := s.toks) (fun _ _ => PyProof.Rows.sortedAll_old) (Nat.le_succ _) ⟨by rw [List.length_map, hp.length_eq]; exact hz, ys.map Value.ref, ep, vals_refsT ys, he'⟩, rfl, q ys _ hp (hw.imp fun h => le_IS h) (I.hok.fresh (Nat.le_succ _))⟩
end
end L2

set_option Elab.async false
set_option linter.all false
set_option maxRecDepth 100000
set_option maxHeartbeats 8000000
/-! SP: sorted pairs of a number and a text. -/
namespace KB
open PySem PySem.Spec PyProof.Rows L2 Evl
theorem paired_app {α β : Type} {R : α → β → Prop} : ∀ {as as' : List α} {bs bs' : List β}, Paired R as bs → Paired R as' bs' → Paired R (as ++ as') (bs ++ bs')
  | _, _, _, _, .nil, h => h
  | _, _, _, _, .cons h t, h2 => .cons h (paired_app t h2)
theorem tup_upd2 {H : Hp} {l t : Addr} {xs ys row : List V} (hl : H l = some (.lst xs)) (h : H t = some (.tup row)) : upd H l (.lst ys) t = some (.tup row) := by
  rw [upd_ne (ne_of h hl (by intro z; cases z))]
  exact h
theorem given_list {α : Type} (gs : List α) (d : α) (F : α → Bool) (G : α → V) : given gs.length (fun i => F (gs.getD i d)) (fun i => G (gs.getD i d)) = (gs.filter F).map G := by
  have h : gs = (List.range gs.length).map fun i => gs.getD i d := by
    apply List.ext_getElem
    · simp
    · intro i h1 h2
      simp [List.getD_eq_getElem?_getD, List.getElem?_eq_getElem h1]
  conv => rhs; rw [h]
  unfold given
  rw [List.filter_map, List.map_map]
  rfl
section
variable {K : PySem.W.Frag} {σ : L2.St} {H H1 H' : Hp} {ta tb tc te tx ty td tl : TE} {t : TT} {x y z v : V} {D : Ends} {Q : VK}
theorem w_lcLTF {a : Addr} {cs : List Str} {j : Nat} {vs : List Nat} (f : Str → Bool) (row : Str → List V) (h : Ev tl σ H (.ref a)) (hq : SqL K H a (cs.map V.str)) (hz : cs.length ≤ 40000) (hw : ∀ x, wipe ((wipe σ vs).set j (some x)) vs = wipe σ vs)
    (ht : ∀ x H1, x ∈ cs → Ex H H1 → EvT t ((wipe σ vs).set j (some (.str x))) H1 (f x)) (hs : ∀ x H1, x ∈ cs → Ex H H1 → f x = true → EvU te ((wipe σ vs).set j (some (.str x))) H1 (row x))
    (hd : ∀ p ts H1, H p = none → Ex H H1 → H1 p = some (.lst (ts.map V.ref)) → Paired (fun t x => H1 t = some (.tup (row x))) ts (cs.filter f) → Q (.ref p) H1) :
    tLc (iList K tl) (gName j) t te vs σ H Q :=
  h H (Ex.refl H) _ fun H1 e1 => ⟨a, rfl, ⟨_, ex_l e1 hq⟩, fun Dl hD => lc_it (walk_list (K := K) (a := a) (xs := cs.map V.str)) (fun i H' => Ex H H' ∧ ∃ ts : List Addr, H' Dl = some (.lst (ts.map V.ref)) ∧ Paired (fun t x => H' t = some (.tup (row x))) ts ((cs.take i).filter f)) ⟨e1.trans (Ex.new hD), [], upd_same, .nil⟩ (fun i H' _ p => ex_l p.1 hq) (fun i x H' H'' hi p hy => by
    obtain ⟨rfl, hx⟩ := hy
    rw [List.getElem?_map] at hx
    obtain ⟨u, hu, rfl⟩ := Option.map_eq_some_iff.mp hx
    have hmem := List.mem_of_getElem? hu
    obtain ⟨p1, ts, h1, h2⟩ := p
    refine ⟨hw _, ?_⟩
    refine ht u _ hmem p1 _ (Ex.refl _) _ fun H3 e3 => ?_
    have er : (cs.take (i + 1)).filter f = (cs.take i).filter f ++ (if f u = true then [u] else []) := by
      rw [List.take_add_one, hu, List.filter_append]
      congr 1
      by_cases z : f u = true
      · rw [if_pos z]
        exact List.filter_cons_of_pos z
      · rw [if_neg z]
        exact List.filter_cons_of_neg z
    cases hf : f u with
    | true =>
      rw [if_pos rfl]
      refine hs u _ hmem (p1.trans e3) hf _ (Ex.refl _) _ fun t H4 ht e4 h4 => ⟨ts.map V.ref, e4 _ _ (e3 _ _ h1), ?_, Ex.mut ((p1.trans e3).trans e4) (fresh_back e1 hD), ts ++ [t], ?_, ?_⟩
      · have h5 := List.length_filter_le f (cs.take i)
        rw [List.length_take] at h5
        rw [List.length_map, paired_len h2]
        exact sz_lt (by omega)
      · rw [upd_same, List.map_append]
        rfl
      · rw [er, if_pos hf]
        refine paired_app (Paired.imp h2 fun t i z => tup_upd2 (e4 _ _ (e3 _ _ h1)) (e4 _ _ (e3 _ _ z))) (.cons (tup_upd2 (e4 _ _ (e3 _ _ h1)) h4) .nil)
    | false =>
      rw [if_neg Bool.false_ne_true]
      refine ⟨p1.trans e3, ts, e3 _ _ h1, ?_⟩
      rw [er, if_neg (by rw [hf]; exact Bool.false_ne_true), List.append_nil]
      exact Paired.imp h2 fun t i z => e3 _ _ z) (fun H' p => by
    obtain ⟨p1, ts, h1, h2⟩ := p
    rw [List.take_of_length_le (by rw [List.length_map]; exact Nat.le_refl _)] at h2
    exact hd Dl ts H' (fresh_back e1 hD) p1 h1 h2)⟩
theorem el_lcSt {a : Addr} {cs : List Str} {j : Nat} {vs : List Nat} (f : Str → Bool) (h : Ev tl σ H (.ref a)) (hq : SqL K H a (cs.map V.str)) (hz : cs.length ≤ 40000) (hw : ∀ x, wipe ((wipe σ vs).set j (some x)) vs = wipe σ vs)
    (ht : ∀ x H1, x ∈ cs → Ex H H1 → EvT t ((wipe σ vs).set j (some (.str x))) H1 (f x)) (he : ∀ x H1, x ∈ cs → Ex H H1 → Ev te ((wipe σ vs).set j (some (.str x))) H1 (.str x)) : EvL (tLc (iList K tl) (gName j) t te vs) σ H ((cs.filter f).map V.str) := by
  rw [← given_list cs "" f V.str]
  have hl : cs.length = (cs.map V.str).length := (List.length_map ..).symm
  rw [hl]
  refine el_lcL _ _ h hq (by omega) hw (fun i x H1 e1 hx => ?_) (fun i x H1 e1 hx _ => ?_)
  all_goals
    rw [List.getElem?_map] at hx
    obtain ⟨u, hu, rfl⟩ := Option.map_eq_some_iff.mp hx
    have hg : cs.getD i "" = u := by rw [List.getD_eq_getElem?_getD, hu]; rfl
    rw [hg]
  · exact ht u H1 (List.mem_of_getElem? hu) e1
  · exact he u H1 (List.mem_of_getElem? hu) e1
end
def keyIS (H : Hp) (t : Addr) : Int × Str := match H t with
  | some (.tup [.int i, .str s]) => (i, s)
  | _ => (0, "")
theorem keyIS_at {H : Hp} {t : Addr} {i : Int} {s : Str} (h : H t = some (.tup [.int i, .str s])) : keyIS H t = (i, s) := by
  unfold keyIS
  rw [h]
theorem sorted_first {H : Hp} {cs : List Str} {num : Str → Int} {ts ys : List Addr} (hP : Paired (fun t x => H t = some (.tup [.int (num x), .str x])) ts cs) (hp : ys.Perm ts) (hs : ys.Pairwise fun x y => (keyIS H x).1 ≤ (keyIS H y).1) :
    (cs = [] ∧ ys = []) ∨ ∃ y r x, ys = y :: r ∧ x ∈ cs ∧ H y = some (.tup [.int (num x), .str x]) ∧ ∀ z ∈ cs, num x ≤ num z := by
  have all : ∀ {ts : List Addr} {cs : List Str}, Paired (fun t x => H t = some (.tup [.int (num x), .str x])) ts cs → (∀ t ∈ ts, ∃ x ∈ cs, H t = some (.tup [.int (num x), .str x])) ∧ ∀ x ∈ cs, ∃ t ∈ ts, H t = some (.tup [.int (num x), .str x]) := by
    intro ts cs h
    induction h with
    | nil => exact ⟨(fun t h => nomatch h), (fun t h => nomatch h)⟩
    | @cons t x ts cs h _ ih =>
      refine ⟨fun u hu => ?_, fun u hu => ?_⟩
      · rcases List.mem_cons.mp hu with z | z
        · rw [z]; exact ⟨x, List.mem_cons_self, h⟩
        · obtain ⟨y, h1, h2⟩ := ih.1 u z
          exact ⟨y, List.mem_cons_of_mem _ h1, h2⟩
      · rcases List.mem_cons.mp hu with z | z
        · rw [z]; exact ⟨t, List.mem_cons_self, h⟩
        · obtain ⟨y, h1, h2⟩ := ih.2 u z
          exact ⟨y, List.mem_cons_of_mem _ h1, h2⟩
  obtain ⟨a1, a2⟩ := all hP
  have hl := hp.length_eq
  have hl2 := paired_len hP
  cases ys with
  | nil =>
    left
    refine ⟨List.length_eq_zero_iff.mp ?_, rfl⟩
    rw [← hl2, ← hl]
    rfl
  | cons y r =>
    right
    obtain ⟨x, hx, hy⟩ := a1 y (hp.mem_iff.mp List.mem_cons_self)
    refine ⟨y, r, x, rfl, hx, hy, fun z hz => ?_⟩
    obtain ⟨u, hu, hu2⟩ := a2 z hz
    have hu3 := hp.mem_iff.mpr hu
    have k1 : (keyIS H y).1 = num x := by rw [keyIS_at hy]
    have k2 : (keyIS H u).1 = num z := by rw [keyIS_at hu2]
    rcases List.mem_cons.mp hu3 with e | e
    · subst e
      rw [← k1, ← k2]
      exact Int.le_refl _
    · have := (List.pairwise_cons.mp hs).1 u e
      rw [← k1, ← k2]
      exact this
theorem keys_all {H : Hp} {num : Str → Int} : ∀ {ts : List Addr} {cs : List Str}, Paired (fun t x => H t = some (.tup [.int (num x), .str x])) ts cs → ∀ t ∈ ts, H t = some (.tup [.int (keyIS H t).1, .str (keyIS H t).2]) ∧ (keyIS H t).2 ∈ cs
  | _, _, .nil, t, h => nomatch h
  | _, _, .cons h r, t, ht => by
    rcases List.mem_cons.mp ht with z | z
    · subst z
      rw [keyIS_at h]
      exact ⟨h, List.mem_cons_self⟩
    · obtain ⟨h1, h2⟩ := keys_all r t z
      exact ⟨h1, List.mem_cons_of_mem _ h2⟩
end KB

set_option Elab.async false
set_option linter.all false
set_option maxRecDepth 100000
set_option maxHeartbeats 8000000
/-! EnT: enumerate(tuple) as what is walked. -/
namespace EnT
open PySem PySem.Spec PyProof.Rows L2
open Sem (wp)
open AutoSeq1 (wpAny_loadPart')
section
variable {prog : Program} {w : World} {A : Around} {E : Value → Shared → Prop} {s : Shared}
theorem next_item {it t : Addr} {i : Nat} {items : Array Value} {x : Value} {Q : Value → Shared → Prop} (hit : s.heap.IsTupleIter it t i) (ht : s.heap.IsTuple t items) (hx : items[i]? = some x)
    (k : ∀ h', h'.IsTupleIter it t (i + 1) → Heap.SameBut it s.heap h' → Q x { s with heap := h' }) : wpAny (model prog w) A (Builtin.SmallTypes.nextOf (.ref it)) Q E s := by
  obtain ⟨ot, hot, _, nt, hdt⟩ := ht
  have ⟨oi, hoi, hci, hdi⟩ := hit
  unfold Builtin.SmallTypes.nextOf
  refine wpAny_bind (wpAny_callSpecial?_slot (name := Str.ofString "__next__") hit.typeIs PySem.F.slot_tuple_iterator_next (wpAny_call_entry PySem.F.slot_tuple_iterator_next hit.typeIs PySem.F.entry_tuple_iterator_next ?_ (PySem.F.args_tuple_iterator_next_1 _)))
  show wpAny _ _ (field (.ref it) 0 >>= _) _ _ s
  refine wpAny_bind (wpAny_field hoi hdi (x := .ref t) rfl ?_)
  show wpAny _ _ (if (Value.ref t == Value.none) = true then _ else _) _ _ s
  rw [if_neg (show ¬ ((Value.ref t == Value.none) = true) from Bool.false_ne_true)]
  show wpAny _ _ (field (.ref it) 1 >>= _) _ _ s
  refine wpAny_bind (wpAny_field hoi hdi (x := .int i 0) rfl ?_)
  show wpAny _ _ (seqItems? (.ref t) >>= _) _ _ s
  refine wpAny_bind (wpAny_seqItems hot hdt ?_)
  simp only [Int.toNat_natCast, hx]
  exact wpAny_bind (wpAny_setField hoi hdi (by simp) (wpAny_pure ⟨x, rfl, wpAny_pure (k _ ⟨_, Heap.get?_update_self _ hoi (Obj.isFreed_of_fields (Obj.data_mapFields hdi _)), (Obj.cls_mapFields ..).trans hci, by rw [Obj.data_mapFields hdi]; simp [rawInt]⟩ (Heap.SameBut.update ..))⟩))
theorem next_end {it t : Addr} {i : Nat} {items : Array Value} {Q : Value → Shared → Prop} (hh : A.handled = none) (hit : s.heap.IsTupleIter it t i) (ht : s.heap.IsTuple t items) (hx : items[i]? = none)
    (k : ∀ h' e, Heap.ExtBut it s.heap h' → (∃ o, h'.get? e = some o ∧ o.cls = .type "StopIteration") → E (.ref e) { s with heap := h' }) : wpAny (model prog w) A (Builtin.SmallTypes.nextOf (.ref it)) Q E s := by
  obtain ⟨ot, hot, _, nt, hdt⟩ := ht
  have ⟨oi, hoi, hci, hdi⟩ := hit
  unfold Builtin.SmallTypes.nextOf
  refine wpAny_bind (wpAny_callSpecial?_slot (name := Str.ofString "__next__") hit.typeIs PySem.F.slot_tuple_iterator_next (wpAny_call_entry PySem.F.slot_tuple_iterator_next hit.typeIs PySem.F.entry_tuple_iterator_next ?_ (PySem.F.args_tuple_iterator_next_1 _)))
  show wpAny _ _ (field (.ref it) 0 >>= _) _ _ s
  refine wpAny_bind (wpAny_field hoi hdi (x := .ref t) rfl ?_)
  show wpAny _ _ (if (Value.ref t == Value.none) = true then _ else _) _ _ s
  rw [if_neg (show ¬ ((Value.ref t == Value.none) = true) from Bool.false_ne_true)]
  show wpAny _ _ (field (.ref it) 1 >>= _) _ _ s
  refine wpAny_bind (wpAny_field hoi hdi (x := .int i 0) rfl ?_)
  show wpAny _ _ (seqItems? (.ref t) >>= _) _ _ s
  refine wpAny_bind (wpAny_seqItems hot hdt ?_)
  simp only [Int.toNat_natCast, hx]
  refine wpAny_bind (wpAny_rule (wpAny_bind (wpAny_setField hoi hdi (by simp) ?_)))
  show wpAny _ _ (newExc (.type "StopIteration") [] >>= _) _ _ _
  refine wpAny_bind ?_
  simp only [newExc, newTuple]
  refine wpAny_bind (wpAny_newObj_type ?_ (by size_fits))
  refine wpAny_bind (m := firstArgMember _ _) (wpAny_of_eq (a := Value.none) (by first | rfl | (simp only [firstArgMember]; rfl)) (wpAny_newObj_type ?_ (by size_fits)))
  simp only [raiseNew]
  refine wpAny_bind (wpAny_handled ?_)
  first | rw [show A.in1.handled = none from hh] | rw [hh]
  exact wpAny_bind (wpAny_pure (wpAny_throw (k _ _ (((Heap.SameBut.update ..).extBut.push _).push _) ⟨_, Heap.get?_push_size _ rfl, rfl⟩)))
theorem enum_end {e it t : Addr} {i : Nat} {j : Int} {items : Array Value} {old : Value} {Q : Option Value → Shared → Prop} (hh : A.handled = none) (he : IsEnum s.heap e it j old) (hit : s.heap.IsTupleIter it t i) (ht : s.heap.IsTuple t items) (hx : items[i]? = none)
    (k : ∀ h', Heap.ExtBut it s.heap h' → Q none { s with heap := h' }) : wpAny (model prog w) A (pyNext (.ref e)) Q E s := by
  have isE : s.TypeIs (.ref e) "enumerate" := ⟨_, he, rfl⟩
  unfold pyNext
  refine wpAny_bind (wpAny_attempt (wpAny_callSpecial?_slot (name := Str.ofString "__next__") isE PySem.F.slot_enumerate_next (wpAny_call_entry PySem.F.slot_enumerate_next isE PySem.F.entry_enumerate_next ?_ (PySem.F.args_enumerate_next_1 _))))
  show wpAny _ _ (field (.ref e) 2 >>= _) _ _ _
  refine wpAny_bind (wpAny_field he rfl (x := .ref it) rfl ?_)
  refine wpAny_bind (next_end (by simp [hh]) hit ht hx fun h' x eb ⟨o, ho, hc⟩ => ?_)
  exact wpAny_bind (wpAny_isInstance (T := "StopIteration") (b := true) ⟨o, ho, hc⟩ isSubtype_stop (wpAny_pure (k _ eb)))
end
theorem draws {prog : Program} {w : World} {A : Around} (hh : A.handled = none) (it t : Addr) (hne : t ≠ it) (items : Array Value) :
    Draws prog w A it [it, t] items.size (fun i v => items[i]? = some v) (fun i h => h.IsTupleIter it t i ∧ h.IsTuple t items) where
  live := fun _ _ st => let ⟨o, q, _⟩ := st.1; ⟨o, q⟩
  frame := fun _ _ _ st k => ⟨st.1.at fun o e => k it (by simp) o e, st.2.at fun o e => k t (by simp) o e⟩
  item := fun i s Q E hi st hQ => next_item st.1 st.2 (x := items[i]) (by simp [hi]) fun h' a b => hQ _ h' s.toks (by simp [hi]) ⟨a, st.2.extBut b.extBut hne⟩ b
  done := fun s Q E st hE => next_end hh st.1 st.2 (by simp) hE
theorem meets_new (l : Addr) (items : Array Value) (n : Nat) (dct : Option Addr) (sl : Array (Option Value)) :
    Meets (Builtin.«enumerate.__new__» ⟨[.type "enumerate", .ref l], []⟩) (fun _ R s => s.heap.get? l = some { cls := .type "tuple", dict := dct, data := .seq items n, slots := sl } ∧
      R (.ok (.ret (.ref (s.heap.push { cls := .type "tuple_iterator", data := .fields #[.ref l, .int 0 0] }).objs.size)))
        { s with heap := (s.heap.push { cls := .type "tuple_iterator", data := .fields #[.ref l, .int 0 0] }).push { cls := .type "enumerate", data := .fields #[.none, .bool false, .ref s.heap.objs.size, rawInt 0, .none, .none] } }) :=
  .of_wp fun prog w A R s h => by
    obtain ⟨hp, g, d, tk, os⟩ := s
    obtain ⟨ht, h⟩ := h
    have isSub := sub_enumerate
    have hT : Heap.IsTuple (Shared.heap ⟨hp, g, d, tk, os⟩) l items := ⟨_, ht, rfl, n, rfl⟩
    wp_walk using wpAny_loadPart' ht
    refine wpAny_stack_any fun st => wpAny_pure ?_
    split
    · rename_i c _ _ _ _ _
      cases (c == Value.type "enumerate") <;> (wp_walk using wpAny_loadPart' ht, wpAny_pyIter_tuple hT; exact ⟨_, rfl, h⟩)
    · wp_walk using wpAny_loadPart' ht, wpAny_pyIter_tuple hT
      exact ⟨_, rfl, h⟩
section
variable {prog : Program} {w : World} {A : Around} {E : Value → Shared → Prop} {s : Shared}
theorem call_enum {l : Addr} {items : Array Value} {Q : Value → Shared → Prop} (hT : s.heap.IsTuple l items)
    (k : ∀ h', IsEnum h' (s.heap.objs.size + 1) s.heap.objs.size 0 .none → h'.IsTupleIter s.heap.objs.size l 0 → h'.objs.size = s.heap.objs.size + 2 → (∀ b o, s.heap.get? b = some o → h'.get? b = some o) → Q (.ref (s.heap.objs.size + 1)) { s with heap := h' }) :
    wpAny (model prog w) A (call (.type "enumerate") [.ref l]) Q E s := by
  obtain ⟨⟨c, dct, dt, sl⟩, ht, hc, n, hd⟩ := hT
  have hc : c = .type "tuple" := hc
  have hd : dt = .seq items n := hd
  subst hc hd
  refine callType_new PySem.F.called_enumerate (by decide) (PySem.F.typeCall_enumerate_1 _) (PySem.F.newCall_enumerate_1 _) (fun obj => PySem.F.args_object_init_2 obj _) PySem.F.entry_enumerate_new (meets_new l items n dct sl) ⟨ht, ?_⟩
  have z1 : (s.heap.push { cls := .type "tuple_iterator", data := .fields #[.ref l, .int 0 0] }).objs.size = s.heap.objs.size + 1 := Heap.size_push ..
  show _ ∧ _
  rw [z1]
  have isE : IsEnum ((s.heap.push { cls := .type "tuple_iterator", data := .fields #[.ref l, .int 0 0] }).push { cls := .type "enumerate", data := .fields #[.none, .bool false, .ref s.heap.objs.size, rawInt 0, .none, .none] }) (s.heap.objs.size + 1) s.heap.objs.size 0 .none := by
    have q := Heap.get?_push_size (s.heap.push { cls := .type "tuple_iterator", data := .fields #[.ref l, .int 0 0] }) (o := { cls := .type "enumerate", data := .fields #[.none, .bool false, .ref s.heap.objs.size, rawInt 0, .none, .none] }) rfl
    rw [z1] at q
    exact q
  exact ⟨⟨_, isE, rfl⟩, k _ isE ⟨_, Heap.get?_push_of_some _ (Heap.get?_push_size _ rfl), rfl, rfl⟩ (by rw [Heap.size_push, z1]) fun b o x => Heap.get?_push_of_some _ (Heap.get?_push_of_some _ x)⟩
end
/-- the tuple at a, each item in a new pair -/
def ItT (K : PySem.W.Frag) (a : Addr) : It :=
  ⟨fun i H => ∃ (xs : List V) (x : V), SqT K H a xs ∧ xs[i]? = some x, fun i H v H' => ∃ T x, v = .ref T ∧ H T = none ∧ H' = upd H T (.tup [.int (i : Nat), x]) ∧ ∀ xs, SqT K H a xs → xs[i]? = some x, fun i H => ∃ xs : List V, SqT K H a xs ∧ xs.length ≤ i⟩
theorem turnT {P : Program} {w : World} {K : PySem.W.Frag} {elts : List Expr} {kk : Nat} {tpos : Pos} (a e it : Addr) (hai : a ≠ it) :
    Turn P w K (.Tuple elts kk tpos) (ItT K a) [e, it] e (fun i h => (∃ old, IsEnum h e it ((i : Nat) : Int) old) ∧ h.IsTupleIter it a i ∧ e ≠ it ∧ a ≠ e) where
  mem := by simp
  obj := fun i h st b hb => by
    obtain ⟨⟨old, he⟩, ⟨o, ho, hc, hd⟩, _⟩ := st
    rcases (show b = e ∨ b = it by simpa using hb) with z | z
    · rw [z]; exact ⟨_, he, fun v q => nomatch q⟩
    · rw [z]; exact ⟨o, ho, fun v q => by rw [hd] at q; cases q⟩
  keep := fun i h h' st k => let ⟨⟨old, he⟩, hi, hne⟩ := st; ⟨⟨old, k e (by simp) _ he⟩, hi.at fun o q => k it (by simp) o q, hne⟩
  item := by
    intro X hP hw hK hc i pins s σ H E I hf st hg
    subst hP hw hK
    obtain ⟨⟨old, he⟩, hit, hne, hae⟩ := st
    obtain ⟨xs, x, hq, hx⟩ := hg
    obtain ⟨its, rv, p, hz⟩ := I.tuple hq
    obtain ⟨u, hu, ru⟩ := rv.get hx
    have le : e < s.heap.objs.size := Heap.lt_size he
    have li : it < s.heap.objs.size := by obtain ⟨_, q, _⟩ := hit; exact Heap.lt_size q
    have lt : i < its.toArray.size := by
      have := (List.getElem?_eq_some_iff.mp hu).1
      simpa using this
    refine wpAny_pyNext_enum_itemD (draws (by show X.A.in1.handled = none; exact I.ok.hd hc) it a hai its.toArray) he ⟨hit, p⟩ lt hne (by simp; exact ⟨hne, hae.symm⟩) fun x0 h' tk hP ho hst hT hsz hk => ?_
    have ex0 : x0 = u := by
      have h1 : its.toArray[i]? = some x0 := hP
      have h2 : its.toArray[i]? = some u := by simpa using hu
      exact Option.some.inj (h1.symm.trans h2)
    subst ex0
    refine ⟨_, rfl, wpAny_letOwnedTupleGo_enum (s := { s with heap := h', toks := tk + 1 }) ho fun h'' he' sb => ?_⟩
    have hT2 : h''.get? s.heap.objs.size = some { cls := .type "tuple", data := .seq #[.int i tk, x0] } := (sb.2 _ (Nat.ne_of_gt le)).trans hT
    have new : ObjOk X.prog X.w (upd H s.heap.objs.size (.tup [.int (i : Nat), x])) h'' s.heap.objs.size (.tup [.int (i : Nat), x]) :=
      ⟨by show 2 ≤ sizeLine; decide, [.int i tk, x0], .cons ⟨_, rfl⟩ (.cons ru .nil), ⟨_, hT2, rfl, _, rfl⟩⟩
    have I1 : Inv X pins σ (upd H s.heap.objs.size (.tup [.int (i : Nat), x])) { s with heap := h'', toks := tk + 1 } :=
      I.turnedNew (ch := [e, it]) (fun b ob hb q => (sb.2 b (fun z => hb (by simp [z]))).trans (hk b ob (fun z => hb (by simp [z])) (fun z => hb (by simp [z])) q)) hf (Nat.le_refl _) new
    refine ⟨.ref s.heap.objs.size, _, I1, rfl, ⟨_, x, rfl, I.hok.fresh (Nat.le_refl _), rfl, fun ys hy => by rw [I.tuple_inj hy hq]; exact hx⟩, ⟨⟨x0, ?_⟩, hst.1.at fun o q => (sb.2 it (Ne.symm hne)).trans q, hne, hae⟩, fun b hb => ?_⟩
    · rw [show ((i + 1 : Nat) : Int) = (i : Int) + 1 by omega]
      exact he'
    · have hb' : b < s.heap.objs.size := by
        rcases (show b = e ∨ b = it by simpa using hb) with z | z
        · rw [z]; exact le
        · rw [z]; exact li
      rw [upd_ne (Nat.ne_of_lt hb')]
      exact (hf b hb).1
  done := by
    intro X hP hw hK hc i pins s σ H E I hf st hg
    subst hP hw hK
    obtain ⟨⟨old, he⟩, hit, hne, hae⟩ := st
    obtain ⟨xs, hq, hx⟩ := hg
    obtain ⟨its, rv, p, hz⟩ := I.tuple hq
    obtain ⟨f0, f1, f2, f3, f4, f5⟩ := hf it (by simp)
    have hl := rv.length
    have hi : its.toArray[i]? = none := by simp; omega
    exact enum_end (I.ok.hd hc) he hit p hi fun h' eb => ⟨rfl, I.turned (t' := s.toks) (fun b o hb q => eb b o hb q) f0 f1 f3 f4 f5⟩
  self := fun A i s Q E st h => let ⟨⟨_, he⟩, _⟩ := st; wpAny_pyIter_enum he h
def iEnT (K : PySem.W.Frag) (ta : TA) : TI := fun σ H R => ta σ H fun vs H1 => ∃ a xs, vs = [.ref a] ∧ SqT K H1 a xs ∧ R (ItT K a) H1
theorem pi_enumT {X : Cx} {e : Expr} {ta : TA} {p pos tpos : Pos} {elts : List Expr} {kk : Nat} (hg : Gl X "enumerate") (hm : X.mg "enumerate" = none) (ha : PA X [e] ta) (hs : starEach [e] X.env = [(false, eval e X.env)] := by rfl) :
    PI X (.Tuple elts kk tpos) (.Call (.Name "enumerate" p) [e] [] pos) (iEnT X.K ta) := by
  refine ⟨fun pins s σ H R I h => ?_⟩
  refine Call_ (ld_blt I hg hm boot_enumerate (PyProof.Rows.callWith_type1 (thn (ha.run pos pins s σ H _ I h) fun us s1 ⟨vs, H1, I1, r1, a, xs, ev, hq, q⟩ => ?_) hs rfl))
  subst ev
  cases r1 with
  | cons r rr =>
    cases rr
    cases r
    obtain ⟨its, rv, p', hz⟩ := I1.tuple hq
    have la : a < s1.heap.objs.size := by obtain ⟨_, q, _⟩ := p'; exact Heap.lt_size q
    refine call_enum p' fun h' he hit hsz hk => wpAny_pyIter_enum he ?_
    have I2 : Inv X pins σ H1 { s1 with heap := h' } := I1.kept (t' := s1.toks) hk
    refine ⟨s1.heap.objs.size + 1, [s1.heap.objs.size + 1, s1.heap.objs.size], _, _, H1, rfl, I2, turnT a (s1.heap.objs.size + 1) s1.heap.objs.size (Nat.ne_of_lt la), ⟨⟨.none, he⟩, hit, Nat.succ_ne_self _, Nat.ne_of_lt (Nat.lt_succ_of_lt la)⟩, fun b hb => ?_, q⟩
    have hle : s1.heap.objs.size ≤ b := by
      rcases (show b = s1.heap.objs.size + 1 ∨ b = s1.heap.objs.size by simpa using hb) with z | z
      · rw [z]; exact Nat.le_add_right _ _
      · rw [z]; exact Nat.le_refl _
    exact I1.fpOk hle (I1.hok.fresh hle)
theorem walkT {K : PySem.W.Frag} {a : Addr} {xs : List V} : Walk (ItT K a) xs.length (fun H => SqT K H a xs) (YPair (fun i => some (.int (i : Nat))) (fun i => xs[i]?)) := by
  refine ⟨fun i _ hi q => ⟨xs, xs[i], q, by simp [hi]⟩, fun _ q => ⟨xs, q, Nat.le_refl _⟩, fun i H v H' _ q ⟨T, x, h1, h2, h3, h4⟩ => ⟨T, .int (i : Nat), x, h1, h2, h3, rfl, h4 xs q⟩⟩
end EnT

set_option Elab.async false
set_option linter.all false
set_option maxRecDepth 100000
set_option maxHeartbeats 8000000
/-! R4: how the law picks a victim, walked. -/
namespace KB
open PySem L2 Evl
structure Bso (mg : Str → Option Value) : Prop where
  sorted : mg "sorted" = none
  dict : mg "dict" = none
theorem bt_sorted : bootBuiltins "sorted" = some (.builtin "sorted") := by decide +kernel
theorem bt_dict : bootBuiltins "dict" = some (.type "dict") := by decide +kernel
/-- how far the next request of a page is -/
def nextV (p : Str) (ls : List Str) : V := if p ∈ ls then .int (ixS p ls : Int) else .non
theorem eqV_str (a b : Str) : eqV (.str a) (.str b) = (a == b) := rfl
/-- what the law's choice keeps to -/
def VicOk (r : Str) (cs ls : List Str) (U A : Str → Int) (v : Str) : Prop :=
  (r = fifoS ∧ ∀ q ∈ cs, A v ≤ A q) ∨ (r = lruS ∧ ∀ q ∈ cs, U v ≤ U q) ∨ (r = optS ∧ v ∉ ls ∧ ∀ q ∈ cs, q ∉ ls → U v ≤ U q) ∨ (r = optS ∧ (∀ q ∈ cs, q ∈ ls) ∧ ∀ q ∈ cs, ixS q ls ≤ ixS v ls)
/-- texts' numbers in a dict -/
def NumAt (H : Hp) (d : Addr) (kvs : List (Key × V)) (cs : List Str) (U : Str → Int) : Prop := H d = some (.dK kvs) ∧ ∀ p ∈ cs, valV kvs (.inr p) = some (.int (U p))
theorem NumAt.mono {H H' : Hp} {d : Addr} {kvs : List (Key × V)} {cs : List Str} {U : Str → Int} (h : NumAt H d kvs cs U) (e : Ex H H') : NumAt H' d kvs cs U := ⟨e _ _ h.1, h.2⟩
theorem sorted_last {H : Hp} {cs : List Str} {num : Str → Int} {ts ys : List Addr} (hP : Paired (fun t x => H t = some (.tup [.int (num x), .str x])) ts cs) (hp : ys.Perm ts) (hs : ys.Pairwise fun x y => (keyIS H x).1 ≤ (keyIS H y).1) (hne : cs ≠ []) :
    ∃ y r x, ys = r ++ [y] ∧ x ∈ cs ∧ H y = some (.tup [.int (num x), .str x]) ∧ ∀ z ∈ cs, num z ≤ num x := by
  have all : ∀ {ts : List Addr} {cs : List Str}, Paired (fun t x => H t = some (.tup [.int (num x), .str x])) ts cs → (∀ t ∈ ts, ∃ x ∈ cs, H t = some (.tup [.int (num x), .str x])) ∧ ∀ x ∈ cs, ∃ t ∈ ts, H t = some (.tup [.int (num x), .str x]) := by
    intro ts cs h
    induction h with
    | nil => exact ⟨(fun t h => nomatch h), (fun t h => nomatch h)⟩
    | @cons t x ts cs h _ ih =>
      refine ⟨fun u hu => ?_, fun u hu => ?_⟩
      · rcases List.mem_cons.mp hu with z | z
        · rw [z]; exact ⟨x, List.mem_cons_self, h⟩
        · obtain ⟨y, h1, h2⟩ := ih.1 u z
          exact ⟨y, List.mem_cons_of_mem _ h1, h2⟩
      · rcases List.mem_cons.mp hu with z | z
        · rw [z]; exact ⟨t, List.mem_cons_self, h⟩
        · obtain ⟨y, h1, h2⟩ := ih.2 u z
          exact ⟨y, List.mem_cons_of_mem _ h1, h2⟩
  obtain ⟨a1, a2⟩ := all hP
  have hl := hp.length_eq
  have hl2 := paired_len hP
  have hy : ys ≠ [] := fun z => hne (List.length_eq_zero_iff.mp (by rw [z] at hl; simp at hl; omega))
  obtain ⟨r, y, hr⟩ : ∃ r y, ys = r ++ [y] := ⟨ys.dropLast, ys.getLast hy, (List.dropLast_concat_getLast hy).symm⟩
  obtain ⟨x, hx, hyx⟩ := a1 y (hp.mem_iff.mp (by rw [hr]; simp))
  refine ⟨y, r, x, hr, hx, hyx, fun z hz => ?_⟩
  obtain ⟨u, hu, hu2⟩ := a2 z hz
  have hu3 := hp.mem_iff.mpr hu
  have k1 : (keyIS H y).1 = num x := by rw [keyIS_at hyx]
  have k2 : (keyIS H u).1 = num z := by rw [keyIS_at hu2]
  rw [hr] at hu3 hs
  rcases List.mem_append.mp hu3 with e | e
  · have := (List.pairwise_append.mp hs).2.2 u e y (List.mem_singleton.mpr rfl)
    rw [← k1, ← k2]
    exact this
  · rw [List.mem_singleton.mp e] at k2
    rw [← k1, ← k2]
    exact Int.le_refl _
theorem at_lastS {α : Type} {r : List α} {x : α} : atI (r ++ [x]) (-1) = some x := by
  have e : ixN (r ++ [x]).length (-1) = some ((r ++ [x]).length - 1) := by
    unfold ixN
    rw [if_neg (by decide), if_pos (by rw [List.length_append]; show -(((r.length + 1 : Nat)) : Int) ≤ _; omega)]
    congr 1
    rw [List.length_append]
    show (((r.length + 1 : Nat) : Int) + -1).toNat = r.length + 1 - 1
    omega
  unfold atI
  rw [e]
  show (r ++ [x])[(r ++ [x]).length - 1]? = some x
  rw [List.length_append]
  show (r ++ [x])[r.length + 1 - 1]? = some x
  rw [Nat.add_sub_cancel, List.getElem?_append_right (Nat.le_refl _), Nat.sub_self]
  rfl
section
variable {K : PySem.W.Frag} {σ : L2.St} {H H1 H' : Hp} {ta tb tc te tx ty td tl : TE} {t : TT} {x y z v : V} {D : Ends} {Q : VK}
theorem ev_dgetN {d : Addr} {kvs : List (Key × V)} {p : Str} {w : V} (hd : H d = some (.dK kvs)) (hw : valV kvs (.inr p) = some w) (h1 : Ev td σ H (.ref d)) (h2 : Ev ty σ H (.str p)) : Ev (tDGet td ty) σ H w := fun H1 e Q q =>
  h1 H1 e _ fun H2 e2 => h2 H2 (e.trans e2) _ fun H3 e3 => ⟨d, w, rfl, by
    have gd := DGet.k (k := .inr p) (((e.trans e2).trans e3) _ _ hd)
    rw [hw] at gd
    exact gd, q H3 (e2.trans e3)⟩
theorem et_neNil {p : Addr} {cs : List Str} (h : Ev ta σ H (.ref p)) (hp : H p = some (.lst (cs.map V.str))) (hc : ∀ x ∈ cs, pageB x = true) : EvT (tTest (tOp (rNeD K) ta (tLst tNil))) σ H (!cs.isEmpty) :=
  et_test (ev_opL h (el_lst ea_nil (Nat.zero_le _)) fun q H1 hq e1 H2 e2 Q k => ⟨.list (cs.map PyData.str), .list [], .lst (sq_of ((e1.trans e2) _ _ hp)) (dp_strs cs), .lst (sq_of (e2 _ _ hq)) .nil, shaped_strs hc, by decide, by rw [eqv_nil]; exact k H2 (Ex.refl H2)⟩)
theorem go_op {r : R2} (h : ta σ H fun x H1 => tb σ H1 fun y H2 => r x y H2 Q) : tOp r ta tb σ H Q := h
theorem go_CB {r : List V → Hp → VK → Prop} {tr : TA} (h : tr σ H fun xs H1 => r xs H1 Q) : tCB r tr σ H Q := h
theorem go_cons {tr : TA} {Q : List V → Hp → Prop} (h : te σ H fun x H1 => tr σ H1 fun xs H2 => Q (x :: xs) H2) : tCons te tr σ H Q := h
theorem _root_.L2.Room.units1 {k : Nat} {A : Around} (r : Room k A) : A.units + 1 < cLine := by have := r.units; omega
theorem filter_yes {α : Type} (xs : List α) : xs.filter (fun _ => true) = xs := List.filter_eq_self.mpr fun _ _ => rfl
/-- sorted([(num(x), x) for x in xs])[0][1] -/
theorem ev_least {a : Addr} {cs : List Str} {j : Nat} {vs : List Nat} (num : Str → Int) (h : Ev tl σ H (.ref a)) (hq : SqL K H a (cs.map V.str)) (hz : cs.length ≤ 40000) (hne : cs ≠ []) (hw : ∀ x, wipe ((wipe σ vs).set j (some x)) vs = wipe σ vs)
    (hs : ∀ x H1, x ∈ cs → Ex H H1 → EvU te ((wipe σ vs).set j (some (.str x))) H1 [.int (num x), .str x]) (hd : ∀ v H1, v ∈ cs → (∀ q ∈ cs, num v ≤ num q) → Ex H H1 → Q (.str v) H1) :
    tOp (rIxT K) (tOp (rIxL K) (tCB (rSortIS K) (tCons (tLc (iList K tl) (gName j) tYes te vs) tNil)) (tC (.int 0))) (tC (.int 1)) σ H Q := by
  refine go_op (go_op (go_CB (go_cons ?_)))
  refine w_lcLTF (fun _ => true) (fun x => [.int (num x), .str x]) h hq hz hw (fun _ _ _ _ => et_yes) (fun x H1 hx e _ => hs x H1 hx e) fun p ts H1 np e1 hp hP => ?_
  rw [filter_yes] at hP
  refine ⟨p, ts, keyIS H1, rfl, sq_of hp, fun t ht => (keys_all hP t ht).1, fun ys p2 perm pw np2 => ?_⟩
  have x2 := Ex.new (o := .lst (ys.map V.ref)) np2
  rcases sorted_first hP perm pw with ⟨z, _⟩ | ⟨y, r, x, hy, hx, hyx, hle⟩
  · exact absurd z hne
  · exact ⟨p2, ys.map V.ref, 0, .ref y, rfl, rfl, sq_of upd_same, atI_nat (j := 0) (by rw [hy]; rfl), y, [.int (num x), .str x], 1, .str x, rfl, rfl, st_of (x2 _ _ hyx), atI_nat (j := 1) rfl, hd x _ hx hle (e1.trans x2)⟩
/-- sorted([(num(x), x) for x in xs])[-1][1] -/
theorem ev_most {a : Addr} {cs : List Str} {j : Nat} {vs : List Nat} (num : Str → Int) (h : Ev tl σ H (.ref a)) (hq : SqL K H a (cs.map V.str)) (hz : cs.length ≤ 40000) (hne : cs ≠ []) (hw : ∀ x, wipe ((wipe σ vs).set j (some x)) vs = wipe σ vs)
    (hs : ∀ x H1, x ∈ cs → Ex H H1 → EvU te ((wipe σ vs).set j (some (.str x))) H1 [.int (num x), .str x]) (hd : ∀ v H1, v ∈ cs → (∀ q ∈ cs, num q ≤ num v) → Ex H H1 → Q (.str v) H1) :
    tOp (rIxT K) (tOp (rIxL K) (tCB (rSortIS K) (tCons (tLc (iList K tl) (gName j) tYes te vs) tNil)) (tUn (rU fun i => .int (-i)) (tC (.int 1)))) (tC (.int 1)) σ H Q := by
  refine go_op (go_op (go_CB (go_cons ?_)))
  refine w_lcLTF (fun _ => true) (fun x => [.int (num x), .str x]) h hq hz hw (fun _ _ _ _ => et_yes) (fun x H1 hx e _ => hs x H1 hx e) fun p ts H1 np e1 hp hP => ?_
  rw [filter_yes] at hP
  refine ⟨p, ts, keyIS H1, rfl, sq_of hp, fun t ht => (keys_all hP t ht).1, fun ys p2 perm pw np2 => ?_⟩
  have x2 := Ex.new (o := .lst (ys.map V.ref)) np2
  obtain ⟨y, r, x, hy, hx, hyx, hle⟩ := sorted_last hP perm pw hne
  exact ⟨1, rfl, p2, ys.map V.ref, -1, .ref y, rfl, rfl, sq_of upd_same, by rw [hy, List.map_append]; exact at_lastS, y, [.int (num x), .str x], 1, .str x, rfl, rfl, st_of (x2 _ _ hyx), atI_nat (j := 1) rfl, hd x _ hx hle (e1.trans x2)⟩
end
section
variable {P : Program} {w : World} {K : PySem.W.Frag} {mg : Str → Option Value} {base : Heap}
theorem scNext : FnScope ["page", "later"] ["page", "later"] (defScope sNext) := ⟨rfl, rfl, rfl, by decide +kernel, rfl, by decide +kernel, by decide +kernel⟩
def spNext (K : PySem.W.Frag) : Sp := fun vs H Q _ => ∃ (p : Str) (l : Addr) (ls : List Str), vs = [.str p, .ref l] ∧ SqL K H l (ls.map V.str) ∧ RetV (nextV p ls) H Q
theorem ok_next {f : Addr} {fd : FuncData} {k : Nat} (F : Fun K "_law_next" "_law_next" sNext f fd) : FnOk P w K mg base CX0 (k + 1) f fd ["page", "later"] (spNext K) := by
  refine F.ok scNext (fun vs H Q E h => ?_) (fun cdv A outer s H vs Q E hr h => ?_)
  · obtain ⟨p, l, ls, rfl, _⟩ := h
    rfl
  · obtain ⟨p, l, ls, rfl, hl, q⟩ := h
    refine ⟨_, pss_one (ps_ret (pe_ifExp (pt_cmpR (r := rIn K false) op_in_seq (pv 0) (pv 1) (by with_unfolding_all rfl)) (pe_bm PySem.F.plainAttrs_list PySem.F.slot_list_index PySem.F.type_list_index mt_index (pv 1) (pa_cons (pv 0) pa_nil)) pe_non)), ?_⟩
    refine s_ret (v := nextV p ls) (ev_if (b := decide (p ∈ ls)) (et_is (et_test (ev_op (ev_var rfl) (ev_var rfl) (rv_isL hl rfl (flat_all _)))) (in_strs p _)) (fun hb => ?_) (fun hb => ?_)) q
    · have hin := of_decide_eq_true hb
      intro H1 e Q' q'
      have hlt := List.idxOf_lt_length_iff.mpr hin
      refine ⟨.ref l, rfl, .inl ⟨rfl, _, ex_l e hl⟩, .str p, rfl, l, ls.map V.str, .str p, ixS p ls, .str p, rfl, rfl, ex_l e hl, rfl, flat_all _, ?_, by rw [eqV_str]; exact beq_self_eq_true p, fun m z hm hz => ?_, ?_⟩
      · rw [List.getElem?_map, show ls[ixS p ls]? = some p from by unfold ixS; rw [List.getElem?_eq_getElem hlt, List.getElem_idxOf hlt]]
        rfl
      · rw [List.getElem?_map] at hz
        obtain ⟨u, hu, rfl⟩ := Option.map_eq_some_iff.mp hz
        rw [eqV_str]
        refine beq_eq_false_iff_ne.mpr fun e2 => ?_
        subst e2
        have := (List.getElem?_eq_some_iff.mp hu)
        obtain ⟨h1, h2⟩ := this
        have h3 := List.not_of_lt_findIdx (p := fun x => x == u) (xs := ls) (i := m) hm
        rw [h2, beq_self_eq_true] at h3
        cases h3
      · have : nextV p ls = .int (ixS p ls : Int) := if_pos hin
        rw [this] at q'
        exact q' H1 (Ex.refl H1)
    · have hin := of_decide_eq_false hb
      have : nextV p ls = .non := if_neg hin
      rw [this]
      exact ev_c
/-! the victim -/
abbrev NLV : List Str := ["word", "here", "used", "added", "later", "idle", "page"]
abbrev PLV : List Str := ["word", "here", "used", "added", "later"]
theorem scLV : FnScope NLV PLV (defScope sLVictim) := ⟨rfl, rfl, rfl, by decide +kernel, rfl, by decide +kernel, by decide +kernel⟩
def spLVictim (K : PySem.W.Frag) : Sp := fun vs H Q _ => ∃ (r : Str) (a du da l : Addr) (cs ls : List Str) (ku ka : List (Key × V)) (U A : Str → Int), vs = [.str r, .ref a, .ref du, .ref da, .ref l] ∧ isRule r ∧ H a = some (.lst (cs.map V.str)) ∧ cs ≠ [] ∧ cs.length ≤ 600 ∧ (∀ p ∈ cs, pageB p = true) ∧
  NumAt H du ku cs U ∧ NumAt H da ka cs A ∧ SqL K H l (ls.map V.str) ∧ ∀ v H', v ∈ cs → VicOk r cs ls U A v → Ex H H' → Q (.str v) H'
def idleB (r : Str) (ls : List Str) (p : Str) : Bool := decide (V.str r = V.str "LRU") || decide (nextV p ls = .non)
theorem idle_iff {r : Str} {ls : List Str} {p : Str} : idleB r ls p = true ↔ r = lruS ∨ p ∉ ls := by
  unfold idleB
  rw [Bool.or_eq_true, decide_eq_true_eq, decide_eq_true_eq]
  constructor
  · rintro (h | h)
    · exact .inl (V.str.inj h)
    · refine .inr fun z => ?_
      unfold nextV at h
      rw [if_pos z] at h
      cases h
  · rintro (h | h)
    · exact .inl (by rw [h]; rfl)
    · exact .inr (if_neg h)
theorem ok_lVictim {f : Addr} {fd : FuncData} (F : Fun K "_law_victim" "_law_victim" sLVictim f fd) (B : Bn mg) (BS : Bso mg) (cN : Cl P w K mg base 1 "_law_next" ["page", "later"] (spNext K)) : FnOk P w K mg base CX0 2 f fd PLV (spLVictim K) := by
  refine F.ok scLV (fun vs H Q E h => ?_) (fun cdv A outer s H vs Q E hr h => ?_)
  · obtain ⟨r, a, du, da, l, cs, ls, ku, ka, U, A, rfl, _⟩ := h
    rfl
  · obtain ⟨r, a, du, da, l, cs, ls, ku, ka, U, A, rfl, hR, ha, hne, hz, hpg, hu, hd, hl, q⟩ := h
    have nd := scLV.nd
    refine ⟨_, pss_cons (ps_if (pt_cmpR op_eq (pv 0) pe_str (nomark _)) (pss_one (ps_ret (pe_ix (r := rIxT K) ix_tup (pe_ix (r := rIxL K) ix_list (pe_callB (cr_sortedIS hr.units) (by rfl) BS.sorted bt_sorted (pa_cons
          (pe_lc (own := [("page", 6)]) (g := gName 6) (tt := tYes) (te := tTup (tCons (tDGet (tVar 3) (tVar 6)) (tCons (tVar 6) tNil))) rfl nd (pi_list (pv 1)) (blkOk_by (N := NLV) (sc := defScope sLVictim) (by decide +kernel))
            (fun _ _ _ _ _ => pg_name (i := 6) nd rfl (Or.inl rfl)) (fun _ _ _ _ _ => pts_nil) (fun _ _ _ _ _ => pe_tup (pa_cons (pe_dget hr.units1 (pv 3) (pv 6) (fun _ _ => rfl)) (pa_cons (pv 6) pa_nil)))) pa_nil)) pe_int (fun _ _ => rfl)) pe_int (fun _ _ => rfl)))) pss_nil)
      (pss_cons (ps_setLc (i := 5) (own := [("page", 6)]) (g := gName 6) (tt := tOr (tTest (tOp rEq (tVar 0) (tC (.str "LRU")))) (tTest (tOp (fun x y H Q => y = .non ∧ Q (.bl (decide (x = .non))) H) (tCall (spNext K) [] E0 (tCons (tVar 6) (tCons (tVar 4) tNil))) (tC .non)))) (te := tVar 6) (by rfl) nd rfl rfl (sw_true rfl rfl rfl (by decide +kernel)) (pi_list (pv 1)) (blkOk_by (N := NLV) (sc := defScope sLVictim) (by decide +kernel))
            (fun _ _ _ _ _ => pg_name (i := 6) nd rfl (Or.inl rfl)) (fun _ _ _ _ _ => pts_one (PW.pt (pw_or (pt_cmpR op_eq (pv 0) pe_str (nomark _)) (pw_or1 (pt_cmpR op_isN (pe_cl cN hr (pa_cons (pv 6) (pa_cons (pv 4) pa_nil))) pe_non (nomark _)))))) (fun _ _ _ _ _ => pv 6))
      (pss_cons (ps_if (pt_cmpR (op_neD hr.units) (pv 5) (pe_lst pa_nil) (nomark _)) (pss_one (ps_ret (pe_ix (r := rIxT K) ix_tup (pe_ix (r := rIxL K) ix_list (pe_callB (cr_sortedIS hr.units) (by rfl) BS.sorted bt_sorted (pa_cons
          (pe_lc (own := [("page", 6)]) (g := gName 6) (tt := tYes) (te := tTup (tCons (tDGet (tVar 2) (tVar 6)) (tCons (tVar 6) tNil))) rfl nd (pi_list (pv 5)) (blkOk_by (N := NLV) (sc := defScope sLVictim) (by decide +kernel))
            (fun _ _ _ _ _ => pg_name (i := 6) nd rfl (Or.inl rfl)) (fun _ _ _ _ _ => pts_nil) (fun _ _ _ _ _ => pe_tup (pa_cons (pe_dget hr.units1 (pv 2) (pv 6) (fun _ _ => rfl)) (pa_cons (pv 6) pa_nil)))) pa_nil)) pe_int (fun _ _ => rfl)) pe_int (fun _ _ => rfl)))) pss_nil)
      (pss_one (ps_ret (pe_ix (r := rIxT K) ix_tup (pe_ix (r := rIxL K) ix_list (pe_callB (cr_sortedIS hr.units) (by rfl) BS.sorted bt_sorted (pa_cons
          (pe_lc (own := [("page", 6)]) (g := gName 6) (tt := tYes) (te := tTup (tCons (tCall (spNext K) [] E0 (tCons (tVar 6) (tCons (tVar 4) tNil))) (tCons (tVar 6) tNil))) rfl nd (pi_list (pv 1)) (blkOk_by (N := NLV) (sc := defScope sLVictim) (by decide +kernel))
            (fun _ _ _ _ _ => pg_name (i := 6) nd rfl (Or.inl rfl)) (fun _ _ _ _ _ => pts_nil) (fun _ _ _ _ _ => pe_tup (pa_cons (pe_cl cN hr (pa_cons (pv 6) (pa_cons (pv 4) pa_nil))) (pa_cons (pv 6) pa_nil)))) pa_nil)) (pe_un un_neg pe_int) (fun _ _ => rfl)) pe_int (fun _ _ => rfl)))))), ?_⟩
    refine q_when (b := decide (V.str r = V.str "FIFO")) (et_test (ev_op (ev_var rfl) ev_c (rv_eq rfl))) (fun hb H1 e1 => ?_) (fun hb H1 e1 => ?_)
    · have hr1 : r = fifoS := V.str.inj (of_decide_eq_true hb)
      refine ev_least A (ev_var rfl) (sq_of (e1 _ _ ha)) (by omega) hne (fun _ => rfl) (fun x H2 hx e2 => eu_tup (ea_cons (ev_dgetN ((e1.trans e2) _ _ hd.1) (hd.2 x hx) (ev_var rfl) (ev_var rfl)) (ea_cons (ev_var rfl) ea_nil)) (show 2 ≤ 100000 by decide)) fun v H2 hv hle e2 => q v H2 hv (.inl ⟨hr1, hle⟩) (e1.trans e2)
    · have hr1 : r ≠ fifoS := fun z => of_decide_eq_false hb (by rw [z]; rfl)
      refine q_asgL (el_lcSt (idleB r ls) (ev_var rfl) (sq_of (e1 _ _ ha)) (by omega) (fun _ => rfl) (fun x H2 hx e2 => ?_) (fun x H2 hx e2 => ev_var rfl)) fun ip H2 nip e2 hip => ?_
      · refine et_or (et_test (ev_op (ev_var rfl) ev_c (rv_eq rfl))) fun _ => et_test (ev_op (ev_fn (ea_cons (ev_var rfl) (ea_cons (ev_var rfl) ea_nil)) fun H4 e4 Q' k => ⟨x, l, ls, rfl, ex_l ((e1.trans e2).trans e4) hl, k⟩) ev_c fun H1 e Q q => ⟨rfl, q H1 (Ex.refl H1)⟩)
      have e12 := e1.trans e2
      have hfl : (cs.filter (idleB r ls)).length ≤ 600 := Nat.le_trans (List.length_filter_le _ _) hz
      refine q_when (b := !(cs.filter (idleB r ls)).isEmpty) (et_neNil (ev_var rfl) hip fun x hx => hpg x (List.mem_filter.mp hx).1) (fun hb2 H3 e3 => ?_) (fun hb2 H3 e3 => ?_)
      · have e13 := e12.trans e3
        have hn2 : cs.filter (idleB r ls) ≠ [] := fun z => by rw [z] at hb2; cases hb2
        refine ev_least U (ev_var rfl) (sq_of (e3 _ _ hip)) (by omega) hn2 (fun _ => rfl) (fun x H4 hx e4 => eu_tup (ea_cons (ev_dgetN ((e13.trans e4) _ _ hu.1) (hu.2 x (List.mem_filter.mp hx).1) (ev_var rfl) (ev_var rfl)) (ea_cons (ev_var rfl) ea_nil)) (show 2 ≤ 100000 by decide)) fun v H4 hv hle e4 => q v H4 (List.mem_filter.mp hv).1 (.inr ?_) (e13.trans e4)
        by_cases hl1 : r = lruS
        · exact .inl ⟨hl1, fun p hp => hle p (List.mem_filter.mpr ⟨hp, idle_iff.mpr (.inl hl1)⟩)⟩
        · have ho : r = optS := hR.elim (fun z => absurd z hl1) fun z => z.elim (fun z => absurd z hr1) id
          refine .inr (.inl ⟨ho, (idle_iff.mp (List.mem_filter.mp hv).2).elim (fun z => absurd z hl1) id, fun p hp hpl => hle p (List.mem_filter.mpr ⟨hp, idle_iff.mpr (.inr hpl)⟩)⟩)
      · have e13 := e12.trans e3
        have hn2 : cs.filter (idleB r ls) = [] := by
          cases hc : cs.filter (idleB r ls) with
          | nil => rfl
          | cons a t => rw [hc] at hb2; cases hb2
        have hall : ∀ p ∈ cs, p ∈ ls ∧ r ≠ lruS := fun p hp => by
          have h0 := List.filter_eq_nil_iff.mp hn2 p hp
          refine ⟨Decidable.byContradiction fun z => h0 (idle_iff.mpr (.inr z)), fun z => h0 (idle_iff.mpr (.inl z))⟩
        refine ev_most (fun p => (ixS p ls : Int)) (ev_var rfl) (sq_of (e13 _ _ ha)) (by omega) hne (fun _ => rfl) (fun x H4 hx e4 => ?_) fun v H4 hv hle e4 => q v H4 hv (.inr (.inr (.inr ?_))) (e13.trans e4)
        · refine eu_tup (ea_cons (ev_fn (ea_cons (ev_var rfl) (ea_cons (ev_var rfl) ea_nil)) fun H5 e5 Q' k => ⟨x, l, ls, rfl, ex_l ((e13.trans e4).trans e5) hl, ?_⟩) (ea_cons (ev_var rfl) ea_nil)) (show 2 ≤ 100000 by decide)
          have : nextV x ls = .int (ixS x ls : Int) := if_pos (hall x hx).1
          rw [this]
          exact k
        · have hl1 := (hall v hv).2
          have ho : r = optS := hR.elim (fun z => absurd z hl1) fun z => z.elim (fun z => absurd z hr1) id
          exact ⟨ho, fun p hp => (hall p hp).1, fun p hp => by have := hle p hp; omega⟩
end
end KB

set_option Elab.async false
set_option linter.all false
set_option maxRecDepth 100000
set_option maxHeartbeats 8000000
/-! R5a: the law's own shelf and times against the rules. -/
namespace KB
open PySem L2 Evl
/-- the numbers by which the shelf stands in order -/
def tmOf (r : Str) (U A : Str → Int) : Str → Int := if r = fifoS then A else U
structure RuM (r : Str) (cs : List Str) (U A : Str → Int) (ku ka : List (Key × V)) (shelf : List Str) (i : Nat) : Prop where
  pm : cs.Perm shelf
  vu : ∀ p ∈ cs, valV ku (.inr p) = some (.int (U p))
  va : ∀ p ∈ cs, valV ka (.inr p) = some (.int (A p))
  lt : ∀ p ∈ cs, U p < i ∧ A p < i
  tm : Timed (tmOf r U A) shelf
  lu : ku.length ≤ 200 + i
  la : ka.length ≤ 200 + i
def putF (U : Str → Int) (p : Str) (i : Nat) : Str → Int := fun q => if q = p then (i : Int) else U q
theorem putF_same {U : Str → Int} {p : Str} {i : Nat} : putF U p i p = i := if_pos rfl
theorem putF_ne {U : Str → Int} {p q : Str} {i : Nat} (h : q ≠ p) : putF U p i q = U q := if_neg h
theorem val_putF {kvs : List (Key × V)} {U : Str → Int} {cs : List Str} {p : Str} {i : Nat} (h : ∀ q ∈ cs, valV kvs (.inr q) = some (.int (U q))) : ∀ q, q = p ∨ q ∈ cs → valV (putK kvs (.inr p) (.int (i : Int))) (.inr q) = some (.int (putF U p i q)) := fun q hq => by
  rw [valV_put]
  by_cases e : q = p
  · rw [if_pos (by rw [e]), e, putF_same]
  · rw [if_neg (fun z => e (by injection z)), putF_ne e]
    exact h q (hq.resolve_left e)
section
variable {r : Str} {cs shelf ls : List Str} {U A : Str → Int} {ku ka : List (Key × V)} {i : Nat} {p v : Str}
theorem RuM.mem (m : RuM r cs U A ku ka shelf i) (q : Str) : q ∈ cs ↔ q ∈ shelf := m.pm.mem_iff
theorem RuM.lt' (m : RuM r cs U A ku ka shelf i) {q : Str} (h : q ∈ shelf) : tmOf r U A q < i := by
  have := m.lt q ((m.mem q).mpr h)
  unfold tmOf
  split
  · exact this.2
  · exact this.1
/-- a requested page that is there -/
theorem RuM.hit (m : RuM r cs U A ku ka shelf i) (nd : shelf.Nodup) (hp : p ∈ shelf) : RuM r cs (putF U p i) A (putK ku (.inr p) (.int (i : Int))) ka (if r ≠ fifoS then shelf.erase p ++ [p] else shelf) (i + 1) where
  pm := by
    split
    · exact m.pm.trans ((List.perm_cons_erase hp).trans (List.perm_append_singleton _ _).symm)
    · exact m.pm
  vu := fun q hq => val_putF m.vu q (.inr hq)
  va := m.va
  lt := fun q hq => by
    have := m.lt q hq
    by_cases e : q = p
    · rw [e, putF_same, ← e]; omega
    · rw [putF_ne e]; omega
  tm := by
    by_cases e : r ≠ fifoS
    · rw [if_pos e]
      have h := m.tm
      have l := fun q hq => m.lt' (q := q) hq
      unfold tmOf at h l ⊢
      rw [if_neg e] at h ⊢
      rw [if_neg e] at l
      exact (h.erase p).put (fun z => (List.Nodup.mem_erase_iff nd).mp z |>.1 rfl) fun q hq => l q (List.mem_of_mem_erase hq)
    · rw [if_neg e]
      have h := m.tm
      unfold tmOf at h ⊢
      rw [if_pos (Decidable.not_not.mp e)] at h ⊢
      exact h
  lu := by have := length_putK ku (.inr p) (.int (i : Int)); have := m.lu; omega
  la := by have := m.la; omega
/-- a page goes -/
theorem RuM.evict (m : RuM r cs U A ku ka shelf i) (nd : shelf.Nodup) : RuM r (cs.filter fun o => !decide (o = v)) U A ku ka (shelf.erase v) i where
  pm := by
    rw [nd.erase_eq_filter]
    have := m.pm.filter fun o => !decide (o = v)
    have e : (fun o : Str => !decide (o = v)) = fun o => o != v := by
      funext o
      rw [bne, Bool.beq_eq_decide_eq]
    rw [e] at this ⊢
    exact this
  vu := fun q hq => m.vu q (List.mem_filter.mp hq).1
  va := fun q hq => m.va q (List.mem_filter.mp hq).1
  lt := fun q hq => m.lt q (List.mem_filter.mp hq).1
  tm := m.tm.erase v
  lu := m.lu
  la := m.la
/-- a page comes -/
theorem RuM.put (m : RuM r cs U A ku ka shelf i) (hp : p ∉ shelf) : RuM r (cs ++ [p]) (putF U p i) (putF A p i) (putK ku (.inr p) (.int (i : Int))) (putK ka (.inr p) (.int (i : Int))) (shelf ++ [p]) (i + 1) where
  pm := m.pm.append_right _
  vu := fun q hq => val_putF m.vu q ((List.mem_append.mp hq).elim .inr fun z => .inl (List.mem_singleton.mp z))
  va := fun q hq => val_putF m.va q ((List.mem_append.mp hq).elim .inr fun z => .inl (List.mem_singleton.mp z))
  lt := fun q hq => by
    by_cases e : q = p
    · rw [e, putF_same, putF_same]; omega
    · have := m.lt q ((List.mem_append.mp hq).resolve_right fun z => e (List.mem_singleton.mp z))
      rw [putF_ne e, putF_ne e]
      omega
  tm := by
    have l := fun q hq => m.lt' (q := q) hq
    have h := m.tm
    have := h.put hp l
    unfold tmOf at this ⊢
    by_cases e : r = fifoS
    · rw [if_pos e] at this ⊢; exact this
    · rw [if_neg e] at this ⊢; exact this
  lu := by have := length_putK ku (.inr p) (.int (i : Int)); have := m.lu; omega
  la := by have := length_putK ka (.inr p) (.int (i : Int)); have := m.la; omega
/-- the law's victim is the rule's -/
theorem RuM.victim (m : RuM r cs U A ku ka shelf i) (hv : v ∈ cs) (h : VicOk r cs ls U A v) : victimS r shelf ls = v := by
  refine victim_is m.tm ((m.mem v).mp hv) ?_
  have fo : fifoS ≠ optS := by decide
  have lo : lruS ≠ optS := by decide
  have lf : lruS ≠ fifoS := by decide
  rcases h with ⟨e, h⟩ | ⟨e, h⟩ | ⟨e, h1, h⟩ | ⟨e, h1, h⟩
  · refine .inl ⟨by rw [e]; exact fo, fun q hq => ?_⟩
    unfold tmOf
    rw [if_pos e]
    exact h q ((m.mem q).mpr hq)
  · refine .inl ⟨by rw [e]; exact lo, fun q hq => ?_⟩
    unfold tmOf
    rw [if_neg (by rw [e]; exact lf)]
    exact h q ((m.mem q).mpr hq)
  · refine .inr (.inl ⟨e, h1, fun q hq hl => ?_⟩)
    unfold tmOf
    rw [if_neg (by rw [e]; exact fun z => fo z.symm)]
    exact h q ((m.mem q).mpr hq) hl
  · exact .inr (.inr ⟨e, fun q hq => h1 q ((m.mem q).mpr hq), fun q hq => h q ((m.mem q).mpr hq)⟩)
end
/-! the beginning -/
theorem mergeK_mem : ∀ (kvs acc : List (Key × V)) (k : Key) (v : V), (∀ x ∈ kvs, ∀ y ∈ kvs, x.1 = y.1 → x.2 = y.2) → ((k, v) ∈ kvs → valV (mergeK acc kvs) k = some v) ∧ ((∀ v', (k, v') ∉ kvs) → valV (mergeK acc kvs) k = valV acc k)
  | [], acc, k, v, _ => ⟨fun h => (by cases h), fun _ => rfl⟩
  | x :: kvs, acc, k, v, hu => by
    have hu2 : ∀ a ∈ kvs, ∀ b ∈ kvs, a.1 = b.1 → a.2 = b.2 := fun a ha b hb => hu a (List.mem_cons_of_mem _ ha) b (List.mem_cons_of_mem _ hb)
    have ih := fun v => mergeK_mem kvs (putK acc x.1 x.2) k v hu2
    constructor
    · intro h
      rcases List.mem_cons.mp h with z | z
      · by_cases h2 : ∃ v', (k, v') ∈ kvs
        · obtain ⟨v', hv'⟩ := h2
          have e : v' = v := by
            have := hu (k, v') (List.mem_cons_of_mem _ hv') x List.mem_cons_self (by rw [← z])
            rw [← z] at this
            exact this
          rw [← e]
          exact (ih v').1 hv'
        · have := (ih v).2 fun v' hv' => h2 ⟨v', hv'⟩
          show valV (mergeK (putK acc x.1 x.2) kvs) k = _
          rw [this, ← z, valV_put, if_pos rfl]
      · exact (ih v).1 z
    · intro h
      show valV (mergeK (putK acc x.1 x.2) kvs) k = _
      rw [(ih v).2 fun v' hv' => h v' (List.mem_cons_of_mem _ hv'), valV_put, if_neg fun z => h x.2 (by rw [z]; exact List.mem_cons_self)]
def startF (ps : List Str) (i : Nat) : Key × V := (.inr (ps.getD i ""), .int ((i : Int) - 200))
def startK (ps : List Str) : List (Key × V) := (List.range ps.length).map (startF ps)
def startD (ps : List Str) : List (Key × V) := mergeK [] (startK ps)
def startU (ps : List Str) (p : Str) : Int := (ps.idxOf p : Int) - 200
theorem start_val {ps : List Str} (nd : ps.Nodup) {p : Str} (hp : p ∈ ps) : valV (startD ps) (.inr p) = some (.int (startU ps p)) := by
  refine (mergeK_mem (startK ps) [] (.inr p) (.int (startU ps p)) ?_).1 ?_
  · intro x hx y hy e
    obtain ⟨i, hi, rfl⟩ := List.mem_map.mp hx
    obtain ⟨j, hj, rfl⟩ := List.mem_map.mp hy
    have hi := List.mem_range.mp hi
    have hj := List.mem_range.mp hj
    have e : ps.getD i "" = ps.getD j "" := by
      have e : (Sum.inr (ps.getD i "") : Key) = .inr (ps.getD j "") := e
      injection e
    rw [List.getD_eq_getElem?_getD, List.getD_eq_getElem?_getD, List.getElem?_eq_getElem hi, List.getElem?_eq_getElem hj] at e
    have e : ps[i] = ps[j] := e
    have : i = j := by rw [← List.Nodup.idxOf_getElem nd i hi, e, List.Nodup.idxOf_getElem nd j hj]
    rw [this]
  · have hlt := List.idxOf_lt_length_iff.mpr hp
    refine List.mem_map.mpr ⟨ps.idxOf p, List.mem_range.mpr hlt, ?_⟩
    unfold startF startU
    rw [List.getD_eq_getElem?_getD, List.getElem?_eq_getElem hlt, List.getElem_idxOf hlt]
    rfl
theorem start_timed {ps : List Str} (nd : ps.Nodup) : Timed (startU ps) ps := by
  unfold Timed
  rw [List.pairwise_iff_getElem]
  intro i j hi hj hij
  unfold startU
  rw [List.Nodup.idxOf_getElem nd, List.Nodup.idxOf_getElem nd]
  omega
theorem start_RuM {r : Str} {ps : List Str} (h : Pages ps) : RuM r ps (startU ps) (startU ps) (startD ps) (startD ps) ps 0 := by
  have len : (startD ps).length ≤ 200 + 0 := by
    have h1 := length_mergeK (startK ps) []
    have h2 : (startK ps).length = ps.length := by unfold startK; rw [List.length_map, List.length_range]
    have h3 := h.len
    show (mergeK [] (startK ps)).length ≤ _
    rw [h2] at h1
    simp at h1
    omega
  refine ⟨.refl _, fun p hp => start_val h.nd hp, fun p hp => start_val h.nd hp, fun p hp => ?_, ?_, len, len⟩
  · have hlt := List.idxOf_lt_length_iff.mpr hp
    have h3 := h.len
    unfold startU
    omega
  · unfold tmOf
    split <;> exact start_timed h.nd
end KB

set_option Elab.async false
set_option linter.all false
set_option maxRecDepth 100000
set_option maxHeartbeats 8000000
/-! R5: the law's own play, walked. -/
namespace KB
open PySem L2 Evl
/-- what the law's play holds in memory -/
structure RuS (H H' : Hp) (cp hp gp du da : Addr) (ts : List Addr) (cs : List Str) (lg : List Ev1) (gn : List Str) (ku ka : List (Key × V)) : Prop where
  ex : Ex H H'
  hcp : H' cp = some (.lst (cs.map V.str))
  hhp : H' hp = some (.lst (ts.map V.ref))
  hts : Paired (TupAt H') ts lg
  hgp : H' gp = some (.lst (gn.map V.str))
  hdu : H' du = some (.dK ku)
  hda : H' da = some (.dK ka)
  f1 : H cp = none
  f2 : H hp = none
  f3 : H gp = none
  f4 : H du = none
  f5 : H da = none
  d1 : cp ≠ hp
  d2 : cp ≠ gp
  d3 : hp ≠ gp
  d4 : du ≠ da
section
variable {H H' H1 : Hp} {cp hp gp du da : Addr} {ts : List Addr} {cs : List Str} {lg : List Ev1} {gn : List Str} {ku ka : List (Key × V)}
theorem tup_updG {H : Hp} {l : Addr} {u o : HO} {ts : List Addr} {es : List Ev1} (hl : H l = some u) (hu : ∀ row, u ≠ .tup row) (h : Paired (TupAt H) ts es) : Paired (TupAt (L2.upd H l o)) ts es :=
  Paired.imp h fun t e z => by
    show L2.upd H l o t = _
    rw [upd_ne (ne_of z hl (fun q => hu _ q.symm))]
    exact z
theorem RuS.mono (p : RuS H H' cp hp gp du da ts cs lg gn ku ka) (e : Ex H' H1) : RuS H H1 cp hp gp du da ts cs lg gn ku ka :=
  { p with ex := p.ex.trans e, hcp := e _ _ p.hcp, hhp := e _ _ p.hhp, hts := Paired.imp p.hts fun _ _ z => e _ _ z, hgp := e _ _ p.hgp, hdu := e _ _ p.hdu, hda := e _ _ p.hda }
theorem RuS.event {t : Addr} {e : Ev1} (p : RuS H H' cp hp gp du da ts cs lg gn ku ka) (ht : H' t = some (.tup [.str e.1, .str e.2])) : RuS H (upd H' hp (.lst (ts.map V.ref ++ [V.ref t]))) cp hp gp du da (ts ++ [t]) cs (lg ++ [e]) gn ku ka := by
  have nt : t ≠ hp := ne_of ht p.hhp (by intro q; cases q)
  exact { p with
    ex := Ex.mut p.ex p.f2, hcp := by rw [upd_ne p.d1]; exact p.hcp
    hhp := by rw [upd_same, List.map_append]; rfl
    hts := paired_snoc (by show upd H' hp _ t = _; rw [upd_ne nt]; exact ht) (tup_upd p.hhp p.hts)
    hgp := by rw [upd_ne p.d3.symm]; exact p.hgp
    hdu := by rw [upd_ne (ne_of p.hdu p.hhp (by intro q; cases q))]; exact p.hdu
    hda := by rw [upd_ne (ne_of p.hda p.hhp (by intro q; cases q))]; exact p.hda }
theorem RuS.left {g : Str} (p : RuS H H' cp hp gp du da ts cs lg gn ku ka) : RuS H (upd H' gp (.lst (gn.map V.str ++ [V.str g]))) cp hp gp du da ts cs lg (gn ++ [g]) ku ka :=
  { p with
    ex := Ex.mut p.ex p.f3, hcp := by rw [upd_ne p.d2]; exact p.hcp
    hgp := by rw [upd_same, List.map_append]; rfl
    hts := tup_upd p.hgp p.hts
    hhp := by rw [upd_ne p.d3]; exact p.hhp
    hdu := by rw [upd_ne (ne_of p.hdu p.hgp (by intro q; cases q))]; exact p.hdu
    hda := by rw [upd_ne (ne_of p.hda p.hgp (by intro q; cases q))]; exact p.hda }
theorem RuS.add {x : Str} (p : RuS H H' cp hp gp du da ts cs lg gn ku ka) : RuS H (upd H' cp (.lst (cs.map V.str ++ [V.str x]))) cp hp gp du da ts (cs ++ [x]) lg gn ku ka :=
  { p with
    ex := Ex.mut p.ex p.f1, hcp := by rw [upd_same, List.map_append]; rfl
    hts := tup_upd p.hcp p.hts
    hhp := by rw [upd_ne p.d1.symm]; exact p.hhp
    hgp := by rw [upd_ne p.d2.symm]; exact p.hgp
    hdu := by rw [upd_ne (ne_of p.hdu p.hcp (by intro q; cases q))]; exact p.hdu
    hda := by rw [upd_ne (ne_of p.hda p.hcp (by intro q; cases q))]; exact p.hda }
theorem RuS.shelf {c2 : Addr} {cs2 : List Str} (p : RuS H H' cp hp gp du da ts cs lg gn ku ka) (n : H' c2 = none) (e : Ex H' H1) (h : H1 c2 = some (.lst (cs2.map V.str))) : RuS H H1 c2 hp gp du da ts cs2 lg gn ku ka :=
  { p.mono e with
    hcp := h
    f1 := fresh_back p.ex n
    d1 := (ne_of_none p.hhp n).symm
    d2 := (ne_of_none p.hgp n).symm }
theorem RuS.setU {k : Key} {v : V} (p : RuS H H' cp hp gp du da ts cs lg gn ku ka) : RuS H (upd H' du (.dK (putK ku k v))) cp hp gp du da ts cs lg gn (putK ku k v) ka :=
  { p with
    ex := Ex.mut p.ex p.f4, hdu := upd_same
    hts := tup_updG p.hdu (fun _ q => by cases q) p.hts
    hcp := by rw [upd_ne (ne_of p.hcp p.hdu (by intro q; cases q))]; exact p.hcp
    hhp := by rw [upd_ne (ne_of p.hhp p.hdu (by intro q; cases q))]; exact p.hhp
    hgp := by rw [upd_ne (ne_of p.hgp p.hdu (by intro q; cases q))]; exact p.hgp
    hda := by rw [upd_ne p.d4.symm]; exact p.hda }
theorem RuS.setA {k : Key} {v : V} (p : RuS H H' cp hp gp du da ts cs lg gn ku ka) : RuS H (upd H' da (.dK (putK ka k v))) cp hp gp du da ts cs lg gn ku (putK ka k v) :=
  { p with
    ex := Ex.mut p.ex p.f5, hda := upd_same
    hts := tup_updG p.hda (fun _ q => by cases q) p.hts
    hcp := by rw [upd_ne (ne_of p.hcp p.hda (by intro q; cases q))]; exact p.hcp
    hhp := by rw [upd_ne (ne_of p.hhp p.hda (by intro q; cases q))]; exact p.hhp
    hgp := by rw [upd_ne (ne_of p.hgp p.hda (by intro q; cases q))]; exact p.hgp
    hdu := by rw [upd_ne p.d4]; exact p.hdu }
end
theorem dec_str (a b : Str) : decide (V.str a = V.str b) = decide (a = b) := by
  by_cases h : a = b
  · rw [decide_eq_true h, h, decide_eq_true rfl]
  · rw [decide_eq_false h, decide_eq_false fun z => h (V.str.inj z)]
section
variable {K : PySem.W.Frag} {σ : L2.St} {H H1 H' : Hp} {ta tb tc te tx ty td tl : TE} {t : TT} {x y z v : V} {D : Ends} {Q : VK}
theorem yes_go {Q : Bool → Hp → Prop} (h : Q true H) : tYes σ H Q := h
theorem q_asgW {i : Nat} {tz : TS} (h : te σ H fun x H1 => tz D (σ.set i (some x)) H1) : tSeq (tAsg te (gName i)) tz D σ H := h
theorem q_asgTup {ta : TA} {g : TG} {tz : TS} (h : ta σ H fun vs H1 => vs.length ≤ sizeLine ∧ ∀ T, H1 T = none → g (.ref T) σ (upd H1 T (.tup vs)) fun σ2 H2 => tz D σ2 H2) : tSeq (tAsg (tTup ta) g) tz D σ H := h
/-- [(key, value) for k, x in enumerate(tuple)] -/
theorem w_lcKV {ta : TA} {a : Addr} {xs : List V} {j1 j2 : Nat} {vs : List Nat} (kvf : Nat → Key × V) (h : EvA ta σ H [.ref a]) (hq : SqT K H a xs) (hz : xs.length ≤ 40000) (hw : ∀ x y, wipe (((wipe σ vs).set j1 (some x)).set j2 (some y)) vs = wipe σ vs)
    (hs : ∀ (i : Nat) x H1, xs[i]? = some x → Ex H H1 → EvU te (((wipe σ vs).set j1 (some (.int (i : Int)))).set j2 (some x)) H1 [kV (kvf i).1, (kvf i).2])
    (hd : ∀ p ts H1, H p = none → Ex H H1 → H1 p = some (.lst (ts.map V.ref)) → Paired (fun t kv => H1 t = some (.tup [kV kv.1, kv.2])) ts ((List.range xs.length).map kvf) → Q (.ref p) H1) :
    tLc (EnT.iEnT K ta) (gTup K 2 (gCons (gName j1) (gCons (gName j2) gNil))) tYes te vs σ H Q :=
  h H (Ex.refl H) _ fun H1 e1 => ⟨a, xs, rfl, ex_t e1 hq, fun Dl hD => lc_it EnT.walkT (fun i H' => Ex H H' ∧ ∃ ts : List Addr, H' Dl = some (.lst (ts.map V.ref)) ∧ Paired (fun t kv => H' t = some (.tup [kV kv.1, kv.2])) ts ((List.range i).map kvf)) ⟨e1.trans (Ex.new hD), [], upd_same, .nil⟩ (fun i H' _ p => ex_t p.1 hq) (fun i x H' H'' hi p hy => by
    obtain ⟨T, x1, x2, rfl, hT, rfl, q1, q2⟩ := hy
    injection q1 with q1
    subst q1
    obtain ⟨p1, ts, h1, h2⟩ := p
    have xT := Ex.new (o := .tup [V.int (i : Int), x2]) hT
    refine ⟨T, [.int (i : Int), x2], rfl, .inl (.inl upd_same), rfl, .int (i : Int), [x2], rfl, x2, [], rfl, rfl, hw _ _, ?_⟩
    refine yes_go ?_
    rw [if_pos rfl]
    refine hs i x2 _ q2 (p1.trans xT) _ (Ex.refl _) _ fun t H3 ht e3 h3 => ⟨ts.map V.ref, e3 _ _ (xT _ _ h1), ?_, Ex.mut ((p1.trans xT).trans e3) (fresh_back e1 hD), ts ++ [t], ?_, ?_⟩
    · rw [List.length_map, paired_len h2, List.length_map, List.length_range]
      exact sz_lt (by omega)
    · rw [upd_same, List.map_append]
      rfl
    · have hDl := e3 _ _ (xT _ _ h1)
      rw [List.range_succ, List.map_append]
      exact paired_app (Paired.imp h2 fun u kv z => tup_upd2 hDl (e3 _ _ (xT _ _ z))) (.cons (tup_upd2 hDl h3) .nil)) (fun H' p => by
    obtain ⟨p1, ts, h1, h2⟩ := p
    exact hd Dl ts H' (fresh_back e1 hD) p1 h1 h2)⟩
end
section
variable {P : Program} {w : World} {K : PySem.W.Frag} {mg : Str → Option Value} {base : Heap}
abbrev NRu : List Str := ["word", "room", "initial", "wanted", "here", "happened", "gone", "used", "added", "k", "page", "other"]
abbrev PRu : List Str := ["word", "room", "initial", "wanted"]
theorem scRu : FnScope NRu PRu (defScope sRuled) := ⟨rfl, rfl, rfl, by decide +kernel, rfl, by decide +kernel, by decide +kernel⟩
def spRuled (K : PySem.W.Frag) : Sp := fun vs H Q _ => ∃ (r : Str) (c : Nat) (t l : Addr) (ps rs : List Str), vs = [.str r, .int (c : Int), .ref t, .ref l] ∧ RA K H r c t l ps rs ∧
  ∀ (T hp gp : Addr) (ts : List Addr) H2, H T = none → H hp = none → H gp = none → hp ≠ gp → Ex H H2 → H2 T = some (.tup [.ref hp, .ref gp]) → H2 hp = some (.lst (ts.map V.ref)) → Paired (TupAt H2) ts (logS r c ps rs) → H2 gp = some (.lst ((goneS r c ps rs).map V.str)) → Q (.ref T) H2
theorem ok_ruled {f : Addr} {fd : FuncData} (F : Fun K "_law_ruled" "_law_ruled" sRuled f fd) (B : Bn mg) (BR : Bru mg) (BS : Bso mg) (cV : Cl P w K mg base 2 "_law_victim" PLV (spLVictim K)) : FnOk P w K mg base CX0 3 f fd PRu (spRuled K) := by
  refine F.ok scRu (fun vs H Q E h => ?_) (fun cdv A outer s H vs Q E hr h => ?_)
  · obtain ⟨r, c, t, l, ps, rs, rfl, _⟩ := h
    rfl
  · obtain ⟨r, c, t, l, ps, rs, rfl, a, q⟩ := h
    have nd := scRu.nd
    refine ⟨_, pss_cons (ps_asg (pe_tup (pa_cons (pe_callTy call_list_of (by rfl) B.list bt_list (pa_cons (pv 2) pa_nil)) (pa_cons (pe_lst pa_nil) (pa_cons (pe_lst pa_nil) pa_nil)))) (pg_tup rfl (pgs_cons (pg_name (i := 4) nd rfl (Or.inl rfl)) (pgs_cons (pg_name (i := 5) nd rfl (Or.inl rfl)) (pgs_cons (pg_name (i := 6) nd rfl (Or.inr rfl)) pgs_nil)))))
      (pss_cons (ps_set (i := 7) nd rfl (Or.inl rfl) (pe_callTy (call_dictP rfl) (by rfl) BS.dict bt_dict (pa_cons
        (pe_lc (own := [("k", 9), ("page", 10)]) (g := gTup K 2 (gCons (gName 9) (gCons (gName 10) gNil))) (tt := tYes) (te := tTup (tCons (tVar 10) (tCons (tOp (rI0 fun i j => .int (i - j)) (tVar 9) (tC (.int 200))) tNil))) rfl nd (EnT.pi_enumT (by rfl) BR.enumerate (pa_cons (pv 2) pa_nil)) (blkOk_by (N := NRu) (sc := defScope sRuled) (by decide +kernel))
          (fun _ _ _ _ _ => pg_tup rfl (pgs_cons (pg_name (i := 9) nd rfl (Or.inl rfl)) (pgs_cons (pg_name (i := 10) nd rfl (Or.inl rfl)) pgs_nil))) (fun _ _ _ _ _ => pts_nil) (fun _ _ _ _ _ => pe_tup (pa_cons (pv 10) (pa_cons (pe_op op_sub (pv 9) pe_int) pa_nil)))) pa_nil)))
      (pss_cons (ps_set (i := 8) nd rfl (Or.inl rfl) (pe_callTy (call_dictP rfl) (by rfl) BS.dict bt_dict (pa_cons
        (pe_lc (own := [("k", 9), ("page", 10)]) (g := gTup K 2 (gCons (gName 9) (gCons (gName 10) gNil))) (tt := tYes) (te := tTup (tCons (tVar 10) (tCons (tOp (rI0 fun i j => .int (i - j)) (tVar 9) (tC (.int 200))) tNil))) rfl nd (EnT.pi_enumT (by rfl) BR.enumerate (pa_cons (pv 2) pa_nil)) (blkOk_by (N := NRu) (sc := defScope sRuled) (by decide +kernel))
          (fun _ _ _ _ _ => pg_tup rfl (pgs_cons (pg_name (i := 9) nd rfl (Or.inl rfl)) (pgs_cons (pg_name (i := 10) nd rfl (Or.inl rfl)) pgs_nil))) (fun _ _ _ _ _ => pts_nil) (fun _ _ _ _ _ => pe_tup (pa_cons (pv 10) (pa_cons (pe_op op_sub (pv 9) pe_int) pa_nil)))) pa_nil)))
      (pss_cons (ps_for PassesOwn.never rfl (pi_range1 (by rfl) B.range (pa_cons (pe_callB call_len_seq (by rfl) B.len bt_len (pa_cons (pv 3) pa_nil)) pa_nil)) (pg_name (i := 9) nd rfl (Or.inl rfl))
        (pss_cons (ps_set (i := 10) nd rfl (Or.inl rfl) (pe_ix (r := rIxL K) ix_list (pv 3) (pv 9) (fun _ _ => rfl)))
        (pss_cons (ps_expr (pe_bm PySem.F.plainAttrs_list PySem.F.slot_list_append PySem.F.type_list_append mt_append (pv 5) (pa_cons (pe_tup (pa_cons (pe_ifExp (pt_cmpR (r := rIn K false) op_in_seq (pv 10) (pv 4) (by with_unfolding_all rfl)) pe_str pe_str) (pa_cons (pv 10) pa_nil))) pa_nil)))
        (pss_cut (ps_if (PW.pt (pw_and (pt_cmpR (r := rIn K true) op_notIn_seq (pv 10) (pv 4) (by with_unfolding_all rfl)) (pw_and1 (pt_cmpR op_eq (pe_callB call_len_seq (by rfl) B.len bt_len (pa_cons (pv 4) pa_nil)) (pv 1) (nomark _)))))
          (pss_cons (ps_expr (pe_bm PySem.F.plainAttrs_list PySem.F.slot_list_append PySem.F.type_list_append mt_append (pv 6) (pa_cons (pe_cl cV hr (pa_cons (pv 0) (pa_cons (pv 4) (pa_cons (pv 7) (pa_cons (pv 8) (pa_cons (pe_slice (r := rSlL K) sl_list (pv 3) (po_some (pe_op op_add (pv 9) pe_int)) po_none) pa_nil)))))) pa_nil)))
          (pss_one (ps_setLc (i := 4) (own := [("other", 11)]) (g := gName 11) (tt := tTest (tOp rNe (tVar 11) (tOp (rIxL K) (tVar 6) (tUn (rU fun i => .int (-i)) (tC (.int 1)))))) (te := tVar 11) (by rfl) nd rfl rfl (sw_true rfl rfl rfl (by decide +kernel)) (pi_list (pv 4)) (blkOk_by (N := NRu) (sc := defScope sRuled) (by decide +kernel))
            (fun _ _ _ _ _ => pg_name (i := 11) nd rfl (Or.inl rfl)) (fun _ _ _ _ _ => pts_one (pt_cmpR op_ne (pv 11) (pe_ix (r := rIxL K) ix_list (pv 6) (pe_un un_neg pe_int) (fun _ _ => rfl)) (nomark _))) (fun _ _ _ _ _ => pv 11)))) pss_nil)
        (pss_cut (ps_if (pt_cmpR (r := rIn K true) op_notIn_seq (pv 10) (pv 4) (by with_unfolding_all rfl))
          (pss_cons (ps_expr (pe_bm PySem.F.plainAttrs_list PySem.F.slot_list_append PySem.F.type_list_append mt_append (pv 4) (pa_cons (pv 10) pa_nil)))
          (pss_one (ps_dput (hr.units1) (pv 8) (pv 10) (pv 9) (by rfl)))) pss_nil)
        (pss_one (ps_dput (hr.units1) (pv 7) (pv 10) (pv 9) (by rfl))))))))
      (pss_one (ps_ret (pe_tup (pa_cons (pv 5) (pa_cons (pv 6) pa_nil)))))))), ?_⟩
    have pl := a.pg.len
    have hrl := a.rl
    have hmr : (rs.map V.str).length = rs.length := List.length_map ..
    have hmp : (ps.map V.str).length = ps.length := List.length_map ..
    refine q_asgTup (go_cons ?_)
    refine (el_listT (ev_var rfl) a.ht) H (Ex.refl _) _ fun cp H1 ncp e1 hcp => ⟨Nat.zero_le _, fun hp nhp => ⟨Nat.zero_le _, fun gp ngp => ⟨by show 3 ≤ sizeLine; decide, fun T0 nT0 => ?_⟩⟩⟩
    refine ⟨T0, [.ref cp, .ref hp, .ref gp], rfl, .inl (.inl upd_same), rfl, .ref cp, [.ref hp, .ref gp], rfl, .ref hp, [.ref gp], rfl, .ref gp, [], rfl, rfl, ?_⟩
    have x1 := Ex.new (o := .lst []) nhp
    have x2 := Ex.new (o := .lst []) ngp
    have x3 := Ex.new (o := .tup [V.ref cp, .ref hp, .ref gp]) nT0
    have d1 : cp ≠ hp := ne_of_none hcp nhp
    have d2 : cp ≠ gp := ne_of_none (x1 _ _ hcp) ngp
    have d3 : hp ≠ gp := ne_of_none upd_same ngp
    have f2 : H hp = none := fresh_back e1 nhp
    have f3 : H gp = none := fresh_back (e1.trans x1) ngp
    have hcp4 := (x1.trans (x2.trans x3)) _ _ hcp
    have hhp4 := (x2.trans x3) _ _ (upd_same (H := H1) (a := hp) (o := .lst []))
    have hgp4 := x3 _ _ (upd_same (H := upd H1 hp (.lst [])) (a := gp) (o := .lst []))
    have k4 := e1.trans (x1.trans (x2.trans x3))
    generalize upd (upd (upd H1 hp (.lst [])) gp (.lst [])) T0 _ = H4 at hcp4 hhp4 hgp4 k4 ⊢
    have elem : ∀ (i : Nat) (x : V) (σ : L2.St) (H5 : Hp), (ps.map V.str)[i]? = some x → σ[9]? = some (some (.int (i : Int))) → σ[10]? = some (some x) → EvU (tTup (tCons (tVar 10) (tCons (tOp (rI0 fun i j => .int (i - j)) (tVar 9) (tC (.int 200))) tNil))) σ H5 [kV (startF ps i).1, (startF ps i).2] := fun i x σ H5 hx h9 h10 => by
      rw [List.getElem?_map] at hx
      obtain ⟨u, hu, rfl⟩ := Option.map_eq_some_iff.mp hx
      have hgd : ps.getD i "" = u := by rw [List.getD_eq_getElem?_getD, hu]; rfl
      show EvU _ _ _ [.str (ps.getD i ""), .int ((i : Int) - 200)]
      rw [hgd]
      exact eu_tup (ea_cons (ev_var h10) (ea_cons (ev_op (ev_var h9) ev_c rv_I0) ea_nil)) (show 2 ≤ 100000 by decide)
    -- used
    refine q_asgW (go_CB (go_cons ?_))
    refine w_lcKV (startF ps) (ea_cons (ev_var rfl) ea_nil) (ex_t k4 a.ht) (by rw [hmp]; omega) (fun _ _ => rfl) (fun i x H5 hx e5 => elem i x _ H5 hx rfl rfl) fun p1 ts1 H5 np1 e5 h5 hP5 => ?_
    rw [hmp] at hP5
    refine ⟨p1, ts1, startK ps, rfl, sq_of h5, Paired.imp hP5 fun _ _ z => st_of z, fun du ndu => ?_⟩
    have y1 := Ex.new (o := .dK (mergeK [] (startK ps))) ndu
    have hdu6 : upd H5 du (.dK (mergeK [] (startK ps))) du = some (.dK (startD ps)) := upd_same
    have k6 := (k4.trans e5).trans y1
    have k46 := e5.trans y1
    generalize upd H5 du _ = H6 at hdu6 k6 k46 ⊢
    -- added
    refine q_asgW (go_CB (go_cons ?_))
    refine w_lcKV (startF ps) (ea_cons (ev_var rfl) ea_nil) (ex_t k6 a.ht) (by rw [hmp]; omega) (fun _ _ => rfl) (fun i x H7 hx e7 => elem i x _ H7 hx rfl rfl) fun p2 ts2 H7 np2 e7 h7 hP7 => ?_
    rw [hmp] at hP7
    refine ⟨p2, ts2, startK ps, rfl, sq_of h7, Paired.imp hP7 fun _ _ z => st_of z, fun da nda => ?_⟩
    have y2 := Ex.new (o := .dK (mergeK [] (startK ps))) nda
    have hda8 : upd H7 da (.dK (mergeK [] (startK ps))) da = some (.dK (startD ps)) := upd_same
    have k8 := (k6.trans e7).trans y2
    have k68 := e7.trans y2
    have d4 : du ≠ da := ne_of_none (e7 _ _ hdu6) nda
    have f4 : H du = none := fresh_back (k4.trans e5) ndu
    have f5 : H da = none := fresh_back (k6.trans e7) nda
    generalize upd H7 da _ = H8 at hda8 k8 k68 ⊢
    have k48 := k46.trans k68
    have w0 : RuS H H8 cp hp gp du da [] ps (stS r c ps rs 0).log (stS r c ps rs 0).gone (startD ps) (startD ps) := ⟨k8, k48 _ _ hcp4, k48 _ _ hhp4, .nil, k48 _ _ hgp4, k68 _ _ hdu6, hda8, ncp, f2, f3, f4, f5, d1, d2, d3, d4⟩
    refine q_forN (n := rs.length) (ea_cons (ev_is (ev_len (ev_var rfl) (ex_l w0.ex a.hl)) (by rw [hmr])) ea_nil) (by omega) (fun i σ H' => ∃ y9 y10 y11 cp ts cs U A ku ka, σ = [some (.str r), some (.int (c : Int)), some (.ref t), some (.ref l), some (.ref cp), some (.ref hp), some (.ref gp), some (.ref du), some (.ref da), y9, y10, y11] ∧
      RuS H H' cp hp gp du da ts cs (stS r c ps rs i).log (stS r c ps rs i).gone ku ka ∧ RuM r cs U A ku ka (stS r c ps rs i).shelf i) (fun H9 e9 => ⟨_, _, _, cp, [], ps, startU ps, startU ps, _, _, rfl, w0.mono e9, start_RuM a.pg⟩) (fun i σ H' hi hP => ?_) (fun σ H' hP => ?_)
    · obtain ⟨y9, y10, y11, cp, ts, cs, U, A, ku, ka, rfl, w1, m⟩ := hP
      obtain ⟨p, hpi⟩ : ∃ p, rs[i]? = some p := ⟨rs[i], List.getElem?_eq_getElem hi⟩
      have hgd : rs.getD i "" = p := by rw [List.getD_eq_getElem?_getD, hpi]; rfl
      obtain ⟨m1, m2, m3, m4, m5⟩ := st_mem (rule := r) (cap := c) (P := fun p => pageB p = true) a.pg.all a.rp i (by omega)
      have okS := st_ok (rule := r) (start := ps) (reqs := rs) a.c1 a.pg.nd a.le i
      have hst : stS r c ps rs (i + 1) = stepS r c (stS r c ps rs i) p (rs.drop (i + 1)) := by rw [← hgd]; rfl
      have hlt : ts.length = i := by rw [paired_len w1.hts]; exact m3
      have hsl := st_len (rule := r) (cap := c) (start := ps) (reqs := rs) a.c1 i
      generalize stS r c ps rs i = s at w1 m m1 m2 m3 m4 m5 okS hst hsl
      have hcl := m.pm.length_eq
      have lcs : cs.length ≤ 600 := by omega
      refine q_asg (v := .str p) (ev_op (ev_var rfl) (ev_var rfl) (rv_ixL (ex_l w1.ex a.hl) (atI_nat (j := i) (by rw [List.getElem?_map, hpi]; rfl)))) fun H2 e2 => ?_
      have w2 := w1.mono e2
      have isin : ∀ {H' : Hp} {σ : L2.St} {cp : Addr} {cs : List Str}, H' cp = some (.lst (cs.map V.str)) → σ[10]? = some (some (.str p)) → σ[4]? = some (some (.ref cp)) → EvT (tTest (tOp (rIn K false) (tVar 10) (tVar 4))) σ H' (decide (p ∈ cs)) := fun h1 h2 h3 => et_is (et_test (ev_op (ev_var h2) (ev_var h3) (rv_isL (sq_of h1) rfl (flat_all _)))) (in_strs p _)
      have notin : ∀ {H' : Hp} {σ : L2.St} {cp : Addr} {cs : List Str}, H' cp = some (.lst (cs.map V.str)) → σ[10]? = some (some (.str p)) → σ[4]? = some (some (.ref cp)) → EvT (tTest (tOp (rIn K true) (tVar 10) (tVar 4))) σ H' (!decide (p ∈ cs)) := fun h1 h2 h3 => et_is (et_test (ev_op (ev_var h2) (ev_var h3) (rv_niL (sq_of h1) rfl (flat_all _)))) (by rw [in_strs])
      -- happened
      refine q_appU (l := hp) (xs := ts.map V.ref) (ys := [.str (if p ∈ cs then hitS else missS), .str p]) w2.hhp (ev_var rfl) (eu_tup (ea_cons (ev_if (isin w2.hcp rfl rfl) (fun hb => by rw [if_pos (of_decide_eq_true hb)]; exact ev_c) (fun hb => by rw [if_neg (of_decide_eq_false hb)]; exact ev_c)) (ea_cons (ev_var rfl) ea_nil)) (show 2 ≤ 100000 by decide)) (by rw [List.length_map, hlt]; omega) fun tp H3 htp e3 h3 => ?_
      have w3 := (w2.mono e3).event (e := ((if p ∈ cs then hitS else missS), p)) h3
      generalize upd H3 hp _ = H4 at w3 ⊢
      refine ⟨fun σ' H'' => ∃ y11 cp2 cs2 shelf2 gn2, σ' = [some (.str r), some (.int (c : Int)), some (.ref t), some (.ref l), some (.ref cp2), some (.ref hp), some (.ref gp), some (.ref du), some (.ref da), some (.int (i : Int)), some (.str p), y11] ∧
        RuS H H'' cp2 hp gp du da (ts ++ [tp]) cs2 (s.log ++ [((if p ∈ cs then hitS else missS), p)]) gn2 ku ka ∧ RuM r cs2 U A ku ka shelf2 i ∧ cs2.length ≤ 600 ∧ (p ∉ cs → p ∉ shelf2 ∧ stS r c ps rs (i + 1) = ⟨shelf2 ++ [p], s.log ++ [(missS, p)], gn2⟩) ∧ (p ∈ cs → cs2 = cs ∧ shelf2 = s.shelf ∧ gn2 = s.gone), ?_, fun σ' H'' hM => ?_⟩
      · refine s_when (b := !decide (p ∈ cs) && decide (V.int (((cs.map V.str).length : Nat) : Int) = V.int (c : Int))) (et_and (notin w3.hcp rfl rfl) fun _ => et_test (ev_op (ev_len (ev_var rfl) (sq_of w3.hcp)) (ev_var rfl) (rv_eq rfl))) (fun hb H5 e5 => ?_) (fun hb H5 e5 => ?_)
        · rw [Bool.and_eq_true, Bool.not_eq_true'] at hb
          have hni : p ∉ cs := of_decide_eq_false hb.1
          have hns : p ∉ s.shelf := fun z => hni ((m.mem p).mpr z)
          have full : s.shelf.length = c := by
            have z := V.int.inj (of_decide_eq_true hb.2)
            rw [List.length_map] at z
            omega
          have c1 := a.c1
          have hne : cs ≠ [] := fun z => by rw [z] at hcl; simp at hcl; omega
          have w5 := w3.mono e5
          refine ⟨.ref gp, rfl, .inl ⟨rfl, _, sq_of w5.hgp⟩, .str r, rfl, .ref cp, rfl, .ref du, rfl, .ref da, rfl, .ref l, rfl, ?_⟩
          refine ev_op (ev_var rfl) ev_c rv_I0 H5 (Ex.refl _) _ fun H6 e6 => ?_
          have w6 := w5.mono e6
          refine ⟨(i : Int) + 1, rfl, l, rs.map V.str, rfl, ex_l w6.ex a.hl, fun sp nsp => ?_⟩
          have hcut : cutV (rs.map V.str) (some ((i : Int) + 1)) none = (rs.drop (i + 1)).map V.str := by
            rw [show ((i : Int) + 1) = ((i + 1 : Nat) : Int) by omega, drop_cut _ (by rw [hmr]; omega), List.map_drop]
          rw [hcut]
          have w7 := w6.mono (Ex.new (o := .lst ((rs.drop (i + 1)).map V.str)) nsp)
          refine ⟨r, cp, du, da, sp, cs, rs.drop (i + 1), ku, ka, U, A, rfl, a.R, w7.hcp, hne, lcs, fun x hx => m1 x ((m.mem x).mp hx), ⟨w7.hdu, m.vu⟩, ⟨w7.hda, m.va⟩, sq_of upd_same, fun v Ha hv hV ea => ?_⟩
          have w8 := w7.mono ea
          have hvv := m.victim hv hV
          refine ⟨gp, s.gone.map V.str, .str v, rfl, rfl, w8.hgp, sz_lt (by rw [List.length_map]; omega), ?_⟩
          have w9 := w8.left (g := v)
          generalize upd Ha gp _ = Hb at w9 ⊢
          refine s_asgL (el_lcSt (fun o => !decide (o = v)) (ev_var rfl) (sq_of w9.hcp) (by omega) (fun _ => rfl) (fun x Hc hx ec => ?_) (fun x Hc hx ec => ev_var rfl)) fun c2 Hc nc2 ec hc2 => ?_
          · exact et_is (et_test (ev_op (ev_var rfl) (ev_op (ev_var rfl) (ev_un ev_c ru_neg) (rv_ixL (sq_of (ec _ _ w9.hgp)) (by rw [List.map_append]; exact at_lastS))) (rv_ne rfl))) (by rw [dec_str])
          · refine ⟨_, c2, cs.filter (fun o => !decide (o = v)), s.shelf.erase v, s.gone ++ [v], rfl, w9.shelf nc2 ec hc2, m.evict okS.nd, Nat.le_trans (List.length_filter_le _ _) lcs, fun _ => ⟨fun z => hns (List.mem_of_mem_erase z), ?_⟩, fun z => absurd z hni⟩
            rw [hst]
            unfold stepS
            rw [if_neg hns, if_pos full, hvv]
        · refine ⟨_, cp, cs, s.shelf, s.gone, rfl, w3.mono e5, m, lcs, fun hni => ⟨fun z => hni ((m.mem p).mpr z), ?_⟩, fun _ => ⟨rfl, rfl, rfl⟩⟩
          have hns : p ∉ s.shelf := fun z => hni ((m.mem p).mpr z)
          have nf : ¬ s.shelf.length = c := fun z => by
            rw [decide_eq_false hni, List.length_map, hcl, z] at hb
            simp at hb
          rw [hst]
          unfold stepS
          rw [if_neg hns, if_neg nf]
      · obtain ⟨y11, cp2, cs2, shelf2, gn2, rfl, w5, mm, l2, hmiss, hhit⟩ := hM
        have hin2 : p ∈ cs2 ↔ p ∈ cs := by
          by_cases z : p ∈ cs
          · rw [(hhit z).1]
          · exact ⟨fun z2 => absurd ((mm.mem p).mp z2) (hmiss z).1, fun z2 => absurd z2 z⟩
        refine ⟨fun σ' H'' => ∃ y11 cs3 ka3, σ' = [some (.str r), some (.int (c : Int)), some (.ref t), some (.ref l), some (.ref cp2), some (.ref hp), some (.ref gp), some (.ref du), some (.ref da), some (.int (i : Int)), some (.str p), y11] ∧
          RuS H H'' cp2 hp gp du da (ts ++ [tp]) cs3 (stS r c ps rs (i + 1)).log (stS r c ps rs (i + 1)).gone ku ka3 ∧ ∃ U3 A3, RuM r cs3 U3 A3 (putK ku (.inr p) (.int (i : Int))) ka3 (stS r c ps rs (i + 1)).shelf (i + 1), ?_, fun σ' H'' hM => ?_⟩
        · refine s_when (b := !decide (p ∈ cs2)) (notin w5.hcp rfl rfl) (fun hb H6 e6 => ?_) (fun hb H6 e6 => ?_)
          · have hn2 : p ∉ cs2 := of_decide_eq_false (by simpa using hb)
            have hni : p ∉ cs := fun z => hn2 (hin2.mpr z)
            obtain ⟨hs2, he⟩ := hmiss hni
            have w6 := w5.mono e6
            refine q_app (l := cp2) (xs := cs2.map V.str) (v := .str p) w6.hcp (ev_var rfl) (ev_var rfl) (by rw [List.length_map]; omega) fun H7 e7 => ?_
            have w7 := (w6.mono e7).add (x := p)
            generalize upd H7 cp2 _ = H8 at w7 ⊢
            have la := mm.la
            refine ⟨.int (i : Int), rfl, .ref da, rfl, .str p, rfl, da, _, rfl, DPut.k (k := .inr p) w7.hda (sz_lt (by omega)), y11, cs2 ++ [p], putK ka (.inr p) (.int (i : Int)), rfl, ?_, putF U p i, putF A p i, ?_⟩
            · have w8 := w7.setA (k := .inr p) (v := .int (i : Int))
              rw [if_neg hni] at w8
              rw [he]
              exact w8
            · rw [he]
              exact mm.put hs2
          · have hn2 : p ∈ cs2 := by simpa using hb
            have hin := hin2.mp hn2
            obtain ⟨q1, q2, q3⟩ := hhit hin
            subst q1 q2 q3
            have hns : p ∈ s.shelf := (m.mem p).mp hin
            refine ⟨y11, cs2, ka, rfl, ?_, putF U p i, A, ?_⟩
            · have w8 := w5.mono e6
              rw [if_pos hin] at w8
              rw [hst]
              unfold stepS
              rw [if_pos hns]
              exact w8
            · have := mm.hit okS.nd hns
              rw [hst]
              unfold stepS
              rw [if_pos hns]
              exact this
        · obtain ⟨y11, cs3, ka3, rfl, w6, U3, A3, m3⟩ := hM
          have lu := mm.lu
          exact ⟨.int (i : Int), rfl, .ref du, rfl, .str p, rfl, du, _, rfl, DPut.k (k := .inr p) w6.hdu (sz_lt (by omega)), _, _, _, cp2, ts ++ [tp], cs3, U3, A3, _, ka3, rfl, w6.setU, m3⟩
    · obtain ⟨y9, y10, y11, cp, ts, cs, U, A, ku, ka, rfl, w1, m⟩ := hP
      exact s_retU (eu_tup (ea_cons (ev_var rfl) (ea_cons (ev_var rfl) ea_nil)) (show 2 ≤ 100000 by decide)) fun T H9 nT e9 hT => q T hp gp ts H9 (fresh_back w1.ex nT) w1.f2 w1.f3 w1.d3 (w1.ex.trans e9) hT (e9 _ _ w1.hhp) (Paired.imp w1.hts fun _ _ z => e9 _ _ z) (e9 _ _ w1.hgp)
end
end KB

set_option Elab.async false
set_option linter.all false
set_option maxRecDepth 100000
set_option maxHeartbeats 8000000
/-! R6: the law's requests, walked. -/
namespace KB
open PySem L2 Evl
structure WS (H H' : Hp) (a wl : Addr) (B : Int) (ws : List Str) : Prop where
  ex : Ex (hid H a) H'
  src : SrcAt H' a B
  hwl : H' wl = some (.lst (ws.map V.str))
  f : H wl = none
  n : wl ≠ a
section
variable {H H' H1 : Hp} {a wl : Addr} {B C : Int} {ws : List Str}
theorem WS.mono (s : WS H H' a wl B ws) (e : Ex H' H1) : WS H H1 a wl B ws := { s with ex := s.ex.trans e, src := s.src.mono e, hwl := e _ _ s.hwl }
theorem WS.draw (s : WS H H' a wl B ws) (e : Ex (hid H' a) H1) (S : SrcAt H1 a C) : WS H H1 a wl C ws := { s with ex := ex_hid2 s.ex e, src := S, hwl := e _ _ (by rw [hid_ne s.n]; exact s.hwl) }
theorem WS.le (s : WS H H' a wl B ws) (h : B ≤ C) : WS H H' a wl C ws := { s with src := s.src.le h }
theorem WS.add {x : Str} (s : WS H H' a wl B ws) : WS H (upd H' wl (.lst (ws.map V.str ++ [.str x]))) a wl B (ws ++ [x]) :=
  { s with ex := Ex.mut s.ex (hid_none s.f), src := s.src.upd s.n.symm, hwl := by rw [upd_same, List.map_append]; rfl }
end
theorem four_at {d a1 a2 a3 a4 n : Int} (h0 : 0 ≤ d) (h1 : d < 4) (k1 : 0 ≤ a1 ∧ a1 < n) (k2 : 0 ≤ a2 ∧ a2 < n) (k3 : 0 ≤ a3 ∧ a3 < n) (k4 : 0 ≤ a4 ∧ a4 < n) : ∃ v : Int, atI [V.int a1, V.int a2, V.int a3, V.int a4] d = some (V.int v) ∧ 0 ≤ v ∧ v < n := by
  have : d = 0 ∨ d = 1 ∨ d = 2 ∨ d = 3 := by omega
  rcases this with rfl | rfl | rfl | rfl
  · exact ⟨a1, rfl, k1⟩
  · exact ⟨a2, rfl, k2⟩
  · exact ⟨a3, rfl, k3⟩
  · exact ⟨a4, rfl, k4⟩
theorem back_at {ws : List Str} {d : Int} (h0 : 0 ≤ d) (h1 : d < ws.length) : ∃ x, atI (ws.map V.str) (-1 - d) = some (.str x) ∧ x ∈ ws := by
  obtain ⟨j, rfl⟩ : ∃ j : Nat, d = j := ⟨d.toNat, (Int.toNat_of_nonneg h0).symm⟩
  have hj : ws.length - 1 - j < ws.length := by omega
  refine ⟨ws[ws.length - 1 - j], ?_, List.getElem_mem _⟩
  have e : ixN (ws.map V.str).length (-1 - (j : Int)) = some (ws.length - 1 - j) := by
    unfold ixN
    rw [List.length_map, if_neg (by omega), if_pos (by omega)]
    congr 1
    omega
  unfold atI
  rw [e]
  show (ws.map V.str)[ws.length - 1 - j]? = _
  rw [List.getElem?_map, List.getElem?_eq_getElem hj]
  rfl
section
variable {K : PySem.W.Frag} {σ : L2.St} {H H1 H' : Hp} {ta tb tc te tx ty td tl : TE} {t : TT} {x y z v : V} {D : Ends} {Q : VK}
theorem go_asgP {i j : Nat} {ta : TA} {tz : TS} (h : ta σ H fun vs H1 => ∃ x y, vs = [x, y] ∧ tz D ((σ.set i (some x)).set j (some y)) H1) : tSeq (tPar i j ta) tz D σ H := h
theorem go_lst {tr : TA} (h : tr σ H fun vs H1 => vs.length ≤ sizeLine ∧ ∀ p, H1 p = none → Q (.ref p) (upd H1 p (.lst vs))) : tLst tr σ H Q := h
theorem go_test {Q : Bool → Hp → Prop} (h : te σ H fun x H1 => ∃ b, x = .bl b ∧ Q b H1) : tTest te σ H Q := h
theorem go_if {t : TT} {tu tw : TS} (h : t σ H fun b H1 => if b = true then tu D σ H1 else tw D σ H1) : tIfS t tu tw D σ H := h
theorem go_and {t u : TT} {Q : Bool → Hp → Prop} (h : t σ H fun c H1 => if c = true then u σ H1 Q else Q false H1) : tAnd t u σ H Q := h
end
section
variable {P : Program} {w : World} {K : PySem.W.Frag} {mg : Str → Option Value} {base : Heap}
abbrev NWa : List Str := ["source", "pages", "size", "way", "wanted", "few", "k", "spot"]
theorem scWa : FnScope NWa ["source", "pages", "size"] (defScope sWanted) := ⟨rfl, rfl, rfl, by decide +kernel, rfl, by decide +kernel, by decide +kernel⟩
def spWanted : Sp := fun vs H Q _ => ∃ (a pg : Addr) (n : Nat) (B : Int) (pages : List Str), vs = [.ref a, .ref pg, .int (n : Int)] ∧ SrcAt H a B ∧ B ≤ 700000 ∧ H pg = some (.lst (pages.map V.str)) ∧ pg ≠ a ∧ pages ≠ [] ∧ (∀ p ∈ pages, pageB p = true) ∧ pages.length ≤ 300 ∧ n ≤ 200 ∧
  ∀ (wl : Addr) (ws : List Str) H2, WS H H2 a wl (B + 2 + 5 * (n : Int)) ws → ws.length = n → (∀ p ∈ ws, pageB p = true) → Q (.ref wl) H2
theorem ok_wanted {f : Addr} {fd : FuncData} (F : Fun K "_law_wanted" "_law_wanted" sWanted f fd) (B0 : Bn mg) (cD : Cl P w K mg base 1 "_law_draw" ["source", "bound"] spDraw) : FnOk P w K mg base CX0 2 f fd ["source", "pages", "size"] spWanted := by
  refine F.ok scWa (fun vs H Q E h => ?_) (fun cdv A outer s H vs Q E hr h => ?_)
  · obtain ⟨a, pg, n, B, pages, rfl, _⟩ := h
    rfl
  · obtain ⟨a, pg, n, B, pages, rfl, hS, hB, hpg, npg, nep, hpp, hpl, hn, q⟩ := h
    have nd := scWa.nd
    refine ⟨_, pss_cons (ps_par (i := 3) (j := 4) rfl nd rfl rfl (by decide) rfl rfl (pa_cons (pe_cl cD hr (pa_cons (pv 0) (pa_cons pe_int pa_nil))) (pa_cons (pe_lst pa_nil) pa_nil)) (by rfl))
      (pss_cons (ps_set (i := 5) nd rfl (Or.inl rfl) (pe_op op_add pe_int (pe_cl cD hr (pa_cons (pv 0) (pa_cons (pe_callB call_len_seq (by rfl) B0.len bt_len (pa_cons (pv 1) pa_nil)) pa_nil)))))
      (pss_cons (ps_for PassesOwn.never rfl (pi_range1 (by rfl) B0.range (pa_cons (pv 2) pa_nil)) (pg_name (i := 6) nd rfl (Or.inl rfl))
        (pss_cons (ps_set (i := 7) nd rfl (Or.inl rfl) (pe_ix (r := rIxL K) ix_list (pe_lst (pa_cons (pe_cl cD hr (pa_cons (pv 0) (pa_cons (pe_callB call_len_seq (by rfl) B0.len bt_len (pa_cons (pv 1) pa_nil)) pa_nil))) (pa_cons (pe_cl cD hr (pa_cons (pv 0) (pa_cons (pv 5) pa_nil))) (pa_cons (pe_op op_mod (pv 6) (pv 5))
            (pa_cons (pe_cl cD hr (pa_cons (pv 0) (pa_cons (pe_callB call_len_seq (by rfl) B0.len bt_len (pa_cons (pv 1) pa_nil)) pa_nil))) pa_nil))))) (pv 3) (fun _ _ => rfl)))
        (pss_one (ps_if (PW.pt (pw_and (pt_cmpR (op_neD hr.units) (pv 4) (pe_lst pa_nil) (nomark _)) (pw_and1 (pt_cmpR op_eq (pe_cl cD hr (pa_cons (pv 0) (pa_cons pe_int pa_nil))) pe_int (nomark _)))))
          (pss_one (ps_expr (pe_bm PySem.F.plainAttrs_list PySem.F.slot_list_append PySem.F.type_list_append mt_append (pv 4) (pa_cons (pe_ix (r := rIxL K) ix_list (pv 4) (pe_op op_sub (pe_un un_neg pe_int) (pe_cl cD hr (pa_cons (pv 0) (pa_cons (pe_callB (call_min2 rfl) (by rfl) B0.min bt_min (pa_cons pe_int (pa_cons (pe_callB call_len_seq (by rfl) B0.len bt_len (pa_cons (pv 4) pa_nil)) pa_nil))) pa_nil)))) (fun _ _ => rfl)) pa_nil))))
          (pss_one (ps_expr (pe_bm PySem.F.plainAttrs_list PySem.F.slot_list_append PySem.F.type_list_append mt_append (pv 4) (pa_cons (pe_ix (r := rIxL K) ix_list (pv 1) (pv 7) (fun _ _ => rfl)) pa_nil))))))))
      (pss_one (ps_ret (pv 4))))), ?_⟩
    have hmp : (pages.map V.str).length = pages.length := List.length_map ..
    have hpos : 0 < pages.length := List.length_pos_iff.mpr nep
    have keep : ∀ {H2 : Hp}, Ex (hid H a) H2 → H2 pg = some (.lst (pages.map V.str)) := fun e => e _ _ (by rw [hid_ne npg]; exact hpg)
    have lenp : ∀ {σ : L2.St} {H2 : Hp}, Ex (hid H a) H2 → σ[1]? = some (some (.ref pg)) → Ev (tCB (rLenS K) (tCons (tVar 1) tNil)) σ H2 (.int (pages.length : Int)) := fun e h => ev_is (ev_len (ev_var h) (sq_of (keep e))) (by rw [hmp])
    obtain ⟨xs0, ha0⟩ := hS.is
    -- way, wanted
    refine go_asgP (go_cons ?_)
    refine w_draw rfl ev_c (by decide) (by decide) hS (by omega) fun way H1 w0 w4 e1 S1 => ⟨Nat.zero_le _, fun wl nwl => ⟨.int way, .ref wl, rfl, ?_⟩⟩
    have x1 := Ex.new (o := .lst []) nwl
    obtain ⟨xs1, ha1⟩ := S1.is
    have s1 : WS H (upd H1 wl (.lst [])) a wl (B + 1) [] := ⟨e1.trans x1, S1.mono x1, upd_same, fresh_hid e1 ha1 nwl, (ne_of_none ha1 nwl).symm⟩
    generalize upd H1 wl (.lst []) = H2 at s1 ⊢
    -- few
    refine q_asgW (go_op ?_)
    refine w_draw rfl (b := (pages.length : Int)) (lenp s1.ex rfl) (by omega) (by omega) s1.src (by omega) fun fw H3 f0 f1 e3 S3 => ⟨1, fw, rfl, rfl, ?_⟩
    have s2 := s1.draw e3 S3
    refine q_forN (n := n) (ea_cons (ev_var rfl) ea_nil) (by omega) (fun i σ H' => ∃ y6 y7 ws, σ = [some (.ref a), some (.ref pg), some (.int (n : Int)), some (.int way), some (.ref wl), some (.int (1 + fw)), y6, y7] ∧ WS H H' a wl (B + 2 + 5 * (i : Int)) ws ∧ ws.length = i ∧ ∀ p ∈ ws, pageB p = true)
      (fun H4 e4 => ⟨_, _, [], rfl, (s2.mono e4).le (by omega), rfl, fun p hp => nomatch hp⟩) (fun i σ H' hi hP => ?_) (fun σ H' hP => ?_)
    · obtain ⟨y6, y7, ws, rfl, s, hl, hw⟩ := hP
      -- spot
      refine q_asgW (go_op (go_lst (go_cons ?_)))
      refine w_draw rfl (b := (pages.length : Int)) (lenp s.ex rfl) (by omega) (by omega) s.src (by omega) fun d1 H4 a0 a1 e4 S4 => go_cons ?_
      have s4 := s.draw e4 S4
      refine w_draw rfl (b := 1 + fw) (ev_var rfl) (by omega) (by omega) s4.src (by omega) fun d2 H5 b0 b1 e5 S5 => go_cons ?_
      have s5 := s4.draw e5 S5
      have hm : Ev (tOp (rI (fun _ j => 0 < j) fun i j => .int (i % j)) (tVar 6) (tVar 5)) [some (.ref a), some (.ref pg), some (.int (n : Int)), some (.int way), some (.ref wl), some (.int (1 + fw)), some (.int (i : Int)), y7] H5 (.int ((i : Int) % (1 + fw))) := ev_op (ev_var rfl) (ev_var rfl) (rv_I (by omega))
      refine hm H5 (Ex.refl _) _ fun H6 e6 => go_cons ?_
      have s6 := s5.mono e6
      refine w_draw rfl (b := (pages.length : Int)) (lenp s6.ex rfl) (by omega) (by omega) s6.src (by omega) fun d4 H7 c0 c1 e7 S7 => ⟨by show 4 ≤ sizeLine; decide, fun lp nlp => ⟨.int way, rfl, ?_⟩⟩
      have s7 := s6.draw e7 S7
      have m0 : 0 ≤ (i : Int) % (1 + fw) := Int.emod_nonneg _ (by omega)
      have m1 : (i : Int) % (1 + fw) < 1 + fw := Int.emod_lt_of_pos _ (by omega)
      obtain ⟨spot, hsp, sp0, sp1⟩ := four_at (n := (pages.length : Int)) w0 w4 ⟨a0, a1⟩ ⟨b0, by omega⟩ ⟨m0, by omega⟩ ⟨c0, c1⟩
      refine ⟨lp, [V.int d1, V.int d2, V.int ((i : Int) % (1 + fw)), V.int d4], way, .int spot, rfl, rfl, sq_of upd_same, hsp, ?_⟩
      have s8 := s7.mono (Ex.new (o := .lst [V.int d1, V.int d2, V.int ((i : Int) % (1 + fw)), V.int d4]) nlp)
      generalize upd H7 lp _ = H8 at s8 ⊢
      refine go_if (go_and ?_)
      refine (et_neNil (ev_var rfl) s8.hwl hw) H8 (Ex.refl _) _ fun H9 e9 => ?_
      have s9 := s8.mono e9
      have app : ∀ {H' : Hp} {C : Int} {x : Str}, WS H H' a wl C ws → C ≤ B + 2 + 5 * (((i + 1 : Nat) : Int)) → pageB x = true → ∃ y6 y7 ws', ([some (.ref a), some (.ref pg), some (.int (n : Int)), some (.int way), some (.ref wl), some (.int (1 + fw)), some (.int (i : Int)), some (.int spot)] : L2.St) = [some (.ref a), some (.ref pg), some (.int (n : Int)), some (.int way), some (.ref wl), some (.int (1 + fw)), y6, y7] ∧
          WS H (upd H' wl (.lst (ws.map V.str ++ [.str x]))) a wl (B + 2 + 5 * (((i + 1 : Nat) : Int))) ws' ∧ ws'.length = i + 1 ∧ ∀ p ∈ ws', pageB p = true := fun {H' C x} sx hC hx => ⟨_, _, ws ++ [x], rfl, sx.add.le hC, by rw [List.length_append, hl]; rfl, fun p hp => by
        rcases List.mem_append.mp hp with z | z
        · exact hw p z
        · rw [List.mem_singleton.mp z]; exact hx⟩
      refine ite2 (fun hb => go_test (go_op ?_)) (fun hb => ?_)
      · have hne : ws ≠ [] := fun z => by rw [z] at hb; cases hb
        have hlen : 0 < ws.length := List.length_pos_iff.mpr hne
        refine w_draw rfl ev_c (by decide) (by decide) s9.src (by omega) fun d5 Ha g0 g1 ea Sa => ⟨rfl, _, rfl, ite2 (fun hb2 => ?_) (fun hb2 => ?_)⟩
        · have sa := s9.draw ea Sa
          refine ⟨.ref wl, rfl, .inl ⟨rfl, _, sq_of sa.hwl⟩, .ref wl, rfl, 1, rfl, ?_⟩
          refine w_draw rfl (b := if (ws.length : Int) < 4 then (ws.length : Int) else 4) (ev_cb (vs := [.int 4, .int (ws.length : Int)]) (ea_cons ev_c (ea_cons (ev_is (ev_len (ev_var rfl) (sq_of sa.hwl)) (by rw [List.length_map])) ea_nil)) fun H7 e7 Q' k => ⟨_, _, rfl, k H7 (Ex.refl H7)⟩) (by split <;> omega) (by split <;> omega) sa.src (by omega) fun d6 Hb q0 q1 eb Sb => ?_
          have sb := sa.draw eb Sb
          have hd6 : d6 < ws.length := by split at q1 <;> omega
          obtain ⟨x, hx, hxm⟩ := back_at q0 hd6
          exact ⟨-1, d6, rfl, rfl, wl, ws.map V.str, -1 - d6, .str x, rfl, rfl, sq_of sb.hwl, hx, wl, ws.map V.str, .str x, rfl, rfl, sb.hwl, sz_lt (by rw [List.length_map]; omega), app sb (by omega) (hw x hxm)⟩
        · have sa := s9.draw ea Sa
          have hsn : spot.toNat < pages.length := by omega
          exact ⟨.ref wl, rfl, .inl ⟨rfl, _, sq_of sa.hwl⟩, .ref pg, rfl, .int spot, rfl, pg, pages.map V.str, spot, .str pages[spot.toNat], rfl, rfl, sq_of (keep sa.ex), at_of (j := spot.toNat) (by omega) (by rw [List.getElem?_map, List.getElem?_eq_getElem hsn]; rfl), wl, ws.map V.str, .str pages[spot.toNat], rfl, rfl, sa.hwl, sz_lt (by rw [List.length_map]; omega), app sa (by omega) (hpp _ (List.getElem_mem _))⟩
      · rw [if_neg Bool.false_ne_true]
        have hsn : spot.toNat < pages.length := by omega
        exact ⟨.ref wl, rfl, .inl ⟨rfl, _, sq_of s9.hwl⟩, .ref pg, rfl, .int spot, rfl, pg, pages.map V.str, spot, .str pages[spot.toNat], rfl, rfl, sq_of (keep s9.ex), at_of (j := spot.toNat) (by omega) (by rw [List.getElem?_map, List.getElem?_eq_getElem hsn]; rfl), wl, ws.map V.str, .str pages[spot.toNat], rfl, rfl, s9.hwl, sz_lt (by rw [List.length_map]; omega), app s9 (by omega) (hpp _ (List.getElem_mem _))⟩
    · obtain ⟨y6, y7, ws, rfl, s, hl, hw⟩ := hP
      exact s_ret (ev_var rfl) fun H4 e4 => q wl ws H4 (s.mono e4) hl hw
end
end KB

set_option Elab.async false
set_option linter.all false
set_option maxRecDepth 100000
set_option maxHeartbeats 8000000
/-! KQs: calls as data; callers by keywords. -/
namespace KB
open PySem L2 Evl
def evD (e : Ev1) : PyData := .tuple [.str e.1, .str e.2]
def logD (es : List Ev1) : PyData := .list (es.map evD)
def callD (ps : List Str) (es : List Ev1) : PyData := .tuple [.tuple (ps.map PyData.str), logD es]
theorem page_ok {x : Str} (h : pageB x = true) : PyData.strOk x = true := by
  have := lay_strs (xs := [x]) fun y hy => by rw [List.mem_singleton.mp hy]; exact h
  have e : (PyData.canLay0 (.str x) && PyData.canLayAll0 []) = true := this
  rw [Bool.and_eq_true] at e
  exact e.1
theorem mark_ok {x : Str} (h : x = hitS ∨ x = missS) : PyData.strOk x = true ∧ x.cps.size ≤ 4 := by
  rcases h with rfl | rfl <;> decide +kernel
theorem evs_lay : ∀ {es : List Ev1}, (∀ e ∈ es, okE e) → PyData.canLayAll0 (es.map evD) = true
  | [], _ => rfl
  | e :: es, h => by
    have ih := evs_lay (es := es) fun y hy => h y (List.mem_cons_of_mem _ hy)
    obtain ⟨h1, h2⟩ := h e List.mem_cons_self
    rw [List.map_cons, PyData.canLayAll0, ih, Bool.and_true]
    show (PyData.strOk e.1 && (PyData.strOk e.2 && true)) = true
    rw [(mark_ok h1).1, page_ok h2]
    rfl
theorem evs_depth : ∀ es : List Ev1, PyData.depthAll (es.map evD) ≤ 1
  | [] => Nat.zero_le _
  | e :: es => by
    have ih := evs_depth es
    rw [List.map_cons, PyData.depthAll]
    have : PyData.depth (evD e) = 1 := rfl
    omega
theorem evs_weight : ∀ {es : List Ev1}, (∀ e ∈ es, okE e) → PyData.weightAll (es.map evD) ≤ 11 * es.length
  | [], _ => Nat.zero_le _
  | e :: es, h => by
    have ih := evs_weight (es := es) fun y hy => h y (List.mem_cons_of_mem _ hy)
    obtain ⟨h1, h2⟩ := h e List.mem_cons_self
    rw [List.map_cons, PyData.weightAll, List.length_cons]
    have m := (mark_ok h1).2
    have p : e.2.cps.size ≤ 4 := pageB_len h2
    have : PyData.weight (evD e) = e.1.cps.size + 1 + (e.2.cps.size + 1 + 0) := rfl
    omega
theorem strs_weight : ∀ {ps : List Str}, (∀ p ∈ ps, pageB p = true) → PyData.weightAll (ps.map PyData.str) ≤ 5 * ps.length
  | [], _ => Nat.zero_le _
  | p :: ps, h => by
    have ih := strs_weight (ps := ps) fun y hy => h y (List.mem_cons_of_mem _ hy)
    have hp : p.cps.size ≤ 4 := pageB_len (h p List.mem_cons_self)
    rw [List.map_cons, PyData.weightAll, List.length_cons]
    have : PyData.weight (.str p) = p.cps.size := rfl
    omega
theorem evs_show : ∀ es : List Ev1, PyData.showableAll (es.map evD) = true
  | [] => rfl
  | e :: es => by
    rw [List.map_cons, PyData.showableAll, evs_show es]
    rfl
theorem strs_show : ∀ ps : List Str, PyData.showableAll (ps.map PyData.str) = true
  | [] => rfl
  | e :: es => by
    rw [List.map_cons, PyData.showableAll, strs_show es]
    rfl
theorem evs_short : ∀ es : List Ev1, PyData.intsShortAll 13 (es.map evD) = true
  | [] => rfl
  | e :: es => by
    rw [List.map_cons, PyData.intsShortAll, evs_short es]
    rfl
theorem strs_short : ∀ ps : List Str, PyData.intsShortAll 13 (ps.map PyData.str) = true
  | [] => rfl
  | e :: es => by
    rw [List.map_cons, PyData.intsShortAll, strs_short es]
    rfl
theorem call_lay {ps : List Str} {es : List Ev1} (hp : ∀ p ∈ ps, pageB p = true) (he : ∀ e ∈ es, okE e) : PyData.canLay0 (callD ps es) = true := by
  show (PyData.canLayAll0 (ps.map PyData.str) && (PyData.canLayAll0 (es.map evD) && true)) = true
  rw [lay_strs hp, evs_lay he]
  rfl
theorem call_depth (ps : List Str) (es : List Ev1) : PyData.depth (callD ps es) ≤ 4 := by
  have h1 := evs_depth es
  have h2 := depth_strs ps
  have : PyData.depth (callD ps es) = max (PyData.depthAll (ps.map PyData.str) + 1) (max (PyData.depthAll (es.map evD) + 1) 0) + 1 := rfl
  omega
theorem call_text {ps : List Str} {es : List Ev1} (hp : Pages ps) (he : ∀ e ∈ es, okE e) (hl : es.length ≤ 300) : (callD ps es).shown.length ≤ sizeLine := by
  refine PyData.shown_fits_of_layable0 (B := 13) (by decide) (by decide) ?_ ?_
  · unfold PyData.layable0
    rw [call_lay hp.all he, Bool.true_and, Bool.and_eq_true, decide_eq_true_eq, decide_eq_true_eq]
    have h1 := call_depth ps es
    have h2 := evs_weight he
    have h3 := strs_weight hp.all
    have h4 := hp.len
    have : PyData.weight (callD ps es) = PyData.weightAll (ps.map PyData.str) + 1 + (PyData.weightAll (es.map evD) + 1 + 0) := rfl
    omega
  · show (PyData.intsShortAll 13 (ps.map PyData.str) && (PyData.intsShortAll 13 (es.map evD) && true)) = true
    rw [strs_short, evs_short]
    rfl
theorem call_show (ps : List Str) (es : List Ev1) : (callD ps es).showable = true := by
  show (PyData.showableAll (ps.map PyData.str) && (PyData.showableAll (es.map evD) && true)) = true
  rw [strs_show, evs_show]
  rfl
theorem dp_evs {K : PySem.W.Frag} {H : Hp} : ∀ {ts : List Addr} {es : List Ev1}, Paired (fun t (e : Ev1) => SqT K H t [.str e.1, .str e.2]) ts es → DpAll K H (ts.map V.ref) (es.map evD)
  | _, _, .nil => .nil
  | _, _, .cons h t => .cons (.tup h (.cons (.str _) (.cons (.str _) .nil))) (dp_evs t)
section
variable {K : PySem.W.Frag} {σ : L2.St} {H : Hp} {ta tb : TE}
theorem el_k0 {sp : Sp} {gV : List V → List V → List V} {zs xs : List V} {tk : TA} (h : EvA tk σ H zs) (hs : ∀ H1, Ex H H1 → ∀ Q : VK, RetL xs H1 Q → sp (gV [] zs) H1 Q E0) : EvL (tCallK0 sp gV E0 tk) σ H xs := fun H1 e Q q =>
  h H1 e _ fun H2 e2 => hs H2 (e.trans e2) Q fun p H3 hp e3 h3 => q p H3 (fresh_back e2 hp) (e2.trans e3) h3
end
/-- a def as callers by keywords know it -/
structure ClK (P : Program) (w : World) (K : PySem.W.Frag) (mg : Str → Option Value) (base : Heap) (k : Nat) (x : Str) (ps ks : List Str) (gV : List V → List V → List V) (sp : Sp) : Prop where
  ex : ∃ (f : Addr) (fd : FuncData) (g : List Value → List Value → List Value), FnOk P w K mg base CX0 k f fd ps sp ∧ mg x = some (.ref f) ∧ PySem.W.keepIn K (.ref f) = true ∧ KBinds K fd ps ks g gV
theorem pe_clk {X : Cx} {k j : Nat} {ps ks : List Str} {sp : Sp} {x : Str} {p pos : Pos} {kws : List Keyword} {tk : TA} {gV : List V → List V → List V} (c : ClK X.prog X.w X.K X.mg X.base k x ps ks gV sp) (hr : Room j X.A) (hkw : PK X kws tk) (hk : k ≤ j := by decide) (hg : Gl X x := by rfl)
    (hall : (backToKw pos (keywordEach kws X.env)).all (·.1.isSome) = true := by rfl) (hks : (backToKw pos (keywordEach kws X.env)).filterMap (·.1) = ks := by rfl)
    (hdb : (x == ("__debug__" : Str)) = false := by decide) (hpl : ((backTo pos (starEach [] X.env)).any (·.1) || (backToKw pos (keywordEach kws X.env)).any (·.1.isNone)) = false := by rfl) : PE X (.Call (.Name x p) [] kws pos) (tCallK0 sp gV E0 tk) := by
  obtain ⟨f, fd, g, F, hm, kp, hb⟩ := c.ex
  exact pe_callK0 F (hr.mono hk) hg hm kp hb pass0 hkw hall hks hdb hpl
/-- keywords in the parameters' order, and turned round -/
def kwSame (vs zs : List V) : List V := if vs = [] then zs else []
def kwBack (vs zs : List V) : List V := if vs = [] then zs.reverse else []
end KB

set_option Elab.async false
set_option linter.all false
set_option maxRecDepth 100000
set_option maxHeartbeats 8000000
/-! F0: the law's comparison, walked. -/
namespace KB
open PySem PySem.Spec PyProof.Rows L2 Evl LamX LP
def strsD (gs : List Str) : PyData := .list (gs.map PyData.str)
def resD (es : List Ev1) (gs : List Str) : PyData := .list [logD es, strsD gs]
def argD (ps rs : List Str) : PyData := .list [.tuple (ps.map PyData.str), strsD rs]
theorem shaped_log {es : List Ev1} (h : ∀ e ∈ es, okE e) : SeqAt.shaped (logD es) = true := by
  unfold SeqAt.shaped
  rw [show PyData.canLay0 (logD es) = true from evs_lay h, Bool.true_and, decide_eq_true_eq]
  have h1 := evs_depth es
  have : PyData.depth (logD es) = PyData.depthAll (es.map evD) + 1 := rfl
  omega
theorem res_lay {es : List Ev1} {gs : List Str} (he : ∀ e ∈ es, okE e) (hg : ∀ p ∈ gs, pageB p = true) : PyData.canLay0 (resD es gs) = true := by
  show (PyData.canLayAll0 (es.map evD) && (PyData.canLayAll0 (gs.map PyData.str) && true)) = true
  rw [evs_lay he, lay_strs hg]
  rfl
theorem shaped_res {es : List Ev1} {gs : List Str} (he : ∀ e ∈ es, okE e) (hg : ∀ p ∈ gs, pageB p = true) : SeqAt.shaped (resD es gs) = true := by
  unfold SeqAt.shaped
  rw [res_lay he hg, Bool.true_and, decide_eq_true_eq]
  have h1 := evs_depth es
  have h2 := depth_strs gs
  have : PyData.depth (resD es gs) = max (PyData.depthAll (es.map evD) + 1) (max (PyData.depthAll (gs.map PyData.str) + 1) 0) + 1 := rfl
  omega
theorem arg_lay {ps rs : List Str} (hp : ∀ p ∈ ps, pageB p = true) (hr : ∀ p ∈ rs, pageB p = true) : PyData.canLay0 (argD ps rs) = true := by
  show (PyData.canLayAll0 (ps.map PyData.str) && (PyData.canLayAll0 (rs.map PyData.str) && true)) = true
  rw [lay_strs hp, lay_strs hr]
  rfl
theorem arg_depth (ps rs : List Str) : PyData.depth (argD ps rs) ≤ 4 := by
  have h1 := depth_strs ps
  have h2 := depth_strs rs
  have : PyData.depth (argD ps rs) = max (PyData.depthAll (ps.map PyData.str) + 1) (max (PyData.depthAll (rs.map PyData.str) + 1) 0) + 1 := rfl
  omega
theorem arg_text {ps rs : List Str} (hp : Pages ps) (hr : ∀ p ∈ rs, pageB p = true) (hl : rs.length ≤ 300) : (argD ps rs).shown.length ≤ sizeLine := by
  refine PyData.shown_fits_of_layable0 (B := 13) (by decide) (by decide) ?_ ?_
  · unfold PyData.layable0
    rw [arg_lay hp.all hr, Bool.true_and, Bool.and_eq_true, decide_eq_true_eq, decide_eq_true_eq]
    have h1 := arg_depth ps rs
    have h2 := strs_weight hr
    have h3 := strs_weight hp.all
    have h4 := hp.len
    have : PyData.weight (argD ps rs) = PyData.weightAll (ps.map PyData.str) + 1 + (PyData.weightAll (rs.map PyData.str) + 1 + 0) := rfl
    omega
  · show (PyData.intsShortAll 13 (ps.map PyData.str) && (PyData.intsShortAll 13 (rs.map PyData.str) && true)) = true
    rw [strs_short, strs_short]
    rfl
theorem arg_show (ps rs : List Str) : (argD ps rs).showable = true := by
  show (PyData.showableAll (ps.map PyData.str) && (PyData.showableAll (rs.map PyData.str) && true)) = true
  rw [strs_show, strs_show]
  rfl
/-- a log in a list -/
def LgAt (H : Hp) (p : Addr) (es : List Ev1) : Prop := ∃ ts : List Addr, H p = some (.lst (ts.map V.ref)) ∧ Paired (TupAt H) ts es
theorem LgAt.mono {H H' : Hp} {p : Addr} {es : List Ev1} (h : LgAt H p es) (e : Ex H H') : LgAt H' p es := by
  obtain ⟨ts, a, b⟩ := h
  exact ⟨ts, e _ _ a, Paired.imp b fun _ _ z => e _ _ z⟩
theorem LgAt.no {H H' : Hp} {p : Addr} {es : List Ev1} (h : LgAt H p es) (e : Ex (noTab H) H') : LgAt H' p es := by
  obtain ⟨ts, a, b⟩ := h
  exact ⟨ts, n_lst e a, Paired.imp b fun _ _ z => n_tup e z⟩
theorem LgAt.dp {K : PySem.W.Frag} {H : Hp} {p : Addr} {es : List Ev1} (h : LgAt H p es) : Dp K H (.ref p) (logD es) := by
  obtain ⟨ts, a, b⟩ := h
  exact .lst (sq_of a) (dp_evs (Paired.imp b fun _ _ z => st_of z))
theorem LgAt.upd {H : Hp} {p l : Addr} {xs : List V} {o : HO} {es : List Ev1} (h : LgAt H p es) (hl : H l = some (.lst xs)) (n : p ≠ l) : LgAt (L2.upd H l o) p es := by
  obtain ⟨ts, a, b⟩ := h
  exact ⟨ts, by rw [upd_ne n]; exact a, tup_upd hl b⟩
def StsAt (H : Hp) (p : Addr) (gs : List Str) : Prop := H p = some (.lst (gs.map V.str))
theorem StsAt.dp {K : PySem.W.Frag} {H : Hp} {p : Addr} {gs : List Str} (h : StsAt H p gs) : Dp K H (.ref p) (strsD gs) := .lst (sq_of h) (dp_strs gs)
/-- a list of a log and a list of pages -/
structure ResAt (H : Hp) (p p1 p2 : Addr) (es : List Ev1) (gs : List Str) : Prop where
  h0 : H p = some (.lst [.ref p1, .ref p2])
  h1 : LgAt H p1 es
  h2 : StsAt H p2 gs
theorem ResAt.mono {H H' : Hp} {p p1 p2 : Addr} {es : List Ev1} {gs : List Str} (h : ResAt H p p1 p2 es gs) (e : Ex H H') : ResAt H' p p1 p2 es gs := ⟨e _ _ h.h0, h.h1.mono e, e _ _ h.h2⟩
theorem ResAt.no {H H' : Hp} {p p1 p2 : Addr} {es : List Ev1} {gs : List Str} (h : ResAt H p p1 p2 es gs) (e : Ex (noTab H) H') : ResAt H' p p1 p2 es gs := ⟨n_lst e h.h0, h.h1.no e, n_lst e h.h2⟩
theorem ResAt.dp {K : PySem.W.Frag} {H : Hp} {p p1 p2 : Addr} {es : List Ev1} {gs : List Str} (h : ResAt H p p1 p2 es gs) : Dp K H (.ref p) (resD es gs) := .lst (sq_of h.h0) (.cons h.h1.dp (.cons h.h2.dp .nil))
section
variable {K : PySem.W.Frag} {σ : L2.St} {H H1 H' : Hp} {ta tb tc te tx tl : TE} {x y z v : V} {D : Ends} {Q : VK}
theorem rv_neRes {p p1 p2 q q1 q2 : Addr} {es : List Ev1} {gs : List Str} (a : ResAt H p p1 p2 es gs) (b : ResAt H q q1 q2 es gs) (he : ∀ e ∈ es, okE e) (hg : ∀ p ∈ gs, pageB p = true) : RV (rNeD K) (.ref p) (.ref q) H (.bl false) := fun H1 e Q k =>
  ⟨resD es gs, resD es gs, (a.mono e).dp, (b.mono e).dp, shaped_res he hg, shaped_res he hg, by
    rw [SeqAt.eqv_refl _ (res_lay he hg)]
    exact k H1 (Ex.refl H1)⟩
theorem rv_eqLog {p q : Addr} {es : List Ev1} (a : LgAt H p es) (b : LgAt H q es) (he : ∀ e ∈ es, okE e) : RV (rEqD K) (.ref p) (.ref q) H (.bl true) := fun H1 e Q k =>
  ⟨logD es, logD es, (a.mono e).dp, (b.mono e).dp, shaped_log he, shaped_log he, by
    rw [SeqAt.eqv_refl _ (show PyData.canLay0 (logD es) = true from evs_lay he)]
    exact k H1 (Ex.refl H1)⟩
theorem rv_eqSts {p q : Addr} {gs : List Str} (a : StsAt H p gs) (b : StsAt H q gs) (hg : ∀ p ∈ gs, pageB p = true) : RV (rEqD K) (.ref p) (.ref q) H (.bl true) := fun H1 e Q k =>
  ⟨strsD gs, strsD gs, StsAt.dp (e _ _ a), StsAt.dp (e _ _ b), shaped_strs hg, shaped_strs hg, by
    rw [SeqAt.eqv_refl _ (show PyData.canLay0 (strsD gs) = true from lay_strs hg)]
    exact k H1 (Ex.refl H1)⟩
/-- repr([start, requests]) -/
theorem ev_reprArg {t l : Addr} {ps rs : List Str} (ha : Ev ta σ H (.ref t)) (hb : Ev tb σ H (.ref l)) (ht : SqT K H t (ps.map V.str)) (hp : Pages ps) (hl : SqL K H l (rs.map V.str)) (hr : ∀ p ∈ rs, pageB p = true) (hz : rs.length ≤ 300) :
    Ev (tCB (rReprD K) (tCons (tLst (tCons ta (tCons tb tNil))) tNil)) σ H (.str (argD ps rs).shown) := fun H1 e Q q => by
  have hu : EvL (tLst (tCons ta (tCons tb tNil))) σ H [.ref t, .ref l] := el_lst (ea_cons ha (ea_cons hb ea_nil)) (show 2 ≤ 100000 by decide)
  show tLst (tCons ta (tCons tb tNil)) σ H1 (fun x H2 => tNil σ H2 fun xs H3 => rReprD K (x :: xs) H3 Q)
  refine hu H1 e _ fun p H2 _ e2 h2 => ?_
  exact ⟨p, argD ps rs, rfl, .lst (sq_of h2) (.cons (.tup (ex_t (e.trans e2) ht) (dp_strs ps)) (.cons (.lst (ex_l (e.trans e2) hl) (dp_strs rs)) .nil)), arg_show ps rs, PyData.hasDict_of_canLay _ (arg_lay hp.all hr), Nat.le_trans (arg_depth ps rs) (by decide), arg_text hp hr hz, q H2 e2⟩
theorem go_callK0 {sp : Sp} {gV : List V → List V → List V} {E : XK} {tk : TA} (h : tk σ H fun zs H2 => sp (gV [] zs) H2 Q E) : tCallK0 sp gV E tk σ H Q := h
theorem go_call {sp : Sp} {dvs : List V} {E : XK} {ta : TA} (h : ta σ H fun vs H2 => sp (vs ++ dvs) H2 Q E) : tCall sp dvs E ta σ H Q := h
end
theorem log_ok {r : Str} {c : Nat} {ps rs : List Str} (hc : 1 ≤ c) (hp : ∀ p ∈ ps, pageB p = true) (hr : ∀ p ∈ rs, pageB p = true) : (∀ e ∈ logS r c ps rs, okE e) ∧ (∀ p ∈ goneS r c ps rs, pageB p = true) ∧ (logS r c ps rs).length = rs.length ∧ (goneS r c ps rs).length ≤ rs.length := by
  obtain ⟨_, h2, h3, h4, h5⟩ := st_mem (rule := r) (cap := c) (P := fun p => pageB p = true) hp hr rs.length (Nat.le_refl _)
  exact ⟨fun e he => h2 e he, h5 hc, h3, h4⟩
theorem ne_no {H : Hp} {a p : Addr} {xs : List V} (h : H a = some (.lst xs)) (n : noTab H p = none) : a ≠ p := fun z => by
  rw [← z, noTab_of h nlst] at n
  cases n
theorem go_ret {te : TE} {D : Ends} {σ : L2.St} {H : Hp} (h : te σ H D.rt) : tRet te D σ H := h
theorem go_andV {ta tb : TE} {σ : L2.St} {H : Hp} {Q : VK} (h : ta σ H fun x H1 => ∃ b, x = .bl b ∧ if b = true then tb σ H1 Q else Q (.bl false) H1) : tAndV ta tb σ H Q := h
end KB

set_option Elab.async false
set_option linter.all false
set_option maxRecDepth 100000
set_option maxHeartbeats 8000000
/-! F1: the first difference, walked. -/
namespace KB
open PySem PySem.Spec PyProof.Rows L2 Evl LamX LP
abbrev nilE : Ev1 := ("", "")
/-- where two logs differ first -/
def diffI (es own : List Ev1) : Option Nat := (List.range es.length).find? fun i => !decide (es.getD i nilE = own.getD i nilE)
def dueS (r : Str) (c : Nat) (ps : List Str) (es : List Ev1) : Option Nat := diffI es (logS r c ps (es.map (·.2)))
def dueV : Option Nat → V
  | some i => .int (i : Int)
  | none => .non
theorem ev_lay {e : Ev1} (h : okE e) : PyData.canLay0 (evD e) = true := by
  have := evs_lay (es := [e]) fun y hy => by rw [List.mem_singleton.mp hy]; exact h
  have e2 : (PyData.canLay0 (evD e) && PyData.canLayAll0 []) = true := this
  rw [Bool.and_eq_true] at e2
  exact e2.1
theorem ev_shaped {e : Ev1} (h : okE e) : SeqAt.shaped (evD e) = true := by
  unfold SeqAt.shaped
  rw [ev_lay h, Bool.true_and, decide_eq_true_eq]
  show (1 : Nat) ≤ _
  decide
theorem ev_eqv (e f : Ev1) : PyData.eqv (evD e) (evD f) = decide (e = f) := by
  obtain ⟨a, b⟩ := e
  obtain ⟨c, d⟩ := f
  show (a == c && (b == d && true)) = _
  rw [Bool.and_true]
  by_cases h1 : a = c
  · by_cases h2 : b = d
    · rw [h1, h2]
      simp
    · rw [decide_eq_false (fun z => h2 (Prod.mk.inj z).2), beq_eq_false_iff_ne.mpr h2, Bool.and_false]
  · rw [decide_eq_false (fun z => h1 (Prod.mk.inj z).1), beq_eq_false_iff_ne.mpr h1, Bool.false_and]
theorem paired_gt {H : Hp} {ts : List Addr} {es : List Ev1} (h : Paired (TupAt H) ts es) {i : Nat} (hi : i < es.length) : ∃ t, ts[i]? = some t ∧ H t = some (.tup [.str (es.getD i nilE).1, .str (es.getD i nilE).2]) := by
  induction h generalizing i with
  | nil => exact absurd hi (Nat.not_lt_zero i)
  | @cons t e ts es h _ ih =>
    cases i with
    | zero => exact ⟨t, rfl, h⟩
    | succ i =>
      obtain ⟨u, h1, h2⟩ := ih (i := i) (by simpa using hi)
      exact ⟨u, by simpa using h1, by simpa using h2⟩
section
variable {K : PySem.W.Frag} {σ : L2.St} {H H1 H' : Hp} {ta tb tc te tx ty td tl : TE} {t : TT} {x y z v : V} {D : Ends} {Q : VK}
/-- [page for _, page in log] -/
theorem el_lcEv {l : Addr} {ts : List Addr} {es : List Ev1} {j1 j2 : Nat} {vs : List Nat} (h : Ev tl σ H (.ref l)) (hq : H l = some (.lst (ts.map V.ref))) (ht : Paired (TupAt H) ts es) (hz : es.length ≤ 40000) (hw : ∀ x y, wipe (((wipe σ vs).set j1 (some x)).set j2 (some y)) vs = wipe σ vs)
    (h2 : ∀ x y, (((wipe σ vs).set j1 (some x)).set j2 (some y))[j2]? = some (some y)) :
    EvL (tLc (iList K tl) (gTup K 2 (gCons (gName j1) (gCons (gName j2) gNil))) tYes (tVar j2) vs) σ H ((es.map (·.2)).map V.str) := fun H0 e0 Q q =>
  h H0 e0 _ fun H1 e1 => ⟨l, rfl, ⟨_, sq_of ((e0.trans e1) _ _ hq)⟩, fun Dl hD => lc_it (walk_list (K := K) (a := l) (xs := ts.map V.ref)) (fun i H' => Ex H1 H' ∧ H' Dl = some (.lst (((es.take i).map (·.2)).map V.str))) ⟨Ex.new hD, upd_same⟩ (fun i H' _ p => sq_of (p.1 _ _ ((e0.trans e1) _ _ hq))) (fun i x H' H'' hi p hy => by
    obtain ⟨rfl, hx⟩ := hy
    obtain ⟨p1, p2⟩ := p
    have hie : i < es.length := by
      rw [List.length_map, paired_len ht] at hi
      exact hi
    obtain ⟨t, ht1, ht2⟩ := paired_gt ht hie
    rw [List.getElem?_map, ht1] at hx
    obtain rfl : V.ref t = x := Option.some.inj hx
    have ht3 := ((e0.trans e1).trans p1) _ _ ht2
    refine ⟨t, [.str (es.getD i nilE).1, .str (es.getD i nilE).2], rfl, .inl (.inl ht3), rfl, .str (es.getD i nilE).1, [.str (es.getD i nilE).2], rfl, .str (es.getD i nilE).2, [], rfl, rfl, hw _ _, ?_⟩
    refine yes_go ?_
    rw [if_pos rfl]
    refine ⟨.str (es.getD i nilE).2, h2 _ _, _, p2, ?_, Ex.mut p1 hD, ?_⟩
    · rw [List.length_map, List.length_map, List.length_take]
      exact sz_lt (by omega)
    · have hg : es.getD i nilE = es[i] := by rw [List.getD_eq_getElem?_getD, List.getElem?_eq_getElem hie]; rfl
      rw [upd_same, List.take_add_one, List.getElem?_eq_getElem hie, hg, List.map_append, List.map_append]
      rfl) (fun H' p => by
    obtain ⟨p1, p2⟩ := p
    rw [List.length_map, paired_len ht, List.take_length] at p2
    exact q Dl H' (fresh_back e1 hD) (e1.trans p1) p2)⟩
/-- log[i] != other[i] -/
theorem et_neEv {l m : Addr} {ts us : List Addr} {es fs : List Ev1} {i : Nat} {tl tm ti : TE} (h1 : Ev tl σ H (.ref l)) (h2 : Ev tm σ H (.ref m)) (h3 : Ev ti σ H (.int (i : Int))) (hl : H l = some (.lst (ts.map V.ref))) (hts : Paired (TupAt H) ts es) (hm : H m = some (.lst (us.map V.ref))) (hus : Paired (TupAt H) us fs)
    (hi : i < es.length) (hj : i < fs.length) (oe : ∀ e ∈ es, okE e) (of : ∀ e ∈ fs, okE e) : EvT (tTest (tOp (rNeD K) (tOp (rIxL K) tl ti) (tOp (rIxL K) tm ti))) σ H (!decide (es.getD i nilE = fs.getD i nilE)) := by
  obtain ⟨t, ht1, ht2⟩ := paired_gt hts hi
  obtain ⟨u, hu1, hu2⟩ := paired_gt hus hj
  have mem : ∀ {xs : List Ev1}, i < xs.length → xs.getD i nilE ∈ xs := fun {xs} h => by
    rw [List.getD_eq_getElem?_getD, List.getElem?_eq_getElem h]
    exact List.getElem_mem _
  refine et_test (ev_op (ev_op h1 h3 (rv_ixL (sq_of hl) (atI_nat (j := i) (by rw [List.getElem?_map, ht1]; rfl)))) (ev_op h2 h3 (rv_ixL (sq_of hm) (atI_nat (j := i) (by rw [List.getElem?_map, hu1]; rfl)))) fun H1 e1 Q k => ?_)
  refine ⟨evD (es.getD i nilE), evD (fs.getD i nilE), .tup (.inl (.inl (e1 _ _ ht2))) (.cons (.str _) (.cons (.str _) .nil)), .tup (.inl (.inl (e1 _ _ hu2))) (.cons (.str _) (.cons (.str _) .nil)), ev_shaped (oe _ (mem hi)), ev_shaped (of _ (mem hj)), ?_⟩
  rw [ev_eqv]
  exact k H1 (Ex.refl H1)
end
/-- arguments of first_difference -/
structure DA (K : PySem.W.Frag) (H : Hp) (r : Str) (c : Nat) (t l : Addr) (ps : List Str) (es : List Ev1) : Prop where
  R : isRule r
  c1 : 1 ≤ c
  ht : SqT K H t (ps.map V.str)
  pg : Pages ps
  le : ps.length ≤ c
  hl : ∃ ts : List Addr, H l = some (.lst (ts.map V.ref)) ∧ Paired (TupAt H) ts es
  ok : ∀ e ∈ es, okE e
  len : es.length ≤ 300
section
variable {K : PySem.W.Frag} {H H' : Hp} {r : Str} {c : Nat} {t l : Addr} {ps : List Str} {es : List Ev1}
theorem DA.mono (a : DA K H r c t l ps es) (e : Ex H H') : DA K H' r c t l ps es := { a with
  ht := ex_t e a.ht
  hl := by
    obtain ⟨ts, h1, h2⟩ := a.hl
    exact ⟨ts, e _ _ h1, Paired.imp h2 fun _ _ z => e _ _ z⟩ }
theorem DA.no (a : DA K H r c t l ps es) (e : Ex (noTab H) H') : DA K H' r c t l ps es := { a with
  ht := ex_t e (st_noTab a.ht)
  hl := by
    obtain ⟨ts, h1, h2⟩ := a.hl
    exact ⟨ts, n_lst e h1, Paired.imp h2 fun _ _ z => n_tup e z⟩ }
theorem DA.lk (a : DA K H r c t l ps es) : LogK K H l es := by
  obtain ⟨ts, h1, h2⟩ := a.hl
  exact ⟨⟨ts, sq_of h1, Paired.imp h2 fun _ _ z => .inl (.inl z)⟩, a.ok, a.len⟩
theorem DA.pages (a : DA K H r c t l ps es) : ∀ p ∈ es.map (·.2), pageB p = true := fun p hp => by
  obtain ⟨e, he, rfl⟩ := List.mem_map.mp hp
  exact (a.ok e he).2
end
theorem own_ok {r : Str} {c : Nat} {ps rs : List Str} (hc : 1 ≤ c) (hp : ∀ p ∈ ps, pageB p = true) (hr : ∀ p ∈ rs, pageB p = true) : (∀ e ∈ logS r c ps rs, okE e) ∧ (logS r c ps rs).length = rs.length := by
  obtain ⟨_, h2, h3, h4, h5⟩ := st_mem (rule := r) (cap := c) (P := fun p => pageB p = true) hp hr rs.length (Nat.le_refl _)
  exact ⟨fun e he => h2 e he, h3⟩
theorem diff_at {es own : List Ev1} {i : Nat} (hi : i < es.length) (h : es.getD i nilE ≠ own.getD i nilE) (h0 : ∀ j, j < i → es.getD j nilE = own.getD j nilE) : diffI es own = some i := by
  unfold diffI
  rw [List.find?_eq_some_iff_getElem]
  refine ⟨by rw [decide_eq_false h]; rfl, i, by rw [List.length_range]; exact hi, List.getElem_range _, fun j hj => ?_⟩
  rw [List.getElem_range, decide_eq_true (h0 j hj)]
  rfl
theorem diff_none {es own : List Ev1} (h0 : ∀ j, j < es.length → es.getD j nilE = own.getD j nilE) : diffI es own = none := by
  unfold diffI
  rw [List.find?_eq_none]
  intro j hj
  rw [decide_eq_true (h0 j (List.mem_range.mp hj))]
  exact Bool.false_ne_true
section
variable {P : Program} {w : World} {K : PySem.W.Frag} {mg : Str → Option Value} {base : Heap}
abbrev NFd : List Str := ["rule", "capacity", "start", "log", "played", "_", "index", "page"]
abbrev PFd : List Str := ["rule", "capacity", "start", "log"]
theorem scFd : FnScope NFd PFd (defScope sFirstDiff) := ⟨rfl, rfl, rfl, by decide +kernel, rfl, by decide +kernel, by decide +kernel⟩
def spFirstDiff (K : PySem.W.Frag) (T : Addr) : Sp := fun vs H Q _ => ∃ (r : Str) (c : Nat) (t l : Addr) (ps : List Str) (es : List Ev1), vs = [.str r, .int (c : Int), .ref t, .ref l] ∧ DA K H r c t l ps es ∧ TabS H T viQ ∧ ∀ H2, Ex (noTab H) H2 → TabS H2 T viQ → Q (dueV (dueS r c ps es)) H2
theorem ok_firstDiff {f T : Addr} {fd : FuncData} (F : Fun K "first_difference" "first_difference" sFirstDiff f fd) (B : Bn mg) (c1 : Cl P w K mg base 6 "_check_rule_and_shelf" ["rule", "capacity", "start"] (spCkRule K)) (c2 : Cl P w K mg base 4 "check_log" ["log"] (spCheckLog K)) (c3 : Cl P w K mg base 6 "_play" ["rule", "capacity", "start", "requests"] (spPlayT K T)) : FnOk P w K mg base CX0 7 f fd PFd (spFirstDiff K T) := by
  refine F.ok scFd (fun vs H Q E h => ?_) (fun cdv A outer s H vs Q E hr h => ?_)
  · obtain ⟨r, c, t, l, ps, es, rfl, _⟩ := h
    rfl
  · obtain ⟨r, c, t, l, ps, es, rfl, a, hT, q⟩ := h
    have nd := scFd.nd
    refine ⟨_, pss_cons (ps_expr (pe_cl c1 hr (pa_cons (pv 0) (pa_cons (pv 1) (pa_cons (pv 2) pa_nil)))))
      (pss_cons (ps_expr (pe_cl c2 hr (pa_cons (pv 3) pa_nil)))
      (pss_cons (ps_asg (pe_cl c3 hr (pa_cons (pv 0) (pa_cons (pv 1) (pa_cons (pv 2) (pa_cons
          (pe_lc (own := [("_", 5), ("page", 7)]) (g := gTup K 2 (gCons (gName 5) (gCons (gName 7) gNil))) (tt := tYes) (te := tVar 7) rfl nd (pi_list (pv 3)) (blkOk_by (N := NFd) (sc := defScope sFirstDiff) (by decide +kernel))
            (fun _ _ _ _ _ => pg_tup rfl (pgs_cons (pg_name (i := 5) nd rfl (Or.inl rfl)) (pgs_cons (pg_name (i := 7) nd rfl (Or.inl rfl)) pgs_nil))) (fun _ _ _ _ _ => pts_nil) (fun _ _ _ _ _ => pv 7)) pa_nil))))) (pg_tup rfl (pgs_cons (pg_name (i := 4) nd rfl (Or.inl rfl)) (pgs_cons (pg_name (i := 5) nd rfl (Or.inl rfl)) pgs_nil))))
      (pss_cons (ps_for PassesOwn.never rfl (pi_range1 (by rfl) B.range (pa_cons (pe_callB call_len_seq (by rfl) B.len bt_len (pa_cons (pv 3) pa_nil)) pa_nil)) (pg_name (i := 6) nd rfl (Or.inl rfl))
        (pss_one (ps_if (pt_cmpR (op_neD hr.units) (pe_ix (r := rIxL K) ix_list (pv 3) (pv 6) (fun _ _ => rfl)) (pe_ix (r := rIxL K) ix_list (pv 4) (pv 6) (fun _ _ => rfl)) (nomark _)) (pss_one (ps_ret (pv 6))) pss_nil)))
      (pss_one (ps_ret pe_non))))), ?_⟩
    refine q_drop (ev_fn (ea_cons (ev_var rfl) (ea_cons (ev_var rfl) (ea_cons (ev_var rfl) ea_nil))) fun H4 e4 Q' k => ⟨r, c, t, ps, rfl, a.R, a.c1, ex_t e4 a.ht, a.pg, a.le, k⟩) fun H1 e1 => ?_
    refine q_drop (ev_fn (ea_cons (ev_var rfl) ea_nil) fun H4 e4 Q' k => ⟨l, es, rfl, (a.mono (e1.trans e4)).lk, k⟩) fun H2 e2 => ?_
    have e12 := e1.trans e2
    have a2 := a.mono e12
    have t2 := hT.ext e12
    obtain ⟨ts, hl2, hts2⟩ := a2.hl
    have la := a.len
    refine ⟨.str r, rfl, .int (c : Int), rfl, .ref t, rfl, ?_⟩
    refine (el_lcEv (ev_var rfl) hl2 hts2 (by omega) (fun _ _ => rfl) (fun _ _ => rfl)) H2 (Ex.refl _) _ fun rl H3 nrl e3 hrl => ?_
    have a3 := a2.mono e3
    obtain ⟨okO, lenO⟩ := own_ok (r := r) (c := c) a.c1 a.pg.all a.pages
    refine ⟨r, c, t, rl, ps, es.map (·.2), rfl, a.R, t2.ext e3, a.c1, a3.ht, a.pg, a.le, sq_of hrl, a.pages, by rw [List.length_map]; exact a.len, fun T0 hp gp us H4 nT nh ng d e4 t4 hT0 hh hus hg => ⟨T0, [.ref hp, .ref gp], rfl, .inl (.inl hT0), rfl, .ref hp, [.ref gp], rfl, .ref gp, [], rfl, rfl, ?_⟩⟩
    have a4 := a3.no e4
    have k4 : Ex (noTab H) H4 := nn (ex_noTab (e12.trans e3)) e4
    obtain ⟨ts4, hl4, hts4⟩ := a4.hl
    have hn4 := paired_len hts4
    rw [List.length_map] at lenO
    have hdue : dueS r c ps es = diffI es (logS r c ps (es.map (·.2))) := rfl
    generalize logS r c ps (es.map (·.2)) = own at hus okO lenO hdue
    refine q_forN (n := es.length) (ea_cons (ev_is (ev_len (ev_var rfl) (sq_of hl4)) (by rw [List.length_map, hn4])) ea_nil) (by omega) (fun i σ H' => ∃ y6 y7, σ = [some (.str r), some (.int (c : Int)), some (.ref t), some (.ref l), some (.ref hp), some (.ref gp), y6, y7] ∧ Ex H4 H' ∧ ∀ j, j < i → es.getD j nilE = own.getD j nilE) (fun H5 e5 => ⟨_, _, rfl, e5, fun j hj => absurd hj (Nat.not_lt_zero j)⟩) (fun i σ H' hi hP => ?_) (fun σ H' hP => ?_)
    · obtain ⟨y6, y7, rfl, e5, h0⟩ := hP
      refine s_when (b := !decide (es.getD i nilE = own.getD i nilE)) (et_neEv (ev_var rfl) (ev_var rfl) (ev_var rfl) (e5 _ _ hl4) (Paired.imp hts4 fun _ _ z => e5 _ _ z) (e5 _ _ hh) (Paired.imp hus fun _ _ z => e5 _ _ z) hi (by omega) a.ok okO) (fun hb H6 e6 => ?_) (fun hb H6 e6 => ⟨_, _, rfl, e5.trans e6, fun j hj => ?_⟩)
      · have hne : es.getD i nilE ≠ own.getD i nilE := of_decide_eq_false (by simpa using hb)
        refine s_ret (ev_var rfl) fun H7 e7 => ?_
        have := q H7 (k4.trans ((e5.trans e6).trans e7)) (t4.ext ((e5.trans e6).trans e7))
        rw [hdue, diff_at hi hne h0] at this
        exact this
      · by_cases z : j < i
        · exact h0 j z
        · have : j = i := by omega
          subst this
          simpa using hb
    · obtain ⟨y6, y7, rfl, e5, h0⟩ := hP
      refine s_ret ev_c fun H6 e6 => ?_
      have := q H6 (k4.trans (e5.trans e6)) (t4.ext (e5.trans e6))
      rw [hdue, diff_none h0] at this
      exact this
end
end KB

set_option Elab.async false
set_option linter.all false
set_option maxRecDepth 100000
set_option maxHeartbeats 8000000
/-! F2: _law_turned, _law_due, walked. -/
namespace KB
open PySem PySem.Spec PyProof.Rows L2 Evl LamX LP
def turnE (e : Ev1) : Ev1 := (if e.1 = hitS then missS else hitS, e.2)
theorem turn_ok {e : Ev1} (h : okE e) : okE (turnE e) := by
  refine ⟨?_, h.2⟩
  unfold turnE
  show (if e.1 = hitS then missS else hitS) = hitS ∨ _
  split
  · exact .inr rfl
  · exact .inl rfl
section
variable {P : Program} {w : World} {K : PySem.W.Frag} {mg : Str → Option Value} {base : Heap}
theorem scTurned : FnScope ["event"] ["event"] (defScope sTurned) := ⟨rfl, rfl, rfl, by decide +kernel, rfl, by decide +kernel, by decide +kernel⟩
def spTurned (K : PySem.W.Frag) : Sp := fun vs H Q _ => ∃ (t : Addr) (e : Ev1), vs = [.ref t] ∧ H t = some (.tup [.str e.1, .str e.2]) ∧ ∀ T H2, H T = none → Ex H H2 → H2 T = some (.tup [.str (turnE e).1, .str (turnE e).2]) → Q (.ref T) H2
theorem ok_turned {f : Addr} {fd : FuncData} {k : Nat} (F : Fun K "_law_turned" "_law_turned" sTurned f fd) : FnOk P w K mg base CX0 (k + 1) f fd ["event"] (spTurned K) := by
  refine F.ok scTurned (fun vs H Q E h => ?_) (fun cdv A outer s H vs Q E hr h => ?_)
  · obtain ⟨t, e, rfl, _⟩ := h
    rfl
  · obtain ⟨t, e, rfl, ht, q⟩ := h
    refine ⟨_, pss_one (ps_ret (pe_tup (pa_cons (pe_ifExp (pt_cmpR op_eq (pe_ix (r := rIxT K) ix_tup (pv 0) pe_int (fun _ _ => rfl)) pe_str (nomark _)) pe_str pe_str) (pa_cons (pe_ix (r := rIxT K) ix_tup (pv 0) pe_int (fun _ _ => rfl)) pa_nil)))), ?_⟩
    have at0 : ∀ {H' : Hp}, Ex H H' → Ev (tOp (rIxT K) (tVar 0) (tC (.int 0))) [some (.ref t)] H' (.str e.1) := fun e' => ev_op (ev_var rfl) ev_c (rv_ixT (st_of (e' _ _ ht)) (atI_nat (j := 0) rfl))
    have at1 : ∀ {H' : Hp}, Ex H H' → Ev (tOp (rIxT K) (tVar 0) (tC (.int 1))) [some (.ref t)] H' (.str e.2) := fun e' => ev_op (ev_var rfl) ev_c (rv_ixT (st_of (e' _ _ ht)) (atI_nat (j := 1) rfl))
    refine s_retU (xs := [.str (turnE e).1, .str (turnE e).2]) (eu_tup (ea_cons (ev_if (b := decide (V.str e.1 = V.str "hit")) (et_test (ev_op (at0 (Ex.refl _)) ev_c (rv_eq rfl))) (fun hb => ?_) (fun hb => ?_)) (ea_cons (at1 (Ex.refl _)) ea_nil)) (show 2 ≤ 100000 by decide)) fun T H2 nT e2 h2 => q T H2 nT e2 h2
    · have h1 : e.1 = hitS := V.str.inj (of_decide_eq_true hb)
      have : (turnE e).1 = missS := if_pos h1
      rw [this]
      exact ev_c
    · have h1 : ¬ e.1 = hitS := fun z => of_decide_eq_false hb (by rw [z]; rfl)
      have : (turnE e).1 = hitS := if_neg h1
      rw [this]
      exact ev_c
abbrev NDu : List Str := ["word", "room", "initial", "happened", "own", "mark", "page", "k"]
abbrev PDu : List Str := ["word", "room", "initial", "happened"]
theorem scDu : FnScope NDu PDu (defScope sDue) := ⟨rfl, rfl, rfl, by decide +kernel, rfl, by decide +kernel, by decide +kernel⟩
def spDue (K : PySem.W.Frag) : Sp := fun vs H Q _ => ∃ (r : Str) (c : Nat) (t l : Addr) (ps : List Str) (es : List Ev1), vs = [.str r, .int (c : Int), .ref t, .ref l] ∧ DA K H r c t l ps es ∧ RetV (dueV (dueS r c ps es)) H Q
theorem given_find (n : Nat) (f : Nat → Bool) : ((given n f fun i => V.int (i : Int)) ++ [V.non])[0]? = some (dueV ((List.range n).find? f)) := by
  unfold given
  rw [← List.head?_filter]
  cases (List.range n).filter f with
  | nil => rfl
  | cons a r => rfl
theorem ok_due {f : Addr} {fd : FuncData} (F : Fun K "_law_due" "_law_due" sDue f fd) (B : Bn mg) (cR : Cl P w K mg base 3 "_law_ruled" PRu (spRuled K)) : FnOk P w K mg base CX0 4 f fd PDu (spDue K) := by
  refine F.ok scDu (fun vs H Q E h => ?_) (fun cdv A outer s H vs Q E hr h => ?_)
  · obtain ⟨r, c, t, l, ps, es, rfl, _⟩ := h
    rfl
  · obtain ⟨r, c, t, l, ps, es, rfl, a, q⟩ := h
    have nd := scDu.nd
    refine ⟨_, pss_cons (ps_set (i := 4) nd rfl (Or.inr rfl) (pe_ix (r := rIxT K) ix_tup (pe_cl cR hr (pa_cons (pv 0) (pa_cons (pv 1) (pa_cons (pv 2) (pa_cons
          (pe_lc (own := [("mark", 5), ("page", 6)]) (g := gTup K 2 (gCons (gName 5) (gCons (gName 6) gNil))) (tt := tYes) (te := tVar 6) rfl nd (pi_list (pv 3)) (blkOk_by (N := NDu) (sc := defScope sDue) (by decide +kernel))
            (fun _ _ _ _ _ => pg_tup rfl (pgs_cons (pg_name (i := 5) nd rfl (Or.inl rfl)) (pgs_cons (pg_name (i := 6) nd rfl (Or.inl rfl)) pgs_nil))) (fun _ _ _ _ _ => pts_nil) (fun _ _ _ _ _ => pv 6)) pa_nil))))) pe_int (fun _ _ => rfl)))
      (pss_one (ps_ret (pe_ix (r := rIxL K) ix_list (pe_op op_cat
          (pe_lc (own := [("k", 7)]) (g := gName 7) (tt := tTest (tOp (rNeD K) (tOp (rIxL K) (tVar 4) (tVar 7)) (tOp (rIxL K) (tVar 3) (tVar 7)))) (te := tVar 7) rfl nd (pi_range1 (by rfl) B.range (pa_cons (pe_callB call_len_seq (by rfl) B.len bt_len (pa_cons (pv 4) pa_nil)) pa_nil)) (blkOk_by (N := NDu) (sc := defScope sDue) (by decide +kernel))
            (fun _ _ _ _ _ => pg_name (i := 7) nd rfl (Or.inl rfl)) (fun _ _ _ _ _ => pts_one (pt_cmpR (r := rNeD K) (op_neD hr.units) (pe_ix (r := rIxL K) ix_list (pv 4) (pv 7) (fun _ _ => rfl)) (pe_ix (r := rIxL K) ix_list (pv 3) (pv 7) (fun _ _ => rfl)) (nomark _))) (fun _ _ _ _ _ => pv 7))
          (pe_lst (pa_cons pe_non pa_nil))) pe_int (fun _ _ => rfl)))), ?_⟩
    obtain ⟨ts, hl, hts⟩ := a.hl
    have la := a.len
    have hn := paired_len hts
    refine q_asgW (go_op (go_call ⟨.str r, rfl, .int (c : Int), rfl, .ref t, rfl, ?_⟩))
    refine (el_lcEv (ev_var rfl) hl hts (by omega) (fun _ _ => rfl) (fun _ _ => rfl)) H (Ex.refl _) _ fun rl H1 nrl e1 hrl => ?_
    have a1 := a.mono e1
    obtain ⟨okO, lenO⟩ := own_ok (r := r) (c := c) a.c1 a.pg.all a.pages
    rw [List.length_map] at lenO
    have hdue : dueS r c ps es = diffI es (logS r c ps (es.map (·.2))) := rfl
    refine ⟨r, c, t, rl, ps, es.map (·.2), rfl, ⟨a.R, a.c1, a1.ht, a.pg, a.le, sq_of hrl, a.pages, by rw [List.length_map]; exact a.len⟩, fun T hp gp us H2 nT nh ng d e2 hT hh hus hg => ⟨T, [.ref hp, .ref gp], 0, .ref hp, rfl, rfl, .inl (.inl hT), rfl, ?_⟩⟩
    have e12 := e1.trans e2
    have hl2 := e12 _ _ hl
    have hts2 := Paired.imp (S := TupAt H2) hts fun _ _ z => e12 _ _ z
    generalize logS r c ps (es.map (·.2)) = own at hus okO lenO hdue
    have hnu := paired_len hus
    refine s_ret (v := dueV (dueS r c ps es)) ?_ fun H3 e3 => q H3 (e12.trans e3)
    refine ev_opL1 (xs := (given es.length (fun i => !decide (own.getD i nilE = es.getD i nilE)) fun i => V.int (i : Int)) ++ [V.non]) (fun H3 e3 Q' q' => ?_) (fun H3 e3 => ev_c) (fun p H3 h3 e3 => rv_ixL (sq_of h3) (atI_nat (j := 0) ?_))
    · refine go_op ?_
      have hn2 : ((us.map V.ref).length : Int) = (es.length : Int) := by rw [List.length_map, hnu, lenO]
      have hlc : EvL (tLc (iRng1 (tCons (tCB (rLenS K) (tCons (tVar 4) tNil)) tNil)) (gName 7) (tTest (tOp (rNeD K) (tOp (rIxL K) (tVar 4) (tVar 7)) (tOp (rIxL K) (tVar 3) (tVar 7)))) (tVar 7) [7]) [some (.str r), some (.int (c : Int)), some (.ref t), some (.ref l), some (.ref hp), none, none, none] H3 (given (es.length : Int).toNat (fun i => !decide (own.getD i nilE = es.getD i nilE)) fun i => V.int (i : Int)) := by
        refine el_lcR1 _ _ (ea_cons (ev_is (ev_len (ev_var rfl) (sq_of (e3 _ _ hh))) (by rw [hn2])) ea_nil) (by omega) (fun _ => rfl) (fun i H4 e4 hi => ?_) (fun i H4 e4 hi _ => ev_var rfl)
        have hi' : i < es.length := by omega
        exact et_neEv (ev_var rfl) (ev_var rfl) (ev_var rfl) ((e3.trans e4) _ _ hh) (Paired.imp hus fun _ _ z => (e3.trans e4) _ _ z) ((e3.trans e4) _ _ hl2) (Paired.imp hts2 fun _ _ z => (e3.trans e4) _ _ z) (by omega) hi' okO a.ok
      rw [Int.toNat_natCast] at hlc
      refine hlc H3 (Ex.refl _) _ fun p1 H4 np1 e4 h4 => ?_
      refine (el_lst (ea_cons ev_c ea_nil) (show 1 ≤ 100000 by decide)) H4 (Ex.refl _) _ fun p2 H5 np2 e5 h5 => ⟨p1, p2, _, _, rfl, rfl, e5 _ _ h4, h5, ?_, fun p3 np3 => ?_⟩
      · have := given_len es.length (fun i => !decide (own.getD i nilE = es.getD i nilE)) fun i => V.int (i : Int)
        exact sz_of (by show _ + 1 ≤ 100000; omega)
      · exact q' p3 _ (fresh_back (e4.trans e5) np3) ((e4.trans e5).trans (Ex.new np3)) upd_same
    · rw [given_find, hdue]
      unfold diffI
      have : (fun i => !decide (own.getD i nilE = es.getD i nilE)) = fun i => !decide (es.getD i nilE = own.getD i nilE) := by
        funext i
        congr 1
        exact decide_eq_decide.mpr ⟨fun z => z.symm, fun z => z.symm⟩
      rw [this]
end
end KB

set_option Elab.async false
set_option linter.all false
set_option maxRecDepth 100000
set_option maxHeartbeats 16000000
/-! F3: the law's comparison of differences, walked. -/
namespace KB
open PySem PySem.Spec PyProof.Rows L2 Evl LamX LP
theorem exP {H H' H'' : Hp} {p : Addr} (e0 : Ex H H') (fp : H p = none) (e : Ex (hid H' p) H'') : Ex H H'' := fun b o h => e b o (by rw [hid_ne (ne_of_none h fp)]; exact e0 b o h)
/-- a base without the source and without tables -/
structure GB (G : Hp) (a : Addr) : Prop where
  na : G a = none
  nt : ∀ b ps, G b ≠ some (.tbl ps)
theorem gb_of (H : Hp) (a : Addr) : GB (hid (noTab H) a) a := ⟨hid_self, fun b ps z => by
  obtain ⟨_, z2⟩ := hid_some z
  exact (noTab_some z2).2 ps rfl⟩
structure RK (G H' : Hp) (a T : Addr) (B : Int) : Prop where
  ex : Ex G H'
  src : SrcAt H' a B
  tab : TabS H' T viQ
section
variable {G H' H1 : Hp} {a T : Addr} {B C : Int}
theorem RK.mono (s : RK G H' a T B) (e : Ex H' H1) : RK G H1 a T B := ⟨s.ex.trans e, s.src.mono e, s.tab.ext e⟩
theorem RK.le (s : RK G H' a T B) (h : B ≤ C) : RK G H' a T C := ⟨s.ex, s.src.le h, s.tab⟩
theorem RK.draw (s : RK G H' a T B) (g : GB G a) (e : Ex (hid H' a) H1) (S : SrcAt H1 a C) : RK G H1 a T C := by
  obtain ⟨xs, ha⟩ := s.src.is
  exact ⟨exP s.ex g.na e, S, tab_hid s.tab ha e⟩
theorem RK.no (s : RK G H' a T B) (g : GB G a) (e : Ex (noTab H') H1) (t : TabS H1 T viQ) : RK G H1 a T B := ⟨fun b o h => e b o (noTab_of (s.ex b o h) fun ps z => g.nt b ps (by rw [← z]; exact h)), s.src.no e, t⟩
theorem RK.upd {l : Addr} {xs : List V} {o : HO} (s : RK G H' a T B) (n : G l = none) (hl : H' l = some (.lst xs)) (na : l ≠ a) : RK G (L2.upd H' l o) a T B := ⟨Ex.mut s.ex n, s.src.upd na.symm, tab_updL s.tab hl⟩
theorem LgAt.draw {p : Addr} {es : List Ev1} (h : LgAt H' p es) (n : p ≠ a) (S : SrcAt H' a B) (e : Ex (hid H' a) H1) : LgAt H1 p es := by
  obtain ⟨ts, h1, h2⟩ := h
  obtain ⟨xs, ha⟩ := S.is
  exact ⟨ts, e _ _ (by rw [hid_ne n]; exact h1), Paired.imp h2 fun _ _ z => e _ _ (by rw [hid_ne (ne_of z ha (by intro q; cases q))]; exact z)⟩
end
theorem paired_set {α β : Type} {R : α → β → Prop} {b : β} {a : α} (hr : R a b) : ∀ {as : List α} {bs : List β} (i : Nat), Paired R as bs → Paired R (as.set i a) (bs.set i b)
  | _, _, _, .nil => .nil
  | _, _, 0, .cons _ t => .cons hr t
  | _, _, i + 1, .cons h t => .cons h (paired_set hr i t)
theorem LgAt.set {H : Hp} {p T0 : Addr} {es : List Ev1} {e : Ev1} {ts : List Addr} {j : Nat} (hp : H p = some (.lst (ts.map V.ref))) (ht : Paired (TupAt H) ts es) (hT : H T0 = some (.tup [.str e.1, .str e.2])) :
    LgAt (L2.upd H p (.lst ((ts.map V.ref).set j (.ref T0)))) p (es.set j e) := by
  refine ⟨ts.set j T0, by rw [upd_same, List.map_set], paired_set (R := TupAt _) ?_ j (tup_upd hp ht)⟩
  show L2.upd H p _ T0 = _
  rw [upd_ne (ne_of hT hp (by intro q; cases q))]
  exact hT
/-! data -/
def dueD : Option Nat → PyData
  | some i => .int (i : Int)
  | none => .none
def argL (ps : List Str) (es : List Ev1) : PyData := .list [.tuple (ps.map PyData.str), logD es]
theorem argL_lay {ps : List Str} {es : List Ev1} (hp : ∀ p ∈ ps, pageB p = true) (he : ∀ e ∈ es, okE e) : PyData.canLay0 (argL ps es) = true := by
  show (PyData.canLayAll0 (ps.map PyData.str) && (PyData.canLayAll0 (es.map evD) && true)) = true
  rw [lay_strs hp, evs_lay he]
  rfl
theorem argL_depth (ps : List Str) (es : List Ev1) : PyData.depth (argL ps es) ≤ 4 := by
  have h1 := evs_depth es
  have h2 := depth_strs ps
  have : PyData.depth (argL ps es) = max (PyData.depthAll (ps.map PyData.str) + 1) (max (PyData.depthAll (es.map evD) + 1) 0) + 1 := rfl
  omega
theorem argL_text {ps : List Str} {es : List Ev1} (hp : Pages ps) (he : ∀ e ∈ es, okE e) (hl : es.length ≤ 300) : (argL ps es).shown.length ≤ sizeLine := by
  refine PyData.shown_fits_of_layable0 (B := 13) (by decide) (by decide) ?_ ?_
  · unfold PyData.layable0
    rw [argL_lay hp.all he, Bool.true_and, Bool.and_eq_true, decide_eq_true_eq, decide_eq_true_eq]
    have h1 := argL_depth ps es
    have h2 := evs_weight he
    have h3 := strs_weight hp.all
    have h4 := hp.len
    have : PyData.weight (argL ps es) = PyData.weightAll (ps.map PyData.str) + 1 + (PyData.weightAll (es.map evD) + 1 + 0) := rfl
    omega
  · show (PyData.intsShortAll 13 (ps.map PyData.str) && (PyData.intsShortAll 13 (es.map evD) && true)) = true
    rw [strs_short, evs_short]
    rfl
theorem argL_show (ps : List Str) (es : List Ev1) : (argL ps es).showable = true := by
  show (PyData.showableAll (ps.map PyData.str) && (PyData.showableAll (es.map evD) && true)) = true
  rw [strs_show, evs_show]
  rfl
section
variable {K : PySem.W.Frag} {σ : L2.St} {H H1 H' : Hp} {ta tb tc te tx ty td tl : TE} {t : TT} {x y z v : V} {D : Ends} {Q : VK}
theorem ev_reprLg {t l : Addr} {ps : List Str} {es : List Ev1} (ha : Ev ta σ H (.ref t)) (hb : Ev tb σ H (.ref l)) (ht : H t = some (.tup (ps.map V.str))) (hp : Pages ps) (hl : LgAt H l es) (he : ∀ e ∈ es, okE e) (hz : es.length ≤ 300) :
    Ev (tCB (rReprD K) (tCons (tLst (tCons ta (tCons tb tNil))) tNil)) σ H (.str (argL ps es).shown) := fun H1 e Q q => by
  have hu : EvL (tLst (tCons ta (tCons tb tNil))) σ H [.ref t, .ref l] := el_lst (ea_cons ha (ea_cons hb ea_nil)) (show 2 ≤ 100000 by decide)
  show tLst (tCons ta (tCons tb tNil)) σ H1 (fun x H2 => tNil σ H2 fun xs H3 => rReprD K (x :: xs) H3 Q)
  refine hu H1 e _ fun p H2 _ e2 h2 => ?_
  exact ⟨p, argL ps es, rfl, .lst (sq_of h2) (.cons (.tup (st_of ((e.trans e2) _ _ ht)) (dp_strs ps)) (.cons (hl.mono (e.trans e2)).dp .nil)), argL_show ps es, PyData.hasDict_of_canLay _ (argL_lay hp.all he), Nat.le_trans (argL_depth ps es) (by decide), argL_text hp he hz, q H2 e2⟩
theorem due_dp (d : Option Nat) : Dp K H (dueV d) (dueD d) := by
  cases d with
  | none => exact .non
  | some i => exact .int i
theorem rv_neDue {p q : Addr} {d : Option Nat} (hp : H p = some (.lst [dueV d, dueV d])) (hq : H q = some (.lst [dueV d, dueV d])) : RV (rNeD K) (.ref p) (.ref q) H (.bl false) := fun H1 e Q k => by
  have hl : PyData.canLay0 (.list [dueD d, dueD d]) = true := by cases d <;> rfl
  have hs : SeqAt.shaped (.list [dueD d, dueD d]) = true := by
    unfold SeqAt.shaped
    rw [hl, Bool.true_and, decide_eq_true_eq]
    cases d with
    | none => decide
    | some i =>
      show (1 : Nat) ≤ 64
      decide
  refine ⟨.list [dueD d, dueD d], .list [dueD d, dueD d], .lst (sq_of (e _ _ hp)) (.cons (due_dp d) (.cons (due_dp d) .nil)), .lst (sq_of (e _ _ hq)) (.cons (due_dp d) (.cons (due_dp d) .nil)), hs, hs, ?_⟩
  rw [SeqAt.eqv_refl _ hl]
  exact k H1 (Ex.refl H1)
theorem due_scal (d : Option Nat) : scal (dueV d) (dueV d) = true := by cases d <;> rfl
theorem ev_neNil {p : Addr} {es : List Ev1} (h : Ev ta σ H (.ref p)) (hp : LgAt H p es) (he : ∀ e ∈ es, okE e) : Ev (tOp (rNeD K) ta (tLst tNil)) σ H (.bl (!es.isEmpty)) :=
  ev_opL h (el_lst ea_nil (Nat.zero_le _)) fun q H1 hq e1 H2 e2 Q k => ⟨logD es, .list [], (hp.mono (e1.trans e2)).dp, .lst (sq_of (e2 _ _ hq)) .nil, shaped_log he, by decide, by
    have : PyData.eqv (logD es) (.list []) = es.isEmpty := by cases es <;> rfl
    rw [this]
    exact k H2 (Ex.refl H2)⟩
end
end KB

set_option Elab.async false
set_option linter.all false
set_option maxRecDepth 100000
set_option maxHeartbeats 16000000
/-! F4: _law_right, walked. -/
namespace KB
open PySem PySem.Spec PyProof.Rows L2 Evl LamX LP
theorem word_at3 {i : Nat} {x : V} (h : [V.str "LRU", V.str "FIFO", V.str "OPT"][i]? = some x) : ∃ r, x = .str r ∧ isRule r := by
  match i, h with
  | 0, h => exact ⟨lruS, (Option.some.inj h).symm, .inl rfl⟩
  | 1, h => exact ⟨fifoS, (Option.some.inj h).symm, .inr (.inl rfl)⟩
  | 2, h => exact ⟨optS, (Option.some.inj h).symm, .inr (.inr rfl)⟩
  | i + 3, h => exact absurd h (by simp)
theorem marks_at {d : Int} (h0 : 0 ≤ d) (h1 : d < 2) : ∃ m : Str, atI [V.str "hit", V.str "miss"] d = some (V.str m) ∧ (m = hitS ∨ m = missS) := by
  have : d = 0 ∨ d = 1 := by omega
  rcases this with rfl | rfl
  · exact ⟨hitS, rfl, .inl rfl⟩
  · exact ⟨missS, rfl, .inr rfl⟩
theorem rule_at {d : Int} (h0 : 0 ≤ d) (h1 : d < 3) : ∃ r : Str, atI [V.str "LRU", V.str "FIFO", V.str "OPT"] d = some (V.str r) ∧ isRule r := by
  have : d = 0 ∨ d = 1 ∨ d = 2 := by omega
  rcases this with rfl | rfl | rfl
  · exact ⟨lruS, rfl, .inl rfl⟩
  · exact ⟨fifoS, rfl, .inr (.inl rfl)⟩
  · exact ⟨optS, rfl, .inr (.inr rfl)⟩
theorem ix_last {n : Nat} (h : 0 < n) : ixN n (-1) = some (n - 1) := by
  unfold ixN
  rw [if_neg (by decide), if_pos (by omega)]
  congr 1
  omega
theorem at_lastN {α : Type} {xs : List α} {x : α} (h : xs[xs.length - 1]? = some x) : atI xs (-1) = some x := by
  have hl : 0 < xs.length := by
    have := (List.getElem?_eq_some_iff.mp h).1
    omega
  unfold atI
  rw [ix_last hl]
  exact h
/-- logs at their places -/
def FourL (H : Hp) : List (Addr × List Ev1) → Prop
  | [] => True
  | pe :: r => LgAt H pe.1 pe.2 ∧ FourL H r
theorem FourL.mono {H H' : Hp} (e : Ex H H') : ∀ {Ls : List (Addr × List Ev1)}, FourL H Ls → FourL H' Ls
  | [], _ => trivial
  | _ :: _, ⟨h, t⟩ => ⟨h.mono e, FourL.mono e t⟩
theorem FourL.no {H H' : Hp} (e : Ex (noTab H) H') : ∀ {Ls : List (Addr × List Ev1)}, FourL H Ls → FourL H' Ls
  | [], _ => trivial
  | _ :: _, ⟨h, t⟩ => ⟨h.no e, FourL.no e t⟩
theorem FourL.upd {H : Hp} {l : Addr} {xs : List V} {o : HO} (hl : H l = some (.lst xs)) : ∀ {Ls : List (Addr × List Ev1)}, FourL H Ls → (∀ pe ∈ Ls, pe.1 ≠ l) → FourL (L2.upd H l o) Ls
  | [], _, _ => trivial
  | _ :: _, ⟨h, t⟩, n => ⟨h.upd hl (n _ List.mem_cons_self), FourL.upd hl t fun pe hp => n pe (List.mem_cons_of_mem _ hp)⟩
theorem fourL_ne {H : Hp} {q : Addr} (n : H q = none) : ∀ {Ls : List (Addr × List Ev1)}, FourL H Ls → ∀ pe ∈ Ls, pe.1 ≠ q
  | [], _, pe, h => nomatch h
  | x :: r, ⟨⟨_, z, _⟩, t⟩, pe, h => by
    rcases List.mem_cons.mp h with e | e
    · rw [e]
      exact ne_of_none z n
    · exact fourL_ne n t pe e
/-- what stands beneath a round -/
structure GP (G H : Hp) (a t l lq : Addr) (ps rs : List Str) : Prop where
  gb : GB G a
  gt : G t = some (.tup (ps.map V.str))
  gl : G l = some (.lst (rs.map V.str))
  gq : G lq = some (.lst [V.str "LRU", V.str "FIFO", V.str "OPT"])
  up : ∀ b o, hid (noTab H) a b = some o → G b = some o
section
variable {K : PySem.W.Frag} {σ : L2.St} {H H1 : Hp} {te tl : TE} {Q : VK} {D : Ends}
theorem gName_go {i : Nat} {v : V} {Q : L2.St → Hp → Prop} (h : Q (σ.set i (some v)) H) : gName i v σ H Q := h
theorem q_asgG {g : TG} {tz : TS} (h : te σ H fun x H1 => g x σ H1 (tz D)) : tSeq (tAsg te g) tz D σ H := h
theorem s_ifW {t : TT} {tu : TS} (h : t σ H fun b H1 => if b = true then tu D σ H1 else D.nx σ H1) : tIfS t tu tNext D σ H := h
theorem q_seq {t tz : TS} (h : t { D with nx := tz D } σ H) : tSeq t tz D σ H := h
theorem go_asgG {g : TG} (h : te σ H fun x H1 => g x σ H1 D.nx) : tAsg te g D σ H := h
theorem go_forR {ta : TA} {g : TG} {tu : TS} (h : ta σ H fun vs H1 => ∃ n : Int, vs = [.int n] ∧ -(2 ^ 62) ≤ n ∧ n < 2 ^ 62 ∧ tFor (fun _ _ R => R (Itr 0 n.toNat) H1) g tu D σ H1) : tFor (iRng1 ta) g tu D σ H := h
theorem go_forL {g : TG} {tu : TS} (h : tl σ H fun x H1 => ∃ a, x = .ref a ∧ (∃ xs, SqL K H1 a xs) ∧ tFor (fun _ _ R => R (Itl K a) H1) g tu D σ H1) : tFor (iList K tl) g tu D σ H := h
theorem s_forFix {n j : Nat} {tu : TS} (Pv : Nat → L2.St → Hp → Prop) (h0 : Pv 0 σ H) (hs : ∀ (i : Nat) σ' H', i < n → Pv i σ' H' → tu { D with nx := Pv (i + 1), ct := Pv (i + 1), bk := D.nx } (σ'.set j (some (.int (i : Int)))) H') (hd : ∀ σ' H', Pv n σ' H' → D.nx σ' H') : tFor (fun _ _ R => R (Itr 0 n) H) (gName j) tu D σ H :=
  for_range (lo := 0) (n := n) Pv h0 (fun i σ' H' hi p => by
    have e0 : (0 : Int) + (i : Int) = (i : Int) := Int.zero_add _
    show tu { D with nx := Pv (i + 1), ct := Pv (i + 1), bk := D.nx } (σ'.set j (some (.int ((0 : Int) + (i : Int))))) H'
    rw [e0]
    exact hs i σ' H' hi p) hd
theorem s_forFixL {a : Addr} {xs : List V} {g : TG} {tu : TS} (Pv : Nat → L2.St → Hp → Prop) (h0 : Pv 0 σ H) (hl : ∀ i σ' H', i ≤ xs.length → Pv i σ' H' → SqL K H' a xs)
    (hs : ∀ i x σ' H', xs[i]? = some x → Pv i σ' H' → g x σ' H' fun σ2 H2 => tu { D with nx := Pv (i + 1), ct := Pv (i + 1), bk := D.nx } σ2 H2) (hd : ∀ σ' H', Pv xs.length σ' H' → D.nx σ' H') : tFor (fun _ _ R => R (Itl K a) H) g tu D σ H := for_list Pv h0 hl hs hd
theorem w_lcL {a : Addr} {xs : List V} {j : Nat} {vs : List Nat} (h : Ev tl σ H (.ref a)) (hq : SqL K H a xs) (Pv : Addr → Nat → Hp → Prop) (h0 : ∀ Dl H1, H1 Dl = none → Ex H H1 → Pv Dl 0 (L2.upd H1 Dl (.lst [])))
    (hl : ∀ Dl i H1, Pv Dl i H1 → SqL K H1 a xs) (hw : ∀ x, wipe ((wipe σ vs).set j (some x)) vs = wipe σ vs)
    (hs : ∀ Dl i x H1, xs[i]? = some x → Pv Dl i H1 → te ((wipe σ vs).set j (some x)) H1 fun y H4 => ∃ acc, H4 Dl = some (.lst acc) ∧ acc.length < sizeLine ∧ Pv Dl (i + 1) (L2.upd H4 Dl (.lst (acc ++ [y]))))
    (hd : ∀ Dl H1, Pv Dl xs.length H1 → Q (.ref Dl) H1) : tLc (iList K tl) (gName j) tYes te vs σ H Q :=
  h H (Ex.refl H) _ fun H1 e1 => ⟨a, rfl, ⟨xs, ex_l e1 hq⟩, fun Dl hD => lc_list (xs := xs) (Pv Dl) (h0 Dl H1 hD e1) (fun i H' _ p => hl Dl i H' p) (fun i x H' hx p => by
    show wipe ((wipe σ vs).set j (some x)) vs = wipe σ vs ∧ (if true = true then te ((wipe σ vs).set j (some x)) H' fun y H4 => ∃ acc, H4 Dl = some (.lst acc) ∧ acc.length < sizeLine ∧ Pv Dl (i + 1) (L2.upd H4 Dl (.lst (acc ++ [y]))) else Pv Dl (i + 1) H')
    rw [if_pos rfl]
    exact ⟨hw _, hs Dl i x H' hx p⟩) (fun H' p => hd Dl H' p)⟩
end
section
variable {P : Program} {w : World} {K : PySem.W.Frag} {mg : Str → Option Value} {base : Heap}
abbrev NRd : List Str := ["source", "room", "initial", "wanted", "word", "own", "bent", "step", "at", "other", "happened", "before", "due", "found", "page"]
abbrev PRd : List Str := ["source", "room", "initial", "wanted"]
theorem scRd : FnScope NRd PRd (defScope sRight) := ⟨rfl, rfl, rfl, by decide +kernel, rfl, by decide +kernel, by decide +kernel⟩
def spRightD (T : Addr) : Sp := fun vs H Q _ => ∃ (a t l : Addr) (c : Nat) (B : Int) (ps rs : List Str), vs = [.ref a, .int (c : Int), .ref t, .ref l] ∧ SrcAt H a B ∧ B ≤ 700000 ∧ 1 ≤ c ∧ H t = some (.tup (ps.map V.str)) ∧ Pages ps ∧ ps.length ≤ c ∧ H l = some (.lst (rs.map V.str)) ∧ l ≠ a ∧ (∀ p ∈ rs, pageB p = true) ∧ rs.length ≤ 140 ∧ TabS H T viQ ∧
  ∀ H2, Ex (hid (noTab H) a) H2 → SrcAt H2 a (B + 450) → TabS H2 T viQ → Q (.bl true) H2
theorem ok_rightD {f T : Addr} {fd : FuncData} (F : Fun K "_law_right" "_law_right" sRight f fd) (B0 : Bn mg) (B2 : Bl mg) (cD : Cl P w K mg base 1 "_law_draw" ["source", "bound"] spDraw) (cR : Cl P w K mg base 3 "_law_ruled" PRu (spRuled K)) (cT : Cl P w K mg base 1 "_law_turned" ["event"] (spTurned K)) (cDu : Cl P w K mg base 4 "_law_due" PDu (spDue K))
    (cF : Cl P w K mg base 7 "first_difference" PFd (spFirstDiff K T)) (kF : ClK P w K mg base 7 "first_difference" PFd ["rule", "capacity", "start", "log"] kwSame (spFirstDiff K T)) : FnG P w K mg base CX0 8 f fd PRd (spRightD T) := by
  refine okG F scRd (fun vs H Q E h => ?_) (fun cdv A outer s H vs Q E hG hr h => ?_)
  · obtain ⟨a, t, l, c, B, ps, rs, rfl, _⟩ := h
    rfl
  · obtain ⟨a, t, l, c, B, ps, rs, rfl, hS, hB, c1, ht, pg, le, hl, nla, rp, rl, hT, q⟩ := h
    have nd := scRd.nd
    refine ⟨_, (pss_cons (ps_for PassesOwn.never rfl (pi_list (pe_lst (pa_cons pe_str (pa_cons pe_str (pa_cons pe_str pa_nil))))) (pg_name (i := 4) nd rfl (Or.inl rfl))
        (pss_cons (ps_set (i := 5) nd rfl (Or.inl rfl) (pe_ix (r := rIxT K) ix_tup (pe_cl cR hr (pa_cons (pv 4) (pa_cons (pv 1) (pa_cons (pv 2) (pa_cons (pv 3) pa_nil))))) pe_int (fun _ _ => rfl)))
        (pss_cons (ps_set (i := 6) nd rfl (Or.inl rfl) (pe_callTy call_list_of (by rfl) B0.list bt_list (pa_cons (pv 5) pa_nil)))
        (pss_cons (ps_for PassesOwn.never rfl (pi_range1 (by rfl) B0.range (pa_cons (pe_op op_mul (pe_cl cD hr (pa_cons (pv 0) (pa_cons pe_int pa_nil))) (pe_callTy call_int1 (by rfl) B0.int bt_int (pa_cons (pe_cmpR (op_neD hr.units) (pv 5) (pe_lst pa_nil) (nomark _)) pa_nil))) pa_nil)) (pg_name (i := 7) nd rfl (Or.inl rfl))
          (pss_cons (ps_set (i := 8) nd rfl (Or.inl rfl) (pe_cl cD hr (pa_cons (pv 0) (pa_cons (pe_callB call_len_seq (by rfl) B0.len bt_len (pa_cons (pv 5) pa_nil)) pa_nil))))
          (pss_one (ps_asg (pe_cl cT hr (pa_cons (pe_ix (r := rIxL K) ix_list (pv 6) (pv 8) (fun _ _ => rfl)) pa_nil)) (pg_sub (pv 6) (pv 8) set_list)))))
        (pss_cons (ps_set (i := 9) nd rfl (Or.inl rfl) (pe_ix (r := rIxT K) ix_tup (pe_cl cR hr (pa_cons (pe_ix (r := rIxL K) ix_list (pe_lst (pa_cons pe_str (pa_cons pe_str (pa_cons pe_str pa_nil)))) (pe_cl cD hr (pa_cons (pv 0) (pa_cons pe_int pa_nil))) (fun _ _ => rfl)) (pa_cons (pv 1) (pa_cons (pv 2) (pa_cons (pv 3) pa_nil))))) pe_int (fun _ _ => rfl)))
        (pss_one (ps_for PassesOwn.never rfl (pi_list (pe_lst (pa_cons (pv 5) (pa_cons (pv 6) (pa_cons (pv 9) (pa_cons
            (pe_lc (own := [("page", 14)]) (g := gName 14) (tt := tYes) (te := tTup (tCons (tOp (rIxL K) (tLst (tCons (tC (.str "hit")) (tCons (tC (.str "miss")) tNil))) (tCall spDraw [] E0 (tCons (tVar 0) (tCons (tC (.int 2)) tNil)))) (tCons (tVar 14) tNil))) rfl nd (pi_list (pv 3)) (blkOk_by (N := NRd) (sc := defScope sRight) (by decide +kernel))
              (fun _ _ _ _ _ => pg_name (i := 14) nd rfl (Or.inl rfl)) (fun _ _ _ _ _ => pts_nil) (fun _ _ _ _ _ => pe_tup (pa_cons (pe_ix (r := rIxL K) ix_list (pe_lst (pa_cons pe_str (pa_cons pe_str pa_nil))) (pe_cl cD hr (pa_cons (pv 0) (pa_cons pe_int pa_nil))) (fun _ _ => rfl)) (pa_cons (pv 14) pa_nil)))) pa_nil)))))) (pg_name (i := 10) nd rfl (Or.inl rfl))
          (pss_cons (ps_set (i := 11) nd rfl (Or.inl rfl) (pe_callB (call_reprD hr hG) (by rfl) B2.repr bt_repr (pa_cons (pe_lst (pa_cons (pv 2) (pa_cons (pv 10) pa_nil))) pa_nil)))
          (pss_cons (ps_set (i := 12) nd rfl (Or.inl rfl) (pe_cl cDu hr (pa_cons (pv 4) (pa_cons (pv 1) (pa_cons (pv 2) (pa_cons (pv 10) pa_nil))))))
          (pss_cons (ps_set (i := 13) nd rfl (Or.inl rfl) (pe_lst (pa_cons (pe_cl cF hr (pa_cons (pv 4) (pa_cons (pv 1) (pa_cons (pv 2) (pa_cons (pv 10) pa_nil))))) pa_nil)))
          (pss_cons (ps_expr (pe_bm PySem.F.plainAttrs_list PySem.F.slot_list_append PySem.F.type_list_append mt_append (pv 13) (pa_cons (pe_clk kF hr (pk_cons (pv 4) (pk_cons (pv 1) (pk_cons (pv 2) (pk_cons (pv 10) pk_nil))))) pa_nil)))
          (pss_cons (ps_if (PW.pt (pw_or (pt_cmpR (op_neD hr.units) (pv 13) (pe_lst (pa_cons (pv 12) (pa_cons (pv 12) pa_nil))) (nomark _)) (pw_or1 (pt_cmpR op_ne (pe_callB (call_reprD hr hG) (by rfl) B2.repr bt_repr (pa_cons (pe_lst (pa_cons (pv 2) (pa_cons (pv 10) pa_nil))) pa_nil)) (pv 11) (nomark _))))) (pss_one (ps_ret pe_bl)) pss_nil)
          (pss_one (ps_if (pt_cmpR (op_neD hr.units) (pv 10) (pe_lst pa_nil) (nomark _))
            (pss_cons (ps_asg (pe_cl cT hr (pa_cons (pe_ix (r := rIxL K) ix_list (pv 10) (pe_un un_neg pe_int) (fun _ _ => rfl)) pa_nil)) (pg_sub (pv 10) (pe_un un_neg pe_int) set_list))
            (pss_one (ps_if (pt_cmpR op_ne (pe_cl cF hr (pa_cons (pv 4) (pa_cons (pv 1) (pa_cons (pv 2) (pa_cons (pv 10) pa_nil))))) (pe_cl cDu hr (pa_cons (pv 4) (pa_cons (pv 1) (pa_cons (pv 2) (pa_cons (pv 10) pa_nil))))) (nomark _)) (pss_one (ps_ret pe_bl)) pss_nil))) pss_nil))))))))))))))
      (pss_one (ps_ret pe_bl))).nox, ?_⟩
    have hml : (rs.map V.str).length = rs.length := List.length_map ..
    obtain ⟨xs0, ha0⟩ := hS.is
    have nta : t ≠ a := ne_of ht ha0 (by intro z; cases z)
    refine q_forNL (xs := [V.str "LRU", V.str "FIFO", V.str "OPT"]) (el_lst (ea_cons ev_c (ea_cons ev_c (ea_cons ev_c ea_nil))) (show 3 ≤ 100000 by decide)) (fun lq i σ H' => ∃ G y4 y5 y6 y7 y8 y9 y10 y11 y12 y13 y14, σ = [some (.ref a), some (.int (c : Int)), some (.ref t), some (.ref l), y4, y5, y6, y7, y8, y9, y10, y11, y12, y13, y14] ∧ GP G H a t l lq ps rs ∧ RK G H' a T (B + 150 * (i : Int)))
      (fun lq H1 nlq e1 h1 => ⟨hid (noTab H1) a, _, _, _, _, _, _, _, _, _, _, _, rfl, ?_, ⟨?_, (hS.mono e1).le (by omega), hT.ext e1⟩⟩) (fun lq i σ H' _ hP => ?_) (fun lq i x σ H' hx hP => ?_) (fun lq σ H' hP => ?_)
    · have nq : lq ≠ a := (ne_of_none ha0 nlq).symm
      exact ⟨gb_of H1 a, by rw [hid_ne nta]; exact noTab_of (e1 _ _ ht) ntup, by rw [hid_ne nla]; exact noTab_of (e1 _ _ hl) nlst, by rw [hid_ne nq]; exact noTab_of h1 nlst, fun b o hb => by
        obtain ⟨n1, n2⟩ := hid_some hb
        obtain ⟨n3, n4⟩ := noTab_some n2
        rw [hid_ne n1]
        exact noTab_of (e1 _ _ n3) n4⟩
    · exact fun b o hb => (noTab_some (hid_some hb).2).1
    · obtain ⟨G, _, _, _, _, _, _, _, _, _, _, _, _, gp, k⟩ := hP
      exact sq_of (k.ex _ _ gp.gq)
    · obtain ⟨G, y4, y5, y6, y7, y8, y9, y10, y11, y12, y13, y14, rfl, gp, k⟩ := hP
      have hi3 : i < 3 := (List.getElem?_eq_some_iff.mp hx).1
      obtain ⟨r, rfl, hR⟩ := word_at3 hx
      have g := gp.gb
      have htk : ∀ {H1 : Hp} {C : Int}, RK G H1 a T C → H1 t = some (.tup (ps.map V.str)) := fun k => k.ex _ _ gp.gt
      have hlk : ∀ {H1 : Hp} {C : Int}, RK G H1 a T C → H1 l = some (.lst (rs.map V.str)) := fun k => k.ex _ _ gp.gl
      have ra : ∀ {H1 : Hp} {C : Int} {r : Str}, isRule r → RK G H1 a T C → RA K H1 r c t l ps rs := fun hR k => ⟨hR, c1, .inl (.inl (htk k)), pg, le, sq_of (hlk k), rp, by omega⟩
      have dka : ∀ {H1 : Hp} {C : Int} {p : Addr} {es : List Ev1}, RK G H1 a T C → LgAt H1 p es → (∀ e ∈ es, okE e) → es.length ≤ 140 → DA K H1 r c t p ps es := fun k hp he hz => ⟨hR, c1, .inl (.inl (htk k)), pg, le, hp, he, by omega⟩
      refine gName_go ?_
      -- own
      refine q_asgW (go_op (go_call ⟨.str r, rfl, .int (c : Int), rfl, .ref t, rfl, .ref l, rfl, r, c, t, l, ps, rs, rfl, ra hR k, fun T1 o1 g1 ts1 H2 nT1 no1 ng1 d1 e2 hT1 ho1 hts1 hg1 => ⟨T1, [.ref o1, .ref g1], 0, .ref o1, rfl, rfl, .inl (.inl hT1), rfl, ?_⟩⟩))
      obtain ⟨okO, lenO⟩ := own_ok (r := r) (c := c) c1 pg.all rp
      obtain ⟨xs1, ha1⟩ := k.src.is
      have fo1 : G o1 = none := fresh_back k.ex no1
      have na1 : o1 ≠ a := (ne_of_none ha1 no1).symm
      have k2 := k.mono e2
      have lo1 : LgAt H2 o1 (logS r c ps rs) := ⟨ts1, ho1, hts1⟩
      generalize logS r c ps rs = eo at okO lenO lo1 hts1
      obtain ⟨xs2, ha2⟩ := k2.src.is
      -- bent
      refine q_asgL (el_list (ev_var rfl) (sq_of ho1)) fun b1 H3 nb1 e3 hb1 => ?_
      have fb1 : G b1 = none := fresh_back k2.ex nb1
      have nab : b1 ≠ a := (ne_of_none ha2 nb1).symm
      have nob : o1 ≠ b1 := ne_of_none ho1 nb1
      have k3 := k2.mono e3
      have lb3 : LgAt H3 b1 eo := ⟨ts1, hb1, Paired.imp hts1 fun _ _ z => e3 _ _ z⟩
      have lo3 := lo1.mono e3
      -- the steps
      refine q_seq (go_forR (go_cons (go_op ?_)))
      refine w_draw rfl ev_c (by decide) (by decide) k3.src (by omega) fun d0 H4 d00 d01 e4 S4 => ?_
      have k4 := k3.draw g e4 S4
      have lo4 := lo3.draw na1 k3.src e4
      have lb4 := lb3.draw nab k3.src e4
      refine go_CB (go_cons ((ev_neNil (ev_var rfl) lo4 okO) H4 (Ex.refl _) _ fun H5 e5 => .inr ⟨!eo.isEmpty, rfl, d0, (if (!eo.isEmpty) = true then 1 else 0), rfl, rfl, .inl ⟨by omega, by omega⟩, ?_⟩))
      have k5 := k4.mono e5
      have lo5 := lo4.mono e5
      have lb5 := lb4.mono e5
      obtain ⟨n, hn, hn3, hne⟩ : ∃ n : Nat, d0 * (if (!eo.isEmpty) = true then 1 else 0) = (n : Int) ∧ n ≤ 3 ∧ (0 < n → eo ≠ []) := by
        cases he : eo with
        | nil => exact ⟨0, by simp, by omega, fun z => absurd z (by omega)⟩
        | cons x xs => exact ⟨d0.toNat, by simp; omega, by omega, fun _ => List.cons_ne_nil _ _⟩
      refine ⟨(n : Int), by show [V.int (d0 * _)] = _; rw [hn], by omega, by omega, ?_⟩
      rw [Int.toNat_natCast]
      refine s_forFix (fun j σ H' => ∃ y7 y8 eb, σ = [some (.ref a), some (.int (c : Int)), some (.ref t), some (.ref l), some (.str r), some (.ref o1), some (.ref b1), y7, y8, y9, y10, y11, y12, y13, y14] ∧ RK G H' a T (B + 150 * (i : Int) + 1 + (j : Int)) ∧ LgAt H' o1 eo ∧ LgAt H' b1 eb ∧ eb.length = rs.length ∧ ∀ e ∈ eb, okE e) ⟨_, _, eo, rfl, k5.le (by omega), lo5, lb5, lenO, okO⟩ (fun j σ H' hj hP => ?_) (fun σ H' hP => ?_)
      · obtain ⟨y7, y8, eb, rfl, k6, lo6, lb6, leb, okB⟩ := hP
        have hne := hne (by omega)
        have hpos : 0 < eo.length := List.length_pos_iff.mpr hne
        obtain ⟨ts6, ho6, hts6⟩ := lo6
        have hn6 := paired_len hts6
        -- at
        refine q_asgW ?_
        refine w_draw rfl (b := (eo.length : Int)) (ev_is (ev_len (ev_var rfl) (sq_of ho6)) (by rw [List.length_map, hn6])) (by omega) (by omega) k6.src (by omega) fun at_ H7 a0 a1 e7 S7 => ?_
        have k7 := k6.draw g e7 S7
        have lo7 : LgAt H7 o1 eo := LgAt.draw ⟨ts6, ho6, hts6⟩ na1 k6.src e7
        obtain ⟨us7, hb7, hus7⟩ := lb6.draw nab k6.src e7
        obtain ⟨ai, rfl⟩ := nat_of a0
        have hai : ai < eb.length := by omega
        obtain ⟨tj, htj, htj2⟩ := paired_gt hus7 hai
        -- bent[at] = ..
        refine (go_asgG (go_call ⟨.ref b1, rfl, .int (ai : Int), rfl, b1, us7.map V.ref, (ai : Int), .ref tj, rfl, rfl, sq_of hb7, atI_nat (by rw [List.getElem?_map, htj]; rfl), tj, eb.getD ai nilE, rfl, htj2, fun T0 H8 nT0 e8 hT0 => ⟨.ref b1, rfl, .int (ai : Int), rfl, b1, us7.map V.ref, (ai : Int), ai, rfl, rfl, e8 _ _ hb7, ixN_nat (by rw [List.length_map, paired_len hus7]; exact hai), ?_⟩⟩))
        refine ⟨_, _, eb.set ai (turnE (eb.getD ai nilE)), rfl, ((k7.mono e8).upd fb1 (e8 _ _ hb7) nab).le (by omega), (lo7.mono e8).upd (e8 _ _ hb7) nob, LgAt.set (e8 _ _ hb7) (Paired.imp hus7 fun _ _ z => e8 _ _ z) hT0, by rw [List.length_set]; exact leb, fun e he => ?_⟩
        rcases List.mem_or_eq_of_mem_set he with z | z
        · exact okB e z
        · rw [z]
          refine turn_ok (okB _ ?_)
          rw [List.getD_eq_getElem?_getD, List.getElem?_eq_getElem hai]
          exact List.getElem_mem _
      · obtain ⟨y7, y8, eb, rfl, k6, lo6, lb6, leb, okB⟩ := hP
        -- other
        dsimp only
        refine q_asgW (go_op (go_call (go_cons (go_op (go_lst ?_)))))
        refine ⟨by show 3 ≤ sizeLine; decide, fun lw nlw => ?_⟩
        have xw := Ex.new (o := .lst [V.str "LRU", V.str "FIFO", V.str "OPT"]) nlw
        obtain ⟨xs6, ha6⟩ := k6.src.is
        have nlwa : lw ≠ a := (ne_of_none ha6 nlw).symm
        refine w_draw rfl ev_c (by decide) (by decide) (k6.mono xw).src (by omega) fun d1 H7 d10 d11 e7 S7 => ?_
        have k7 := (k6.mono xw).draw g e7 S7
        have lo7 := (lo6.mono xw).draw na1 (k6.mono xw).src e7
        have lb7 := (lb6.mono xw).draw nab (k6.mono xw).src e7
        obtain ⟨r2, hr2, hR2⟩ := rule_at d10 d11
        have hlw : H7 lw = some (.lst [V.str "LRU", V.str "FIFO", V.str "OPT"]) := e7 _ _ (by rw [hid_ne nlwa, upd_same])
        refine ⟨lw, [V.str "LRU", V.str "FIFO", V.str "OPT"], d1, .str r2, rfl, rfl, sq_of hlw, hr2, .int (c : Int), rfl, .ref t, rfl, .ref l, rfl, r2, c, t, l, ps, rs, rfl, ra hR2 k7, fun T2 o2 g2 ts2 H8 nT2 no2 ng2 d2 e8 hT2 ho2 hts2 hg2 => ⟨T2, [.ref o2, .ref g2], 0, .ref o2, rfl, rfl, .inl (.inl hT2), rfl, ?_⟩⟩
        obtain ⟨okT, lenT⟩ := own_ok (r := r2) (c := c) c1 pg.all rp
        obtain ⟨xs7, ha7⟩ := k7.src.is
        have fo2 : G o2 = none := fresh_back k7.ex no2
        have na2 : o2 ≠ a := (ne_of_none ha7 no2).symm
        have n12 : o1 ≠ o2 := by
          obtain ⟨_, z, _⟩ := lo7
          exact ne_of_none z no2
        have nb2 : b1 ≠ o2 := by
          obtain ⟨_, z, _⟩ := lb7
          exact ne_of_none z no2
        have k8 := k7.mono e8
        have lo8 := lo7.mono e8
        have lb8 := lb7.mono e8
        have lt8 : LgAt H8 o2 (logS r2 c ps rs) := ⟨ts2, ho2, hts2⟩
        generalize logS r2 c ps rs = et at okT lenT lt8 hts2
        -- the four logs
        refine go_forL (go_lst ?_)
        refine ⟨.ref o1, rfl, .ref b1, rfl, .ref o2, rfl, ?_⟩
        refine w_lcL (a := l) (xs := rs.map V.str) (ev_var rfl) (sq_of (hlk k8)) (fun Dl s H' => RK G H' a T (B + 150 * (i : Int) + 5 + (s : Int)) ∧ H8 Dl = none ∧ Ex G H8 ∧ Dl ≠ a ∧ LgAt H' o1 eo ∧ LgAt H' b1 eb ∧ LgAt H' o2 et ∧ ∃ es, LgAt H' Dl es ∧ es.length = s ∧ ∀ e ∈ es, okE e)
          (fun Dl H9 hD e9 => ?_) (fun Dl s H9 hP => sq_of (hlk hP.1)) (fun _ => rfl) (fun Dl s x H9 hx hP => ?_) (fun Dl H9 hP => ?_)
        · have k9 := k8.mono e9
          obtain ⟨xs9, ha9⟩ := k9.src.is
          have hD8 := fresh_back e9 hD
          exact ⟨(k9.mono (Ex.new hD)).le (by omega), hD8, k8.ex, (ne_of_none ha9 hD).symm, (lo8.mono e9).mono (Ex.new hD), (lb8.mono e9).mono (Ex.new hD), (lt8.mono e9).mono (Ex.new hD), [], ⟨[], upd_same, .nil⟩, rfl, fun e he => nomatch he⟩
        · obtain ⟨k9, hD8, ex8, nDa, lo9, lb9, lt9, es, hes, les, oes⟩ := hP
          rw [List.getElem?_map] at hx
          obtain ⟨p, hp, rfl⟩ := Option.map_eq_some_iff.mp hx
          have hs : s < rs.length := (List.getElem?_eq_some_iff.mp hp).1
          have pp := rp p (List.mem_of_getElem? hp)
          refine ⟨by show 2 ≤ sizeLine; decide, fun lv nlv => ?_⟩
          have xv := Ex.new (o := .lst [V.str "hit", V.str "miss"]) nlv
          obtain ⟨xs9, ha9⟩ := k9.src.is
          have nlva : lv ≠ a := (ne_of_none ha9 nlv).symm
          refine w_draw rfl ev_c (by decide) (by decide) (k9.mono xv).src (by omega) fun d3 Ha d30 d31 ea Sa => ?_
          have ka := (k9.mono xv).draw g ea Sa
          obtain ⟨mk, hmk, hmk2⟩ := marks_at d30 d31
          have dr : ∀ {p : Addr} {es : List Ev1}, LgAt H9 p es → p ≠ a → LgAt Ha p es := fun h n => (h.mono xv).draw n (k9.mono xv).src ea
          refine ⟨lv, [V.str "hit", V.str "miss"], d3, .str mk, rfl, rfl, sq_of (ea _ _ (by rw [hid_ne nlva, upd_same])), hmk, .str p, rfl, by show 2 ≤ sizeLine; decide, fun tp ntp => ?_⟩
          have xt := Ex.new (o := .tup [V.str mk, .str p]) ntp
          obtain ⟨ts, h1, h2⟩ := (dr hes nDa).mono xt
          have fD : G Dl = none := fresh_back ex8 hD8
          have ne8 : ∀ {p : Addr} {es : List Ev1}, LgAt H8 p es → p ≠ Dl := fun h => by
            obtain ⟨_, z, _⟩ := h
            exact ne_of_none z hD8
          have kb := ((ka.mono xt).upd (o := .lst (ts.map V.ref ++ [.ref tp])) fD h1 nDa).le (show _ ≤ B + 150 * (i : Int) + 5 + ((s + 1 : Nat) : Int) by omega)
          refine ⟨ts.map V.ref, h1, sz_lt (by rw [List.length_map, paired_len h2]; omega), kb, hD8, ex8, nDa, ((dr lo9 na1).mono xt).upd h1 (ne8 lo8), ((dr lb9 nab).mono xt).upd h1 (ne8 lb8), ((dr lt9 na2).mono xt).upd h1 (ne8 lt8), es ++ [(mk, p)], ⟨ts ++ [tp], by rw [upd_same, List.map_append]; rfl, ?_⟩, by rw [List.length_append, les]; rfl, fun e he => ?_⟩
          · refine paired_snoc (R := TupAt _) ?_ (tup_upd h1 h2)
            show L2.upd _ Dl _ tp = _
            rw [upd_ne (ne_of upd_same h1 (by intro z; cases z)), upd_same]
          · rcases List.mem_append.mp he with z | z
            · exact oes e z
            · rw [List.mem_singleton.mp z]
              exact ⟨hmk2, pp⟩
        · obtain ⟨k9, hD8, ex8, nDa, lo9, lb9, lt9, en, hen, len, oen⟩ := hP
          rw [hml] at len
          have fD : G Dl = none := fresh_back ex8 hD8
          have ne8 : ∀ {p : Addr} {es : List Ev1}, LgAt H8 p es → p ≠ Dl := fun h => by
            obtain ⟨_, z, _⟩ := h
            exact ne_of_none z hD8
          have n1D := ne8 lo8
          have nbD := ne8 lb8
          have ntD := ne8 lt8
          refine ⟨by show 4 ≤ sizeLine; decide, fun hq nhq => ⟨hq, rfl, ⟨_, sq_of upd_same⟩, ?_⟩⟩
          have xq := Ex.new (o := .lst [V.ref o1, .ref b1, .ref o2, .ref Dl]) nhq
          have neq : ∀ {p : Addr} {es : List Ev1}, LgAt H9 p es → p ≠ hq := fun h => by
            obtain ⟨_, z, _⟩ := h
            exact ne_of_none z nhq
          obtain ⟨xs9, ha9⟩ := k9.src.is
          have nqa : hq ≠ a := (ne_of_none ha9 nhq).symm
          have m1 := neq lo9
          have m2 := neq lb9
          have m3 := neq lt9
          have m4 := neq hen
          have kq := k9.mono xq
          have hhq : (upd H9 hq (.lst [V.ref o1, .ref b1, .ref o2, .ref Dl])) hq = some (.lst [V.ref o1, .ref b1, .ref o2, .ref Dl]) := upd_same
          have L0 : FourL H9 [(o1, eo), (b1, eb), (o2, et), (Dl, en)] := ⟨lo9, lb9, lt9, hen, trivial⟩
          have fs : ∀ pe ∈ [(o1, eo), (b1, eb), (o2, et), (Dl, en)], G pe.1 = none ∧ pe.1 ≠ a ∧ pe.1 ≠ hq ∧ (∀ e ∈ pe.2, okE e) ∧ pe.2.length ≤ 140 := fun pe hpe => by
            simp only [List.mem_cons, List.not_mem_nil, or_false] at hpe
            rcases hpe with rfl | rfl | rfl | rfl
            · exact ⟨fo1, na1, m1, okO, by show eo.length ≤ 140; omega⟩
            · exact ⟨fb1, nab, m2, okB, by show eb.length ≤ 140; omega⟩
            · exact ⟨fo2, na2, m3, okT, by show et.length ≤ 140; omega⟩
            · exact ⟨fD, nDa, m4, oen, by show en.length ≤ 140; omega⟩
          have dis : ([(o1, eo), (b1, eb), (o2, et), (Dl, en)] : List (Addr × List Ev1)).Pairwise fun x y => x.1 ≠ y.1 := by
            simp [nob, n12, n1D, nb2, nbD, ntD]
          have ef : ([V.ref o1, .ref b1, .ref o2, .ref Dl] : List V) = ([(o1, eo), (b1, eb), (o2, et), (Dl, en)] : List (Addr × List Ev1)).map fun pe => V.ref pe.1 := rfl
          have L1 := L0.mono xq
          have hLen : ([(o1, eo), (b1, eb), (o2, et), (Dl, en)] : List (Addr × List Ev1)).length = 4 := rfl
          rw [ef] at kq hhq L1 xq ⊢
          generalize ([(o1, eo), (b1, eb), (o2, et), (Dl, en)] : List (Addr × List Ev1)) = Ls at kq hhq L1 fs dis hLen ⊢
          generalize upd H9 hq _ = Hq at kq hhq L1 ⊢
          have hLm : (Ls.map fun pe => V.ref pe.1).length = 4 := by rw [List.length_map]; exact hLen
          refine s_forFixL (a := hq) (xs := Ls.map fun pe => V.ref pe.1) (fun j σ H' => ∃ y10 y11 y12 y13, σ = [some (.ref a), some (.int (c : Int)), some (.ref t), some (.ref l), some (.str r), some (.ref o1), some (.ref b1), y7, y8, some (.ref o2), y10, y11, y12, y13, y14] ∧ RK G H' a T (B + 150 * (((i + 1 : Nat)) : Int)) ∧ H' hq = some (.lst (Ls.map fun pe => V.ref pe.1)) ∧ FourL H' (Ls.drop j)) ⟨_, _, _, _, rfl, kq.le (by rw [hml]; omega), hhq, L1⟩ (fun j σ H' _ hP => ?_) (fun j x σ H' hx hP => ?_) (fun σ H' hP => ?_)
          · obtain ⟨_, _, _, _, _, _, h, _⟩ := hP
            exact sq_of h
          · obtain ⟨y10, y11, y12, y13, rfl, q0, hq0, F0⟩ := hP
            rw [List.getElem?_map] at hx
            obtain ⟨⟨p, es⟩, hp, rfl⟩ := Option.map_eq_some_iff.mp hx
            have hjl := (List.getElem?_eq_some_iff.mp hp).1
            have hdr : Ls.drop j = (p, es) :: Ls.drop (j + 1) := by
              rw [List.drop_eq_getElem_cons hjl, (List.getElem?_eq_some_iff.mp hp).2]
            obtain ⟨fp, npa, npq, oes, les⟩ := fs (p, es) (List.mem_of_getElem? hp)
            have oth : ∀ pe ∈ Ls.drop (j + 1), pe.1 ≠ p := fun pe hpe => by
              have := dis.sublist (List.drop_sublist j Ls)
              rw [hdr] at this
              exact fun z => (List.pairwise_cons.mp this).1 pe hpe z.symm
            rw [hdr] at F0
            obtain ⟨lp0, F0⟩ := F0
            refine gName_go ?_
            -- before
            refine q_asg (ev_reprLg (ev_var rfl) (ev_var rfl) (htk q0) pg lp0 oes (by omega)) fun Ha ea => ?_
            have qa := q0.mono ea
            -- due
            refine q_asg (v := dueV (dueS r c ps es)) (ev_fn (ea_cons (ev_var rfl) (ea_cons (ev_var rfl) (ea_cons (ev_var rfl) (ea_cons (ev_var rfl) ea_nil)))) fun H4 e4 Q' k => ⟨r, c, t, p, ps, es, rfl, dka (qa.mono e4) ((lp0.mono ea).mono e4) oes les, k⟩) fun Hb eb => ?_
            have qb := qa.mono eb
            have lpb := (lp0.mono ea).mono eb
            have Fb := FourL.mono eb (FourL.mono ea F0)
            have hqb := eb _ _ (ea _ _ hq0)
            -- found
            refine q_asgW (go_lst (go_cons (go_call ⟨.str r, rfl, .int (c : Int), rfl, .ref t, rfl, .ref p, rfl, r, c, t, p, ps, es, rfl, dka qb lpb oes les, qb.tab, fun Hc ec tc => ⟨by show 1 ≤ sizeLine; decide, fun fo nfo => ?_⟩⟩)))
            have qc := qb.no g ec tc
            have lpc := lpb.no ec
            have Fc := FourL.no ec Fb
            have hqc := n_lst ec hqb
            have xf := Ex.new (o := .lst [dueV (dueS r c ps es)]) nfo
            have ffo : G fo = none := fresh_back qc.ex nfo
            obtain ⟨xsc, hac⟩ := qc.src.is
            have nfa : fo ≠ a := (ne_of_none hac nfo).symm
            have npf : p ≠ fo := by
              obtain ⟨_, z, _⟩ := lpc
              exact ne_of_none z nfo
            have nqf : hq ≠ fo := ne_of_none hqc nfo
            have nof : ∀ pe ∈ Ls.drop (j + 1), pe.1 ≠ fo := fourL_ne nfo Fc
            have hfo : upd Hc fo (.lst [dueV (dueS r c ps es)]) fo = some (.lst [dueV (dueS r c ps es)]) := upd_same
            have qd := qc.mono xf
            have lpd := lpc.mono xf
            have Fd := FourL.mono xf Fc
            have hqd := xf _ _ hqc
            generalize upd Hc fo _ = Hd at hfo qd lpd Fd hqd ⊢
            refine ⟨.ref fo, rfl, .inl ⟨rfl, _, sq_of hfo⟩, .str r, rfl, .int (c : Int), rfl, .ref t, rfl, .ref p, rfl, r, c, t, p, ps, es, rfl, dka qd lpd oes les, qd.tab, fun He ee te => ⟨fo, [dueV (dueS r c ps es)], dueV (dueS r c ps es), rfl, rfl, n_lst ee hfo, sz_lt (show 1 < 100000 by decide), ?_⟩⟩
            have hfe := n_lst ee hfo
            have qe := (qd.no g ee te).upd (o := .lst ([dueV (dueS r c ps es)] ++ [dueV (dueS r c ps es)])) ffo hfe nfa
            have lpe := (lpd.no ee).upd (o := .lst ([dueV (dueS r c ps es)] ++ [dueV (dueS r c ps es)])) hfe npf
            have Fe := FourL.upd (o := .lst ([dueV (dueS r c ps es)] ++ [dueV (dueS r c ps es)])) hfe (FourL.no ee Fd) nof
            have hqe : (upd He fo (.lst ([dueV (dueS r c ps es)] ++ [dueV (dueS r c ps es)]))) hq = some (.lst (Ls.map fun pe => V.ref pe.1)) := by rw [upd_ne nqf]; exact n_lst ee hqd
            have hfo2 : (upd He fo (.lst ([dueV (dueS r c ps es)] ++ [dueV (dueS r c ps es)]))) fo = some (.lst [dueV (dueS r c ps es), dueV (dueS r c ps es)]) := upd_same
            generalize upd He fo _ = Hf at qe lpe Fe hqe hfo2 ⊢
            dsimp only
            refine q_when (b := false || !decide (V.str (argL ps es).shown = V.str (argL ps es).shown)) (et_or (et_test (ev_opL (ev_var rfl) (el_lst (ea_cons (ev_var rfl) (ea_cons (ev_var rfl) ea_nil)) (show 2 ≤ 100000 by decide)) fun q H1 hq1 e1 => rv_neDue (e1 _ _ hfo2) hq1)) fun _ => et_test (ev_op (ev_reprLg (ev_var rfl) (ev_var rfl) (htk qe) pg lpe oes (by omega)) (ev_var rfl) (rv_ne rfl))) (fun hb => by simp at hb) (fun _ Hg eg => ?_)
            have qg := qe.mono eg
            have lpg := lpe.mono eg
            have Fg := FourL.mono eg Fe
            have hqg := eg _ _ hqe
            refine s_when (b := !es.isEmpty) (et_test (ev_neNil (ev_var rfl) lpg oes)) (fun hb Hh eh => ?_) (fun hb Hh eh => ⟨_, _, _, _, rfl, qg.mono eh, eh _ _ hqg, FourL.mono eh Fg⟩)
            have hne : es ≠ [] := fun z => by rw [z] at hb; cases hb
            have hpos : 0 < es.length := List.length_pos_iff.mpr hne
            have qh := qg.mono eh
            have Fh := FourL.mono eh Fg
            have hqh := eh _ _ hqg
            obtain ⟨us, hu1, hu2⟩ := lpg.mono eh
            have hul := paired_len hu2
            have hj2 : es.length - 1 < es.length := by omega
            obtain ⟨tj, htj, htj2⟩ := paired_gt hu2 hj2
            have hat : atI (us.map V.ref) (-1) = some (V.ref tj) := at_lastN (by rw [List.length_map, hul, List.getElem?_map, htj]; rfl)
            -- happened[-1] = ..
            refine q_asgG (go_call ⟨.ref p, rfl, 1, rfl, p, us.map V.ref, -1, .ref tj, rfl, rfl, sq_of hu1, hat, tj, es.getD (es.length - 1) nilE, rfl, htj2, fun T0 Hi nT0 ei hT0 => ⟨.ref p, rfl, 1, rfl, p, us.map V.ref, -1, es.length - 1, rfl, rfl, ei _ _ hu1, by rw [List.length_map, hul]; exact ix_last hpos, ?_⟩⟩)
            have okn : okE (turnE (es.getD (es.length - 1) nilE)) := turn_ok (oes _ (by rw [List.getD_eq_getElem?_getD, List.getElem?_eq_getElem hj2]; exact List.getElem_mem _))
            have qi := (qh.mono ei).upd (o := .lst ((us.map V.ref).set (es.length - 1) (.ref T0))) fp (ei _ _ hu1) npa
            have lpi : LgAt (upd Hi p (.lst ((us.map V.ref).set (es.length - 1) (.ref T0)))) p (es.set (es.length - 1) (turnE (es.getD (es.length - 1) nilE))) := LgAt.set (ei _ _ hu1) (Paired.imp hu2 fun _ _ z => ei _ _ z) hT0
            have Fi := FourL.upd (o := .lst ((us.map V.ref).set (es.length - 1) (.ref T0))) (ei _ _ hu1) (FourL.mono ei Fh) oth
            have hqi : (upd Hi p (.lst ((us.map V.ref).set (es.length - 1) (.ref T0)))) hq = some (.lst (Ls.map fun pe => V.ref pe.1)) := by rw [upd_ne npq.symm]; exact ei _ _ hqh
            have oe2 : ∀ e ∈ es.set (es.length - 1) (turnE (es.getD (es.length - 1) nilE)), okE e := fun e he => by
              rcases List.mem_or_eq_of_mem_set he with z | z
              · exact oes e z
              · rw [z]
                exact okn
            have le2 : (es.set (es.length - 1) (turnE (es.getD (es.length - 1) nilE))).length ≤ 140 := by rw [List.length_set]; exact les
            generalize es.set (es.length - 1) _ = es2 at lpi oe2 le2
            generalize upd Hi p _ = Hj at qi lpi Fi hqi ⊢
            refine s_ifW (go_test (go_op (go_call ⟨.str r, rfl, .int (c : Int), rfl, .ref t, rfl, .ref p, rfl, r, c, t, p, ps, es2, rfl, dka qi lpi oe2 le2, qi.tab, fun Hk ek tk => ⟨.str r, rfl, .int (c : Int), rfl, .ref t, rfl, .ref p, rfl, r, c, t, p, ps, es2, rfl, dka (qi.no g ek tk) (lpi.no ek) oe2 le2, fun Hl el => ⟨due_scal _, _, rfl, ite2 (fun hz => by simp at hz) fun _ => ?_⟩⟩⟩)))
            exact ⟨_, _, _, _, rfl, (qi.no g ek tk).mono el, el _ _ (n_lst ek hqi), FourL.mono el (FourL.no ek Fi)⟩
          · obtain ⟨y10, y11, y12, y13, rfl, q0, _, _⟩ := hP
            exact ⟨G, _, _, _, _, _, _, _, _, _, _, _, rfl, gp, q0⟩
    · obtain ⟨G, y4, y5, y6, y7, y8, y9, y10, y11, y12, y13, y14, rfl, gp, k⟩ := hP
      exact s_ret ev_c fun H4 e4 => q H4 (fun b o hb => e4 _ _ (k.ex _ _ (gp.up b o hb))) ((k.mono e4).src.le (show B + 150 * (3 : Int) ≤ B + 450 by omega)) (k.tab.ext e4)
end
end KB

set_option Elab.async false
set_option linter.all false
set_option maxRecDepth 100000
set_option maxHeartbeats 16000000
/-! F5: the law, walked. -/
namespace KB
open PySem PySem.Spec PyProof.Rows L2 Evl LamX LP
theorem small_pages {ps : List Str} (h : (∀ p ∈ ps, pageB p = true) ∧ ps.Nodup ∧ ps.length ≤ 200) : Pages ps := ⟨h.1, h.2.1, h.2.2⟩
theorem three_at {d : Int} (h0 : 0 ≤ d) (h1 : d < 3) : ∃ v : Int, atI [V.int 5, V.int 12, V.int 160] d = some (V.int v) ∧ 1 ≤ v ∧ v ≤ 160 := by
  have : d = 0 ∨ d = 1 ∨ d = 2 := by omega
  rcases this with rfl | rfl | rfl
  · exact ⟨5, rfl, by decide, by decide⟩
  · exact ⟨12, rfl, by decide, by decide⟩
  · exact ⟨160, rfl, by decide, by decide⟩
theorem two_at {d : Int} (h0 : 0 ≤ d) (h1 : d < 4) : ∃ v : Int, atI [V.int 20, V.int 125] (d / 3) = some (V.int v) ∧ 0 ≤ v ∧ v ≤ 125 := by
  have : d / 3 = 0 ∨ d / 3 = 1 := by omega
  rcases this with h | h
  · exact ⟨20, by rw [h]; rfl, by decide, by decide⟩
  · exact ⟨125, by rw [h]; rfl, by decide, by decide⟩
theorem RK.big {G H' H1 : Hp} {a T : Addr} {B C : Int} (s : RK G H' a T B) (g : GB G a) (e : Ex (hid (noTab H') a) H1) (S : SrcAt H1 a C) (t : TabS H1 T viQ) : RK G H1 a T C :=
  ⟨fun b o h => e b o (by rw [hid_ne (ne_of_none h g.na)]; exact noTab_of (s.ex b o h) fun ps z => g.nt b ps (by rw [← z]; exact h)), S, t⟩
section
variable {K : PySem.W.Frag} {σ : L2.St} {H H1 : Hp} {te tl tt : TE} {D : Ends} {Q : VK}
theorem go_not {t : TT} {Q : Bool → Hp → Prop} (h : t σ H fun c H1 => Q (!c) H1) : tNot t σ H Q := h
theorem go_B {Q : Bool → Hp → Prop} (h : te σ H fun x H1 => ∃ b, x = .bl b ∧ Q b H1) : tB te σ H Q := h
/-- a log written out -/
def EvLg (te : TE) (σ : L2.St) (H : Hp) (es : List Ev1) : Prop := ∀ H1, Ex H H1 → ∀ Q : VK, (∀ l H2, Ex H1 H2 → LgAt H2 l es → Q (.ref l) H2) → te σ H1 Q
theorem lg_nil : EvLg (tLst tNil) σ H [] := fun H1 e Q q => ⟨Nat.zero_le _, fun l hl => q l _ (Ex.new hl) ⟨[], upd_same, .nil⟩⟩
theorem lg_one {m x : Str} : EvLg (tLst (tCons (tTup (tCons (tC (.str m)) (tCons (tC (.str x)) tNil))) tNil)) σ H [(m, x)] := fun H1 e Q q => ⟨by show 2 ≤ sizeLine; decide, fun tp ntp => ⟨by show 1 ≤ sizeLine; decide, fun l hl =>
  q l _ ((Ex.new ntp).trans (Ex.new hl)) ⟨[tp], upd_same, .cons (Ex.new hl _ _ upd_same) .nil⟩⟩⟩
theorem w_fd3 {T : Addr} {r : Str} {c : Nat} {ps : List Str} {es : List Ev1} (hR : isRule r) (hc : 1 ≤ c) (hp : Pages ps) (hle : ps.length ≤ c) (he : ∀ e ∈ es, okE e) (hz : es.length ≤ 300) (hT : TabS H T viQ) (ht : EvU tt σ H (ps.map V.str)) (hl : EvLg tl σ H es) (k : ∀ H4, Ex (noTab H) H4 → TabS H4 T viQ → Q (dueV (dueS r c ps es)) H4) :
    tCall (spFirstDiff K T) [] E0 (tCons (tC (.str r)) (tCons (tC (.int (c : Int))) (tCons tt (tCons tl tNil)))) σ H Q :=
  ht H (Ex.refl _) _ fun t H2 ht0 e2 h2 => hl H2 e2 _ fun l H3 e3 h3 => ⟨r, c, t, l, ps, es, rfl, ⟨hR, hc, .inl (.inl (e3 _ _ h2)), hp, hle, h3, he, hz⟩, hT.ext (e2.trans e3), fun H4 e4 t4 => k H4 (nn (ex_noTab (e2.trans e3)) e4) t4⟩
end
section
variable {P : Program} {w : World} {K : PySem.W.Frag} {mg : Str → Option Value} {base : Heap}
abbrev NLaw : List Str := ["script", "k", "source", "turn", "longest", "room", "initial", "pages", "size"]
theorem scLaw : FnScope NLaw ["script"] (defScope sLaw) := ⟨rfl, rfl, rfl, by decide +kernel, rfl, by decide +kernel, by decide +kernel⟩
def spLaw (K : PySem.W.Frag) (T : Addr) : Sp := fun vs H Q _ => ∃ (a : Addr) (ns : List Int), vs = [.ref a] ∧ SqL K H a (ns.map V.int) ∧ H T = some (.tbl #[]) ∧ ∀ H', Q (.bl true) H'
theorem ok_law {f fR T : Addr} {fd fdR : FuncData} (F : Fun K "law" "law" sLaw f fd) (B0 : Bn mg) (B2 : Bl mg) (cD : Cl P w K mg base 1 "_law_draw" ["source", "bound"] spDraw) (cSrc : Cl P w K mg base 1 "_law_source" ["script", "k"] (spSource K))
    (cSet : Cl P w K mg base 3 "_law_setup" ["source", "most", "size"] spSetup) (cW : Cl P w K mg base 2 "_law_wanted" ["source", "pages", "size"] spWanted) (cF : Cl P w K mg base 7 "first_difference" PFd (spFirstDiff K T))
    (FR : FnG P w K mg base CX0 8 fR fdR PRd (spRightD T)) (mR : mg "_law_right" = some (.ref fR)) (kR : PySem.W.keepIn K (.ref fR) = true) (bR : Binds K fdR PRd []) : FnG P w K mg base CX0 9 f fd ["script"] (spLaw K T) := by
  refine okG F scLaw (fun vs H Q E h => ?_) (fun cdv A outer s H vs Q E hG hr h => ?_)
  · obtain ⟨a, ns, rfl, _⟩ := h
    rfl
  · obtain ⟨a, ns, rfl, hns, hT0, q⟩ := h
    have nd := scLaw.nd
    refine ⟨_, (pss_cons (ps_for PassesOwn.never rfl (pi_range1 (by rfl) B0.range (pa_cons (pe_callB (call_max2 rfl) (by rfl) B2.max bt_max (pa_cons pe_int (pa_cons (pe_callB (call_min2 rfl) (by rfl) B0.min bt_min (pa_cons pe_int (pa_cons (pe_callB call_len_seq (by rfl) B0.len bt_len (pa_cons (pv 0) pa_nil)) pa_nil))) pa_nil))) pa_nil)) (pg_name (i := 1) nd rfl (Or.inl rfl))
        (pss_cons (ps_set (i := 2) nd rfl (Or.inl rfl) (pe_cl cSrc hr (pa_cons (pv 0) (pa_cons (pv 1) pa_nil))))
        (pss_one (ps_for PassesOwn.never rfl (pi_range1 (by rfl) B0.range (pa_cons pe_int pa_nil)) (pg_name (i := 3) nd rfl (Or.inl rfl))
          (pss_cons (ps_set (i := 4) nd rfl (Or.inl rfl) (pe_ix (r := rIxL K) ix_list (pe_lst (pa_cons pe_int (pa_cons pe_int pa_nil))) (pe_op op_fdiv (pe_cl cD hr (pa_cons (pv 2) (pa_cons pe_int pa_nil))) pe_int) (fun _ _ => rfl)))
          (pss_cons (ps_asg (pe_cl cSet hr (pa_cons (pv 2) (pa_cons (pe_ix (r := rIxL K) ix_list (pe_lst (pa_cons pe_int (pa_cons pe_int (pa_cons pe_int pa_nil)))) (pe_cl cD hr (pa_cons (pv 2) (pa_cons pe_int pa_nil))) (fun _ _ => rfl)) (pa_cons (pv 4) pa_nil))))
            (pg_tup rfl (pgs_cons (pg_name (i := 5) nd rfl (Or.inl rfl)) (pgs_cons (pg_name (i := 6) nd rfl (Or.inl rfl)) (pgs_cons (pg_name (i := 7) nd rfl (Or.inl rfl)) (pgs_cons (pg_name (i := 8) nd rfl (Or.inl rfl)) pgs_nil))))))
          (pss_one (ps_if (pt_not (pt_val (pe_callG FR hG (hr.mono (by decide)) (by rfl) mR kR bR pass0 (pa_cons (pv 2) (pa_cons (pv 5) (pa_cons (pv 6) (pa_cons (pe_cl cW hr (pa_cons (pv 2) (pa_cons (pv 7) (pa_cons (pv 8) pa_nil)))) pa_nil))))))) (pss_one (ps_ret pe_bl)) pss_nil))))))))
      (pss_one (ps_ret (pe_and (pe_cmpR op_isN (pe_cl cF hr (pa_cons pe_str (pa_cons pe_int (pa_cons (pe_tup pa_nil) (pa_cons (pe_lst pa_nil) pa_nil))))) pe_non (nomark _))
          (pe_one (pe_cmpR op_eq (pe_cl cF hr (pa_cons pe_str (pa_cons pe_int (pa_cons (pe_tup pa_nil) (pa_cons (pe_lst (pa_cons (pe_tup (pa_cons pe_str (pa_cons pe_str pa_nil))) pa_nil)) pa_nil))))) pe_int (nomark _))))))).nox, ?_⟩
    have hsc : (ns.map V.int).length = ns.length := List.length_map ..
    obtain ⟨rounds, hro, hr6⟩ : ∃ n : Nat, (if (if ((ns.map V.int).length : Int) < 5 then ((ns.map V.int).length : Int) else 5) > 1 then (if ((ns.map V.int).length : Int) < 5 then ((ns.map V.int).length : Int) else 5) else 1) = (n : Int) ∧ n ≤ 5 := by
      obtain ⟨n, hn⟩ := nat_of (show 0 ≤ (if (if ((ns.map V.int).length : Int) < 5 then ((ns.map V.int).length : Int) else 5) > 1 then (if ((ns.map V.int).length : Int) < 5 then ((ns.map V.int).length : Int) else 5) else 1) by split <;> (try split) <;> omega)
      refine ⟨n, hn, ?_⟩
      split at hn <;> (try split at hn) <;> omega
    refine q_forN (n := rounds) (ea_cons (ev_is (ev_cb (vs := [.int 1, .int (if ((ns.map V.int).length : Int) < 5 then ((ns.map V.int).length : Int) else 5)]) (ea_cons ev_c (ea_cons (ev_cb (ea_cons ev_c (ea_cons (ev_len (ev_var rfl) hns) ea_nil)) fun H7 e7 Q' k => ⟨_, _, rfl, k H7 (Ex.refl H7)⟩) ea_nil)) fun H7 e7 Q' k => ⟨_, _, rfl, k H7 (Ex.refl H7)⟩) (by rw [hro])) ea_nil) (by omega)
      (fun i σ H' => ∃ y1 y2 y3 y4 y5 y6 y7 y8, σ = [some (.ref a), y1, y2, y3, y4, y5, y6, y7, y8] ∧ Ex (noTab H) H' ∧ TabS H' T viQ) (fun H1 e1 => ⟨_, _, _, _, _, _, _, _, rfl, ex_noTab e1, (TabS.nil hT0).ext e1⟩) (fun i σ H0 hi hP => ?_) (fun σ H0 hP => ?_)
    · obtain ⟨y1, y2, y3, y4, y5, y6, y7, y8, rfl, e0, t0⟩ := hP
      have hns := sq_noTab hns
      refine ⟨.ref a, rfl, .int (i : Int), rfl, a, i, ns, rfl, ex_l e0 hns, by omega, fun p H1 hp1 e1 S1 => ?_⟩
      have fp : noTab H p = none := fresh_back e0 hp1
      have g : GB (noTab H) p := ⟨fp, fun b ps z => (noTab_some z).2 ps rfl⟩
      have k1 : RK (noTab H) H1 p T 0 := ⟨e0.trans e1, S1, t0.ext e1⟩
      refine s_forR1 (n := 2) (ea_cons ev_c ea_nil) (by decide) (fun u σ H' => ∃ y3 y4 y5 y6 y7 y8, σ = [some (.ref a), some (.int (i : Int)), some (.ref p), y3, y4, y5, y6, y7, y8] ∧ RK (noTab H) H' p T (1400 * (u : Int)))
        (fun H2 e2 => ⟨_, _, _, _, _, _, rfl, (k1.mono e2).le (by omega)⟩) (fun u σ H2 hu hP => ?_) (fun σ H2 hP => ?_)
      · obtain ⟨y3, y4, y5, y6, y7, y8, rfl, k2⟩ := hP
        -- longest
        refine q_asgW (go_op (go_lst ?_))
        refine ⟨by show 2 ≤ sizeLine; decide, fun lg nlg => go_op ?_⟩
        have x1 := Ex.new (o := .lst [V.int 20, V.int 125]) nlg
        obtain ⟨xs2, hp2⟩ := k2.src.is
        have nlg' : lg ≠ p := (ne_of_none hp2 nlg).symm
        refine w_draw rfl ev_c (by decide) (by decide) (k2.mono x1).src (by omega) fun d0 H3 d00 d01 e3 S3 => ?_
        have k3 := (k2.mono x1).draw g e3 S3
        obtain ⟨lo, hlo, lo0, lo1⟩ := two_at d00 d01
        refine ⟨d0, 3, rfl, rfl, ⟨by decide, by decide⟩, lg, [V.int 20, V.int 125], d0 / 3, .int lo, rfl, rfl, sq_of (e3 _ _ (by rw [hid_ne nlg', upd_same])), hlo, ?_⟩
        dsimp only
        -- setup
        refine q_asgG (go_call ?_)
        refine ⟨.ref p, rfl, by show 3 ≤ sizeLine; decide, fun lp nlp => ?_⟩
        have x4 := Ex.new (o := .lst [V.int 5, V.int 12, V.int 160]) nlp
        obtain ⟨xs3, hp3⟩ := k3.src.is
        have nlp' : lp ≠ p := (ne_of_none hp3 nlp).symm
        refine w_draw rfl ev_c (by decide) (by decide) (k3.mono x4).src (by omega) fun d H4 d10 d11 e4 S4 => ?_
        have k4 := (k3.mono x4).draw g e4 S4
        obtain ⟨v, hv, v0, v1⟩ := three_at d10 d11
        refine ⟨lp, [V.int 5, V.int 12, V.int 160], d, .int v, rfl, rfl, sq_of (e4 _ _ (by rw [hid_ne nlp', upd_same])), hv, .int lo, rfl, ?_⟩
        refine ⟨p, v, lo, _, rfl, k4.src, by omega, v0, v1, lo0, by omega, fun T1 t pg room n c0 pages H5 _ _ _ npg e5 S5 hT1 ht hpg r1 r2 pc0 lc0 ppg nepg hn => ?_⟩
        have k5 := k4.draw g e5 S5
        refine ⟨T1, _, rfl, .inl (.inl hT1), rfl, .int (room : Int), _, rfl, .ref t, _, rfl, .ref pg, _, rfl, .int (n : Int), _, rfl, rfl, ?_⟩
        have lpg := ppg.len
        obtain ⟨xs5, hp5⟩ := k5.src.is
        have ntp : t ≠ p := ne_of ht hp5 (by intro z; cases z)
        -- wanted, right
        refine s_ifW (go_not (go_B (go_call ⟨.ref p, rfl, .int (room : Int), rfl, .ref t, rfl, .ref p, rfl, .ref pg, rfl, .int (n : Int), rfl, p, pg, n, _, pages, rfl, k5.src, by omega, hpg, npg, nepg, ppg.all, by omega, by omega, fun wl ws H6 W6 hl6 hp6 => ?_⟩)))
        have k6 := k5.draw g W6.ex W6.src
        have ht6 : H6 t = some (.tup (c0.map V.str)) := W6.ex _ _ (by rw [hid_ne ntp]; exact ht)
        refine ⟨p, t, wl, room, _, c0, ws, rfl, k6.src, by omega, r1, ht6, pc0, lc0, W6.hwl, W6.n, hp6, by omega, k6.tab, fun H7 e7 S7 t7 => ⟨true, rfl, iteF ?_⟩⟩
        exact ⟨_, _, _, _, _, _, rfl, (k6.big g e7 S7 t7).le (by omega)⟩
      · obtain ⟨y3, y4, y5, y6, y7, y8, rfl, k2⟩ := hP
        exact ⟨_, _, _, _, _, _, _, _, rfl, k2.ex, k2.tab⟩
    · obtain ⟨y1, y2, y3, y4, y5, y6, y7, y8, rfl, e0, t0⟩ := hP
      have pe : Pages [] := small_pages ⟨(fun p hp => nomatch hp), List.nodup_nil, by decide⟩
      have oka : ∀ e ∈ [(hitS, ("a" : Str))], okE e := fun e he => by
        rw [List.mem_singleton.mp he]
        exact ⟨.inl rfl, by decide +kernel⟩
      have g1 : dueS "LRU" 1 [] [] = none := by decide +kernel
      have g2 : dueS "OPT" 1 [] [(hitS, "a")] = some 0 := by decide +kernel
      refine go_ret (go_andV (go_op (w_fd3 (ps := []) (es := []) (.inl rfl) (by decide) pe (by decide) (fun e he => nomatch he) (by decide) t0 (eu_tup ea_nil (Nat.zero_le _)) lg_nil fun H1 e1 t1 => ?_)))
      rw [g1]
      refine ⟨rfl, true, rfl, iteT (go_op (w_fd3 (ps := []) (es := [(hitS, "a")]) (.inr (.inr rfl)) (by decide) pe (by decide) oka (by decide) t1 (eu_tup ea_nil (Nat.zero_le _)) lg_one fun H2 e2 t2 => ?_))⟩
      rw [g2]
      exact ⟨rfl, q H2⟩
end
end KB

set_option Elab.async false
set_option linter.all false
set_option maxRecDepth 100000
set_option maxHeartbeats 4000000
/-! LG: a law whose def asks that no repr be under way, with one def that makes lambdas. -/
namespace LP
open PySem PySem.Spec PyProof.Rows L2 LamX KB
/-- the abstract heap in which the table and the script alone are known -/
def twoHp (T : Addr) (H : Hp) : Hp := fun b => if b = T then some (.tbl #[]) else H b
theorem twoHp_T {T : Addr} {H : Hp} : twoHp T H T = some (.tbl #[]) := if_pos rfl
theorem twoHp_ne {T b : Addr} {H : Hp} (n : b ≠ T) : twoHp T H b = H b := if_neg n
theorem law_callTG {P : Program} {w : World} {K : PySem.W.Frag} {mg mb : Str → Option Value} {CX : CXT} {k : Nat} {fa a c T : Addr} {fd : FuncData} {x : Str} {sp : Sp} {s₁ : Shared} {vs : List Value} {ns : List Int}
    (KX : K.In s₁.heap) (hns : s₁.heap.Ns mainGlobals mg) (hb : s₁.heap.Ns builtinsNs mb) (hbb : ∀ x : Str, x ≠ "__name__" → mb x = bootBuiltins x) (hlim : s₁.heap.NoLimit) (hg : s₁.gens = #[])
    (tab : s₁.heap.get? T = some { cls := .none, data := .fields #[] }) (nT : K.lookup T = none) (cdh : PySem.W.CodeHd s₁.heap c T)
    (bmod : ∃ (m0 : Addr) (o0 : Obj), mg "__builtins__" = some (.ref m0) ∧ m0 ≠ builtinsNs ∧ s₁.heap.get? m0 = some o0 ∧ o0.cls = .type "module" ∧ o0.dict = some builtinsNs ∧ o0.data = .plain)
    (ha : s₁.heap.get? a = some { cls := .type "list", data := .seq vs.toArray }) (hi : IntsAre vs ns) (hl : ns.length ≤ sizeLine) (hr : Room k callerA)
    (F : ∀ base : Heap, K.In base → base.Ns mainGlobals mg → TabB base mg c T → FnG P w K mg base CX k fa fd [x] sp) (hbind : ∀ (s : Shared) (u : Value), BindsTo s fd ⟨[u], []⟩ [(x, u)])
    (hsp : ∀ H : Hp, H T = some (.tbl #[]) → SqL K H a (ns.map V.int) → sp [.ref a] H (fun v _ => v = .bl true) fun _ _ _ => False) (hCX : ∀ H e s', CX [] H s₁ (fun _ _ _ => False) e s' → False) :
    codeAny (model P w) callerA (.call (.ref fa) ⟨[.ref a], []⟩) (fun r s' => r = .ok (.ret (.bool true)) ∧ OldK s₁.heap s'.heap ∧ s'.os = s₁.os ∧ AllBare s'.gens) s₁ := by
  have hv := vals_ints hi
  have hlen := hi.length
  have naT : a ≠ T := fun z => by
    rw [z, tab] at ha
    cases ha
  have main : ∀ H0 : Hp, Only H0 → SqL K (twoHp T H0) a (ns.map V.int) → HOk P w (twoHp T H0) s₁.heap → (∀ b, (H0 b).isSome = true → b = a ∧ K.lookup a = none) →
      codeAny (model P w) callerA (.call (.ref fa) ⟨[.ref a], []⟩) (fun r s' => r = .ok (.ret (.bool true)) ∧ OldK s₁.heap s'.heap ∧ s'.os = s₁.os ∧ AllBare s'.gens) s₁ := by
    intro H0 hO hS hok hA
    have un0 : ∀ {b : Addr}, b ≠ T → b ≠ a → twoHp T H0 b = none := fun {b} n1 n2 => by
      rw [twoHp_ne n1]
      cases z : H0 b with
      | none => rfl
      | some u => exact absurd (hA b (by rw [z] <;> rfl)).1 n2
    -- what is no list and no table stays in the base
    have stays : ∀ {b : Addr} {o : Obj}, s₁.heap.get? b = some o → o.cls ≠ .type "list" → o.cls ≠ .none → (hidT s₁.heap (twoHp T H0)).get? b = some o := fun {b o} e n1 n2 => hidT_get e (un0 (fun z => by
        rw [z, tab] at e
        cases e
        exact n2 rfl) fun z => by
        rw [z, ha] at e
        cases e
        exact n1 rfl)
    have staysD : ∀ {b : Addr} {o : Obj} {es : Array DictEntry} {ep : Nat}, s₁.heap.get? b = some o → o.data = .dict es ep → (hidT s₁.heap (twoHp T H0)).get? b = some o := fun {b o es ep} e d => hidT_get e (un0 (fun z => by
        rw [z, tab] at e
        cases e
        cases d) fun z => by
        rw [z, ha] at e
        cases e
        cases d)
    have ns_ : ∀ {b : Addr} {m : Str → Option Value}, s₁.heap.Ns b m → (hidT s₁.heap (twoHp T H0)).Ns b m := fun {b m} ⟨o, es, ep, e, d, r⟩ => ⟨o, es, ep, staysD e d, d, r⟩
    have kin : K.In (hidT s₁.heap (twoHp T H0)) := fun b o e => hidT_get (KX b o e) (by
      by_cases n1 : b = T
      · rw [n1, nT] at e
        cases e
      · rw [twoHp_ne n1]
        cases z : H0 b with
        | none => rfl
        | some u =>
          obtain ⟨e1, e2⟩ := hA b (by rw [z] <;> rfl)
          rw [e1, e2] at e
          cases e)
    have tb : TabB (hidT s₁.heap (twoHp T H0)) mg c T := by
      obtain ⟨co, fs, n1, t1, n2, t2, b3, n4, t4, q0, q1, q2, q3, q4, q5, q6, q7, q8, q9⟩ := cdh
      obtain ⟨m0, o0, p1, p2, p3, p4, p5, p6⟩ := bmod
      refine ⟨⟨co, fs, n1, t1, n2, t2, b3, n4, t4, stays q0 (by rw [q1]; decide) (by rw [q1]; decide), q1, q2, q3, q4, q5, q6, q7, q8, q9⟩, ⟨m0, o0, p1, p2, fun z => ?_, fun z => ?_, stays p3 (by rw [p4]; decide) (by rw [p4]; decide), p4, p5, p6⟩, fun z => ?_⟩
      · obtain ⟨o, es, ep, e, d, _⟩ := hns
        rw [← z, p3] at e
        cases e
        rw [p6] at d
        cases d
      · rw [z, tab] at p3
        cases p3
        cases p6
      · obtain ⟨o, es, ep, e, d, _⟩ := hns
        rw [z, tab] at e
        cases e
        cases d
    obtain ⟨mc, l1, l2⟩ := hlim
    have e0 : Env0 P w K mg (hidT s₁.heap (twoHp T H0)) callerA [] s₁ (twoHp T H0) := ⟨rfl, ⟨kin, ns_ hns, ⟨mb, ns_ hb, hbb⟩, mc, ns_ l1, l2⟩, fun b o e => of_hidT e, Nat.le_of_eq (hidT_size _ _), trivial, fun b z => absurd (show b ∈ ([] : List Addr) from z) (by simp), hok, .of_eq hg⟩
    refine codeAny_mono ((F _ kin (ns_ hns) tb).go callerA [] s₁ (twoHp T H0) ⟨[.ref a], []⟩ [.ref a] [.ref a] _ _ rfl hr e0 (hbind s₁ (.ref a)) (.cons rfl .nil) (hsp _ twoHp_T hS)) fun r s' h => ?_
    match r, h with
    | .error e, h => exact (hCX _ e s' h).elim
    | .ok .next, h => exact h.elim
    | .ok .brk, h => exact h.elim
    | .ok .cont, h => exact h.elim
    | .ok (.ret u), ⟨v, H', os, bare, un, hok', r', q⟩ =>
      have q' : v = .bl true := q
      subst q'
      have r'' : u = Value.bool true := r'
      subst r''
      obtain ⟨more, hm⟩ := un.tbls T #[] twoHp_T
      have hm2 : s'.heap.get? T = some { cls := .none, data := .fields (#[] ++ more) } := hok' T _ hm
      have same : ∀ b o, b ≠ T → s₁.heap.get? b = some o → s'.heap.get? b = some o := fun b o n1 e => by
        rcases hO b with z | ⟨ob, xs, z⟩
        · exact un.keep b o e (by rw [twoHp_ne n1]; exact z) (fun z => absurd (show b ∈ ([] : List Addr) from z) (by simp)) (by simp)
        · have z2 : twoHp T H0 b = some (.frz ob (.lst xs)) := (twoHp_ne n1).trans z
          have k1 := (hok b _ z2).1
          have k2 := (hok' b _ (un.frzs b ob _ z2)).1
          rw [k1] at e
          rw [← e]
          exact k2
      refine ⟨rfl, ⟨fun b o e => ?_, fun b o e => ?_⟩, os, bare⟩
      · by_cases n1 : b = T
        · subst n1
          have e' := tab.symm.trans e
          cases e'
          exact .inr (.inl ⟨(cdh.tab tab).isCodeTable, rfl, #[], more, rfl, hm2⟩)
        · exact .inl (same b o n1 e)
      · by_cases n1 : b = T
        · subst n1
          exact ⟨_, hm2⟩
        · exact ⟨o, same b o n1 e⟩
  by_cases hk : K.lookup a = none
  · refine main (oneHp a { cls := .type "list", data := .seq vs.toArray } (.lst (ns.map V.int))) (fun b => ?_) (.inl (.inr ⟨_, (twoHp_ne naT).trans (if_pos rfl)⟩)) (fun b u z => ?_) (fun b z => ?_)
    · by_cases e : b = a
      · exact .inr ⟨_, _, if_pos e⟩
      · exact .inl (if_neg e)
    · by_cases n1 : b = T
      · subst n1
        rw [twoHp_T] at z
        cases z
        exact tab
      · rw [twoHp_ne n1] at z
        by_cases e : b = a
        · have z1 := (show oneHp a { cls := .type "list", data := .seq vs.toArray } (.lst (ns.map V.int)) b = _ from if_pos e).symm.trans z
          cases z1
          subst e
          exact ⟨ha, by rw [List.length_map]; exact hl, vs, _, hv, ha⟩
        · have z1 := (show oneHp a { cls := .type "list", data := .seq vs.toArray } (.lst (ns.map V.int)) b = _ from if_neg e).symm.trans z
          cases z1
    · by_cases e : b = a
      · exact ⟨e, hk⟩
      · have z1 : oneHp a { cls := .type "list", data := .seq vs.toArray } (.lst (ns.map V.int)) b = none := if_neg e
        rw [z1] at z
        cases z
  · obtain ⟨o, ho⟩ := Option.ne_none_iff_exists'.mp hk
    have e := KX a o ho
    rw [ha] at e
    cases e
    refine main (fun _ => none) (fun _ => .inl rfl) (.inr ⟨_, vs.toArray, _, ho, rfl, rfl, rfl, by rw [List.size_toArray, hlen]; exact hl, by simpa using hv⟩) (fun b u z => ?_) (fun b z => nomatch z)
    by_cases n1 : b = T
    · subst n1
      rw [twoHp_T] at z
      cases z
      exact tab
    · rw [twoHp_ne n1] at z
      cases z
theorem walk_ofTG {l : PySem.W.OpenLaw} {n k : Nat} {q : Program} {loose : List Str} {XP : (Str → Option Value) → Heap → Prop} {YP : World → Heap → Prop} {d : DefRec} {K : Params → PySem.W.Frag} {CX : World → CXT} {sp : World → Addr → Sp} {x : Str}
    (hn : l.most = some n) (hn2 : n ≤ sizeLine) (hdf : d.params.defaults = []) (hr : Room k callerA) (hY : ∀ (w : World) (h : Heap), YP w h → (K w.params).In h)
    (F : ∀ (w : World) (mg : Str → Option Value) (fa : Addr) (h : Heap), (K w.params).In h → h.Ns mainGlobals mg → mg d.name = some (.ref fa) →
      ∃ (c T : Addr) (fd : FuncData), HasTab q (K w.params) mg (c, T) ∧ (∀ (s : Shared) (u : Value), BindsTo s fd ⟨[u], []⟩ [(x, u)]) ∧
        ∀ base : Heap, (K w.params).In base → base.Ns mainGlobals mg → TabB base mg c T → FnG l.prog w (K w.params) mg base (CX w) k fa fd [x] (sp w T))
    (hsp : ∀ (w : World) (H : Hp) (a T : Addr) (ns : List Int), ns.length ≤ n → H T = some (.tbl #[]) → SqL (K w.params) H a (ns.map V.int) → sp w T [.ref a] H (fun v _ => v = .bl true) fun _ _ _ => False)
    (hCX : ∀ (w : World) (H : Hp) (s : Shared) (e : Value) (s' : Shared), CX w [] H s (fun _ _ _ => False) e s' → False) :
    PySem.W.WalkO q loose XP YP l.row.toRowW d [] (fun f vs => PySem.call f vs) := by
  refine Att.attach_callB hn hdf fun w s₀ s₁ mg mb fa o pm cd doc a vs ns G Y ho hd hcd hmg hobj hints hlen hbits hg => ?_
  have KX := hY w _ Y
  obtain ⟨c, T, fd, ht, hb, hF⟩ := F w mg fa _ KX G.T.g hmg
  have key : s₁.heap.get? T = some { cls := .none, data := .fields #[] } ∧ (K w.params).lookup T = none ∧ PySem.W.CodeHd s₁.heap c T := by
    obtain ⟨x0, f0, o0, fd0, t1, t2, t3, t4, t5⟩ := ht
    obtain ⟨dL, hm, hn1⟩ := List.any_eq_true.mp t1
    have hn2 : dL.name = x0 := beq_iff_eq.mp hn1
    obtain ⟨a', o', fd', c', P', h1, h2, h3, h4, h5, h6⟩ := G.T.tab dL hm
    rw [hn2, t2] at h1
    cases h1
    rw [KX _ _ t3] at h2
    cases h2
    rw [t4] at h3
    cases h3
    obtain ⟨c1, c2, e, dd, vs', sl, c3, c4⟩ := tabAddr_is t5
    rw [c1] at h4
    cases h4
    have hd := PySem.W.CodeHd.of h5 h6
    obtain ⟨⟨oc, vc, e1, _, e3, e4⟩, hP⟩ := h6
    rw [KX _ _ c3] at e1
    cases e1
    cases e3
    rw [c4] at e4
    cases e4
    exact ⟨hP, c2, hd⟩
  exact law_callTG KX G.T.g G.T.b G.T.builtins G.T.nolimit hg key.1 key.2.1 key.2.2 G.T.bmain hobj hints (Nat.le_trans hlen hn2) hr hF hb (fun H hH hS => hsp w H a T ns hlen hH hS) fun H e s' => hCX w H s₁ e s'
end LP

set_option Elab.async false
set_option linter.all false
set_option maxRecDepth 100000
set_option maxHeartbeats 8000000
/-! The end: the defs put together; what the top has left. -/
namespace KB
open PySem L2 Evl
/-- a def as it stands behind the top -/
def Known (K : PySem.W.Frag) (x : Str) (st : Stmt) : Prop := ∃ (f : Addr) (oc : Value) (od an : Option Addr) (sl : Array (Option Value)) (kV dc pm cd ct : Value), PySem.W.nsIn K mainGlobals x = some (some (.ref f)) ∧
  K.lookup f = some ⟨oc, od, .func (PySem.W.fnOf x x (defArgs st) (defBody st) (defScope st) .none kV dc pm an cd ct), sl⟩ ∧ PySem.W.codeIn K cd x = true ∧ PySem.W.keepIn K (.ref f) = true
theorem known {K : PySem.W.Frag} {x : Str} {st : Stmt} {f : Addr} {oc : Value} {od an : Option Addr} {sl : Array (Option Value)} {kV dc pm cd ct : Value} (a : PySem.W.nsIn K mainGlobals x = some (some (.ref f)))
    (l : K.lookup f = some ⟨oc, od, .func (PySem.W.fnOf x x (defArgs st) (defBody st) (defScope st) .none kV dc pm an cd ct), sl⟩) (c : PySem.W.codeIn K cd x = true) (k : PySem.W.keepIn K (.ref f) = true) : Known K x st := ⟨f, oc, od, an, sl, kV, dc, pm, cd, ct, a, l, c, k⟩
theorem hasS {K : PySem.W.Frag} {x y : Str} {t : Tok} (h : PySem.W.nsIn K mainGlobals x = some (some (.str y t))) : ∃ t, PySem.W.nsIn K mainGlobals x = some (some (.str y t)) := ⟨t, h⟩
theorem hasI {K : PySem.W.Frag} {x : Str} {y : Int} {t : Tok} (h : PySem.W.nsIn K mainGlobals x = some (some (.int y t))) : ∃ t, PySem.W.nsIn K mainGlobals x = some (some (.int y t)) := ⟨t, h⟩
theorem Known.fn {K : PySem.W.Frag} {x : Str} {st : Stmt} {h : Heap} {mg : Str → Option Value} (k : Known K x st) (X : K.In h) (G : h.Ns mainGlobals mg) : ∃ f fd, Fun K x x st f fd ∧ mg x = some (.ref f) := by
  obtain ⟨f, oc, od, an, sl, kV, dc, pm, cd, ct, a, l, c, kp⟩ := k
  exact ⟨f, _, fun_mk l c kp, PySem.W.mg_of X G a⟩
def gBack : List Value → List Value → List Value
  | [], ws => ws.reverse
  | _ :: _, _ => []
theorem vals_rev : ∀ {zs : List V} {ws : List Value}, Vals zs ws → Vals zs.reverse ws.reverse
  | _, _, .nil => .nil
  | _, _, .cons h t => by
    rw [List.reverse_cons, List.reverse_cons]
    exact Vals.append (vals_rev t) (.cons h .nil)
/-- a def with its code object's table -/
def KnownT (K : PySem.W.Frag) (x : Str) (st : Stmt) : Prop := ∃ (f c T : Addr) (oc : Value) (od an : Option Addr) (sl : Array (Option Value)) (kV dc pm ct : Value), PySem.W.nsIn K mainGlobals x = some (some (.ref f)) ∧
  K.lookup f = some ⟨oc, od, .func (PySem.W.fnOf x x (defArgs st) (defBody st) (defScope st) .none kV dc pm an (.ref c) ct), sl⟩ ∧ PySem.W.codeIn K (.ref c) x = true ∧ PySem.W.keepIn K (.ref f) = true ∧ LP.tabAddr K (.ref c) = some (c, T)
theorem knownT {K : PySem.W.Frag} {x : Str} {st : Stmt} {f c T : Addr} {oc : Value} {od an : Option Addr} {sl : Array (Option Value)} {kV dc pm ct : Value} (a : PySem.W.nsIn K mainGlobals x = some (some (.ref f)))
    (l : K.lookup f = some ⟨oc, od, .func (PySem.W.fnOf x x (defArgs st) (defBody st) (defScope st) .none kV dc pm an (.ref c) ct), sl⟩) (cc : PySem.W.codeIn K (.ref c) x = true) (k : PySem.W.keepIn K (.ref f) = true) {e : Value} {dd : Option Addr} {vs : Array Value} {sl2 : Array (Option Value)} (t : K.lookup c = some ⟨e, dd, .fields vs, sl2⟩) (v : (vs[11]? : Option Value) = some (Value.ref T)) (n : K.lookup T = none) : KnownT K x st := ⟨f, c, T, oc, od, an, sl, kV, dc, pm, ct, a, l, cc, k, by unfold LP.tabAddr; simp only [t, v, n]⟩
theorem KnownT.fn {K : PySem.W.Frag} {x : Str} {st : Stmt} {h : Heap} {mg : Str → Option Value} (k : KnownT K x st) (X : K.In h) (G : h.Ns mainGlobals mg) : ∃ f fd c T, LP.FunT K x x st f fd c T ∧ mg x = some (.ref f) := by
  obtain ⟨f, c, T, oc, od, an, sl, kV, dc, pm, ct, a, l, cc, kp, t⟩ := k
  exact ⟨f, _, c, T, ⟨⟨oc, od, kV, dc, pm, an, ct, sl, rfl, l, cc⟩, kp, t⟩, PySem.W.mg_of X G a⟩
def gRev : List Value → List Value → List Value
  | [], ws => ws.reverse
  | _ :: _, _ => []
theorem kb_rev {K : PySem.W.Frag} {x : Str} {st : Stmt} {f : Addr} {fd : FuncData} {ps ks : List Str} (F : Fun K x x st f fd) (hp : 0 < ps.length)
    (hb : ∀ (oc kV doc pm cdv ct : Value) (an : Option Addr) (s : Shared) (ws : List Value), ws.length = ps.length → BindsTo s (PySem.W.fnOf x x (defArgs st) (defBody st) (defScope st) .none kV doc pm an cdv ct) ⟨[], ks.zip ws⟩ (ps.zip ws.reverse)) : KBinds K fd ps ks gRev kwBack := by
  obtain ⟨oc, od, kV, doc, pm, an, cdv, ct, osl, rfl, lk, hcd⟩ := F.ex
  refine ⟨fun s us ws _ hl => ?_, fun {vs us zs ws} r rz => ?_⟩
  · match us, hl with
    | [], hl =>
      have h3 : ws.reverse.length = ps.length := hl
      rw [List.length_reverse] at h3
      exact hb oc kV doc pm cdv ct an s ws h3
    | _ :: _, hl =>
      have h3 : ([] : List Value).length = ps.length := hl
      rw [← h3] at hp
      exact absurd hp (Nat.lt_irrefl _)
  · cases r with
    | nil =>
      rw [show kwBack [] zs = zs.reverse from if_pos rfl]
      exact vals_rev rz
    | cons h t =>
      rw [show kwBack (_ :: _) zs = [] from if_neg (List.cons_ne_nil _ _)]
      exact .nil
def gSm4 : List Value → List Value → List Value
  | [], ws => ws
  | _ :: _, _ => []
theorem kb_same4 {K : PySem.W.Frag} {f : Addr} {fd : FuncData} (F : Fun K "first_difference" "first_difference" sFirstDiff f fd) : KBinds K fd PFd ["rule", "capacity", "start", "log"] gSm4 kwSame := by
  obtain ⟨oc, od, kV, doc, pm, an, cdv, ct, osl, rfl, lk, hcd⟩ := F.ex
  refine ⟨fun s us ws _ hl => ?_, fun {vs us zs ws} r rz => ?_⟩
  · match us, hl with
    | [], hl =>
      match ws, hl with
      | [a, b, c, d], _ => exact .of_eq rfl
    | _ :: _, hl => exact absurd hl (by show ¬ 0 = 4; decide)
  · cases r with
    | nil =>
      rw [show kwSame [] zs = zs from if_pos rfl]
      exact rz
    | cons h t =>
      rw [show kwSame (_ :: _) zs = [] from if_neg (List.cons_ne_nil _ _)]
      exact .nil
section
variable {P : Program} {w : World} {K : PySem.W.Frag} {mg : Str → Option Value} {base : Heap}
theorem mkCl {k : Nat} {x : Str} {st : Stmt} {f : Addr} {fd : FuncData} {ps : List Str} {sp : Sp} (F : Fun K x x st f fd) (ok : FnOk P w K mg base CX0 k f fd ps sp) (hm : mg x = some (.ref f)) (hb : Binds K fd ps []) : Cl P w K mg base k x ps sp := ⟨f, fd, ok, hm, F.kp, hb⟩
theorem toG {CX : CXT} {k : Nat} {f : Addr} {fd : FuncData} {ps : List Str} {sp : Sp} (F : FnOk P w K mg base CX k f fd ps sp) : FnG P w K mg base CX k f fd ps sp := ⟨F.len, fun A outer s H args us vs Q E _ hr he hb hv hs => F.run A outer s H args us vs Q E hr he hb hv hs⟩
structure Left (K : PySem.W.Frag) : Prop where
  d0 : Known K "is_integer" sIsInteger
  d1 : Known K "is_page" sIsPage
  d2 : Known K "is_mark" sIsMark
  d3 : Known K "is_event" sIsEvent
  d4 : Known K "is_shelf" sIsShelf
  d5 : Known K "is_log" sIsLog
  d6 : Known K "check_capacity" sCheckCapacity
  d7 : Known K "check_shelf" sCheckShelf
  d8 : Known K "check_start" sCheckStart
  d9 : Known K "check_log" sCheckLog
  d10 : Known K "first_difference" sFirstDiff
  d11 : Known K "_check_rule_and_shelf" sCkRule
  d12 : Known K "_play" sPlay
  d13 : KnownT K "_victim" sVictim
  d14 : Known K "_law_source" sSource
  d15 : Known K "_law_draw" sDraw
  d16 : Known K "_law_pages" sPages
  d17 : Known K "_law_setup" sSetup
  d18 : Known K "_law_next" sNext
  d19 : Known K "_law_victim" sLVictim
  d20 : Known K "_law_ruled" sRuled
  d21 : Known K "_law_wanted" sWanted
  d22 : Known K "_law_turned" sTurned
  d23 : Known K "_law_due" sDue
  d24 : Known K "_law_right" sRight
  d25 : Known K "law" sLaw
  n_isinstance : PySem.W.nsIn K mainGlobals "isinstance" = some none
  n_int : PySem.W.nsIn K mainGlobals "int" = some none
  n_bool : PySem.W.nsIn K mainGlobals "bool" = some none
  n_str : PySem.W.nsIn K mainGlobals "str" = some none
  n_len : PySem.W.nsIn K mainGlobals "len" = some none
  n_all : PySem.W.nsIn K mainGlobals "all" = some none
  n_tuple : PySem.W.nsIn K mainGlobals "tuple" = some none
  n_set : PySem.W.nsIn K mainGlobals "set" = some none
  n_list : PySem.W.nsIn K mainGlobals "list" = some none
  n_range : PySem.W.nsIn K mainGlobals "range" = some none
  n_min : PySem.W.nsIn K mainGlobals "min" = some none
  n_max : PySem.W.nsIn K mainGlobals "max" = some none
  n_abs : PySem.W.nsIn K mainGlobals "abs" = some none
  n_repr : PySem.W.nsIn K mainGlobals "repr" = some none
  n_enumerate : PySem.W.nsIn K mainGlobals "enumerate" = some none
  n_sorted : PySem.W.nsIn K mainGlobals "sorted" = some none
  n_dict : PySem.W.nsIn K mainGlobals "dict" = some none
  c_hit : ∃ t, PySem.W.nsIn K mainGlobals "HIT" = some (some (.str "hit" t))
  c_miss : ∃ t, PySem.W.nsIn K mainGlobals "MISS" = some (some (.str "miss" t))
  c_letters : ∃ t, PySem.W.nsIn K mainGlobals "LETTERS" = some (some (.str "abcdefghijklmnopqrstuvwxyz" t))
  c_lru : ∃ t, PySem.W.nsIn K mainGlobals "LRU" = some (some (.str "LRU" t))
  c_fifo : ∃ t, PySem.W.nsIn K mainGlobals "FIFO" = some (some (.str "FIFO" t))
  c_opt : ∃ t, PySem.W.nsIn K mainGlobals "OPT" = some (some (.str "OPT" t))
  i_longest : ∃ t, PySem.W.nsIn K mainGlobals "LONGEST_PAGE" = some (some (.int 4 t))
theorem all_ok {q : Program} (hrec13 : ((PyProof.Rows.recsOf q).any fun e => e.name == ("_victim" : Str)) = true) {h : Heap} (T : Left K) (X : K.In h) (G : h.Ns mainGlobals mg) {fa : Addr} (hfa : mg "law" = some (.ref fa)) :
    ∃ (c T : Addr) (fd : FuncData), LP.HasTab q K mg (c, T) ∧ (∀ (s : Shared) (v : Value), BindsTo s fd ⟨[v], []⟩ [("script", v)]) ∧ ∀ base : Heap, K.In base → base.Ns mainGlobals mg → LamX.TabB base mg c T → FnG P w K mg base CX0 9 fa fd ["script"] (spLaw K T) := by
  obtain ⟨f0, fd0, F0, m0⟩ := T.d0.fn X G
  obtain ⟨f1, fd1, F1, m1⟩ := T.d1.fn X G
  obtain ⟨f2, fd2, F2, m2⟩ := T.d2.fn X G
  obtain ⟨f3, fd3, F3, m3⟩ := T.d3.fn X G
  obtain ⟨f4, fd4, F4, m4⟩ := T.d4.fn X G
  obtain ⟨f5, fd5, F5, m5⟩ := T.d5.fn X G
  obtain ⟨f6, fd6, F6, m6⟩ := T.d6.fn X G
  obtain ⟨f7, fd7, F7, m7⟩ := T.d7.fn X G
  obtain ⟨f8, fd8, F8, m8⟩ := T.d8.fn X G
  obtain ⟨f9, fd9, F9, m9⟩ := T.d9.fn X G
  obtain ⟨f10, fd10, F10, m10⟩ := T.d10.fn X G
  obtain ⟨f11, fd11, F11, m11⟩ := T.d11.fn X G
  obtain ⟨f12, fd12, F12, m12⟩ := T.d12.fn X G
  obtain ⟨f13, fd13, c13, T13, FT13, m13⟩ := T.d13.fn X G
  have F13 := FT13.fn
  obtain ⟨f14, fd14, F14, m14⟩ := T.d14.fn X G
  obtain ⟨f15, fd15, F15, m15⟩ := T.d15.fn X G
  obtain ⟨f16, fd16, F16, m16⟩ := T.d16.fn X G
  obtain ⟨f17, fd17, F17, m17⟩ := T.d17.fn X G
  obtain ⟨f18, fd18, F18, m18⟩ := T.d18.fn X G
  obtain ⟨f19, fd19, F19, m19⟩ := T.d19.fn X G
  obtain ⟨f20, fd20, F20, m20⟩ := T.d20.fn X G
  obtain ⟨f21, fd21, F21, m21⟩ := T.d21.fn X G
  obtain ⟨f22, fd22, F22, m22⟩ := T.d22.fn X G
  obtain ⟨f23, fd23, F23, m23⟩ := T.d23.fn X G
  obtain ⟨f24, fd24, F24, m24⟩ := T.d24.fn X G
  obtain ⟨f25, fd25, F25, m25⟩ := T.d25.fn X G
  have e := hfa.symm.trans m25
  cases e
  obtain ⟨t_hit, h_hit⟩ := T.c_hit
  obtain ⟨t_miss, h_miss⟩ := T.c_miss
  obtain ⟨t_letters, h_letters⟩ := T.c_letters
  obtain ⟨t_lru, h_lru⟩ := T.c_lru
  obtain ⟨t_fifo, h_fifo⟩ := T.c_fifo
  obtain ⟨t_opt, h_opt⟩ := T.c_opt
  obtain ⟨t_longest, h_longest⟩ := T.i_longest
  have B0 : Bn mg := ⟨PySem.W.mg_none_of X G T.n_isinstance, PySem.W.mg_none_of X G T.n_int, PySem.W.mg_none_of X G T.n_bool, PySem.W.mg_none_of X G T.n_str, PySem.W.mg_none_of X G T.n_len, PySem.W.mg_none_of X G T.n_all, PySem.W.mg_none_of X G T.n_tuple, PySem.W.mg_none_of X G T.n_set, PySem.W.mg_none_of X G T.n_list, PySem.W.mg_none_of X G T.n_range, PySem.W.mg_none_of X G T.n_min, ⟨t_hit, PySem.W.mg_of X G h_hit⟩, ⟨t_miss, PySem.W.mg_of X G h_miss⟩, ⟨t_letters, PySem.W.mg_of X G h_letters⟩, ⟨t_longest, PySem.W.mg_of X G h_longest⟩⟩
  have B2 : Bl mg := ⟨PySem.W.mg_none_of X G T.n_max, PySem.W.mg_none_of X G T.n_abs, PySem.W.mg_none_of X G T.n_repr⟩
  have BR : Bru mg := ⟨PySem.W.mg_none_of X G T.n_enumerate, ⟨t_lru, PySem.W.mg_of X G h_lru⟩, ⟨t_fifo, PySem.W.mg_of X G h_fifo⟩, ⟨t_opt, PySem.W.mg_of X G h_opt⟩, ⟨t_hit, PySem.W.mg_of X G h_hit⟩, ⟨t_miss, PySem.W.mg_of X G h_miss⟩⟩
  have BS : Bso mg := ⟨PySem.W.mg_none_of X G T.n_sorted, PySem.W.mg_none_of X G T.n_dict⟩
  have b0 := F0.binds (ps := ["value"]) fun _ _ _ _ _ _ us hl => match us, hl with | [_], _ => rfl
  have b1 := F1.binds (ps := ["value"]) fun _ _ _ _ _ _ us hl => match us, hl with | [_], _ => rfl
  have b2 := F2.binds (ps := ["value"]) fun _ _ _ _ _ _ us hl => match us, hl with | [_], _ => rfl
  have b3 := F3.binds (ps := ["value"]) fun _ _ _ _ _ _ us hl => match us, hl with | [_], _ => rfl
  have b4 := F4.binds (ps := ["value"]) fun _ _ _ _ _ _ us hl => match us, hl with | [_], _ => rfl
  have b5 := F5.binds (ps := ["value"]) fun _ _ _ _ _ _ us hl => match us, hl with | [_], _ => rfl
  have b6 := F6.binds (ps := ["capacity"]) fun _ _ _ _ _ _ us hl => match us, hl with | [_], _ => rfl
  have b7 := F7.binds (ps := ["start"]) fun _ _ _ _ _ _ us hl => match us, hl with | [_], _ => rfl
  have b8 := F8.binds (ps := ["capacity", "start"]) fun _ _ _ _ _ _ us hl => match us, hl with | [_, _], _ => rfl
  have b9 := F9.binds (ps := ["log"]) fun _ _ _ _ _ _ us hl => match us, hl with | [_], _ => rfl
  have b10 := F10.binds (ps := ["rule", "capacity", "start", "log"]) fun _ _ _ _ _ _ us hl => match us, hl with | [_, _, _, _], _ => rfl
  have b11 := F11.binds (ps := ["rule", "capacity", "start"]) fun _ _ _ _ _ _ us hl => match us, hl with | [_, _, _], _ => rfl
  have b12 := F12.binds (ps := ["rule", "capacity", "start", "requests"]) fun _ _ _ _ _ _ us hl => match us, hl with | [_, _, _, _], _ => rfl
  have b13 := F13.binds (ps := ["rule", "shelf", "later"]) fun _ _ _ _ _ _ us hl => match us, hl with | [_, _, _], _ => rfl
  have b14 := F14.binds (ps := ["script", "k"]) fun _ _ _ _ _ _ us hl => match us, hl with | [_, _], _ => rfl
  have b15 := F15.binds (ps := ["source", "bound"]) fun _ _ _ _ _ _ us hl => match us, hl with | [_, _], _ => rfl
  have b16 := F16.binds (ps := ["source", "count"]) fun _ _ _ _ _ _ us hl => match us, hl with | [_, _], _ => rfl
  have b17 := F17.binds (ps := ["source", "most", "size"]) fun _ _ _ _ _ _ us hl => match us, hl with | [_, _, _], _ => rfl
  have b18 := F18.binds (ps := ["page", "later"]) fun _ _ _ _ _ _ us hl => match us, hl with | [_, _], _ => rfl
  have b19 := F19.binds (ps := ["word", "here", "used", "added", "later"]) fun _ _ _ _ _ _ us hl => match us, hl with | [_, _, _, _, _], _ => rfl
  have b20 := F20.binds (ps := ["word", "room", "initial", "wanted"]) fun _ _ _ _ _ _ us hl => match us, hl with | [_, _, _, _], _ => rfl
  have b21 := F21.binds (ps := ["source", "pages", "size"]) fun _ _ _ _ _ _ us hl => match us, hl with | [_, _, _], _ => rfl
  have b22 := F22.binds (ps := ["event"]) fun _ _ _ _ _ _ us hl => match us, hl with | [_], _ => rfl
  have b23 := F23.binds (ps := ["word", "room", "initial", "happened"]) fun _ _ _ _ _ _ us hl => match us, hl with | [_, _, _, _], _ => rfl
  have b24 := F24.binds (ps := ["source", "room", "initial", "wanted"]) fun _ _ _ _ _ _ us hl => match us, hl with | [_, _, _, _], _ => rfl
  obtain ⟨oc, od, kV, doc, pm, an, cdv, ct, osl, efd, _, _⟩ := F25.ex
  refine ⟨c13, T13, fd25, FT13.has m13 hrec13, fun s v => ?_, fun base _ _ TB13 => ?_⟩
  · rw [efd]
    exact .of_eq rfl
  · have c_int : Cl P w K mg base 1 "is_integer" ["value"] (spIsInteger) := mkCl F0 (ok_isInteger F0 B0) m0 b0
    have c_page : Cl P w K mg base 1 "is_page" ["value"] (spIsPage) := mkCl F1 (ok_isPage F1 B0) m1 b1
    have c_mark : Cl P w K mg base 1 "is_mark" ["value"] (spIsMark) := mkCl F2 (ok_isMark F2 B0) m2 b2
    have c_event := mkCl F3 (ok_isEvent F3 B0 c_mark c_page) m3 b3
    have c_shelf := mkCl F4 (ok_isShelf F4 B0 c_page) m4 b4
    have c_ilog := mkCl F5 (ok_isLog F5 B0 c_event) m5 b5
    have c_cap := mkCl F6 (ok_checkCapacity F6 c_int) m6 b6
    have c_cks := mkCl F7 (ok_checkShelf F7 c_shelf) m7 b7
    have c_start := mkCl F8 (ok_checkStart F8 B0 c_cks) m8 b8
    have c_ckl := mkCl F9 (ok_checkLog F9 c_ilog) m9 b9
    have c_rs := mkCl F11 (ok_ckRule F11 B0 BR c_cap c_start) m11 b11
    have c_vic : Cl P w K mg base 4 "_victim" ["rule", "shelf", "later"] (spVictimT T13) := mkCl F13 (ok_victimT FT13 TB13 BR B2.max) m13 b13
    have c_play := mkCl F12 (ok_playT F12 B0 BR c_vic) m12 b12
    have o_fd := ok_firstDiff F10 B0 c_rs c_ckl c_play
    have c_fd := mkCl F10 (o_fd) m10 b10
    have k_fd : ClK P w K mg base 7 "first_difference" PFd ["rule", "capacity", "start", "log"] kwSame (spFirstDiff K T13) := ⟨f10, fd10, gSm4, o_fd, m10, F10.kp, kb_same4 F10⟩
    have c_src : Cl P w K mg base 1 "_law_source" ["script", "k"] (spSource K) := mkCl F14 (ok_source F14 B0 B2) m14 b14
    have c_draw : Cl P w K mg base 1 "_law_draw" ["source", "bound"] (spDraw) := mkCl F15 (ok_draw F15) m15 b15
    have c_pages := mkCl F16 (ok_pages F16 B0 c_draw) m16 b16
    have c_set := mkCl F17 (ok_setup F17 B0 c_draw c_pages) m17 b17
    have c_next : Cl P w K mg base 1 "_law_next" ["page", "later"] (spNext K) := mkCl F18 (ok_next F18) m18 b18
    have c_lv := mkCl F19 (ok_lVictim F19 B0 BS c_next) m19 b19
    have c_ruled := mkCl F20 (ok_ruled F20 B0 BR BS c_lv) m20 b20
    have c_want := mkCl F21 (ok_wanted F21 B0 c_draw) m21 b21
    have c_turn : Cl P w K mg base 1 "_law_turned" ["event"] (spTurned K) := mkCl F22 (ok_turned F22) m22 b22
    have c_due := mkCl F23 (ok_due F23 B0 c_ruled) m23 b23
    exact ok_law F25 B0 B2 c_draw c_src c_set c_want c_fd (ok_rightD F24 B0 B2 c_draw c_ruled c_turn c_due c_fd k_fd) m24 F24.kp b24
end
end KB

set_option Elab.async false
set_option linter.all false
set_option maxRecDepth 100000
set_option maxHeartbeats 8000000
open PySem PySem.W PyProof.Rows
set_option maxHeartbeats 0 in
theorem PySem.Challenge.cw_hitlog_k43_first_differences_holds : PySem.Challenge.rw_hitlog_k43_first_differences.Holds := by
  w_on; o_law; k_head; (case hw => w_witness2)
  k_fill
  refine LP.walk_ofTG (l := PySem.Challenge.rw_hitlog_k43_first_differences) (n := 63) (k := 9) (x := "script") (CX := fun _ => L2.CX0) (sp := fun w T => KB.spLaw _ T) rfl (by decide) rfl ⟨rfl, by decide, by decide⟩ (fun w h Y => PySem.W.km_in_of Y) ?F (fun _ _ a _ ns _ hT hS => ⟨a, ns, rfl, hS, hT, fun _ => rfl⟩) (fun _ _ _ _ _ h => h)
  case F =>
    intro w mg fa h KX G hmg
    refine' KB.all_ok (by decide +kernel) ⟨KB.known ?a0 ?l0 ?c0 ?k0, KB.known ?a1 ?l1 ?c1 ?k1, KB.known ?a2 ?l2 ?c2 ?k2, KB.known ?a3 ?l3 ?c3 ?k3, KB.known ?a4 ?l4 ?c4 ?k4, KB.known ?a5 ?l5 ?c5 ?k5, KB.known ?a6 ?l6 ?c6 ?k6, KB.known ?a7 ?l7 ?c7 ?k7, KB.known ?a8 ?l8 ?c8 ?k8, KB.known ?a9 ?l9 ?c9 ?k9, KB.known ?a10 ?l10 ?c10 ?k10, KB.known ?a11 ?l11 ?c11 ?k11, KB.known ?a12 ?l12 ?c12 ?k12, KB.knownT ?a13 ?l13 ?c13 ?k13 ?t13 ?v13 ?n13, KB.known ?a14 ?l14 ?c14 ?k14, KB.known ?a15 ?l15 ?c15 ?k15, KB.known ?a16 ?l16 ?c16 ?k16, KB.known ?a17 ?l17 ?c17 ?k17, KB.known ?a18 ?l18 ?c18 ?k18, KB.known ?a19 ?l19 ?c19 ?k19, KB.known ?a20 ?l20 ?c20 ?k20, KB.known ?a21 ?l21 ?c21 ?k21, KB.known ?a22 ?l22 ?c22 ?k22, KB.known ?a23 ?l23 ?c23 ?k23, KB.known ?a24 ?l24 ?c24 ?k24, KB.known ?a25 ?l25 ?c25 ?k25, ?z_isinstance, ?z_int, ?z_bool, ?z_str, ?z_len, ?z_all, ?z_tuple, ?z_set, ?z_list, ?z_range, ?z_min, ?z_max, ?z_abs, ?z_repr, ?z_enumerate, ?z_sorted, ?z_dict, KB.hasS ?h0, KB.hasS ?h1, KB.hasS ?h2, KB.hasS ?h3, KB.hasS ?h4, KB.hasS ?h5, KB.hasI ?j0⟩ KX G hmg
    (case a0 => k_is); (case l0 => k_is); (case c0 => k_is); (case k0 => k_is); (case a1 => k_is); (case l1 => k_is); (case c1 => k_is); (case k1 => k_is); (case a2 => k_is); (case l2 => k_is); (case c2 => k_is); (case k2 => k_is); (case a3 => k_is); (case l3 => k_is); (case c3 => k_is); (case k3 => k_is); (case a4 => k_is); (case l4 => k_is); (case c4 => k_is); (case k4 => k_is); (case a5 => k_is); (case l5 => k_is); (case c5 => k_is); (case k5 => k_is); (case a6 => k_is); (case l6 => k_is); (case c6 => k_is); (case k6 => k_is); (case a7 => k_is); (case l7 => k_is); (case c7 => k_is); (case k7 => k_is); (case a8 => k_is); (case l8 => k_is); (case c8 => k_is); (case k8 => k_is); (case a9 => k_is); (case l9 => k_is); (case c9 => k_is); (case k9 => k_is); (case a10 => k_is); (case l10 => k_is); (case c10 => k_is); (case k10 => k_is); (case a11 => k_is); (case l11 => k_is); (case c11 => k_is); (case k11 => k_is); (case a12 => k_is); (case l12 => k_is); (case c12 => k_is); (case k12 => k_is); (case a13 => k_is); (case l13 => k_is); (case c13 => k_is); (case k13 => k_is); (case t13 => k_is); (case v13 => exact rfl); (case n13 => first | k_is | rfl | decide +kernel); (case a14 => k_is); (case l14 => k_is); (case c14 => k_is); (case k14 => k_is); (case a15 => k_is); (case l15 => k_is); (case c15 => k_is); (case k15 => k_is); (case a16 => k_is); (case l16 => k_is); (case c16 => k_is); (case k16 => k_is); (case a17 => k_is); (case l17 => k_is); (case c17 => k_is); (case k17 => k_is); (case a18 => k_is); (case l18 => k_is); (case c18 => k_is); (case k18 => k_is); (case a19 => k_is); (case l19 => k_is); (case c19 => k_is); (case k19 => k_is); (case a20 => k_is); (case l20 => k_is); (case c20 => k_is); (case k20 => k_is); (case a21 => k_is); (case l21 => k_is); (case c21 => k_is); (case k21 => k_is); (case a22 => k_is); (case l22 => k_is); (case c22 => k_is); (case k22 => k_is); (case a23 => k_is); (case l23 => k_is); (case c23 => k_is); (case k23 => k_is); (case a24 => k_is); (case l24 => k_is); (case c24 => k_is); (case k24 => k_is); (case a25 => k_is); (case l25 => k_is); (case c25 => k_is); (case k25 => k_is); (case z_isinstance => k_is); (case z_int => k_is); (case z_bool => k_is); (case z_str => k_is); (case z_len => k_is); (case z_all => k_is); (case z_tuple => k_is); (case z_set => k_is); (case z_list => k_is); (case z_range => k_is); (case z_min => k_is); (case z_max => k_is); (case z_abs => k_is); (case z_repr => k_is); (case z_enumerate => k_is); (case z_sorted => k_is); (case z_dict => k_is); (case h0 => k_is); (case h1 => k_is); (case h2 => k_is); (case h3 => k_is); (case h4 => k_is); (case h5 => k_is); (case j0 => k_is)
