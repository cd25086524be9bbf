import PyProof.Rows.All
import Wide.All
import OpenK.AllK
import Wide.FinOn
import HandS.ForMost
import HandS.Evl
import HandS.Wide
import HandS.IsInst
import HandS.SetKeys
import HandS.Strs
import HandS.Style
import HandS.Walk
import HandS.ForExc
import HandS.MakeKwOnly
import PyProof.ReprRoads
import PySem.Challenge.RW_hitlog_k02_sizes_and_evicting_misses
set_option Elab.async false
set_option linter.all false
set_option maxRecDepth 100000
set_option maxHeartbeats 4000000
/-! KB0: rules of one's own beside the hand layer. -/
namespace KB
open PySem PySem.Spec PyProof.Rows L2

/-! ### powers of wide ints -/
def PowFit (i j : Int) : Prop := 0 ≤ j ∧ j ≤ 8 ∧ i.natAbs < 2 ^ 250
theorem op_powF {X : Cx} : OpR X (binaryOp .Pow) (rI PowFit fun i j => .int (i ^ j.toNat)) := opI fun i j t u s Q E hc q => by
  obtain ⟨h0, h8, hi⟩ := hc
  refine pow_int h0 ?_ q
  have h1 : Builtin.Int.intBits i ≤ 300 := by
    unfold Builtin.Int.intBits
    split
    · omega
    · rename_i hn
      have := PySem.Flt.log2_lt_of (by decide) hi
      omega
  have h2 : (Builtin.Int.intBits i : Int) * j ≤ 300 * 8 := Int.mul_le_mul (by omega) h8 h0 (by decide)
  exact Int.le_trans h2 (by decide)

/-! ### repr of data, where no repr is under way -/
def rReprD (K : PySem.W.Frag) : List V → Hp → VK → Prop := fun xs H Q => ∃ (a : Addr) (d : PyData), xs = [.ref a] ∧ Dp K H (.ref a) d ∧ d.showable = true ∧ d.hasDict = false ∧ d.depth ≤ 40 ∧ d.shown.length ≤ sizeLine ∧ Q (.str d.shown) H
theorem call_reprD {X : Cx} {k : Nat} (hr : Room k X.A) (hG : X.A.guards = some []) : CallR X (.builtin "repr") (rReprD X.K) := by
  intro pins s σ H xs us Q I r h
  obtain ⟨a, d, rfl, hd, hs, hn, hdep, hz, q⟩ := h
  have e := Vals.ref1 r
  subst e
  obtain ⟨as, hR⟩ := Dp.reads I d (.ref a) (.ref a) hd rfl
  have hu := hr.units
  refine PySem.repr_of_reads' (h₀ := s.heap) hR hs (fun z => by rw [hn] at z; cases z) hG (by omega) (fun _ _ z => z) (fun h' u tk hk => ?_) hz
  exact ⟨.str d.shown, H, I.kept hk, ⟨u, rfl⟩, q⟩

/-! ### a call with keywords alone -/
section
variable {X : Cx} {CX : CXT} {k : Nat} {f : Addr} {fd : FuncData} {ps ks : List Str} {sp : Sp} {E : XK} {x : Str} {p pos : Pos} {kws : List Keyword} {tk : TA}
variable {g : List Value → List Value → List Value} {gV : List V → List V → List V}
def tCallK0 (sp : Sp) (gV : List V → List V → List V) (E : XK) (tk : TA) : TE := fun σ H Q => tk σ H fun zs H2 => sp (gV [] zs) H2 Q E
theorem pe_callK0 (F : FnOk X.prog X.w X.K X.mg X.base CX k f fd ps sp) (hr : Room k X.A) (hg : Gl X x) (hm : X.mg x = some (.ref f)) (hk : PySem.W.keepIn X.K (.ref f) = true) (hb : KBinds X.K fd ps ks g gV) (hx : Passes CX X E)
    (hkw : PK X kws tk) (hall : (backToKw pos (keywordEach kws X.env)).all (·.1.isSome) = true := by rfl) (hks : (backToKw pos (keywordEach kws X.env)).filterMap (·.1) = ks := by rfl)
    (hdb : (x == ("__debug__" : Str)) = false := by decide) (hpl : ((backTo pos (starEach [] X.env)).any (·.1) || (backToKw pos (keywordEach kws X.env)).any (·.1.isNone)) = false := by rfl) :
    PE X (.Call (.Name x p) [] kws pos) (tCallK0 sp gV E tk) := by
  refine ⟨fun pins s σ H Q I h => wpAny_Call_Name_kw (ld_glob I hg hm (PySem.W.callWith_KW0 (h₀ := X.base) I.ok.mod.kin hk hall ?_ hpl) hdb)⟩
  refine thn (hkw.run pos pins s σ H _ I h) fun ws s2 ⟨zs, H2, I2, rz, q2⟩ => ⟨I2.kIn, ?_⟩
  rw [hks]
  exact run_fnk (us := []) (vs := []) F hr hb hx I2 .nil rz q2
end

/-! ### defs whose callers have no repr under way -/
structure FnG (P : Program) (w : World) (K : PySem.W.Frag) (mg : Str → Option Value) (base : Heap) (CX : CXT) (k : Nat) (f : Addr) (fd : FuncData) (ps : List Str) (sp : Sp) : Prop where
  len : ∀ vs H Q E, sp vs H Q E → vs.length = ps.length
  go : ∀ (A : Around) (outer : List Env) (s : Shared) (H : Hp) (args : Args) (us : List Value) (vs : List V) (Q : VK) (E : XK), A.guards = some [] → Room k A → Env0 P w K mg base A outer s H → BindsTo s fd args (ps.zip us) → Vals vs us → sp vs H Q E →
    codeAny (model P w) A (.call (.ref f) args) (CR CX outer P w H s Q E) s
/-- such a def, seen at one place A alone -/
theorem FnG.atA {P : Program} {w : World} {K : PySem.W.Frag} {mg : Str → Option Value} {base : Heap} {CX : CXT} {k : Nat} {f : Addr} {fd : FuncData} {ps : List Str} {sp : Sp} (F : FnG P w K mg base CX k f fd ps sp) {A : Around} (hG : A.guards = some []) :
    ∀ (outer : List Env) (s : Shared) (H : Hp) (args : Args) (us : List Value) (vs : List V) (Q : VK) (E : XK), Room k A → Env0 P w K mg base A outer s H → BindsTo s fd args (ps.zip us) → Vals vs us → sp vs H Q E →
    codeAny (model P w) A (.call (.ref f) args) (CR CX outer P w H s Q E) s := fun outer s H args us vs Q E => F.go A outer s H args us vs Q E hG
section
variable {X : Cx} {CX : CXT} {k : Nat} {f : Addr} {fd : FuncData} {ps : List Str} {sp : Sp} {E : XK} {x : Str} {p pos : Pos} {e : Expr} {es : List Expr} {t : TA}
theorem pe_callG (F : FnG X.prog X.w X.K X.mg X.base CX k f fd ps sp) (hG : X.A.guards = some []) (hr : Room k X.A) (hg : Gl X x) (hm : X.mg x = some (.ref f)) (hk : PySem.W.keepIn X.K (.ref f) = true) (hb : Binds X.K fd ps []) (hx : Passes CX X E)
    (ha : PA X (e :: es) t) (hdb : (x == ("__debug__" : Str)) = false := by decide) (he : starEach (e :: es) X.env = (false, eval e X.env) :: starEach es X.env := by rfl) (hpl : (backTo pos (starEach es X.env)).any (·.1) = false := by rfl) :
    PE X (.Call (.Name x p) (e :: es) [] pos) (tCall sp [] E t) := by
  refine ⟨fun pins s σ H Q I h => wpAny_Call_Name_kw (ld_glob I hg hm (PySem.W.callWith_K (h₀ := X.base) I.ok.mod.kin hk ?_ he hpl) hdb)⟩
  refine thn (ha.run pos pins s σ H _ I h) fun us s1 ⟨vs, H1, I1, r, q⟩ => ⟨I1.kIn, ?_⟩
  have q : sp (vs ++ []) H1 Q E := q
  rw [List.append_nil] at q
  have hl : (us ++ ([] : List Value)).length = ps.length := by rw [List.append_nil, ← r.length]; exact F.len _ _ _ _ q
  have bd := hb s1 us I1.kIn hl
  rw [List.append_nil] at bd
  show wpAny (model X.prog X.w) X.A (call (.ref f) us) _ _ _
  refine wpAny_call (codeAny_mono (F.go X.A X.stack s1 H1 ⟨us, []⟩ us vs Q E hG hr I1.env0 bd r q) fun rr s' hq => ?_)
  match rr, hq with
  | .error er, hq => exact hx pins σ H1 s1 er s' I1 hq
  | .ok (.ret u), hq => exact I1.after hq
  | .ok .next, hq => exact hq.elim
  | .ok .brk, hq => exact hq.elim
  | .ok .cont, hq => exact hq.elim
end

section
variable {P : Program} {w : World} {K : PySem.W.Frag} {mg : Str → Option Value} {base : Heap} {CX : CXT}
/-- a def's body, read once, at one place -/
theorem run_body {f : Addr} {name qual : Str} {params : Arguments} {body : List Stmt} {scope : Scope} {kV doc pm cdv ct oc : Value} {an od : Option Addr} {osl : Array (Option Value)} {N ps : List Str} {A : Around} {outer : List Env} {s : Shared} {H : Hp}
    {args : Args} {us : List Value} {vs : List V} {Q : VK} {E : XK} {t : TS} (lk : K.lookup f = some ⟨oc, od, .func (PySem.W.fnOf name qual params body scope .none kV doc pm an cdv ct), osl⟩) (hcd : PySem.W.codeIn K cdv qual = true) (S : FnScope N ps scope)
    (hroom : A.depth < recursionLimit) (hhd : A.handled = none) (e0 : Env0 P w K mg base A outer s H) (hb : BindsTo s (PySem.W.fnOf name qual params body scope .none kV doc pm an cdv ct) args (ps.zip us)) (r : Vals vs us) (hl : vs.length = ps.length)
    (ht : PSs (cxOf CX P w K mg base N qual scope f cdv A outer s H E) body t) (hq : t { nx := fun _ H' => Q .non H', rt := Q } (start N vs) H) : codeAny (model P w) A (.call (.ref f) args) (CR CX outer P w H s Q E) s := by
  have kin : K.In s.heap := e0.mod.kin.keeps fun b o z => (e0.bs b o z).1
  have nol : s.heap.NoLimit := e0.mod.nolimit.keeps fun b o z => (e0.bs b o z).1
  have places : ∀ y ∈ ps.zip us, scope.names.lookup y.1 = some .local ∨ (scope.names.lookup y.1 = some .cell ∧ ((cellsFrom (s.heap.objs.size + 1) scope.names []).lookup y.1).isSome = true) := fun y hy =>
    (S.par y.1 (List.of_mem_zip (show (y.1, y.2) ∈ ps.zip us from hy)).1).elim Or.inl fun c => Or.inr ⟨c, PySem.W.cellsFrom_some _ _ _ (.inl c)⟩
  refine codeAny_call_function hroom (kin _ _ lk) rfl S.co S.gen rfl (PySem.W.codeRec_of kin hcd) (hb _ _ _ _ ?_)
  refine wpAny_newFunctionEnv_cells S.kind places fun env ee s1 frame => ?_
  cases ee
  refine ⟨nol.keeps frame.toInCall.keep, codeAny_func ?_⟩
  have I := inv_start (CX := CX) (E := E) S hhd e0 hl r frame
  refine wpAny_mono (ht.run [] s1 (start N vs) H _ I hq) (fun fl s' done => ?_) (fun e s' gone => gone)
  match fl, done with
  | .ret u, ⟨v, σ', H', J, rv, q⟩ => exact ⟨v, H', J.os, J.bare, J.base, J.hok, rv, q⟩
  | .next, ⟨σ', H', J, q⟩ => exact ⟨.non, H', J.os, J.bare, J.base, J.hok, rfl, q⟩
  | .brk, ⟨_, _, _, q⟩ => exact q.elim
  | .cont, ⟨_, _, _, q⟩ => exact q.elim
/-- a def that asks that no repr be under way -/
theorem okG {x qual : Str} {st : Stmt} {f : Addr} {fd : FuncData} {N ps : List Str} {k : Nat} {sp : Sp} (F : Fun K x qual st f fd) (S : FnScope N ps (defScope st)) (len : ∀ vs H Q E, sp vs H Q E → vs.length = ps.length)
    (hbody : ∀ (cdv : Value) (A : Around) (outer : List Env) (s : Shared) (H : Hp) (vs : List V) (Q : VK) (E : XK), (A.deeper (envOfC qual (defScope st) s.heap.objs.size f cdv)).guards = some [] → Room k (A.deeper (envOfC qual (defScope st) s.heap.objs.size f cdv)) → sp vs H Q E →
      ∃ t, PSs (cxOf CX P w K mg base N qual (defScope st) f cdv A outer s H E) (defBody st) t ∧ t { nx := fun _ H' => Q .non H', rt := Q } (start N vs) H) : FnG P w K mg base CX (k + 1) f fd ps sp := by
  obtain ⟨oc, od, kV, doc, pm, an, cdv, ct, osl, rfl, lk, hcd⟩ := F.ex
  refine ⟨len, fun A outer s H args us vs Q E hG hr e0 hb r hsp => ?_⟩
  obtain ⟨t, h, q⟩ := hbody cdv A outer s H vs Q E hG (hr.deeper _) hsp
  exact run_body lk hcd S hr.depth hr.hd e0 hb r (len _ _ _ _ hsp) h q
end

/-! ### the end of a law whose def asks that no repr be under way -/
/-- the abstract heap in which the script alone is known -/
def oneHp (a : Addr) (o : Obj) (u : HO) : Hp := fun b => if b = a then some (.frz o u) else none
theorem law_callG {P : Program} {w : World} {K : PySem.W.Frag} {mg mb : Str → Option Value} {CX : CXT} {k : Nat} {fa a : Addr} {fd : FuncData} {x : Str} {sp : Sp} {s₁ : Shared} {vs : List Value} {ns : List Int}
    (KX : K.In s₁.heap) (hns : s₁.heap.Ns mainGlobals mg) (hb : s₁.heap.Ns builtinsNs mb) (hbb : ∀ x : Str, x ≠ "__name__" → mb x = bootBuiltins x) (hlim : s₁.heap.NoLimit) (hg : s₁.gens = #[])
    (ha : s₁.heap.get? a = some { cls := .type "list", data := .seq vs.toArray }) (hi : IntsAre vs ns) (hl : ns.length ≤ sizeLine) (hr : Room k callerA)
    (F : ∀ base : Heap, K.In base → base.Ns mainGlobals mg → FnG P w K mg base CX k fa fd [x] sp) (hbind : ∀ (s : Shared) (u : Value), BindsTo s fd ⟨[u], []⟩ [(x, u)])
    (hsp : ∀ H : Hp, Only H → SqL K H a (ns.map V.int) → sp [.ref a] H (fun v _ => v = .bl true) fun _ _ _ => False) (hCX : ∀ H e s', CX [] H s₁ (fun _ _ _ => False) e s' → False) :
    codeAny (model P w) callerA (.call (.ref fa) ⟨[.ref a], []⟩) (fun r s' => r = .ok (.ret (.bool true)) ∧ OldK s₁.heap s'.heap ∧ s'.os = s₁.os ∧ AllBare s'.gens) s₁ := by
  have hv := vals_ints hi
  have hlen := hi.length
  have main : ∀ H : Hp, Only H → SqL K H a (ns.map V.int) → HOk P w H s₁.heap → (∀ b, (H b).isSome = true → b = a ∧ K.lookup a = none) →
      codeAny (model P w) callerA (.call (.ref fa) ⟨[.ref a], []⟩) (fun r s' => r = .ok (.ret (.bool true)) ∧ OldK s₁.heap s'.heap ∧ s'.os = s₁.os ∧ AllBare s'.gens) s₁ := by
    intro H hO hS hok hA
    have free : ∀ {b : Addr}, (b = a → False) → H b = none := fun {b} hn => by
      cases z : H b with
      | none => rfl
      | some u => exact (hn (hA b (by rw [z] <;> rfl)).1).elim
    have ns_ : ∀ {b : Addr} {m : Str → Option Value}, s₁.heap.Ns b m → (hidT s₁.heap H).Ns b m := fun {b m} ⟨o, es, ep, e, d, r⟩ => ⟨o, es, ep, hidT_get e (free fun z => by
      subst z
      rw [ha] at e
      cases e
      have d' : Data.seq vs.toArray _ = Data.dict es ep := d
      cases d'), d, r⟩
    have kin : K.In (hidT s₁.heap H) := fun b o e => hidT_get (KX b o e) (by
      cases z : H b with
      | none => rfl
      | some u =>
        obtain ⟨e1, e2⟩ := hA b (by rw [z] <;> rfl)
        rw [e1, e2] at e
        cases e)
    obtain ⟨mc, l1, l2⟩ := hlim
    have e0 : Env0 P w K mg (hidT s₁.heap H) callerA [] s₁ H := ⟨rfl, ⟨kin, ns_ hns, ⟨mb, ns_ hb, hbb⟩, mc, ns_ l1, l2⟩, fun b o e => of_hidT e, Nat.le_of_eq (hidT_size _ _), trivial, fun b z => absurd (show b ∈ ([] : List Addr) from z) (by simp), hok, .of_eq hg⟩
    refine codeAny_mono ((F _ kin (ns_ hns)).go callerA [] s₁ H ⟨[.ref a], []⟩ [.ref a] [.ref a] _ _ rfl hr e0 (hbind s₁ (.ref a)) (.cons rfl .nil) (hsp H hO hS)) fun r s' h => ?_
    match r, h with
    | .error e, h => exact (hCX H e s' h).elim
    | .ok .next, h => exact h.elim
    | .ok .brk, h => exact h.elim
    | .ok .cont, h => exact h.elim
    | .ok (.ret u), ⟨v, H', os, bare, un, hok', r', q⟩ =>
      have q' : v = .bl true := q
      subst q'
      have r'' : u = Value.bool true := r'
      subst r''
      refine ⟨rfl, OldK.of_keep fun b o e => ?_, os, bare⟩
      rcases hO b with z | ⟨ob, xs, z⟩
      · exact un.keep b o e z (fun z => absurd (show b ∈ ([] : List Addr) from z) (by simp)) (by simp)
      · have k1 := (hok b _ z).1
        have k2 := (hok' b _ (un.frzs b ob _ z)).1
        rw [k1] at e
        rw [← e]
        exact k2
  by_cases hk : K.lookup a = none
  · refine main (oneHp a { cls := .type "list", data := .seq vs.toArray } (.lst (ns.map V.int))) (fun b => ?_) (.inl (.inr ⟨_, if_pos rfl⟩)) (fun b u z => ?_) (fun b z => ?_)
    · by_cases e : b = a
      · exact .inr ⟨_, _, if_pos e⟩
      · exact .inl (if_neg e)
    · by_cases e : b = a
      · have z1 := (show oneHp a { cls := .type "list", data := .seq vs.toArray } (.lst (ns.map V.int)) b = _ from if_pos e).symm.trans z
        cases z1
        subst e
        exact ⟨ha, by rw [List.length_map]; exact hl, vs, _, hv, ha⟩
      · have z1 := (show oneHp a { cls := .type "list", data := .seq vs.toArray } (.lst (ns.map V.int)) b = _ from if_neg e).symm.trans z
        cases z1
    · by_cases e : b = a
      · exact ⟨e, hk⟩
      · have z1 : oneHp a { cls := .type "list", data := .seq vs.toArray } (.lst (ns.map V.int)) b = none := if_neg e
        rw [z1] at z
        cases z
  · obtain ⟨o, ho⟩ := Option.ne_none_iff_exists'.mp hk
    have e := KX a o ho
    rw [ha] at e
    cases e
    exact main (fun _ => none) (fun _ => .inl rfl) (.inr ⟨_, vs.toArray, _, ho, rfl, rfl, rfl, by rw [List.size_toArray, hlen]; exact hl, by simpa using hv⟩) (fun b u z => nomatch (show (none : Option HO) = some u from z)) (fun b z => nomatch z)
theorem walk_ofG {l : PySem.W.OpenLaw} {n k : Nat} {q : Program} {loose : List Str} {XP : (Str → Option Value) → Heap → Prop} {YP : World → Heap → Prop} {d : DefRec} {K : Params → PySem.W.Frag} {CX : World → CXT} {sp : World → Sp} {x : Str}
    (hn : l.most = some n) (hn2 : n ≤ sizeLine) (hdf : d.params.defaults = []) (hr : Room k callerA) (hY : ∀ (w : World) (h : Heap), YP w h → (K w.params).In h)
    (F : ∀ (w : World) (mg : Str → Option Value) (fa : Addr) (h : Heap), (K w.params).In h → h.Ns mainGlobals mg → mg d.name = some (.ref fa) →
      ∃ fd : FuncData, (∀ (s : Shared) (u : Value), BindsTo s fd ⟨[u], []⟩ [(x, u)]) ∧ ∀ base : Heap, (K w.params).In base → base.Ns mainGlobals mg → FnG l.prog w (K w.params) mg base (CX w) k fa fd [x] (sp w))
    (hsp : ∀ (w : World) (H : Hp) (a : Addr) (ns : List Int), ns.length ≤ n → Only H → SqL (K w.params) H a (ns.map V.int) → sp w [.ref a] H (fun v _ => v = .bl true) fun _ _ _ => False)
    (hCX : ∀ (w : World) (H : Hp) (s : Shared) (e : Value) (s' : Shared), CX w [] H s (fun _ _ _ => False) e s' → False) :
    PySem.W.WalkO q loose XP YP l.row.toRowW d [] (fun f vs => PySem.call f vs) :=
  Att.attach_call hn hdf fun w s₀ s₁ mg mb fa o pm cd doc a vs ns G Y ho hd hcd hmg hobj hints hlen hg => by
    have kx := hY w _ Y
    obtain ⟨fd, hb, hF⟩ := F w mg fa _ kx G.T.g hmg
    exact law_callG kx G.T.g G.T.b G.T.builtins G.T.nolimit hg hobj hints (Nat.le_trans hlen hn2) hr hF hb (fun H hO hS => hsp w H a ns hlen hO hS) fun H e s' => hCX w H s₁ e s'
end KB

set_option Elab.async false
set_option linter.all false
set_option maxRecDepth 100000
set_option maxHeartbeats 4000000
/-! KB1: set(tuple of texts) and its length; xs[n:] = ys. -/
namespace KB
open PySem PySem.Spec PyProof.Rows L2

/-- the texts as they are met first -/
def metS (xs : List Str) : List Str := xs.foldl (fun acc x => if x ∈ acc then acc else acc ++ [x]) []
theorem metS_snoc (xs : List Str) (x : Str) : metS (xs ++ [x]) = if x ∈ metS xs then metS xs else metS xs ++ [x] := by
  unfold metS
  rw [List.foldl_append]
  rfl
theorem metS_le : ∀ (n : Nat) (xs : List Str), xs.length = n → (metS xs).length ≤ n := by
  intro n
  induction n with
  | zero =>
    intro xs h
    have e : xs = [] := List.length_eq_zero_iff.mp h
    subst e
    exact Nat.le_refl 0
  | succ n ih =>
    intro xs h
    obtain ⟨ys, y, rfl⟩ : ∃ ys y, xs = ys ++ [y] := ⟨xs.dropLast, xs.getLast (by intro z; rw [z] at h; cases h), (List.dropLast_concat_getLast _).symm⟩
    have hy : ys.length = n := by simpa using h
    have := ih ys hy
    rw [metS_snoc]
    split
    · omega
    · rw [List.length_append]
      show _ + 1 ≤ _
      omega
theorem metS_mem : ∀ (n : Nat) (xs : List Str), xs.length = n → ∀ z, z ∈ metS xs ↔ z ∈ xs := by
  intro n
  induction n with
  | zero =>
    intro xs h z
    have e : xs = [] := List.length_eq_zero_iff.mp h
    subst e
    exact Iff.rfl
  | succ n ih =>
    intro xs h z
    obtain ⟨ys, y, rfl⟩ : ∃ ys y, xs = ys ++ [y] := ⟨xs.dropLast, xs.getLast (by intro z; rw [z] at h; cases h), (List.dropLast_concat_getLast _).symm⟩
    have hy : ys.length = n := by simpa using h
    have := ih ys hy
    rw [metS_snoc]
    split
    · rename_i hin
      rw [this z, List.mem_append, List.mem_singleton]
      constructor
      · exact Or.inl
      · rintro (q | rfl)
        · exact q
        · exact (this z).mp hin
    · rw [List.mem_append, List.mem_append, this z]
theorem metS_eq : ∀ (n : Nat) (xs : List Str), xs.length = n → (metS xs).length = n → xs.Nodup := by
  intro n
  induction n with
  | zero =>
    intro xs h _
    have e : xs = [] := List.length_eq_zero_iff.mp h
    subst e
    exact List.nodup_nil
  | succ n ih =>
    intro xs h hm
    obtain ⟨ys, y, rfl⟩ : ∃ ys y, xs = ys ++ [y] := ⟨xs.dropLast, xs.getLast (by intro z; rw [z] at h; cases h), (List.dropLast_concat_getLast _).symm⟩
    have hy : ys.length = n := by simpa using h
    rw [metS_snoc] at hm
    have hle := metS_le n ys hy
    split at hm
    · omega
    · rename_i hin
      have hl : (metS ys).length = n := by
        rw [List.length_append] at hm
        have : (metS ys).length + 1 = n + 1 := hm
        omega
      have nd := ih ys hy hl
      refine List.nodup_append.mpr ⟨nd, by simp, fun a ha b hb e => ?_⟩
      have hb' := List.mem_singleton.mp hb
      subst hb'
      subst e
      exact hin ((metS_mem n ys hy a).mpr ha)
theorem metS_nodup : ∀ (n : Nat) (xs : List Str), xs.length = n → xs.Nodup → metS xs = xs := by
  intro n
  induction n with
  | zero =>
    intro xs h _
    have e : xs = [] := List.length_eq_zero_iff.mp h
    subst e
    rfl
  | succ n ih =>
    intro xs h nd
    obtain ⟨ys, y, rfl⟩ : ∃ ys y, xs = ys ++ [y] := ⟨xs.dropLast, xs.getLast (by intro z; rw [z] at h; cases h), (List.dropLast_concat_getLast _).symm⟩
    have hy : ys.length = n := by simpa using h
    obtain ⟨n1, _, n3⟩ := List.nodup_append.mp nd
    rw [metS_snoc, ih ys hy n1, if_neg fun hin => n3 y hin y (List.mem_singleton.mpr rfl) rfl]

/-! ### the set at S holds the first i texts -/
def Got (P : Program) (w : World) (h : Heap) (S : Addr) (xs : List Str) : Prop := h.SetOf (PySem.strKind P w) S (fun z => decide (z ∈ metS xs)) (metS xs).length
theorem Got.keep {P : Program} {w : World} {h h' : Heap} {S : Addr} {xs : List Str} (g : Got P w h S xs) (k : ∀ o, h.get? S = some o → h'.get? S = some o) : Got P w h' S xs := by
  obtain ⟨o, es, ep, t, ho, r⟩ := g
  exact ⟨o, es, ep, t, k o ho, r⟩
theorem Got.more {P : Program} {w : World} {h : Heap} {S : Addr} {xs : List Str} {x : Str}
    (g : h.SetOf (PySem.strKind P w) S (fun z => decide (z ∈ metS xs) || decide (z = x)) (if decide (x ∈ metS xs) = true then (metS xs).length else (metS xs).length + 1)) : Got P w h S (xs ++ [x]) := by
  refine SetOf_congr g (fun z => ?_) ?_
  · rw [metS_snoc]
    by_cases hx : x ∈ metS xs
    · rw [if_pos hx]
      by_cases e : z = x
      · subst e
        simp [hx]
      · simp [e]
    · rw [if_neg hx]
      simp [List.mem_append]
  · rw [metS_snoc]
    by_cases hx : x ∈ metS xs
    · rw [if_pos hx, if_pos (decide_eq_true hx)]
    · rw [if_neg hx, if_neg (by simpa using hx), List.length_append]
      rfl
section
variable {P : Program} {w : World} {A : Around} {E : Value → Shared → Prop} {s : Shared}
theorem strs_get : ∀ {us : List Value} {xs : List Str}, StrsAre us xs → ∀ (i : Nat) (v : Value), us[i]? = some v → ∃ x t, xs[i]? = some x ∧ v = .str x t
  | _, _, .nil, i, v, h => by simp at h
  | _, _, .cons x t _, 0, v, h => ⟨x, t, rfl, (Option.some.inj h).symm⟩
  | _, _, .cons _ _ r, i + 1, v, h => strs_get r i v h
/-- the loop of set(..) over an iterator of texts -/
theorem fill_texts {R : Result → Shared → Prop} {I : Addr} {fp wr : List Addr} {G : Array GenState → Array GenState → Prop} {Pv : Nat → Value → Prop} {St : Nat → Shared → Prop} (xs : List Str) (W : WalksS P w A.in1 I fp wr G xs.length Pv St) (S : Addr) (hS : S ∉ fp)
    (hb : xs.length + 1 < scanBound) (hval : ∀ i v, Pv i v → ∃ x t, xs[i]? = some x ∧ v = .str x t) :
    ∀ (m i : Nat) (s : Shared), xs.length - i = m → i ≤ xs.length → St i s → Got P w s.heap S (xs.take i) →
      (∀ s', Moved (S :: wr) G s s' → Got P w s'.heap S xs → R (.ok (.ret .none)) s') → codeAny (model P w) A (.builtin "set.update.loop" ⟨[.ref S, .ref I], []⟩) R s := by
  have ins : ∀ b ∈ wr, b ∈ S :: wr := fun b z => List.mem_cons_of_mem _ z
  have out : S ∉ wr := fun z => hS (W.sub _ z)
  intro m
  induction m with
  | zero =>
    intro i s hm hi hst hg back
    have hi' : i = xs.length := by omega
    rw [hi', List.take_length] at hg
    rw [hi'] at hst
    refine codeAny_builtin PyProof.Rows.F.entry_set_update_loop ?_
    rw [Around.under_plainId PyProof.Rows.F.plain_set_update_loop _]
    show wpAny _ A.in1 (pyNext (.ref I) >>= _) _ _ s
    exact wpAny_bind (W.done s _ _ hst fun s' mv => wpAny_pure (back s' (mv.mono ins) (hg.keep fun o z => mv.heap S o out z)))
  | succ m ih =>
    intro i s hm hi hst hg back
    have lt : i < xs.length := by omega
    refine codeAny_builtin PyProof.Rows.F.entry_set_update_loop ?_
    rw [Around.under_plainId PyProof.Rows.F.plain_set_update_loop _]
    show wpAny _ A.in1 (pyNext (.ref I) >>= _) _ _ s
    refine wpAny_bind (W.item i s _ _ lt hst fun v s' hP hst' mv => ?_)
    obtain ⟨x, t, hx, rfl⟩ := hval i v hP
    have g1 : Got P w s'.heap S (xs.take i) := hg.keep fun o z => mv.heap S o out z
    have small : (metS (xs.take i)).length + 1 < scanBound := by
      have := metS_le _ (xs.take i) rfl
      rw [List.length_take] at this
      omega
    show wpAny _ A.in1 (holding [Value.str x t] (setAdd S (.str x t)) >>= _) _ _ s'
    refine wpAny_bind (wpAny_holding ?_)
    unfold setAdd
    refine wpAny_holding (wpAny_bind ((PySem.strKind P w).pyHash (k := x) (strKind_is _ _ _ _) ?_))
    refine wpAny_setAddHashed_of (knd := PySem.strKind P w) (s := { s' with toks := s'.toks + 1 }) (strKind_is _ _ _ _) rfl g1 small fun h' but g2 => ?_
    have g3 : Got P w h' S (xs.take (i + 1)) := by
      rw [List.take_add_one, hx]
      exact Got.more g2
    refine wpAny_pure ⟨plainId_quiet PyProof.Rows.F.plain_set_update_loop _, ih (i + 1) _ (by omega) lt (W.frame _ s' _ _ hst' (Nat.le_succ _) fun b hb o z => ?_) g3 fun s2 mv2 g4 => ?_⟩
    · rw [but.2 b fun e => hS (e ▸ hb)]
      exact z
    · refine back s2 (Moved.trans W.gtrans ((mv.mono ins).then_heap (Nat.le_succ _) fun b o hb z => ?_) mv2) g4
      rw [but.2 b fun e => hb (e ▸ List.mem_cons_self)]
      exact z
/-- the set that set() lays -/
def bareSet (led : Bool) : Obj := { cls := .type "set", dict := none, data := .set #[] 0 (.fresh 0 0 led) }
set_option maxHeartbeats 8000000 in
theorem set_of_texts {l : Addr} {items : Array Value} {xs : List Str} {Q : Value → Shared → Prop} (hh : A.handled = none) (hl : s.heap.IsTuple l items) (hx : StrsAre items.toList xs) (hb : xs.length + 1 < scanBound)
    (h : ∀ (h' : Heap) (tk : Nat), Got P w h' s.heap.objs.size xs → (∀ b o, s.heap.get? b = some o → h'.get? b = some o) → Q (.ref s.heap.objs.size) { s with heap := h', toks := tk }) : wpAny (model P w) A (call (.type "set") [.ref l]) Q E s := by
  have size_eq : items.size = xs.length := by
    have q := StrsAre.length hx
    simpa using q
  have hmro := PySem.F.called_set.mro
  obtain ⟨c, tl, hmro⟩ := hmro
  have made := PySem.F.called_set.made
  have sub := PySem.F.called_set.sub
  have notT := PySem.F.called_set.notType
  have can := PySem.F.called_set.canCreate
  have chk := PySem.F.typeCall_set_1 (.ref l)
  refine wpAny_call (codeAny_of_tree ?_)
  show wpAny _ _ (callAny (.type "set") _) _ _ _
  refine wpAny_pure ⟨Code.quiet_builtin _ (by decide +kernel), codeAny_builtin PySem.F.entry_type_call ?_⟩
  rw [Around.under_plain (weight_type_call_type "set" [.ref l] []) rfl]
  repeat (any_goals (first | assumption | wp_step))
  refine codeAny_mono (code_set_new_1 (.ref l) (E := E) (Q₁ := fun obj s₁ => ∃ led : Bool, obj = .ref s.heap.objs.size ∧ s₁ = { s with heap := s.heap.push (bareSet led) }) fun led => ⟨led, rfl, rfl⟩) fun r s₁ hr => ?_
  match r, hr with
  | .error e, hr => exact hr
  | .ok .next, hr => exact hr.elim
  | .ok .brk, hr => exact hr.elim
  | .ok .cont, hr => exact hr.elim
  | .ok (.ret obj), hr =>
    obtain ⟨led, rfl, rfl⟩ := hr
    have atS : (s.heap.push (bareSet led)).get? s.heap.objs.size = some (bareSet led) := Heap.get?_push_size _ rfl
    have isS : Shared.TypeIs { s with heap := s.heap.push (bareSet led) } (.ref s.heap.objs.size) "set" := ⟨_, atS, rfl⟩
    have look := PySem.F.called_set.init.lookup
    have bind := PySem.F.called_set.init.bind (.ref s.heap.objs.size)
    repeat (any_goals (first | assumption | wp_step))
    refine codeAny_mono (codeAny_call_builtin (R := wants (fun r s₂ => r = .none ∧ ∃ h' tk, s₂ = { s with heap := h', toks := tk } ∧ Got P w h' s.heap.objs.size xs ∧ (∀ b o, s.heap.get? b = some o → h'.get? b = some o)) E)
      PySem.F.called_set.init.plain PySem.F.entry_set_init (check_set_init_1 isS ?_)) fun r₂ s₂ hr₂ => ?_
    · obtain ⟨⟨ocls, odict, odata, oslots⟩, hol, hcl, nl, hdl⟩ := hl
      simp only at hcl hdl
      subst hcl
      subst hdl
      have atL := Heap.get?_push_of_some (bareSet led) hol
      have hl1 : (s.heap.push (bareSet led)).IsTuple l items := ⟨_, atL, rfl, nl, rfl⟩
      have nots := PySem.F.sub_tuple_set
      have notf := PySem.F.sub_tuple_frozenset
      have notd : (Value.type "tuple" == Value.type "dict") = false := by decide
      unfold Builtin.«set.__init__» noKeywords Builtin.Frozenset.updateFrom
      generalize hPI : pyIter = PI
      wp_walk
      subst hPI
      refine wpAny_pyIter_tuple hl1 ?_
      refine wpAny_bind (wpAny_runValue ?_)
      have lS : l < s.heap.objs.size := Heap.lt_size hol
      have hh3 : A.in1.in1.in1.handled = none := by simp [hh]
      have sz : (s.heap.push (bareSet led)).objs.size = s.heap.objs.size + 1 := Heap.size_push ..
      have neI : l ≠ (s.heap.push (bareSet led)).objs.size := fun z => by
        rw [z, sz] at lS
        exact Nat.lt_irrefl _ (Nat.lt_of_succ_lt lS)
      have apart : s.heap.objs.size ∉ [(s.heap.push (bareSet led)).objs.size, l] := by
        rw [sz]
        simp only [List.mem_cons, List.not_mem_nil, or_false, not_or]
        exact ⟨Nat.ne_of_lt (Nat.lt_succ_self _), Nat.ne_of_gt lS⟩
      have vals : ∀ (i : Nat) (v : Value), items[i]? = some v → ∃ x t, xs[i]? = some x ∧ v = .str x t := fun i v hv => strs_get hx i v (by rw [Array.getElem?_toList]; exact hv)
      have Wk := (Walks.tuple (prog := P) (w := w) hh3 _ l neI items).toS
      rw [size_eq] at Wk
      refine fill_texts xs Wk s.heap.objs.size apart hb vals (xs.length - 0) 0 _ rfl (Nat.zero_le _) ⟨⟨_, Heap.get?_push_size _ rfl, rfl, rfl⟩, (hl1.push _)⟩ ?_ fun s' mv g => ?_
      · have at2 := Heap.get?_push_of_some { cls := .type "tuple_iterator", data := .fields #[.ref l, .int 0 0] } atS
        exact SetOf_congr ((setObjOf_fresh (knd := PySem.strKind P w) led).setOf at2 (by unfold scanBound; omega)) (fun _ => rfl) rfl
      · obtain ⟨h', g', d', tk', os'⟩ := s'
        have e1 : g' = s.gens := mv.gens
        have e2 : d' = s.drawn := mv.drawn
        have e3 : os' = s.os := mv.os
        subst e1
        subst e2
        subst e3
        refine wpAny_pure ?_
        show wpAny _ _ (ret Value.none) _ _ _
        refine wpAny_pure ⟨rfl, h', tk', rfl, g, fun b o z => ?_⟩
        have hbs : b < s.heap.objs.size := Heap.lt_size z
        refine mv.heap b o ?_ (Heap.get?_push_of_some _ (Heap.get?_push_of_some _ z))
        rw [sz]
        simp only [List.mem_cons, List.not_mem_nil, or_false, not_or]
        exact ⟨Nat.ne_of_lt hbs, Nat.ne_of_lt (Nat.lt_succ_of_lt hbs)⟩
    · match r₂, hr₂ with
      | .error e, hr₂ => exact hr₂
      | .ok .next, hr₂ => exact hr₂.elim
      | .ok .brk, hr₂ => exact hr₂.elim
      | .ok .cont, hr₂ => exact hr₂.elim
      | .ok (.ret v), hr₂ =>
        obtain ⟨rfl, h', tk, rfl, g, k⟩ := hr₂
        repeat (any_goals (first | assumption | wp_step))
        exact h _ _ g k
end
/-! ### set(t) and its length, over the layer -/
section
variable {X : Cx}
def SetS (P : Program) (w : World) (a : Addr) (xs : List Str) : HO := .ext fun h => Got P w h a xs
def rSetT (P : Program) (w : World) (K : PySem.W.Frag) : List V → Hp → VK → Prop := fun vs H Q => ∃ (a : Addr) (xs : List Str), vs = [.ref a] ∧ SqT K H a (xs.map V.str) ∧ xs.length ≤ 2000 ∧ ∀ p, H p = none → Q (.ref p) (upd H p (SetS P w p xs))
theorem call_setT (hc : X.calm = true) : CallR X (.type "set") (rSetT X.prog X.w X.K) := by
  intro pins s σ H vs us Q I r h
  obtain ⟨a, xs, rfl, ht, hl, q⟩ := h
  have e := Vals.ref1 r
  subst e
  obtain ⟨its, rv, tp, hz⟩ := I.tuple ht
  refine set_of_texts (P := X.prog) (w := X.w) (xs := xs) (I.ok.hd hc) tp (by simpa using Vals.strs rv) (by unfold scanBound; omega) fun h' tk g k => ?_
  have fr : H s.heap.objs.size = none := I.hok.fresh (Nat.le_refl _)
  have here : ∃ o, h'.get? s.heap.objs.size = some o := by
    obtain ⟨o, _, _, _, ho, _⟩ := id g
    exact ⟨o, ho⟩
  exact ⟨.ref s.heap.objs.size, upd H s.heap.objs.size (SetS X.prog X.w s.heap.objs.size xs), I.laid (t' := tk) k (Nat.le_refl _) ⟨g, here, fun h1 h2 z kk => z.keep kk⟩, rfl, q _ fr⟩
def rLenSetS (P : Program) (w : World) : List V → Hp → VK → Prop := fun vs H Q => ∃ (a : Addr) (xs : List Str), vs = [.ref a] ∧ H a = some (SetS P w a xs) ∧ xs.length ≤ 2000 ∧ Q (.int ((metS xs).length : Nat)) H
theorem call_lenSetS : CallR X (.builtin "len") (rLenSetS X.prog X.w) := by
  intro pins s σ H vs us Q I r h
  obtain ⟨a, xs, rfl, ha, hl, q⟩ := h
  have e := Vals.ref1 r
  subst e
  have g : Got X.prog X.w s.heap a xs := (I.hok a _ ha).1
  obtain ⟨o, es, ep, t, ho, hex, hd, _, _, _, hf, hn⟩ := g
  have hle := metS_le _ xs rfl
  refine call_len_set ho hex hd hf (by rw [hn]; omega) ⟨.int ((metS xs).length : Nat), H, I.tok _, ⟨_, by rw [hn]⟩, q⟩
end
end KB

set_option Elab.async false
set_option linter.all false
set_option maxRecDepth 100000
set_option maxHeartbeats 4000000
/-! KB2: xs[n:] = ys. -/
namespace KB
open PySem PySem.Spec PyProof.Rows L2

theorem tail_bounds {a n : Nat} (h : a ≤ n) : sliceBounds (some (a : Int)) none none n = ((a : Int), (n : Int), 1) := by
  simp only [sliceBounds, Option.getD_none]
  have z : ¬ ((a : Int) < 0) := by omega
  simp only [z, if_false, show (1 : Int) > 0 by decide, if_true]
  congr 1
  omega
section
variable {prog : Program} {w : World} {A : Around} {E : Value → Shared → Prop} {s : Shared}
theorem store_tail {l b sl : Addr} {old new : Array Value} {n n2 : Nat} {vl : Value} {a : Nat} {Q : Unit → Shared → Prop} (e : s.heap.get? l = some { cls := .type "list", data := .seq old n }) (e2 : s.heap.get? b = some { cls := .type "list", data := .seq new n2 }) (hne : l ≠ b)
    (hs : s.heap.IsSliceOf sl vl .none .none) (pl : IsPart vl (some (a : Int))) (ha : a ≤ old.size) (hsz : old.size + new.size ≤ sizeLine)
    (h : Q () { s with heap := s.heap.update l (Obj.mapSeq fun xs => xs.extract 0 a ++ new ++ xs.extract old.size xs.size) }) : wpAny (model prog w) A (setItem (.ref l) (.ref sl) (.ref b)) Q E s := by
  have isL : s.heap.IsList l old := PySem.IsL.isList e
  have isB : s.heap.IsList b new := PySem.IsL.isList e2
  obtain ⟨os, hos, hcs, hds⟩ := id hs
  have tyS : s.TypeIs (.ref sl) "slice" := ⟨os, hos, hcs⟩
  have unlike : Builtin.List.listSameRef (.ref l) (.ref b) = false := by
    unfold Builtin.List.listSameRef
    exact beq_eq_false_iff_ne.mpr hne
  have top : (max (a : Int) (old.size : Int)).toNat = old.size := by omega
  have fits : ((fun xs : Array Value => xs.extract 0 a ++ new ++ xs.extract old.size xs.size) old).size ≤ sizeLine + 1 := by
    simp only [Array.size_append, Array.size_extract]
    omega
  unfold setItem
  try with_reducible refine wpAny_holding ?_
  first | refine wpAny_bind (wpAny_pure ?_) | skip
  refine wpAny_bind (wpAny_sequenceKey isL.typeIs (by decide) ?_)
  refine wpAny_bind (wpAny_callSpecial?_slot (name := Str.ofString "__setitem__") isL.typeIs slot_list_setitem
    (wpAny_call_entry slot_list_setitem isL.typeIs entry_list_setitem ?_ (args_list_setitem _ _ _)))
  show wpAny _ _ (Builtin.List.listSubscript? (.ref sl) >>= _) _ _ s
  unfold Builtin.List.listSubscript?
  refine wpAny_bind (wpAny_bind (wpAny_specialOf tyS slice_no_index ?_))
  simp only [Option.isNone_none, if_true]
  refine wpAny_pure ?_
  show wpAny _ _ (typeOf (.ref sl) >>= _) _ _ s
  refine wpAny_bind (wpAny_typeOf tyS ?_)
  first
    | rw [if_neg (by decide)]
    | refine PySem.W.KFB.if_not (by decide) ?_
  rw [listSliceParts_eq]
  refine wpAny_bind (wpAny_bind (wpAny_field hos hds (x := .none) rfl (wpAny_bind (wpAny_listPart .none ?_))))
  rw [if_neg (show ¬ ((rawPart none == rawInt 0) = true) from Bool.false_ne_true)]
  refine wpAny_bind (wpAny_field hos hds (x := vl) rfl (wpAny_bind (wpAny_listPart pl ?_)))
  refine wpAny_bind (wpAny_field hos hds (x := .none) rfl (wpAny_bind (wpAny_listPart .none (wpAny_pure ?_))))
  first
    | simp only [unlike, Bool.false_eq_true, if_false]
    | refine PySem.W.KFB.if_not unlike ?_
    | (dsimp only
       rw [if_neg (by rw [unlike]; exact Bool.false_ne_true)])
  refine wpAny_bind (m := Builtin.List.listAllItems (.ref b) "must assign iterable to extended slice") ?_
  unfold Builtin.List.listAllItems
  refine wpAny_bind (wpAny_typeOf isB.typeIs ?_)
  first
    | refine PySem.W.KFB.if_so (by decide) ?_
    | rw [if_pos (by decide)]
    | simp only [beq_self_eq_true, Bool.true_or, if_true]
  unfold Builtin.List.listItems
  refine wpAny_bind (wpAny_seqItems e2 rfl (wpAny_pure ?_))
  refine wpAny_bind (wpAny_bind (wpAny_seqItems e rfl (wpAny_pure ?_)))
  have run := (sliceIndices_raw (some (a : Int)) none none old.size (by simp)).trans (congrArg (pure : Int × Int × Int → Sem (Int × Int × Int)) (tail_bounds ha))
  refine wpAny_bind (wpAny_of_eq run ?_)
  show wpAny _ _ (if ((1 : Int) == 1) = true then _ else _) _ _ s
  rw [if_pos (by decide)]
  refine wpAny_bind (wpAny_rule ?_)
  first
    | simp only [notLongL hsz, Bool.false_eq_true, if_false]
    | refine PySem.W.KFB.if_not (notLongL hsz) ?_
  first | refine wpAny_bind (wpAny_pure ?_) | skip
  show wpAny _ _ (updateSeq l (fun xs => xs.extract 0 ((a : Int)).toNat ++ new ++ xs.extract (max (a : Int) (old.size : Int)).toNat xs.size) >>= _) _ _ s
  rw [top, Int.toNat_natCast]
  refine wpAny_bind (wpAny_updateSeq (hz := Nat.le_trans (Nat.le_add_right _ _) hsz) (_hz' := fits) e rfl ?_)
  refine wpAny_bind (wpAny_letGo ?_)
  first
    | exact wpAny_bind (wpAny_pure (wpAny_pure ⟨.none, rfl, wpAny_pure h⟩))
    | exact wpAny_pure ⟨.none, rfl, wpAny_pure h⟩
end
section
variable {X : Cx}
/-- o[lo:] = .. -/
def gTail (to tlo : TE) : TG := fun v σ H Q => to σ H fun o H1 => tlo σ H1 fun i H2 => ∃ (l b : Addr) (xs ys : List V) (n : Nat), o = .ref l ∧ i = .int (n : Int) ∧ v = .ref b ∧ H2 l = some (.lst xs) ∧ H2 b = some (.lst ys) ∧ l ≠ b ∧ n ≤ xs.length ∧ xs.length + ys.length ≤ sizeLine ∧
  Q σ (upd H2 l (.lst (xs.take n ++ ys)))
theorem pg_tail {o lo : Expr} {to tlo : TE} {p2 pos : Pos} (ho : PE X o to) (hlo : PE X lo tlo)
    (ha : ∀ v, assign (.Subscript o (.Slice (some lo) none none p2) pos) X.env v = (do
      let ov ← holding [v] (eval o X.env)
      let iv ← holding [v, ov] (eval (.Slice (some lo) none none p2) X.env)
      standAt pos
      holding [v, ov, iv] (setItem ov iv v)
      release [iv, v, ov] []) := by intro _; rfl) : PG X (.Subscript o (.Slice (some lo) none none p2) pos) (gTail to tlo) := by
  refine ⟨fun pins s σ H v u Q I r h => ?_⟩
  rw [ha]
  refine wpAny_bind (wpAny_holding (thn (ho.run pins s σ H _ I h) fun ov s1 ⟨x, H1, I1, r1, q1⟩ => wpAny_bind (wpAny_holding (wpAny_Slice ?_))))
  refine thn (hlo.run pins s1 σ H1 _ I1 q1) fun vl s2 ⟨i, H2, I2, ri, l, b, xs, ys, n, ex, ei, ev, hl, hb, hne, hn, hz, q2⟩ => ?_
  subst ex
  subst ei
  subst ev
  rw [evalPart_none]
  refine wpAny_pure (wpAny_pure (wpAny_bind (wpAny_standAt (wpAny_bind (wpAny_holding ?_)))))
  cases r1
  cases r
  obtain ⟨t, rfl⟩ := ri
  have I3 : Inv X pins σ H2 { s2 with heap := s2.heap.push { cls := .type "slice", data := .fields #[Value.int (n : Int) t, .none, .none] } } := I2.kept (t' := s2.toks) fun b ob q => Heap.get?_push_of_some _ q
  obtain ⟨z1, its, k1, rv, hlen, e⟩ := I3.lstM hl
  obtain ⟨z2, its2, k2, rv2, hlen2, e2⟩ := I3.lstM hb
  have sa : its.toArray.size = xs.length := by rw [List.size_toArray]; exact rv.length.symm
  have sb : its2.toArray.size = ys.length := by rw [List.size_toArray]; exact rv2.length.symm
  have done : Inv X pins σ (upd H2 l (.lst (xs.take n ++ ys))) { s2 with heap := (s2.heap.push { cls := .type "slice", data := .fields #[Value.int (n : Int) t, .none, .none] }).update l (Obj.mapSeq fun xs => xs.extract 0 n ++ its2.toArray ++ xs.extract its.toArray.size xs.size) } := by
    refine I3.lset (its' := its.take n ++ its2) (t' := s2.toks) hl e ?_ (Vals.append (rv.take n) rv2) ?_
    · have g := splice_eq its its2 n its.toArray.size
      rw [show its.drop its.toArray.size = [] from List.drop_eq_nil_of_le (by rw [List.size_toArray]; exact Nat.le_refl _), List.append_nil] at g
      exact g
    · rw [List.length_append, List.length_take]
      omega
  refine store_tail (a := n) e e2 hne (Heap.IsSliceOf.new ..) (.int _ _) (by rw [sa]; exact hn) (by rw [sa, sb]; exact hz) ?_
  exact wpAny_release ⟨σ, _, done, q2⟩
end
end KB

set_option Elab.async false
set_option linter.all false
set_option maxRecDepth 100000
set_option maxHeartbeats 4000000
/-! KE0: more of what readings evaluate to; pages and logs. -/
namespace KB
open PySem L2 Evl

section
variable {K : PySem.W.Frag} {σ : L2.St} {H H' : Hp} {ta tb tc te tx : TE} {t u : TT} {x y z v : V} {r r' : R2}
theorem et_yes : EvT tYes σ H true := fun H1 _ _ q => q H1 (Ex.refl H1)
theorem ev_chain {k m : Bool} (ha : Ev ta σ H x) (hb : Ev tb σ H y) (hr : RV r x y H (.bl k)) (hc : k = true → Ev tc σ H z) (hr' : k = true → RV r' y z H (.bl m)) : Ev (tChain r r' ta tb tc) σ H (.bl (k && m)) := fun H1 e Q q =>
  ha H1 e _ fun H2 e2 => hb H2 (e.trans e2) _ fun H3 e3 => hr H3 ((e.trans e2).trans e3) _ fun H4 e4 => ⟨k, rfl, by
    cases k with
    | true =>
      show tc σ H4 _
      exact hc rfl H4 (((e.trans e2).trans e3).trans e4) _ fun H5 e5 => hr' rfl H5 ((((e.trans e2).trans e3).trans e4).trans e5) Q fun H6 e6 => q H6 ((((e2.trans e3).trans e4).trans e5).trans e6)
    | false =>
      show Q (.bl false) H4
      exact q H4 ((e2.trans e3).trans e4)⟩
/-- isinstance(e, T), T a built-in type -/
theorem ev_isi {T T' : String} {b : Bool} (ha : Ev ta σ H x) (hx : ∀ H1, Ex H H1 → TyX K H1 x (.type T)) (hk : kitB T T' = some b) : Ev (tCB (rIsi K) (tCons ta (tCons (tC (.ty T')) tNil))) σ H (.bl b) := fun H1 e Q q =>
  ha H1 e _ fun H2 e2 => ⟨x, .ty T', .type T, .type T', b, rfl, .ty T', hx H2 (e.trans e2), kit_ty hk, q H2 e2⟩
def rLenStr : List V → Hp → VK → Prop := fun xs H Q => ∃ z : Str, xs = [.str z] ∧ z.length ≤ sizeLine ∧ Q (.int z.length) H
theorem ev_lenStr {z : Str} (ha : Ev ta σ H (.str z)) (hz : z.length ≤ 100000) : Ev (tCB rLenStr (tCons ta tNil)) σ H (.int (z.length : Int)) := fun H1 e Q q =>
  ha H1 e _ fun H2 e2 => ⟨z, rfl, sz_of hz, q H2 e2⟩
theorem ev_lenTup {p : Addr} {xs : List V} (ha : Ev ta σ H (.ref p)) (h : SqT K H p xs) : Ev (tCB (rLenS K) (tCons ta tNil)) σ H (.int (xs.length : Int)) := fun H1 e Q q =>
  ha H1 e _ fun H2 e2 => ⟨p, xs, rfl, Or.inr (ex_t (e.trans e2) h), q H2 e2⟩
/-- all(..) of a new list of truth values -/
theorem ev_all {bs : List Bool} (ha : EvL ta σ H (bs.map V.bl)) : Ev (tCB (rAll K) (tCons ta tNil)) σ H (.bl (bs.all id)) := fun H1 e Q q =>
  ha H1 e _ fun p H2 _ e2 hp => ⟨p, bs, rfl, sq_of hp, q H2 e2⟩
theorem rv_inSign {c : Nat} {z : Str} : RV (fun x y H Q => ∃ (c : Nat) (z : Str), x = .str ⟨#[c]⟩ ∧ y = .str z ∧ Q (.bl (decide (c ∈ z.cps.toList))) H) (.str ⟨#[c]⟩) (.str z) H (.bl (decide (c ∈ z.cps.toList))) := fun H1 _ _ q => ⟨c, z, rfl, rfl, q H1 (Ex.refl H1)⟩
/-- a comprehension over the signs of a text -/
theorem el_lcS {s : Str} {tl : TE} {j : Nat} {vs : List Nat} (f : Nat → Bool) (v : Nat → V) (h : Ev tl σ H (.str s)) (hz : s.cps.size ≤ 40000) (hw : ∀ x, wipe ((wipe σ vs).set j (some x)) vs = wipe σ vs)
    (ht : ∀ (i c : Nat) H1, Ex H H1 → s.cps[i]? = some c → EvT t ((wipe σ vs).set j (some (.str ⟨#[c]⟩))) H1 (f i)) (he : ∀ (i c : Nat) H1, Ex H H1 → s.cps[i]? = some c → f i = true → Ev te ((wipe σ vs).set j (some (.str ⟨#[c]⟩))) H1 (v i)) :
    EvL (tLc (iStr tl) (gName j) t te vs) σ H (given s.cps.size f v) := fun H0 e Q q => h H0 e _ fun H1 e1 => ⟨s, rfl, fun Dl hD =>
  lc_it walk_str (Cw H1 f v Dl) ⟨hD, Ex.new hD, upd_same⟩ (fun _ _ _ _ => trivial) (fun i x H' H'' hi p hy => by
    obtain ⟨rfl, c, hc, rfl⟩ := hy
    exact ⟨hw _, cw_turn p (by omega) (ht i c H1 (e.trans e1) hc) (fun hf => he i c H1 (e.trans e1) hc hf)⟩) (fun H' p => q Dl H' (fresh_back e1 p.1) (e1.trans p.2.1) p.2.2)⟩
/-- over a tuple -/
theorem el_lcT {a : Addr} {xs : List V} {tl : TE} {j : Nat} {vs : List Nat} (f : Nat → Bool) (v : Nat → V) (h : Ev tl σ H (.ref a)) (hx : SqT K H a xs) (hz : xs.length ≤ 40000) (hw : ∀ x, wipe ((wipe σ vs).set j (some x)) vs = wipe σ vs)
    (ht : ∀ (i : Nat) (x : V) H1, Ex H H1 → xs[i]? = some x → EvT t ((wipe σ vs).set j (some x)) H1 (f i)) (he : ∀ (i : Nat) (x : V) H1, Ex H H1 → xs[i]? = some x → f i = true → Ev te ((wipe σ vs).set j (some x)) H1 (v i)) :
    EvL (tLc (iTup K tl) (gName j) t te vs) σ H (given xs.length f v) := fun H0 e Q q => h H0 e _ fun H1 e1 => ⟨a, rfl, ⟨xs, ex_t (e.trans e1) hx⟩, fun Dl hD =>
  lc_it (walk_tup (K := K) (a := a) (xs := xs)) (Cw H1 f v Dl) ⟨hD, Ex.new hD, upd_same⟩ (fun i H' _ p => ex_t ((e.trans e1).trans p.2.1) hx) (fun i x H' H'' hi p hy => by
    obtain ⟨rfl, hc⟩ := hy
    exact ⟨hw _, cw_turn p (by omega) (ht i x H1 (e.trans e1) hc) (fun hf => he i x H1 (e.trans e1) hc hf)⟩) (fun H' p => q Dl H' (fresh_back e1 p.1) (e1.trans p.2.1) p.2.2)⟩
/-- a, b = t at values -/
theorem given_all {n : Nat} (v : Nat → V) : given n (fun _ => true) v = (List.range n).map v := by
  unfold given
  rw [List.filter_eq_self.mpr (fun _ _ => rfl)]
theorem ex_tyT {a : Addr} {xs : List V} (h : SqT K H a xs) : TyX K H (.ref a) (.type "tuple") := by
  rcases h with (h | ⟨o, h⟩) | ⟨o, its, n, h1, h2, _⟩
  · exact .base (.tup h)
  · exact .fTuple h
  · exact .kTuple h1 h2
theorem ex_tyL {a : Addr} {xs : List V} (h : SqL K H a xs) : TyX K H (.ref a) (.type "list") := by
  rcases h with (h | ⟨o, h⟩) | ⟨o, its, n, h1, h2, _⟩
  · exact .base (.lst h)
  · exact .base (.frz h)
  · exact .kList h1 h2
end

/-! ### pages, events, logs -/
def LETS : List Nat := ("abcdefghijklmnopqrstuvwxyz" : Str).cps.toList
def pageB (x : Str) : Bool := (decide ((1 : Int) ≤ x.length) && decide ((x.length : Int) ≤ 4)) && x.cps.toList.all fun c => decide (c ∈ LETS)
theorem pageB_len {x : Str} (h : pageB x = true) : x.length ≤ 4 := by
  unfold pageB at h
  simp only [Bool.and_eq_true, decide_eq_true_eq] at h
  omega
def hitS : Str := "hit"
def missS : Str := "miss"
abbrev Ev1 := Str × Str
def okE (e : Ev1) : Prop := (e.1 = hitS ∨ e.1 = missS) ∧ pageB e.2 = true
structure Pages (ps : List Str) : Prop where
  all : ∀ p ∈ ps, pageB p = true
  nd : ps.Nodup
  len : ps.length ≤ 200
structure LogK (K : PySem.W.Frag) (H : Hp) (l : Addr) (es : List Ev1) : Prop where
  at_ : ∃ ts : List Addr, SqL K H l (ts.map V.ref) ∧ Paired (fun t (e : Ev1) => SqT K H t [.str e.1, .str e.2]) ts es
  ok : ∀ e ∈ es, okE e
  len : es.length ≤ 300
theorem Paired.imp {α β : Type} {R S : α → β → Prop} : ∀ {as : List α} {bs : List β}, Paired R as bs → (∀ a b, R a b → S a b) → Paired S as bs
  | _, _, .nil, _ => .nil
  | _, _, .cons h t, k => .cons (k _ _ h) (Paired.imp t k)
theorem LogK.mono {K : PySem.W.Frag} {H H' : Hp} {l : Addr} {es : List Ev1} (e : Ex H H') (h : LogK K H l es) : LogK K H' l es := by
  obtain ⟨⟨ts, h1, h2⟩, h3, h4⟩ := h
  exact ⟨⟨ts, ex_l e h1, Paired.imp h2 fun _ _ z => ex_t e z⟩, h3, h4⟩
theorem paired_at {α β : Type} {R : α → β → Prop} : ∀ {as : List α} {bs : List β} {i : Nat} {b : β}, Paired R as bs → bs[i]? = some b → ∃ a, as[i]? = some a ∧ R a b
  | _, _, 0, b, .cons h t, e => ⟨_, rfl, by cases e; exact h⟩
  | _, _, i + 1, b, .cons h t, e => paired_at (i := i) t e
  | _, _, 0, b, .nil, e => nomatch e
  | _, _, i + 1, b, .nil, e => nomatch e
theorem paired_at' {α β : Type} {R : α → β → Prop} : ∀ {as : List α} {bs : List β} {i : Nat} {a : α}, Paired R as bs → as[i]? = some a → ∃ b, bs[i]? = some b ∧ R a b
  | _, _, 0, b, .cons h t, e => ⟨_, rfl, by cases e; exact h⟩
  | _, _, i + 1, b, .cons h t, e => paired_at' (i := i) t e
  | _, _, 0, b, .nil, e => nomatch e
  | _, _, i + 1, b, .nil, e => nomatch e
theorem paired_len {α β : Type} {R : α → β → Prop} : ∀ {as : List α} {bs : List β}, Paired R as bs → as.length = bs.length
  | _, _, .nil => rfl
  | _, _, .cons _ t => by rw [List.length_cons, List.length_cons, paired_len t]
theorem paired_snoc {α β : Type} {R : α → β → Prop} {a : α} {b : β} (h : R a b) : ∀ {as : List α} {bs : List β}, Paired R as bs → Paired R (as ++ [a]) (bs ++ [b])
  | _, _, .nil => .cons h .nil
  | _, _, .cons h1 t => .cons h1 (paired_snoc h t)

/-! ### sizes -/
def isMiss (e : Ev1) : Bool := decide (e.1 = missS)
def misses (es : List Ev1) : Nat := es.countP isMiss
/-- the number of pages at moment t -/
def szAt (c n : Nat) (es : List Ev1) (t : Nat) : Nat := min c (n + misses (es.take t))
def szs (c n : Nat) (es : List Ev1) : List Nat := (List.range (es.length + 1)).map (szAt c n es)
/-- is event e an evicting miss -/
def lateB (c n : Nat) (es : List Ev1) (e : Nat) : Bool := match es[e]? with
  | some v => isMiss v && decide (szAt c n es e = c)
  | none => false
def lates (c n : Nat) (es : List Ev1) : List Nat := (List.range es.length).filter (lateB c n es)
def natV (n : Nat) : V := .int (n : Int)
theorem misses_succ {es : List Ev1} {t : Nat} {e : Ev1} (h : es[t]? = some e) : misses (es.take (t + 1)) = misses (es.take t) + (if isMiss e = true then 1 else 0) := by
  unfold misses
  rw [List.take_add_one, h, List.countP_append]
  simp [List.countP_cons]
end KB

set_option Elab.async false
set_option linter.all false
set_option maxRecDepth 100000
set_option maxHeartbeats 4000000
namespace KB
open PySem L2
/-! ### the text -/
def topS (i : Nat) : Stmt := PySem.Challenge.pw_hitlog_k02_sizes_and_evicting_misses.main.body.getD i (.Pass ⟨0, 0, 0, 0⟩)
abbrev sIsInteger : Stmt := topS 10
abbrev sIsPage : Stmt := topS 11
abbrev sIsMark : Stmt := topS 12
abbrev sIsEvent : Stmt := topS 13
abbrev sIsShelf : Stmt := topS 14
abbrev sIsLog : Stmt := topS 15
abbrev sCheckCapacity : Stmt := topS 16
abbrev sCheckShelf : Stmt := topS 17
abbrev sCheckStart : Stmt := topS 18
abbrev sCheckLog : Stmt := topS 19
abbrev sCheckArguments : Stmt := topS 20
abbrev sSizes : Stmt := topS 21
abbrev sEvicting : Stmt := topS 22
abbrev sSource : Stmt := topS 24
abbrev sDraw : Stmt := topS 25
abbrev sPages : Stmt := topS 26
abbrev sRun : Stmt := topS 27
abbrev sSetup : Stmt := topS 28
abbrev sCounted : Stmt := topS 29
abbrev sRight : Stmt := topS 30
abbrev sLaw : Stmt := topS 31
end KB

set_option Elab.async false
set_option linter.all false
set_option maxRecDepth 100000
set_option maxHeartbeats 4000000
/-! KP1: the program's defs of hitlog.logs, at valid arguments. -/
namespace KB
open PySem L2 Evl
/-- the built-in names that the module leaves alone, its constants -/
structure Bn (mg : Str → Option Value) : Prop where
  isinstance : mg "isinstance" = none
  int : mg "int" = none
  bool : mg "bool" = none
  str : mg "str" = none
  len : mg "len" = none
  all : mg "all" = none
  tuple : mg "tuple" = none
  set : mg "set" = none
  list : mg "list" = none
  range : mg "range" = none
  min : mg "min" = none
  HIT : ∃ t, mg "HIT" = some (.str "hit" t)
  MISS : ∃ t, mg "MISS" = some (.str "miss" t)
  LETTERS : ∃ t, mg "LETTERS" = some (.str "abcdefghijklmnopqrstuvwxyz" t)
  LONGEST : ∃ t, mg "LONGEST_PAGE" = some (.int 4 t)
theorem bt_isinstance : bootBuiltins "isinstance" = some (.builtin "isinstance") := by decide +kernel
theorem bt_all : bootBuiltins "all" = some (.builtin "all") := by decide +kernel
theorem bt_len : bootBuiltins "len" = some (.builtin "len") := by decide +kernel
theorem bt_min : bootBuiltins "min" = some (.builtin "min") := by decide +kernel
theorem bt_int : bootBuiltins "int" = some (.type "int") := by decide +kernel
theorem bt_bool : bootBuiltins "bool" = some (.type "bool") := by decide +kernel
theorem bt_str : bootBuiltins "str" = some (.type "str") := by decide +kernel
theorem bt_tuple : bootBuiltins "tuple" = some (.type "tuple") := by decide +kernel
theorem bt_list : bootBuiltins "list" = some (.type "list") := by decide +kernel
theorem bt_set : bootBuiltins "set" = some (.type "set") := by decide +kernel

section
variable {P : Program} {w : World} {K : PySem.W.Frag} {mg : Str → Option Value} {base : Heap}
/-! is_integer -/
theorem scInt : FnScope ["value"] ["value"] (defScope sIsInteger) := ⟨rfl, rfl, rfl, by decide +kernel, rfl, by decide +kernel, by decide +kernel⟩
def spIsInteger : Sp := fun vs H Q _ => ∃ i : Int, vs = [.int i] ∧ RetV (.bl true) H Q
theorem ok_isInteger {f : Addr} {fd : FuncData} {k : Nat} (F : Fun K "is_integer" "is_integer" sIsInteger f fd) (B : Bn mg) : FnOk P w K mg base CX0 (k + 1) f fd ["value"] spIsInteger := by
  refine F.ok scInt (fun vs H Q E h => ?_) (fun cdv A outer s H vs Q E hr h => ?_)
  · obtain ⟨i, rfl, _⟩ := h
    rfl
  · obtain ⟨i, rfl, q⟩ := h
    refine ⟨_, pss_one (ps_ret (pe_and (pe_callB call_isi (by rfl) B.isinstance bt_isinstance (pa_cons (pv 0) (pa_cons (pe_bltn (v := .ty "int") (by rfl) B.int bt_int rfl) pa_nil)))
      (pe_one (pe_not (pe_callB call_isi (by rfl) B.isinstance bt_isinstance (pa_cons (pv 0) (pa_cons (pe_bltn (v := .ty "bool") (by rfl) B.bool bt_bool rfl) pa_nil))))))), ?_⟩
    refine s_ret (v := .bl true) ?_ fun H1 e => q H1 e
    exact ev_andV (a := true) (b := true) (ev_isi (T := "int") (ev_var rfl) (fun _ _ => .base (.int i)) (by decide +kernel)) fun _ =>
      ev_notV (a := false) (ev_isi (T := "int") (ev_var rfl) (fun _ _ => .base (.int i)) (by decide +kernel))

/-! is_page -/
theorem scPage : FnScope ["value", "letter"] ["value"] (defScope sIsPage) := ⟨rfl, rfl, rfl, by decide +kernel, rfl, by decide +kernel, by decide +kernel⟩
def spIsPage : Sp := fun vs H Q _ => ∃ x : Str, vs = [.str x] ∧ x.length ≤ 10000 ∧ RetV (.bl (pageB x)) H Q
theorem lets_eq : ("abcdefghijklmnopqrstuvwxyz" : Str).cps.toList = LETS := rfl
theorem page_bits (x : Str) : (given x.cps.size (fun _ => true) fun i => V.bl (decide (x.cps.getD i 0 ∈ LETS))) = (x.cps.toList.map fun c => decide (c ∈ LETS)).map V.bl := by
  rw [given_all, List.map_map]
  apply List.ext_getElem
  · simp
  · intro i h1 h2
    have hi : i < x.cps.size := by simpa using h1
    simp [Array.getD, hi]
theorem ok_isPage {f : Addr} {fd : FuncData} {k : Nat} (F : Fun K "is_page" "is_page" sIsPage f fd) (B : Bn mg) : FnOk P w K mg base CX0 (k + 1) f fd ["value"] spIsPage := by
  refine F.ok scPage (fun vs H Q E h => ?_) (fun cdv A outer s H vs Q E hr h => ?_)
  · obtain ⟨i, rfl, _⟩ := h
    rfl
  · obtain ⟨x, rfl, hx, q⟩ := h
    obtain ⟨t4, m4⟩ := B.LONGEST
    obtain ⟨tl, ml⟩ := B.LETTERS
    refine ⟨_, pss_cons (ps_if (PW.pt (pw_or (pt_not (pt_val (pe_callB call_isi (by rfl) B.isinstance bt_isinstance (pa_cons (pv 0) (pa_cons (pe_bltn (v := .ty "str") (by rfl) B.str bt_str rfl) pa_nil)))))
        (pw_or1 (pt_not (pt_chain op_le op_le pe_int (pe_callB call_len_str (by rfl) B.len bt_len (pa_cons (pv 0) pa_nil)) (pe_glob (v := .int 4) (by rfl) m4 ⟨_, rfl⟩))))))
        (pss_one (ps_ret pe_bl)) pss_nil)
      (pss_one (ps_ret (pe_callB (cr_all rfl) (by rfl) B.all bt_all (pa_cons (pe_lc (own := [("letter", 1)]) (g := gName 1) (tt := tYes) rfl scPage.nd (pi_str (pv 0)) (blkOk_by (N := ["value", "letter"]) (sc := defScope sIsPage) (by decide +kernel))
        (fun _ _ _ _ _ => pg_name (i := 1) scPage.nd rfl (Or.inl rfl)) (fun _ _ _ _ _ => pts_nil) (fun _ _ _ _ _ => pe_cmpR op_in_sign (pv 1) (pe_glob (v := .str "abcdefghijklmnopqrstuvwxyz") (by rfl) ml ⟨_, rfl⟩) rfl)) pa_nil)))), ?_⟩
    have hlen : x.length ≤ 100000 := by omega
    refine q_when (b := !true || !(decide ((1 : Int) ≤ x.length) && decide ((x.length : Int) ≤ 4))) ?_ (fun hb H1 e => ?_) (fun hb H1 e => ?_)
    · refine et_or (et_not (et_B (ev_isi (T := "str") (ev_var rfl) (fun _ _ => .base (.str x)) (by decide +kernel)))) fun _ => et_not (et_test ?_)
      exact ev_chain ev_c (ev_lenStr (ev_var rfl) hlen) rv_I0 (fun _ => ev_c) fun _ => rv_I0
    · have e0 : pageB x = false := by
        unfold pageB
        rw [Bool.not_true, Bool.false_or, Bool.not_eq_true'] at hb
        rw [hb, Bool.false_and]
      refine s_ret ev_c fun H2 e2 => ?_
      have g := q H2 (e.trans e2)
      rw [e0] at g
      exact g
    · have e0 : pageB x = ((x.cps.toList.map fun c => decide (c ∈ LETS)).all id) := by
        unfold pageB
        rw [Bool.not_true, Bool.false_or, Bool.not_eq_false'] at hb
        rw [hb, Bool.true_and, List.all_map]
        rfl
      rw [e0] at q
      refine s_ret (ev_all ?_) fun H2 e2 => q H2 (e.trans e2)
      rw [← page_bits]
      refine el_lcS _ _ (ev_var rfl) (by show x.length ≤ 40000; omega) (fun _ => rfl) (fun i c H3 e3 hc => et_yes) fun i c H3 e3 hc _ => ?_
      have ec : x.cps.getD i 0 = c := by
        obtain ⟨h1, h2⟩ := Array.getElem?_eq_some_iff.mp hc
        rw [Array.getD, dif_pos h1]
        exact h2
      rw [ec]
      exact ev_op (ev_var rfl) ev_c rv_inSign

/-! is_event -/
theorem scEvent : FnScope ["value", "mark", "page"] ["value"] (defScope sIsEvent) := ⟨rfl, rfl, rfl, by decide +kernel, rfl, by decide +kernel, by decide +kernel⟩
def spIsEvent (K : PySem.W.Frag) : Sp := fun vs H Q _ => ∃ (t : Addr) (e : Ev1), vs = [.ref t] ∧ SqT K H t [.str e.1, .str e.2] ∧ okE e ∧ RetV (.bl true) H Q
end
end KB

set_option Elab.async false
set_option linter.all false
set_option maxRecDepth 100000
set_option maxHeartbeats 4000000
/-! KP2: is_event, is_shelf, is_log, the checks, at valid arguments. -/
namespace KB
open PySem L2 Evl
/-- a def as its callers know it -/
structure Cl (P : Program) (w : World) (K : PySem.W.Frag) (mg : Str → Option Value) (base : Heap) (k : Nat) (x : Str) (ps : List Str) (sp : Sp) : Prop where
  ex : ∃ (f : Addr) (fd : FuncData), FnOk P w K mg base CX0 k f fd ps sp ∧ mg x = some (.ref f) ∧ PySem.W.keepIn K (.ref f) = true ∧ Binds K fd ps []
section
variable {X : Cx} {k j : Nat} {ps : List Str} {sp : Sp} {x : Str} {p pos : Pos} {e : Expr} {es : List Expr} {t : TA}
theorem pe_cl (c : Cl X.prog X.w X.K X.mg X.base k x ps sp) (hr : Room j X.A) (ha : PA X (e :: es) t) (hk : k ≤ j := by decide) (hg : Gl X x := by rfl) (hdb : (x == ("__debug__" : Str)) = false := by decide)
    (he : starEach (e :: es) X.env = (false, eval e X.env) :: starEach es X.env := by rfl) (hpl : (backTo pos (starEach es X.env)).any (·.1) = false := by rfl) : PE X (.Call (.Name x p) (e :: es) [] pos) (tCall sp [] E0 t) := by
  obtain ⟨f, fd, F, hm, kp, hb⟩ := c.ex
  exact pe_call F (hr.mono hk) hg hm kp hb .nil pass0 ha hdb he hpl
end
section
variable {K : PySem.W.Frag} {σ : L2.St} {H : Hp} {te : TE} {D : Ends}
theorem s_unp2 {i j : Nat} {a : Addr} {x y : V} (h : Ev te σ H (.ref a)) (hs : SqT K H a [x, y]) (k : ∀ H1, Ex H H1 → D.nx ((σ.set i (some x)).set j (some y)) H1) : tAsg te (gTup K 2 (gCons (gName i) (gCons (gName j) gNil))) D σ H :=
  h H (Ex.refl H) _ fun H1 e => ⟨a, [x, y], rfl, ex_t e hs, rfl, x, [y], rfl, y, [], rfl, rfl, k H1 e⟩
theorem q_unp2 {tz : TS} {i j : Nat} {a : Addr} {x y : V} (h : Ev te σ H (.ref a)) (hs : SqT K H a [x, y]) (k : ∀ H1, Ex H H1 → tz D ((σ.set i (some x)).set j (some y)) H1) : tSeq (tAsg te (gTup K 2 (gCons (gName i) (gCons (gName j) gNil)))) tz D σ H :=
  s_unp2 (D := { D with nx := tz D }) h hs k
/-- a call of a def whose promise has the plain form -/
theorem ev_fn {sp : Sp} {vs : List V} {z : V} {ta : TA} (h : EvA ta σ H vs) (hs : ∀ H1, Ex H H1 → ∀ Q : VK, RetV z H1 Q → sp vs H1 Q E0) : Ev (tCall sp [] E0 ta) σ H z := fun H1 e Q q =>
  h H1 e _ fun H2 e2 => by
    rw [List.append_nil]
    exact hs H2 (e.trans e2) Q fun H3 e3 => q H3 (e2.trans e3)
theorem el_fn {sp : Sp} {vs xs : List V} {ta : TA} (h : EvA ta σ H vs) (hs : ∀ H1, Ex H H1 → ∀ Q : VK, RetL xs H1 Q → sp vs H1 Q E0) : EvL (tCall sp [] E0 ta) σ H xs := fun H1 e Q q =>
  h H1 e _ fun H2 e2 => by
    rw [List.append_nil]
    exact hs H2 (e.trans e2) Q fun p H3 hp e3 h3 => q p H3 (fresh_back e2 hp) (e2.trans e3) h3
end
section
variable {P : Program} {w : World} {K : PySem.W.Frag} {mg : Str → Option Value} {base : Heap}
theorem in_marks {m : Str} (h : m = hitS ∨ m = missS) : inV (.str m) [.str "hit", .str "miss"] = true := by
  rcases h with rfl | rfl <;> decide
theorem scMark : FnScope ["value"] ["value"] (defScope sIsMark) := ⟨rfl, rfl, rfl, by decide +kernel, rfl, by decide +kernel, by decide +kernel⟩
def spIsMark : Sp := fun vs H Q _ => ∃ m : Str, vs = [.str m] ∧ (m = hitS ∨ m = missS) ∧ RetV (.bl true) H Q
theorem ok_isMark {f : Addr} {fd : FuncData} (F : Fun K "is_mark" "is_mark" sIsMark f fd) (B : Bn mg) : FnOk P w K mg base CX0 1 f fd ["value"] spIsMark := by
  refine F.ok scMark (fun vs H Q E h => ?_) (fun cdv A outer s H vs Q E hr h => ?_)
  · obtain ⟨m, rfl, _⟩ := h
    rfl
  · obtain ⟨m, rfl, ho, q⟩ := h
    obtain ⟨th, mh⟩ := B.HIT
    obtain ⟨tm, mm⟩ := B.MISS
    refine ⟨_, pss_one (ps_ret (pe_and (pe_callB call_isi (by rfl) B.isinstance bt_isinstance (pa_cons (pv 0) (pa_cons (pe_bltn (v := .ty "str") (by rfl) B.str bt_str rfl) pa_nil)))
        (pe_one (pe_cmpR op_in_seq (pv 0) (pe_tup (pa_cons (pe_glob (v := .str "hit") (by rfl) mh ⟨_, rfl⟩) (pa_cons (pe_glob (v := .str "miss") (by rfl) mm ⟨_, rfl⟩) pa_nil))) (by with_unfolding_all rfl))))), ?_⟩
    refine s_ret (v := .bl true) ?_ fun H3 e3 => q H3 e3
    exact ev_andV (a := true) (b := true) (ev_isi (K := K) (T := "str") (ev_var rfl) (fun _ _ => .base (.str _)) (by decide +kernel)) fun _ => ev_is (ev_inU (ev_var rfl) (eu_tup (ea_cons ev_c (ea_cons ev_c ea_nil)) (by decide)) rfl rfl) (by rw [in_marks ho])
theorem ok_isEvent {f : Addr} {fd : FuncData} (F : Fun K "is_event" "is_event" sIsEvent f fd) (B : Bn mg) (cM : Cl P w K mg base 1 "is_mark" ["value"] spIsMark) (cP : Cl P w K mg base 1 "is_page" ["value"] spIsPage) : FnOk P w K mg base CX0 2 f fd ["value"] (spIsEvent K) := by
  refine F.ok scEvent (fun vs H Q E h => ?_) (fun cdv A outer s H vs Q E hr h => ?_)
  · obtain ⟨t, e, rfl, _⟩ := h
    rfl
  · obtain ⟨t, e, rfl, ht, ho, q⟩ := h
    refine ⟨_, pss_cons (ps_if (PW.pt (pw_or (pt_not (pt_val (pe_callB call_isi (by rfl) B.isinstance bt_isinstance (pa_cons (pv 0) (pa_cons (pe_bltn (v := .ty "tuple") (by rfl) B.tuple bt_tuple rfl) pa_nil)))))
        (pw_or1 (pt_cmpR op_ne (pe_callB call_len_seq (by rfl) B.len bt_len (pa_cons (pv 0) pa_nil)) pe_int (nomark _))))) (pss_one (ps_ret pe_bl)) pss_nil)
      (pss_cons (ps_asg (pv 0) (pg_tup rfl (pgs_cons (pg_name (i := 1) scEvent.nd rfl (Or.inl rfl)) (pgs_cons (pg_name (i := 2) scEvent.nd rfl (Or.inl rfl)) pgs_nil))))
      (pss_one (ps_ret (pe_and (pe_cl cM hr (pa_cons (pv 1) pa_nil)) (pe_one (pe_cl cP hr (pa_cons (pv 2) pa_nil))))))), ?_⟩
    refine q_when (b := !true || !decide ((V.int 2) = V.int 2)) ?_ (fun hb => by simp at hb) (fun _ H1 e1 => ?_)
    · exact et_or (et_not (et_B (ev_isi (T := "tuple") (ev_var rfl) (fun _ e1 => ex_tyT (ex_t e1 ht)) (by decide +kernel)))) fun _ => et_test (ev_op (ev_lenTup (ev_var rfl) ht) ev_c (rv_ne rfl))
    · refine q_unp2 (ev_var rfl) (ex_t e1 ht) fun H2 e2 => ?_
      refine s_ret (v := .bl true) ?_ fun H3 e3 => q H3 ((e1.trans e2).trans e3)
      refine ev_andV (a := true) (b := true) ?_ fun _ => ?_
      · exact ev_fn (ea_cons (ev_var rfl) ea_nil) fun H4 e4 Q' k => ⟨e.1, rfl, ho.1, k⟩
      · refine ev_fn (ea_cons (ev_var rfl) ea_nil) fun H4 e4 Q' k => ⟨e.2, rfl, ?_, ?_⟩
        · have := pageB_len ho.2
          omega
        · rw [ho.2]
          exact k

/-! is_shelf -/
theorem scShelf : FnScope ["value", "page"] ["value"] (defScope sIsShelf) := ⟨rfl, rfl, rfl, by decide +kernel, rfl, by decide +kernel, by decide +kernel⟩
def spIsShelf (K : PySem.W.Frag) : Sp := fun vs H Q _ => ∃ (t : Addr) (ps : List Str), vs = [.ref t] ∧ SqT K H t (ps.map V.str) ∧ Pages ps ∧ RetV (.bl true) H Q
theorem all_true (n : Nat) : (given n (fun _ => true) fun _ => V.bl true) = (List.replicate n true).map V.bl := by
  rw [given_all]
  apply List.ext_getElem <;> simp
theorem rep_all (n : Nat) : (List.replicate n true).all id = true := by
  rw [List.all_eq_true]
  intro b hb
  exact List.eq_of_mem_replicate hb
theorem ok_isShelf {f : Addr} {fd : FuncData} (F : Fun K "is_shelf" "is_shelf" sIsShelf f fd) (B : Bn mg) (cP : Cl P w K mg base 1 "is_page" ["value"] spIsPage) : FnOk P w K mg base CX0 3 f fd ["value"] (spIsShelf K) := by
  refine F.ok scShelf (fun vs H Q E h => ?_) (fun cdv A outer s H vs Q E hr h => ?_)
  · obtain ⟨t, e, rfl, _⟩ := h
    rfl
  · obtain ⟨t, ps, rfl, ht, hp, q⟩ := h
    refine ⟨_, pss_cons (ps_if (PW.pt (pw_or (pt_not (pt_val (pe_callB call_isi (by rfl) B.isinstance bt_isinstance (pa_cons (pv 0) (pa_cons (pe_bltn (v := .ty "tuple") (by rfl) B.tuple bt_tuple rfl) pa_nil)))))
        (pw_or1 (pt_not (pt_val (pe_callB (cr_all rfl) (by rfl) B.all bt_all (pa_cons (pe_lc (own := [("page", 1)]) (g := gName 1) (tt := tYes) rfl scShelf.nd (pi_tup (pv 0)) (blkOk_by (N := ["value", "page"]) (sc := defScope sIsShelf) (by decide +kernel))
          (fun _ _ _ _ _ => pg_name (i := 1) scShelf.nd rfl (Or.inl rfl)) (fun _ _ _ _ _ => pts_nil) (fun _ _ _ _ _ => pe_cl cP hr (pa_cons (pv 1) pa_nil))) pa_nil)))))))
        (pss_one (ps_ret pe_bl)) pss_nil)
      (pss_one (ps_ret (pe_cmpR op_eq (pe_callB call_lenSetS (by rfl) B.len bt_len (pa_cons (pe_callTy (call_setT rfl) (by rfl) B.set bt_set (pa_cons (pv 0) pa_nil)) pa_nil)) (pe_callB call_len_seq (by rfl) B.len bt_len (pa_cons (pv 0) pa_nil)) (nomark _)))), ?_⟩
    have hl := hp.len
    refine q_when (b := !true || !(List.replicate ps.length true).all id) ?_ (fun hb => by rw [rep_all] at hb; cases hb) (fun _ H1 e1 => ?_)
    · refine et_or (et_not (et_B (ev_isi (T := "tuple") (ev_var rfl) (fun _ e1 => ex_tyT (ex_t e1 ht)) (by decide +kernel)))) fun _ => et_not (et_B (ev_all ?_))
      rw [← all_true]
      have hm : (ps.map V.str).length = ps.length := List.length_map ..
      rw [← hm]
      refine el_lcT _ _ (ev_var rfl) ht (by rw [hm]; omega) (fun _ => rfl) (fun i x H3 e3 hx => et_yes) fun i x H3 e3 hx _ => ?_
      rw [List.getElem?_map] at hx
      obtain ⟨y, hy, rfl⟩ := Option.map_eq_some_iff.mp hx
      have py := hp.all y (List.mem_of_getElem? hy)
      refine ev_fn (ea_cons (ev_var rfl) ea_nil) fun H4 e4 Q' k => ⟨y, rfl, ?_, ?_⟩
      · have := pageB_len py
        omega
      · rw [py]
        exact k
    · -- len(set(value)) == len(value)
      refine ⟨.ref t, rfl, t, ps, rfl, ex_t e1 ht, by omega, fun p np => ?_⟩
      refine ⟨p, ps, rfl, upd_same, by omega, .ref t, rfl, t, ps.map V.str, rfl, .inr (ex_t (e1.trans (Ex.new np)) ht), ?_⟩
      refine ⟨rfl, ?_⟩
      rw [metS_nodup _ ps rfl hp.nd, List.length_map, decide_eq_true rfl]
      exact q _ (e1.trans (Ex.new np))

/-! is_log -/
theorem scLog : FnScope ["value", "event"] ["value"] (defScope sIsLog) := ⟨rfl, rfl, rfl, by decide +kernel, rfl, by decide +kernel, by decide +kernel⟩
def spIsLog (K : PySem.W.Frag) : Sp := fun vs H Q _ => ∃ (l : Addr) (es : List Ev1), vs = [.ref l] ∧ LogK K H l es ∧ RetV (.bl true) H Q
theorem ok_isLog {f : Addr} {fd : FuncData} (F : Fun K "is_log" "is_log" sIsLog f fd) (B : Bn mg) (cE : Cl P w K mg base 2 "is_event" ["value"] (spIsEvent K)) : FnOk P w K mg base CX0 3 f fd ["value"] (spIsLog K) := by
  refine F.ok scLog (fun vs H Q E h => ?_) (fun cdv A outer s H vs Q E hr h => ?_)
  · obtain ⟨t, e, rfl, _⟩ := h
    rfl
  · obtain ⟨l, es, rfl, hL, q⟩ := h
    refine ⟨_, pss_one (ps_ret (pe_and (pe_callB call_isi (by rfl) B.isinstance bt_isinstance (pa_cons (pv 0) (pa_cons (pe_bltn (v := .ty "list") (by rfl) B.list bt_list rfl) pa_nil)))
      (pe_one (pe_callB (cr_all rfl) (by rfl) B.all bt_all (pa_cons (pe_lc (own := [("event", 1)]) (g := gName 1) (tt := tYes) rfl scLog.nd (pi_list (pv 0)) (blkOk_by (N := ["value", "event"]) (sc := defScope sIsLog) (by decide +kernel))
          (fun _ _ _ _ _ => pg_name (i := 1) scLog.nd rfl (Or.inl rfl)) (fun _ _ _ _ _ => pts_nil) (fun _ _ _ _ _ => pe_cl cE hr (pa_cons (pv 1) pa_nil))) pa_nil))))), ?_⟩
    obtain ⟨ts, h1, h2⟩ := hL.at_
    have hn := paired_len h2
    have hl := hL.len
    refine s_ret (v := .bl (true && (List.replicate ts.length true).all id)) ?_ fun H1 e1 => ?_
    · refine ev_andV (ev_isi (T := "list") (ev_var rfl) (fun _ e1 => ex_tyL (ex_l e1 h1)) (by decide +kernel)) fun _ => ev_all ?_
      rw [← all_true]
      have hm : (ts.map V.ref).length = ts.length := List.length_map ..
      rw [← hm]
      refine el_lcL _ _ (ev_var rfl) h1 (by rw [hm]; omega) (fun _ => rfl) (fun i x H3 e3 hx => et_yes) fun i x H3 e3 hx _ => ?_
      rw [List.getElem?_map] at hx
      obtain ⟨y, hy, rfl⟩ := Option.map_eq_some_iff.mp hx
      obtain ⟨v, hv, hT⟩ := paired_at' h2 hy
      exact ev_fn (ea_cons (ev_var rfl) ea_nil) fun H4 e4 Q' k => ⟨y, v, rfl, ex_t (e3.trans e4) hT, hL.ok v (List.mem_of_getElem? hv), k⟩
    · rw [rep_all]
      exact q H1 e1
end
end KB

set_option Elab.async false
set_option linter.all false
set_option maxRecDepth 100000
set_option maxHeartbeats 4000000
/-! KP3: the checks, sizes, evicting_misses, at valid arguments. -/
namespace KB
open PySem L2 Evl
section
variable {P : Program} {w : World} {K : PySem.W.Frag} {mg : Str → Option Value} {base : Heap}
theorem scCap : FnScope ["capacity"] ["capacity"] (defScope sCheckCapacity) := ⟨rfl, rfl, rfl, by decide +kernel, rfl, by decide +kernel, by decide +kernel⟩
def spCheckCapacity : Sp := fun vs H Q _ => ∃ i : Int, vs = [.int i] ∧ 1 ≤ i ∧ RetV .non H Q
theorem ok_checkCapacity {f : Addr} {fd : FuncData} (F : Fun K "check_capacity" "check_capacity" sCheckCapacity f fd) (cI : Cl P w K mg base 1 "is_integer" ["value"] spIsInteger) : FnOk P w K mg base CX0 2 f fd ["capacity"] spCheckCapacity := by
  refine F.ok scCap (fun vs H Q E h => ?_) (fun cdv A outer s H vs Q E hr h => ?_)
  · obtain ⟨i, rfl, _⟩ := h
    rfl
  · obtain ⟨i, rfl, hi, q⟩ := h
    refine ⟨_, pss_one (ps_if (PW.pt (pw_or (pt_not (pt_val (pe_cl cI hr (pa_cons (pv 0) pa_nil)))) (pw_or1 (pt_cmpR op_lt (pv 0) pe_int (nomark _))))) pss_never pss_nil), ?_⟩
    refine s_when (b := !true || decide (i < 1)) ?_ (fun hb => ?_) (fun _ H1 e1 => q H1 e1)
    · exact et_or (et_not (et_B (ev_fn (ea_cons (ev_var rfl) ea_nil) fun H4 e4 Q' k => ⟨i, rfl, k⟩))) fun _ => et_test (ev_op (ev_var rfl) ev_c rv_I0)
    · rw [Bool.not_true, Bool.false_or, decide_eq_true_eq] at hb
      omega
theorem scCkShelf : FnScope ["start"] ["start"] (defScope sCheckShelf) := ⟨rfl, rfl, rfl, by decide +kernel, rfl, by decide +kernel, by decide +kernel⟩
def spCheckShelf (K : PySem.W.Frag) : Sp := fun vs H Q _ => ∃ (t : Addr) (ps : List Str), vs = [.ref t] ∧ SqT K H t (ps.map V.str) ∧ Pages ps ∧ RetV .non H Q
theorem ok_checkShelf {f : Addr} {fd : FuncData} (F : Fun K "check_shelf" "check_shelf" sCheckShelf f fd) (cS : Cl P w K mg base 3 "is_shelf" ["value"] (spIsShelf K)) : FnOk P w K mg base CX0 4 f fd ["start"] (spCheckShelf K) := by
  refine F.ok scCkShelf (fun vs H Q E h => ?_) (fun cdv A outer s H vs Q E hr h => ?_)
  · obtain ⟨t, ps, rfl, _⟩ := h
    rfl
  · obtain ⟨t, ps, rfl, ht, hp, q⟩ := h
    refine ⟨_, pss_one (ps_if (pt_not (pt_val (pe_cl cS hr (pa_cons (pv 0) pa_nil)))) pss_never pss_nil), ?_⟩
    refine s_when (b := !true) ?_ (fun hb => by cases hb) (fun _ H1 e1 => q H1 e1)
    exact et_not (et_B (ev_fn (ea_cons (ev_var rfl) ea_nil) fun H4 e4 Q' k => ⟨t, ps, rfl, ex_t e4 ht, hp, k⟩))
theorem scCkLog : FnScope ["log"] ["log"] (defScope sCheckLog) := ⟨rfl, rfl, rfl, by decide +kernel, rfl, by decide +kernel, by decide +kernel⟩
def spCheckLog (K : PySem.W.Frag) : Sp := fun vs H Q _ => ∃ (l : Addr) (es : List Ev1), vs = [.ref l] ∧ LogK K H l es ∧ RetV .non H Q
theorem ok_checkLog {f : Addr} {fd : FuncData} (F : Fun K "check_log" "check_log" sCheckLog f fd) (cL : Cl P w K mg base 3 "is_log" ["value"] (spIsLog K)) : FnOk P w K mg base CX0 4 f fd ["log"] (spCheckLog K) := by
  refine F.ok scCkLog (fun vs H Q E h => ?_) (fun cdv A outer s H vs Q E hr h => ?_)
  · obtain ⟨t, ps, rfl, _⟩ := h
    rfl
  · obtain ⟨t, es, rfl, hl, q⟩ := h
    refine ⟨_, pss_one (ps_if (pt_not (pt_val (pe_cl cL hr (pa_cons (pv 0) pa_nil)))) pss_never pss_nil), ?_⟩
    refine s_when (b := !true) ?_ (fun hb => by cases hb) (fun _ H1 e1 => q H1 e1)
    exact et_not (et_B (ev_fn (ea_cons (ev_var rfl) ea_nil) fun H4 e4 Q' k => ⟨t, es, rfl, hl.mono e4, k⟩))
theorem scStart : FnScope ["capacity", "start"] ["capacity", "start"] (defScope sCheckStart) := ⟨rfl, rfl, rfl, by decide +kernel, rfl, by decide +kernel, by decide +kernel⟩
def spCheckStart (K : PySem.W.Frag) : Sp := fun vs H Q _ => ∃ (i : Int) (t : Addr) (ps : List Str), vs = [.int i, .ref t] ∧ SqT K H t (ps.map V.str) ∧ Pages ps ∧ (ps.length : Int) ≤ i ∧ RetV .non H Q
theorem ok_checkStart {f : Addr} {fd : FuncData} (F : Fun K "check_start" "check_start" sCheckStart f fd) (B : Bn mg) (cS : Cl P w K mg base 4 "check_shelf" ["start"] (spCheckShelf K)) : FnOk P w K mg base CX0 5 f fd ["capacity", "start"] (spCheckStart K) := by
  refine F.ok scStart (fun vs H Q E h => ?_) (fun cdv A outer s H vs Q E hr h => ?_)
  · obtain ⟨i, t, ps, rfl, _⟩ := h
    rfl
  · obtain ⟨i, t, ps, rfl, ht, hp, hi, q⟩ := h
    refine ⟨_, pss_cons (ps_expr (pe_cl cS hr (pa_cons (pv 1) pa_nil))) (pss_one (ps_if (pt_cmpR op_gt (pe_callB call_len_seq (by rfl) B.len bt_len (pa_cons (pv 1) pa_nil)) (pv 0) (nomark _)) pss_never pss_nil)), ?_⟩
    refine q_drop (ev_fn (ea_cons (ev_var rfl) ea_nil) fun H4 e4 Q' k => ⟨t, ps, rfl, ex_t e4 ht, hp, k⟩) fun H1 e1 => ?_
    refine s_when (b := decide (i < ((ps.map V.str).length : Int))) (et_test (ev_op (ev_lenTup (ev_var rfl) (ex_t e1 ht)) (ev_var rfl) rv_I0)) (fun hb => ?_) (fun _ H2 e2 => q H2 (e1.trans e2))
    rw [decide_eq_true_eq, List.length_map] at hb
    omega
theorem scArgs : FnScope ["capacity", "start", "log"] ["capacity", "start", "log"] (defScope sCheckArguments) := ⟨rfl, rfl, rfl, by decide +kernel, rfl, by decide +kernel, by decide +kernel⟩
/-- three valid arguments -/
structure Args3 (K : PySem.W.Frag) (H : Hp) (c : Nat) (t l : Addr) (ps : List Str) (es : List Ev1) : Prop where
  pos : 1 ≤ c
  st : SqT K H t (ps.map V.str)
  pg : Pages ps
  le : ps.length ≤ c
  lg : LogK K H l es
theorem Args3.mono {H H' : Hp} {c : Nat} {t l : Addr} {ps : List Str} {es : List Ev1} (e : Ex H H') (h : Args3 K H c t l ps es) : Args3 K H' c t l ps es := ⟨h.pos, ex_t e h.st, h.pg, h.le, h.lg.mono e⟩
def spArgs (K : PySem.W.Frag) : Sp := fun vs H Q _ => ∃ (c : Nat) (t l : Addr) (ps : List Str) (es : List Ev1), vs = [.int (c : Int), .ref t, .ref l] ∧ Args3 K H c t l ps es ∧ RetV .non H Q
theorem ok_checkArguments {f : Addr} {fd : FuncData} (F : Fun K "check_arguments" "check_arguments" sCheckArguments f fd) (c1 : Cl P w K mg base 2 "check_capacity" ["capacity"] spCheckCapacity) (c2 : Cl P w K mg base 5 "check_start" ["capacity", "start"] (spCheckStart K)) (c3 : Cl P w K mg base 4 "check_log" ["log"] (spCheckLog K)) :
    FnOk P w K mg base CX0 6 f fd ["capacity", "start", "log"] (spArgs K) := by
  refine F.ok scArgs (fun vs H Q E h => ?_) (fun cdv A outer s H vs Q E hr h => ?_)
  · obtain ⟨c, t, l, ps, es, rfl, _⟩ := h
    rfl
  · obtain ⟨c, t, l, ps, es, rfl, ha, q⟩ := h
    refine ⟨_, pss_cons (ps_expr (pe_cl c1 hr (pa_cons (pv 0) pa_nil))) (pss_cons (ps_expr (pe_cl c2 hr (pa_cons (pv 0) (pa_cons (pv 1) pa_nil)))) (pss_one (ps_expr (pe_cl c3 hr (pa_cons (pv 2) pa_nil))))), ?_⟩
    have hpos := ha.pos
    have hle := ha.le
    refine q_drop (ev_fn (ea_cons (ev_var rfl) ea_nil) fun H4 e4 Q' k => ⟨c, rfl, by omega, k⟩) fun H1 e1 => ?_
    refine q_drop (ev_fn (ea_cons (ev_var rfl) (ea_cons (ev_var rfl) ea_nil)) fun H4 e4 Q' k => ⟨c, t, ps, rfl, ex_t (e1.trans e4) ha.st, ha.pg, by omega, k⟩) fun H2 e2 => ?_
    exact s_drop (ev_fn (ea_cons (ev_var rfl) ea_nil) fun H4 e4 Q' k => ⟨l, es, rfl, ha.lg.mono ((e1.trans e2).trans e4), k⟩) fun H3 e3 => q H3 ((e1.trans e2).trans e3)

/-! sizes -/
theorem scSizes : FnScope ["capacity", "start", "log", "pages", "found", "mark", "_"] ["capacity", "start", "log"] (defScope sSizes) := ⟨rfl, rfl, rfl, by decide +kernel, rfl, by decide +kernel, by decide +kernel⟩
def spSizes (K : PySem.W.Frag) : Sp := fun vs H Q _ => ∃ (c : Nat) (t l : Addr) (ps : List Str) (es : List Ev1), vs = [.int (c : Int), .ref t, .ref l] ∧ Args3 K H c t l ps es ∧ RetL ((szs c ps.length es).map natV) H Q
theorem min_int (c n : Nat) : (if (n : Int) < (c : Int) then (n : Int) else (c : Int)) = ((min c n : Nat) : Int) := by
  split <;> omega
theorem ok_sizes {f : Addr} {fd : FuncData} (F : Fun K "sizes" "sizes" sSizes f fd) (B : Bn mg) (cA : Cl P w K mg base 6 "check_arguments" ["capacity", "start", "log"] (spArgs K)) : FnOk P w K mg base CX0 7 f fd ["capacity", "start", "log"] (spSizes K) := by
  refine F.ok scSizes (fun vs H Q E h => ?_) (fun cdv A outer s H vs Q E hr h => ?_)
  · obtain ⟨c, t, l, ps, es, rfl, _⟩ := h
    rfl
  · obtain ⟨c, t, l, ps, es, rfl, ha, q⟩ := h
    obtain ⟨tm, mm⟩ := B.MISS
    refine ⟨_, pss_cons (ps_expr (pe_cl cA hr (pa_cons (pv 0) (pa_cons (pv 1) (pa_cons (pv 2) pa_nil)))))
      (pss_cons (ps_set (i := 3) scSizes.nd rfl (Or.inl rfl) (pe_callB call_len_seq (by rfl) B.len bt_len (pa_cons (pv 1) pa_nil)))
      (pss_cons (ps_set (i := 4) scSizes.nd rfl (Or.inl rfl) (pe_lst (pa_cons (pv 3) pa_nil)))
      (pss_cons (ps_for PassesOwn.never rfl (pi_list (pv 2)) (pg_tup rfl (pgs_cons (pg_name (i := 5) scSizes.nd rfl (Or.inl rfl)) (pgs_cons (pg_name (i := 6) scSizes.nd rfl (Or.inl rfl)) pgs_nil)))
        (pss_cons (ps_if (pt_cmpR op_eq (pv 5) (pe_glob (v := .str "miss") (by rfl) mm ⟨_, rfl⟩) (nomark _)) (pss_one (ps_aug (i := 3) scSizes.nd rfl (Or.inl rfl) pe_int ip_add)) pss_nil)
        (pss_one (ps_expr (pe_bm PySem.F.plainAttrs_list PySem.F.slot_list_append PySem.F.type_list_append mt_append (pv 4) (pa_cons (pe_callB (call_min2 rfl) (by rfl) B.min bt_min (pa_cons (pv 0) (pa_cons (pv 3) pa_nil))) pa_nil))))))
      (pss_one (ps_ret (pv 4)))))), ?_⟩
    obtain ⟨ts, h1, h2⟩ := ha.lg.at_
    have hn := paired_len h2
    have hl := ha.lg.len
    have hle := ha.le
    have hm : (ts.map V.ref).length = ts.length := List.length_map ..
    refine q_drop (ev_fn (ea_cons (ev_var rfl) (ea_cons (ev_var rfl) (ea_cons (ev_var rfl) ea_nil))) fun H4 e4 Q' k => ⟨c, t, l, ps, es, rfl, ha.mono e4, k⟩) fun H1 e1 => ?_
    refine q_asg (ev_lenTup (ev_var rfl) (ex_t e1 ha.st)) fun H2 e2 => ?_
    refine q_asgL (el_lst (ea_cons (ev_var rfl) ea_nil) (show 1 ≤ 100000 by decide)) fun p H3 hp e3 hp3 => ?_
    have e12 := e1.trans e2
    have e13 := e12.trans e3
    refine q_forL (a := l) (xs := ts.map V.ref) (ev_var rfl) (ex_l e13 h1) (fun i σ H' => ∃ y5 y6, σ = [some (.int (c : Int)), some (.ref t), some (.ref l), some (.int ((ps.length + misses (es.take i) : Nat) : Int)), some (.ref p), y5, y6] ∧ Ex H2 H' ∧ H' p = some (.lst (((List.range (i + 1)).map (szAt c ps.length es)).map natV))) (fun H4 e4 => ?_) (fun i σ H' _ hP => ?_) (fun i x σ H' hx hP => ?_) (fun σ H' hP => ?_)
    · refine ⟨none, none, ?_, e3.trans e4, ?_⟩
      · simp [L2.start, misses]
      · rw [e4 p _ hp3]
        have : szAt c ps.length es 0 = ps.length := by
          unfold szAt misses
          rw [List.take_zero]
          show min c (ps.length + 0) = ps.length
          omega
        simp [List.range_succ, this, natV]
    · obtain ⟨_, _, _, e, _⟩ := hP
      exact ex_l (e12.trans e) h1
    · obtain ⟨y5, y6, rfl, e, hp'⟩ := hP
      rw [List.getElem?_map] at hx
      obtain ⟨y, hy, rfl⟩ := Option.map_eq_some_iff.mp hx
      obtain ⟨v, hv, hT⟩ := paired_at' h2 hy
      refine ⟨y, [.str v.1, .str v.2], rfl, ex_t (e12.trans e) hT, rfl, .str v.1, [.str v.2], rfl, .str v.2, [], rfl, rfl, ?_⟩
      have step := misses_succ hv
      have hi : i < ts.length := (List.getElem?_eq_some_iff.mp hy).1
      have fin : ∀ (H5 : Hp), Ex H' H5 → ∃ z5 z6, [some (V.int (c : Int)), some (.ref t), some (.ref l), some (.int ((ps.length + misses (es.take (i + 1)) : Nat) : Int)), some (.ref p), some (.str v.1), some (.str v.2)] = [some (.int (c : Int)), some (.ref t), some (.ref l), some (.int ((ps.length + misses (es.take (i + 1)) : Nat) : Int)), some (.ref p), z5, z6] ∧ Ex H2 (upd H5 p (.lst (((List.range (i + 1)).map (szAt c ps.length es)).map natV ++ [.int ((min c (ps.length + misses (es.take (i + 1))) : Nat) : Int)]))) ∧
          (upd H5 p (.lst (((List.range (i + 1)).map (szAt c ps.length es)).map natV ++ [.int ((min c (ps.length + misses (es.take (i + 1))) : Nat) : Int)]))) p = some (.lst (((List.range (i + 1 + 1)).map (szAt c ps.length es)).map natV)) := fun H5 e5 => by
        refine ⟨_, _, rfl, Ex.mut (e.trans e5) hp, ?_⟩
        rw [upd_same, List.range_succ (n := i + 1), List.map_append, List.map_append]
        rfl
      have small : (((List.range (i + 1)).map (szAt c ps.length es)).map natV).length < 100000 := by
        rw [List.length_map, List.length_map, List.length_range]
        omega
      refine q_when (b := decide (V.str v.1 = V.str missS)) (et_test (ev_op (ev_var rfl) ev_c (rv_eq rfl))) (fun hb H4 e4 => ?_) (fun hb H4 e4 => ?_)
      · have isM : isMiss v = true := by
          unfold isMiss
          have := of_decide_eq_true hb
          exact decide_eq_true (V.str.inj this)
        rw [if_pos isM] at step
        refine s_aug rfl ev_c fun H5 e5 => ?_
        refine s_app (xs := ((List.range (i + 1)).map (szAt c ps.length es)).map natV) (v := .int ((min c (ps.length + misses (es.take (i + 1))) : Nat) : Int)) (e5 p _ (e4 p _ hp')) (ev_var rfl) ?_ small fun H6 e6 => ?_
        · refine ev_is (ev_cb (ea_cons (ev_var rfl) (ea_cons (ev_var rfl) ea_nil)) fun H7 e7 Q' k => ⟨_, _, rfl, k H7 (Ex.refl H7)⟩) ?_
          rw [← min_int, step]
          have : (((ps.length + misses (es.take i) : Nat) : Int) + 1) = ((ps.length + (misses (es.take i) + 1) : Nat) : Int) := by omega
          rw [this]
        · have := fin H6 ((e4.trans e5).trans e6)
          have cast : (((ps.length + misses (es.take i) : Nat) : Int) + 1) = ((ps.length + misses (es.take (i + 1)) : Nat) : Int) := by omega
          show ∃ y5 y6, [some (V.int (c : Int)), some (V.ref t), some (V.ref l), some (V.int (((ps.length + misses (es.take i) : Nat) : Int) + 1)), some (V.ref p), some (V.str v.1), some (V.str v.2)] = _ ∧ _ ∧ _
          rw [cast]
          exact this
      · have isM : ¬ isMiss v = true := by
          unfold isMiss
          intro z
          have z1 : v.1 = missS := of_decide_eq_true z
          rw [z1] at hb
          simp at hb
        rw [if_neg isM] at step
        refine s_app (xs := ((List.range (i + 1)).map (szAt c ps.length es)).map natV) (v := .int ((min c (ps.length + misses (es.take (i + 1))) : Nat) : Int)) (e4 p _ hp') (ev_var rfl) ?_ small fun H6 e6 => ?_
        · refine ev_is (ev_cb (ea_cons (ev_var rfl) (ea_cons (ev_var rfl) ea_nil)) fun H7 e7 Q' k => ⟨_, _, rfl, k H7 (Ex.refl H7)⟩) ?_
          rw [← min_int, step]
          rfl
        · have := fin H6 (e4.trans e6)
          rw [step] at this ⊢
          exact this
    · obtain ⟨y5, y6, rfl, e, hp'⟩ := hP
      rw [hm, hn] at hp'
      exact s_ret (ev_var rfl) fun H4 e4 => q p H4 (fresh_back e12 hp) (e12.trans (e.trans e4)) (e4 p _ hp')
end
end KB

set_option Elab.async false
set_option linter.all false
set_option maxRecDepth 100000
set_option maxHeartbeats 4000000
/-! KP4: evicting_misses at valid arguments. -/
namespace KB
open PySem L2 Evl
section
variable {P : Program} {w : World} {K : PySem.W.Frag} {mg : Str → Option Value} {base : Heap}
theorem scEvicting : FnScope ["capacity", "start", "log", "before", "e"] ["capacity", "start", "log"] (defScope sEvicting) := ⟨rfl, rfl, rfl, by decide +kernel, rfl, by decide +kernel, by decide +kernel⟩
def spEvicting (K : PySem.W.Frag) : Sp := fun vs H Q _ => ∃ (c : Nat) (t l : Addr) (ps : List Str) (es : List Ev1), vs = [.int (c : Int), .ref t, .ref l] ∧ Args3 K H c t l ps es ∧ RetL ((lates c ps.length es).map natV) H Q
theorem dec_int (a b : Nat) : decide (V.int (a : Int) = V.int (b : Int)) = decide (a = b) := by
  by_cases h : a = b
  · rw [decide_eq_true h, h, decide_eq_true rfl]
  · rw [decide_eq_false h, decide_eq_false fun z => h (by injection z with z; omega)]
theorem dec_miss (v : Ev1) : decide (V.str v.1 = V.str missS) = isMiss v := by
  unfold isMiss
  by_cases h : v.1 = missS
  · rw [decide_eq_true h, h, decide_eq_true rfl]
  · rw [decide_eq_false h, decide_eq_false fun z => h (V.str.inj z)]
theorem szs_at {c n : Nat} {es : List Ev1} {i : Nat} (h : i ≤ es.length) : ((szs c n es).map natV)[i]? = some (.int (szAt c n es i : Nat)) := by
  unfold szs
  rw [List.getElem?_map, List.getElem?_map, List.getElem?_range (by omega)]
  rfl
theorem ok_evicting {f : Addr} {fd : FuncData} (F : Fun K "evicting_misses" "evicting_misses" sEvicting f fd) (B : Bn mg) (cS : Cl P w K mg base 7 "sizes" ["capacity", "start", "log"] (spSizes K)) : FnOk P w K mg base CX0 8 f fd ["capacity", "start", "log"] (spEvicting K) := by
  refine F.ok scEvicting (fun vs H Q E h => ?_) (fun cdv A outer s H vs Q E hr h => ?_)
  · obtain ⟨c, t, l, ps, es, rfl, _⟩ := h
    rfl
  · obtain ⟨c, t, l, ps, es, rfl, ha, q⟩ := h
    obtain ⟨tm, mm⟩ := B.MISS
    refine ⟨_, pss_cons (ps_set (i := 3) scEvicting.nd rfl (Or.inr rfl) (pe_cl cS hr (pa_cons (pv 0) (pa_cons (pv 1) (pa_cons (pv 2) pa_nil)))))
      (pss_one (ps_ret (pe_lc (own := [("e", 4)]) (g := gName 4) rfl scEvicting.nd (pi_range1 (by rfl) B.range (pa_cons (pe_callB call_len_seq (by rfl) B.len bt_len (pa_cons (pv 2) pa_nil)) pa_nil))
        (blkOk_by (N := ["capacity", "start", "log", "before", "e"]) (sc := defScope sEvicting) (by decide +kernel)) (fun _ _ _ _ _ => pg_name (i := 4) scEvicting.nd rfl (Or.inl rfl))
        (fun _ _ _ _ _ => pts_one (PW.pt (pw_and (pt_cmpR op_eq (pe_ix (r := rIxT K) ix_tup (pe_ix (r := rIxL K) ix_list (pv 2) (pv 4) (fun _ _ => rfl)) pe_int (fun _ _ => rfl)) (pe_glob (v := .str "miss") (by rfl) mm ⟨_, rfl⟩) (nomark _))
          (pw_and1 (pt_cmpR op_eq (pe_ix (r := rIxL K) ix_list (pv 3) (pv 4) (fun _ _ => rfl)) (pv 0) (nomark _)))))) (fun _ _ _ _ _ => pv 4)))), ?_⟩
    obtain ⟨ts, h1, h2⟩ := ha.lg.at_
    have hn := paired_len h2
    have hl := ha.lg.len
    refine q_asgL (el_fn (ea_cons (ev_var rfl) (ea_cons (ev_var rfl) (ea_cons (ev_var rfl) ea_nil))) fun H4 e4 Q' k => ⟨c, t, l, ps, es, rfl, ha.mono e4, k⟩) fun p H1 hp e1 hp1 => ?_
    refine s_retL (xs := given (es.length : Int).toNat (lateB c ps.length es) natV) (el_lcR1 (n := (es.length : Int)) (lateB c ps.length es) natV ?_ (by omega) (fun _ => rfl) (fun i H2 e2 hi => ?_) (fun i H2 e2 hi _ => ev_var rfl)) fun p2 H2 hp2 e2 h3 => q p2 H2 (fresh_back e1 hp2) (e1.trans e2) h3
    · refine ea_cons (ev_is (ev_len (ev_var rfl) (ex_l e1 h1)) ?_) ea_nil
      rw [List.length_map, hn]
    · have hi' : i < es.length := by omega
      obtain ⟨y, hy, hT⟩ := paired_at h2 (List.getElem?_eq_getElem hi')
      have hv : es[i]? = some es[i] := List.getElem?_eq_getElem hi'
      have hts : (ts.map V.ref)[i]? = some (.ref y) := by rw [List.getElem?_map, hy]; rfl
      refine et_is (b := lateB c ps.length es i) (et_and (a := isMiss es[i]) (b := decide (szAt c ps.length es i = c)) (et_is (et_test (ev_op (ev_op (ev_op (ev_var rfl) (ev_var rfl) (rv_ixL (ex_l (e1.trans e2) h1) (atI_nat hts))) ev_c (rv_ixT (ex_t (e1.trans e2) hT) (atI_nat (j := 0) rfl))) ev_c (rv_eq rfl))) (dec_miss _)) fun _ =>
        et_is (et_test (ev_op (ev_op (ev_var rfl) (ev_var rfl) (rv_ixL (sq_of (e2 p _ hp1)) (atI_nat (szs_at (by omega))))) (ev_var rfl) (rv_eq rfl))) (dec_int _ _)) ?_
      unfold lateB
      rw [hv]
end
end KB

set_option Elab.async false
set_option linter.all false
set_option maxRecDepth 100000
set_option maxHeartbeats 4000000
/-! KL1: the law's source of numbers and its draws. -/
namespace KB
open PySem L2 Evl
/-- the abstract heap without a -/
def hid (H : Hp) (a : Addr) : Hp := fun b => if b = a then none else H b
theorem hid_self {H : Hp} {a : Addr} : hid H a a = none := if_pos rfl
theorem hid_ne {H : Hp} {a b : Addr} (h : b ≠ a) : hid H a b = H b := if_neg h
theorem hid_none {H : Hp} {a b : Addr} (h : H b = none) : hid H a b = none := by
  by_cases e : b = a
  · exact if_pos e
  · rw [hid_ne e]; exact h
theorem hid_some {H : Hp} {a b : Addr} {o : HO} (h : hid H a b = some o) : b ≠ a ∧ H b = some o := by
  by_cases e : b = a
  · rw [e, hid_self] at h
    cases h
  · rw [hid_ne e] at h
    exact ⟨e, h⟩
theorem ex_hid (H : Hp) (a : Addr) : Ex (hid H a) H := fun b o h => (hid_some h).2
theorem hidE {H H' : Hp} (e : Ex H H') (a : Addr) : Ex (hid H a) H' := (ex_hid H a).trans e
theorem ex_hid2 {H H1 H2 : Hp} {a : Addr} (e : Ex (hid H a) H1) (e2 : Ex (hid H1 a) H2) : Ex (hid H a) H2 := fun b o h => e2 b o (by rw [hid_ne (hid_some h).1]; exact e b o h)
/-- a fresh place was fresh all along -/
theorem fresh_hid {H H' : Hp} {a p : Addr} {o : HO} (e : Ex (hid H a) H') (ha : H' a = some o) (h : H' p = none) : H p = none := by
  have n : p ≠ a := fun z => by rw [z, ha] at h; cases h
  have q := fresh_back e h
  rw [hid_ne n] at q
  exact q
theorem sqt_hid {K : PySem.W.Frag} {H : Hp} {a t : Addr} {xs ys : List V} (h : SqT K H t xs) (ha : H a = some (.lst ys)) : SqT K (hid H a) t xs := by
  rcases h with (h | ⟨o, h⟩) | h
  · exact .inl (.inl (by rw [hid_ne (ne_of h ha (by intro z; cases z))]; exact h))
  · exact .inl (.inr ⟨o, by rw [hid_ne (ne_of h ha (by intro z; cases z))]; exact h⟩)
  · exact .inr h
theorem sql_hid {K : PySem.W.Frag} {H : Hp} {a t : Addr} {xs : List V} (h : SqL K H t xs) (ha : t ≠ a) : SqL K (hid H a) t xs := by
  rcases h with (h | ⟨o, h⟩) | h
  · exact .inl (.inl (by rw [hid_ne ha]; exact h))
  · exact .inl (.inr ⟨o, by rw [hid_ne ha]; exact h⟩)
  · exact .inr h
/-- the source at a, that has given at most B mixed numbers -/
def SrcAt (H : Hp) (a : Addr) (B : Int) : Prop := ∃ x y z : Int, H a = some (.lst [.int x, .int y, .int z]) ∧ 0 ≤ x ∧ 0 ≤ y ∧ y < 2 ^ 200 ∧ 0 ≤ z ∧ z ≤ B
theorem SrcAt.mono {H H' : Hp} {a : Addr} {B : Int} (e : Ex H H') (h : SrcAt H a B) : SrcAt H' a B := by
  obtain ⟨x, y, z, h, r⟩ := h
  exact ⟨x, y, z, e a _ h, r⟩
theorem SrcAt.le {H : Hp} {a : Addr} {B C : Int} (h : SrcAt H a B) (hb : B ≤ C) : SrcAt H a C := by
  obtain ⟨x, y, z, h, r1, r2, r3, r4, r5⟩ := h
  exact ⟨x, y, z, h, r1, r2, r3, r4, Int.le_trans r5 hb⟩
theorem SrcAt.is {H : Hp} {a : Addr} {B : Int} (h : SrcAt H a B) : ∃ xs, H a = some (.lst xs) := by
  obtain ⟨x, y, z, h, _⟩ := h
  exact ⟨_, h⟩
structure Bl (mg : Str → Option Value) : Prop where
  max : mg "max" = none
  abs : mg "abs" = none
  repr : mg "repr" = none
theorem bt_max : bootBuiltins "max" = some (.builtin "max") := by decide +kernel
theorem bt_abs : bootBuiltins "abs" = some (.builtin "abs") := by decide +kernel
theorem bt_repr : bootBuiltins "repr" = some (.builtin "repr") := by decide +kernel
section
variable {P : Program} {w : World} {K : PySem.W.Frag} {mg : Str → Option Value} {base : Heap}
theorem scSource : FnScope ["script", "k", "cell"] ["script", "k"] (defScope sSource) := ⟨rfl, rfl, rfl, by decide +kernel, rfl, by decide +kernel, by decide +kernel⟩
def spSource (K : PySem.W.Frag) : Sp := fun vs H Q _ => ∃ (a : Addr) (k : Nat) (ns : List Int), vs = [.ref a, .int (k : Int)] ∧ SqL K H a (ns.map V.int) ∧ k ≤ 100 ∧ ∀ p H2, H p = none → Ex H H2 → SrcAt H2 p 0 → Q (.ref p) H2
theorem cell_le {ns : List Int} {k : Nat} (h : k < ns.length) : atI (ns.map V.int) ((k : Nat) : Int) = some (V.int (ns.getD k 0)) := by
  refine atI_nat ?_
  rw [List.getElem?_map, List.getElem?_eq_getElem h, List.getD_eq_getElem?_getD, List.getElem?_eq_getElem h]
  rfl
theorem ok_source {f : Addr} {fd : FuncData} (F : Fun K "_law_source" "_law_source" sSource f fd) (B : Bn mg) (B2 : Bl mg) : FnOk P w K mg base CX0 1 f fd ["script", "k"] (spSource K) := by
  refine F.ok scSource (fun vs H Q E h => ?_) (fun cdv A outer s H vs Q E hr h => ?_)
  · obtain ⟨a, k, ns, rfl, _⟩ := h
    rfl
  · obtain ⟨a, k, ns, rfl, hs, hk, q⟩ := h
    refine ⟨_, pss_cons (ps_set (i := 2) scSource.nd rfl (Or.inl rfl) (pe_ifExp (pt_cmpR op_lt (pv 1) (pe_callB call_len_seq (by rfl) B.len bt_len (pa_cons (pv 0) pa_nil)) (nomark _)) (pe_ix ix_list (pv 0) (pv 1) (fun _ _ => rfl)) pe_int))
      (pss_one (ps_ret (pe_lst (pa_cons (pe_callB (call_max2 rfl) (by rfl) B2.max bt_max (pa_cons pe_int (pa_cons (pe_op op_sub (pe_callB call_abs (by rfl) B2.abs bt_abs (pa_cons (pv 2) pa_nil)) (pe_op op_pow pe_int pe_int)) pa_nil)))
        (pa_cons (pe_op op_add (pe_op op_mod (pv 2) (pe_op op_add (pe_op op_pow pe_int pe_int) pe_int)) (pe_op op_mul pe_int (pv 1))) (pa_cons pe_int pa_nil)))))), ?_⟩
    have hm : (ns.map V.int).length = ns.length := List.length_map ..
    refine q_asg (v := .int (ns.getD k 0)) (ev_if (b := decide ((k : Int) < ((ns.map V.int).length : Int))) (et_test (ev_op (ev_var rfl) (ev_len (ev_var rfl) hs) rv_I0)) (fun hb => ?_) (fun hb => ?_)) fun H1 e1 => ?_
    · rw [decide_eq_true_eq, hm] at hb
      exact ev_op (ev_var rfl) (ev_var rfl) (rv_ixL hs (cell_le (by omega)))
    · rw [decide_eq_false_iff_not, hm] at hb
      have e0 : ns.getD k 0 = 0 := by
        rw [List.getD_eq_getElem?_getD, List.getElem?_eq_none (by omega)]
        rfl
      rw [e0]
      exact ev_c
    · generalize ns.getD k 0 = c
      refine s_retL (xs := [.int (if (if c < 0 then -c else c) - 10 ^ (18 : Int).toNat > 0 then (if c < 0 then -c else c) - 10 ^ (18 : Int).toNat else 0), .int (c % (10 ^ (39 : Int).toNat + 7) + 27644437 * (k : Int)), .int 0]) (el_lst (ea_cons ?_ (ea_cons ?_ (ea_cons ev_c ea_nil))) (show 3 ≤ 100000 by decide)) fun p H2 hp e2 h2 => q p H2 (fresh_back e1 hp) (e1.trans e2) ⟨_, _, _, h2, ?_, ?_, ?_, by decide, by decide⟩
      · exact ev_cb (ea_cons ev_c (ea_cons (ev_op (ev_cb (ea_cons (ev_var rfl) ea_nil) fun H7 e7 Q' k => ⟨_, rfl, k H7 (Ex.refl H7)⟩) (ev_op ev_c ev_c (rv_I ⟨by decide, by decide, by decide⟩)) rv_I0) ea_nil)) fun H7 e7 Q' k => ⟨_, _, rfl, k H7 (Ex.refl H7)⟩
      · refine ev_op (ev_op (ev_var rfl) (ev_op (ev_op ev_c ev_c (rv_I ⟨by decide, by decide, by decide⟩)) ev_c rv_I0) (rv_I (show (0 : Int) < 10 ^ (39 : Int).toNat + 7 by decide))) (ev_op ev_c (ev_var rfl) (rv_I (.inl ⟨by decide, by decide⟩))) rv_I0
      · split <;> omega
      · have h1 : 0 ≤ c % (10 ^ (39 : Int).toNat + 7) := Int.emod_nonneg _ (by decide)
        omega
      · have h1 : c % (10 ^ (39 : Int).toNat + 7) < 10 ^ (39 : Int).toNat + 7 := Int.emod_lt_of_pos _ (by decide)
        have h2 : ((10 : Int) ^ (39 : Int).toNat + 7) + 27644437 * 100 < 2 ^ 200 := by decide
        have h3 : 27644437 * (k : Int) ≤ 27644437 * 100 := by omega
        generalize (10 : Int) ^ (39 : Int).toNat + 7 = m at h1 h2 ⊢
        generalize (2 : Int) ^ 200 = b at h2 ⊢
        omega

/-! _law_draw -/
theorem scDraw : FnScope ["source", "bound", "found", "mixed"] ["source", "bound"] (defScope sDraw) := ⟨rfl, rfl, rfl, by decide +kernel, rfl, by decide +kernel, by decide +kernel⟩
def spDraw : Sp := fun vs H Q _ => ∃ (a : Addr) (b B : Int), vs = [.ref a, .int b] ∧ 0 < b ∧ b ≤ 100000 ∧ SrcAt H a B ∧ B ≤ 1000000 ∧ ∀ d H2, 0 ≤ d → d < b → Ex (hid H a) H2 → SrcAt H2 a (B + 1) → Q (.int d) H2
theorem mix_fit {y z : Int} (h1 : 0 ≤ y) (h2 : y < 2 ^ 200) (h3 : 0 ≤ z) (h4 : z ≤ 1000002) : PowFit (y + 86028121 * z) 3 := by
  refine ⟨by decide, by decide, ?_⟩
  have h5 : y + 86028121 * z < 2 ^ 201 := by
    have : (2 : Int) ^ 201 = 2 ^ 200 + 2 ^ 200 := by decide
    have h6 : (86028121 * 1000002 : Int) < 2 ^ 200 := by decide
    rw [this]
    generalize (2 : Int) ^ 200 = b at *
    omega
  have h7 : (2 : Int) ^ 201 < 2 ^ 250 := by decide
  have h8 : (y + 86028121 * z).natAbs < 2 ^ 250 := by
    have h9 : ((y + 86028121 * z).natAbs : Int) < ((2 ^ 250 : Nat) : Int) := by
      rw [Int.natAbs_of_nonneg (by omega)]
      exact Int.lt_trans h5 h7
    exact Int.ofNat_lt.mp h9
  exact h8
theorem mix_fit2 {m z : Int} (h1 : 0 ≤ m) (h2 : m < 10 ^ (38 : Int).toNat + 133) (h3 : 0 ≤ z) (h4 : z ≤ 1000002) : PowFit (m + 32452843 * z) 3 := by
  refine ⟨by decide, by decide, ?_⟩
  have h5 : m + 32452843 * z < 2 ^ 250 := by
    have h6 : (10 : Int) ^ (38 : Int).toNat + 133 + 32452843 * 1000002 < 2 ^ 250 := by decide
    generalize (10 : Int) ^ (38 : Int).toNat + 133 = c at *
    generalize (2 : Int) ^ 300 = b at *
    omega
  have h9 : ((m + 32452843 * z).natAbs : Int) < ((2 ^ 250 : Nat) : Int) := by
    rw [Int.natAbs_of_nonneg (by omega)]
    exact h5
  exact Int.ofNat_lt.mp h9
theorem ok_draw {f : Addr} {fd : FuncData} (F : Fun K "_law_draw" "_law_draw" sDraw f fd) : FnOk P w K mg base CX0 1 f fd ["source", "bound"] spDraw := by
  refine F.ok scDraw (fun vs H Q E h => ?_) (fun cdv A outer s H vs Q E hr h => ?_)
  · obtain ⟨a, b, B, rfl, _⟩ := h
    rfl
  · obtain ⟨a, b, B, rfl, hb0, hb1, hS, hB, q⟩ := h
    obtain ⟨x, y, z, ha, hx, hy, hy2, hz, hz2⟩ := hS
    refine ⟨_, pss_cons (ps_if (pt_cmpR op_gt (pe_ix ix_list (pv 0) pe_int (fun _ _ => rfl)) pe_int (nomark _))
        (pss_cons (ps_set (i := 2) scDraw.nd rfl (Or.inl rfl) (pe_op op_mod (pe_ix ix_list (pv 0) pe_int (fun _ _ => rfl)) (pv 1)))
        (pss_cons (ps_asg (pe_op op_fdiv (pe_ix ix_list (pv 0) pe_int (fun _ _ => rfl)) (pv 1)) (pg_sub (pv 0) pe_int set_list))
        (pss_one (ps_ret (pv 2))))) pss_nil)
      (pss_cons (ps_asg (pe_op op_add (pe_ix ix_list (pv 0) pe_int (fun _ _ => rfl)) pe_int) (pg_sub (pv 0) pe_int set_list))
      (pss_cons (ps_set (i := 3) scDraw.nd rfl (Or.inl rfl) (pe_op op_mod (pe_op op_powF (pe_op op_add (pe_ix ix_list (pv 0) pe_int (fun _ _ => rfl)) (pe_op op_mul pe_int (pe_ix ix_list (pv 0) pe_int (fun _ _ => rfl)))) pe_int) (pe_op op_add (pe_op op_pow pe_int pe_int) pe_int)))
      (pss_cons (ps_set (i := 3) scDraw.nd rfl (Or.inl rfl) (pe_op op_mod (pe_op op_powF (pe_op op_add (pv 3) (pe_op op_mul pe_int (pe_ix ix_list (pv 0) pe_int (fun _ _ => rfl)))) pe_int) (pe_op op_add (pe_op op_pow pe_int pe_int) pe_int)))
      (pss_one (ps_ret (pe_op op_mod (pe_op op_fdiv (pv 3) pe_int) (pv 1))))))), ?_⟩
    have ix : ∀ {H' : Hp} {σ : L2.St} {xs : List V} (j : Nat) {v : V}, σ[0]? = some (some (.ref a)) → H' a = some (.lst xs) → xs[j]? = some v → Ev (tOp (rIxL K) (tVar 0) (tC (.int (j : Int)))) σ H' v := fun {_ _ _} j {_} hv hh hj => ev_op (ev_var hv) ev_c (rv_ixL (sq_of hh) (atI_nat hj))
    refine q_when (b := decide (0 < x)) (et_test (ev_op (ix 0 rfl ha rfl) ev_c rv_I0)) (fun hc H1 e1 => ?_) (fun hc H1 e1 => ?_)
    · have a1 := e1 a _ ha
      refine q_asg (ev_op (ix 0 rfl a1 rfl) (ev_var rfl) (rv_I hb0)) fun H2 e2 => ?_
      have a2 := e2 a _ a1
      refine q_setL (j := 0) a2 (ev_op (ix 0 rfl a2 rfl) (ev_var rfl) (rv_I ⟨hb0, by omega⟩)) (ev_var rfl) ev_c (show 0 < 3 by decide) fun H3 e3 => ?_
      refine s_ret (ev_var rfl) fun H4 e4 => q _ H4 (Int.emod_nonneg _ (by omega)) (Int.emod_lt_of_pos _ hb0) ?_ ⟨_, y, z, e4 a _ upd_same, Int.ediv_nonneg hx (by omega), hy, hy2, hz, by omega⟩
      exact (Ex.mut (hidE ((e1.trans e2).trans e3) a) hid_self).trans e4
    · have a1 := e1 a _ ha
      refine q_setL (j := 2) a1 (ev_op (ix 2 rfl a1 rfl) ev_c rv_I0) (ev_var rfl) ev_c (show 2 < 3 by decide) fun H2 e2 => ?_
      have a2 : (upd H2 a (.lst [.int x, .int y, .int (z + 1)])) a = _ := upd_same
      have ex2 := Ex.mut (hidE (e1.trans e2) a) (p := a) (o := .lst [.int x, .int y, .int (z + 1)]) hid_self
      show _
      refine q_asg (ev_op (ev_op (ev_op (ix 1 rfl a2 rfl) (ev_op ev_c (ix 2 rfl a2 rfl) (rv_I (.inl ⟨by decide, by decide⟩))) rv_I0) ev_c (rv_I (mix_fit hy hy2 (by omega) (by omega)))) (ev_op (ev_op ev_c ev_c (rv_I ⟨by decide, by decide, by decide⟩)) ev_c rv_I0) (rv_I (show (0 : Int) < 10 ^ (38 : Int).toNat + 133 by decide))) fun H3 e3 => ?_
      have a3 := e3 a _ a2
      have m0 : 0 ≤ (y + 86028121 * (z + 1)) ^ (3 : Int).toNat % (10 ^ (38 : Int).toNat + 133) := Int.emod_nonneg _ (by decide)
      have m1 : (y + 86028121 * (z + 1)) ^ (3 : Int).toNat % (10 ^ (38 : Int).toNat + 133) < 10 ^ (38 : Int).toNat + 133 := Int.emod_lt_of_pos _ (by decide)
      generalize (y + 86028121 * (z + 1)) ^ (3 : Int).toNat % (10 ^ (38 : Int).toNat + 133) = m at m0 m1 ⊢
      refine q_asg (ev_op (ev_op (ev_op (ev_var rfl) (ev_op ev_c (ix 2 rfl a3 rfl) (rv_I (.inl ⟨by decide, by decide⟩))) rv_I0) ev_c (rv_I (mix_fit2 m0 m1 (by omega) (by omega)))) (ev_op (ev_op ev_c ev_c (rv_I ⟨by decide, by decide, by decide⟩)) ev_c rv_I0) (rv_I (show (0 : Int) < 10 ^ (37 : Int).toNat + 43 by decide))) fun H4 e4 => ?_
      refine s_ret (ev_op (ev_op (ev_var rfl) ev_c (rv_I ⟨by decide, by decide⟩)) (ev_var rfl) (rv_I hb0)) fun H5 e5 => q _ H5 (Int.emod_nonneg _ (by omega)) (Int.emod_lt_of_pos _ hb0) ?_ ?_
      · exact ((ex2.trans e3).trans e4).trans e5
      · exact ⟨x, y, z + 1, e5 a _ (e4 a _ a3), hx, hy, hy2, by omega, by omega⟩
end
end KB

set_option Elab.async false
set_option linter.all false
set_option maxRecDepth 100000
set_option maxHeartbeats 4000000
/-! KL2: the law's pages. -/
namespace KB
open PySem L2 Evl

/-! ### names -/
def nameAt (k : Nat) : Str := ⟨#[97 + k / 26, 97 + k % 26]⟩
def styled (s k : Nat) : Str := match s with
  | 0 => nameAt k ++ "zy"
  | 1 => nameAt k
  | 2 => nameAt k ++ "q"
  | _ => "zy" ++ nameAt k
def specials : List Str := ["a", "b", "aa", "ab", "aaaa", "aaab", "zzzz", "hit", "miss", "z"]
def plainNames (s n : Nat) : List Str := (List.range n).map (styled s)
def allNames (s : Nat) : List Str := if s = 2 then specials ++ plainNames 2 160 else plainNames s 160
def drawnNames (s n : Nat) : List Str := if s = 2 then (specials ++ plainNames 2 n).take n else plainNames s n
theorem plain_take (s : Nat) {n : Nat} (h : n ≤ 160) : (plainNames s 160).take n = plainNames s n := by
  unfold plainNames
  rw [← List.map_take, List.take_range, Nat.min_eq_left h]
theorem drawn_take {s n : Nat} (h : n ≤ 160) : drawnNames s n = (allNames s).take n := by
  unfold drawnNames allNames
  by_cases e : s = 2
  · subst e
    rw [if_pos rfl, if_pos rfl, List.take_append, List.take_append]
    congr 1
    rw [plain_take 2 (show n - specials.length ≤ 160 by omega)]
    have := plain_take 2 h
    unfold plainNames
    rw [← List.map_take, List.take_range]
    congr 1
    congr 1
    omega
  · rw [if_neg e, if_neg e, plain_take s h]
def styledL (s k : Nat) : List Nat := match s with
  | 0 => [97 + k / 26, 97 + k % 26, 122, 121]
  | 1 => [97 + k / 26, 97 + k % 26]
  | 2 => [97 + k / 26, 97 + k % 26, 113]
  | _ => [122, 121, 97 + k / 26, 97 + k % 26]
theorem styled_cps : ∀ s k, (styled s k).cps.toList = styledL s k
  | 0, _ => rfl
  | 1, _ => rfl
  | 2, _ => rfl
  | _ + 3, _ => rfl
theorem styledL_inj : ∀ s a b, styledL s a = styledL s b → a = b
  | 0, a, b, h => by
    simp only [styledL, List.cons.injEq] at h
    omega
  | 1, a, b, h => by
    simp only [styledL, List.cons.injEq] at h
    omega
  | 2, a, b, h => by
    simp only [styledL, List.cons.injEq] at h
    omega
  | _ + 3, a, b, h => by
    simp only [styledL, List.cons.injEq] at h
    omega
theorem styled_inj {s a b : Nat} (h : styled s a = styled s b) : a = b := styledL_inj s a b (by rw [← styled_cps, ← styled_cps, h])
theorem plain_nodup (s n : Nat) : (plainNames s n).Nodup := List.Pairwise.map _ (fun a b hab e => hab (styled_inj e)) List.nodup_range
theorem lets_at : ∀ j, j < 26 → LETS[j]? = some (97 + j) := by decide
theorem lets_mem {j : Nat} (h : j < 26) : 97 + j ∈ LETS := List.mem_of_getElem? (lets_at j h)
theorem styled_page : ∀ (s k : Nat), k < 676 → pageB (styled s k) = true := by
  intro s k hk
  have m1 : 97 + k / 26 ∈ LETS := lets_mem (by omega)
  have m2 : 97 + k % 26 ∈ LETS := lets_mem (by omega)
  have m3 : 122 ∈ LETS := by decide
  have m4 : 121 ∈ LETS := by decide
  have m5 : 113 ∈ LETS := by decide
  have hl : (styled s k).length = (styledL s k).length := by
    rw [← styled_cps, Array.length_toList]
    rfl
  unfold pageB
  rw [hl, styled_cps]
  match s with
  | 0 => simp [styledL, m1, m2, m3, m4, m5]
  | 1 => simp [styledL, m1, m2, m3, m4, m5]
  | 2 => simp [styledL, m1, m2, m3, m4, m5]
  | _ + 3 => simp [styledL, m1, m2, m3, m4, m5]
theorem specials_good : (∀ p ∈ specials, pageB p = true ∧ p.cps.toList.getLast? ≠ some 113) ∧ specials.Nodup := by decide +kernel
theorem all_good (s : Nat) : (∀ p ∈ allNames s, pageB p = true) ∧ (allNames s).Nodup := by
  have plain : ∀ p ∈ plainNames s 160, pageB p = true := fun p hp => by
    obtain ⟨k, hk, rfl⟩ := List.mem_map.mp hp
    have := List.mem_range.mp hk
    exact styled_page s k (by omega)
  unfold allNames
  by_cases e : s = 2
  · subst e
    rw [if_pos rfl]
    refine ⟨fun p hp => ?_, List.nodup_append.mpr ⟨specials_good.2, plain_nodup 2 160, fun a ha b hb z => ?_⟩⟩
    · rcases List.mem_append.mp hp with h | h
      · exact (specials_good.1 p h).1
      · exact plain p h
    · obtain ⟨k, hk, rfl⟩ := List.mem_map.mp hb
      refine (specials_good.1 a ha).2 ?_
      rw [z, styled_cps]
      rfl
  · rw [if_neg e]
    exact ⟨plain, plain_nodup s 160⟩
theorem all_len (s : Nat) : 160 ≤ (allNames s).length := by
  unfold allNames plainNames
  split <;> simp [specials]
theorem drawn_good {s n : Nat} (hn : n ≤ 160) : Pages (drawnNames s n) ∧ (drawnNames s n).length = n := by
  rw [drawn_take hn]
  obtain ⟨h1, h2⟩ := all_good s
  have hl := all_len s
  refine ⟨⟨fun p hp => h1 p (List.mem_of_mem_take hp), h2.sublist (List.take_sublist _ _), ?_⟩, ?_⟩
  · rw [List.length_take]
    omega
  · rw [List.length_take]
    omega
theorem Pages.perm {ps qs : List Str} (h : Pages ps) (p : qs.Perm ps) : Pages qs := ⟨fun x hx => h.all x (p.mem_iff.mp hx), p.nodup_iff.mpr h.nd, by rw [p.length_eq]; exact h.len⟩
end KB

set_option Elab.async false
set_option linter.all false
set_option maxRecDepth 100000
set_option maxHeartbeats 4000000
/-! KL3: the law's pages, walked. -/
namespace KB
open PySem L2 Evl
section
variable {K : PySem.W.Frag} {σ : L2.St} {H H' : Hp} {ta tb tc te tx : TE} {x y z v : V} {D : Ends}
theorem ev_catS {a b : Str} (ha : Ev ta σ H (.str a)) (hb : Ev tb σ H (.str b)) (hl : a.length + b.length ≤ 1000) :
    Ev (tOp (fun x y H Q => ∃ i j, x = .str i ∧ y = .str j ∧ i.length + j.length ≤ sizeLine ∧ Q (.str (i ++ j)) H) ta tb) σ H (.str (a ++ b)) := ev_op ha hb fun H1 _ Q q => ⟨a, b, rfl, rfl, Nat.le_trans hl (by decide), q H1 (Ex.refl H1)⟩
/-- a draw, wherever it stands -/
theorem w_draw {i : Nat} {a : Addr} {b B : Int} {Q : VK} (hs : σ[i]? = some (some (.ref a))) (hb : Ev tb σ H (.int b)) (h1 : 0 < b) (h2 : b ≤ 100000) (S : SrcAt H a B) (hB : B ≤ 1000000) (k : ∀ d H', 0 ≤ d → d < b → Ex (hid H a) H' → SrcAt H' a (B + 1) → Q (.int d) H') :
    tCall spDraw [] E0 (tCons (tVar i) (tCons tb tNil)) σ H Q :=
  ⟨.ref a, hs, hb H (Ex.refl H) _ fun H1 e1 => ⟨a, b, B, rfl, h1, h2, S.mono e1, hB, fun d H2 d0 d1 e2 S2 => k d H2 d0 d1 (ex_hid2 (hidE e1 a) e2) S2⟩⟩
/-- a comprehension over range(n) whose element may change what is told -/
theorem w_lcR {ta : TA} {j n : Nat} {vs : List Nat} {Q : VK} (h : EvA ta σ H [.int (n : Int)]) (hn : n ≤ 40000) (Pv : Addr → Nat → Hp → Prop) (h0 : ∀ Dl H1, H1 Dl = none → Ex H H1 → Pv Dl 0 (upd H1 Dl (.lst [])))
    (hw : ∀ x, wipe ((wipe σ vs).set j (some x)) vs = wipe σ vs)
    (hs : ∀ Dl i H1, i < n → Pv Dl i H1 → te ((wipe σ vs).set j (some (.int (i : Int)))) H1 fun y H4 => ∃ acc, H4 Dl = some (.lst acc) ∧ acc.length < sizeLine ∧ Pv Dl (i + 1) (upd H4 Dl (.lst (acc ++ [y]))))
    (hd : ∀ Dl H1, Pv Dl n H1 → Q (.ref Dl) H1) : tLc (iRng1 ta) (gName j) tYes te vs σ H Q :=
  h H (Ex.refl H) _ fun H1 e1 => ⟨(n : Int), rfl, by omega, by omega, fun Dl hD => lc_range (lo := 0) (n := n) (Pv Dl) (h0 Dl H1 hD e1) (fun i H' hi p => by
    have e0 : (0 : Int) + (i : Int) = (i : Int) := Int.zero_add _
    show wipe ((wipe σ vs).set j (some (.int ((0 : Int) + (i : Int))))) vs = wipe σ vs ∧ (if true = true then te ((wipe σ vs).set j (some (.int ((0 : Int) + (i : Int))))) H' fun y H4 => ∃ acc, H4 Dl = some (.lst acc) ∧ acc.length < sizeLine ∧ Pv Dl (i + 1) (upd H4 Dl (.lst (acc ++ [y]))) else Pv Dl (i + 1) H')
    rw [e0, if_pos rfl]
    exact ⟨hw _, hs Dl i H' hi p⟩) (fun H' p => hd Dl H' p)⟩
/-- a for over range(n), in the midst of a block -/
theorem q_forN {ta : TA} {tu tz : TS} {j n : Nat} (h : EvA ta σ H [.int (n : Int)]) (hn : n ≤ 100000) (Pv : Nat → L2.St → Hp → Prop) (h0 : ∀ H1, Ex H H1 → Pv 0 σ H1)
    (hs : ∀ (i : Nat) σ' H', i < n → Pv i σ' H' → tu { D with nx := Pv (i + 1), ct := Pv (i + 1), bk := tz D } (σ'.set j (some (.int (i : Int)))) H') (hd : ∀ σ' H', Pv n σ' H' → tz D σ' H') : tSeq (tFor (iRng1 ta) (gName j) tu) tz D σ H :=
  q_forR1 (n := (n : Int)) h (by omega) Pv h0 (fun i σ' H' hi p => hs i σ' H' (by omega) p) fun σ' H' p => hd σ' H' p
end
section
variable {P : Program} {w : World} {K : PySem.W.Frag} {mg : Str → Option Value} {base : Heap}
theorem scPages : FnScope ["source", "count", "letters", "style", "names", "k", "name"] ["source", "count"] (defScope sPages) := ⟨rfl, rfl, rfl, by decide +kernel, rfl, by decide +kernel, by decide +kernel⟩
def spPages : Sp := fun vs H Q _ => ∃ (a : Addr) (n : Nat) (B : Int), vs = [.ref a, .int (n : Int)] ∧ 1 ≤ n ∧ n ≤ 160 ∧ SrcAt H a B ∧ B ≤ 900000 ∧
  ∀ p ps H2, H p = none → Ex (hid H a) H2 → SrcAt H2 a (B + 161) → Pages ps → ps.length = n → H2 p = some (.lst (ps.map V.str)) → Q (.ref p) H2
abbrev ALPHA : Str := "abcdefghijklmnopqrstuvwxyz"
theorem alpha_at {H : Hp} {σ : L2.St} {ta tb : TE} {j : Nat} (ha : Ev ta σ H (.str ALPHA)) (hb : Ev tb σ H (.int (j : Int))) (hj : j < 26) : Ev (tOp rIxS ta tb) σ H (.str ⟨#[97 + j]⟩) :=
  ev_op ha hb (rv_ixS (by decide) (atI_nat (lets_at j hj)))
theorem styled_ix (k : Nat) {d : Int} (h0 : 0 ≤ d) (h1 : d < 4) : atI [V.str (nameAt k ++ "zy"), V.str (nameAt k), V.str (nameAt k ++ "q"), V.str ("zy" ++ nameAt k)] d = some (V.str (styled d.toNat k)) := by
  have : d = 0 ∨ d = 1 ∨ d = 2 ∨ d = 3 := by omega
  rcases this with rfl | rfl | rfl | rfl <;> rfl
theorem take_cut (xs : List V) (n : Nat) : cutV xs none (some (n : Int)) = xs.take n := by
  unfold cutV
  rw [HT.sIx_none, HT.sIx_nat, List.drop_zero, Nat.sub_zero]
  by_cases h : n ≤ xs.length
  · rw [Nat.min_eq_left h]
  · rw [Nat.min_eq_right (by omega), List.take_length, List.take_of_length_le (by omega)]
theorem seq_nat {g : Int} {n : Nat} (h0 : 0 ≤ g) (h : g < n) : seqIndex? g n = some g.toNat := by
  unfold seqIndex?
  simp only [show ¬ g < 0 by omega, if_false]
  rw [if_pos]
  simp [h0, h]
theorem erase_map {α β : Type} (f : α → β) : ∀ (l : List α) (k : Nat), (l.map f).eraseIdx k = (l.eraseIdx k).map f
  | [], k => by simp
  | a :: l, 0 => rfl
  | a :: l, k + 1 => by
    have ih := erase_map f l k
    simp [ih]
theorem erase_len {α : Type} : ∀ (l : List α) (k : Nat), k < l.length → (l.eraseIdx k).length + 1 = l.length
  | [], k, h => absurd h (Nat.not_lt_zero _)
  | a :: l, 0, _ => rfl
  | a :: l, k + 1, h => by
    have ih := erase_len l k (by simpa using h)
    simp [ih]
theorem perm_pop {α : Type} : ∀ (l : List α) (k : Nat) (x : α), l[k]? = some x → l.Perm (x :: l.eraseIdx k)
  | [], k, x, h => by simp at h
  | a :: l, 0, x, h => by
    have e : a = x := by simpa using h
    subst e
    exact List.Perm.refl _
  | a :: l, k + 1, x, h => by
    have ih := perm_pop l k x (by simpa using h)
    exact (ih.cons a).trans (List.Perm.swap x a _)
theorem ok_pages {f : Addr} {fd : FuncData} (F : Fun K "_law_pages" "_law_pages" sPages f fd) (B0 : Bn mg) (cD : Cl P w K mg base 1 "_law_draw" ["source", "bound"] spDraw) : FnOk P w K mg base CX0 2 f fd ["source", "count"] spPages := by
  refine F.ok scPages (fun vs H Q E h => ?_) (fun cdv A outer s H vs Q E hr h => ?_)
  · obtain ⟨a, n, B, rfl, _⟩ := h
    rfl
  · obtain ⟨a, n, B, rfl, hn1, hn2, hS, hB, q⟩ := h
    refine ⟨_, pss_cons (ps_set (i := 2) scPages.nd rfl (Or.inl rfl) pe_str)
      (pss_cons (ps_asg (pe_tup (pa_cons (pe_cl cD hr (pa_cons (pv 0) (pa_cons pe_int pa_nil))) (pa_cons (pe_lst pa_nil) pa_nil))) (pg_tup rfl (pgs_cons (pg_name (i := 3) scPages.nd rfl (Or.inl rfl)) (pgs_cons (pg_name (i := 4) scPages.nd rfl (Or.inr rfl)) pgs_nil))))
      (pss_cons (ps_for PassesOwn.never rfl (pi_range1 (by rfl) B0.range (pa_cons (pv 1) pa_nil)) (pg_name (i := 5) scPages.nd rfl (Or.inl rfl))
        (pss_cons (ps_set (i := 6) scPages.nd rfl (Or.inl rfl) (pe_op op_add_str (pe_ix ix_str (pv 2) (pe_op op_fdiv (pv 5) pe_int) (fun _ _ => rfl)) (pe_ix ix_str (pv 2) (pe_op op_mod (pv 5) pe_int) (fun _ _ => rfl))))
        (pss_one (ps_expr (pe_bm PySem.F.plainAttrs_list PySem.F.slot_list_append PySem.F.type_list_append mt_append (pv 4) (pa_cons (pe_ix ix_list (pe_lst (pa_cons (pe_op op_add_str (pv 6) pe_str) (pa_cons (pv 6) (pa_cons (pe_op op_add_str (pv 6) pe_str) (pa_cons (pe_op op_add_str pe_str (pv 6)) pa_nil))))) (pv 3) (fun _ _ => rfl)) pa_nil))))))
      (pss_cut (ps_if (pt_cmpR op_eq (pv 3) pe_int (nomark _)) (pss_one (ps_set (i := 4) scPages.nd rfl (Or.inr rfl) (pe_slice sl_list (pe_op op_cat (pe_lst (pa_cons pe_str (pa_cons pe_str (pa_cons pe_str (pa_cons pe_str (pa_cons pe_str (pa_cons pe_str (pa_cons pe_str (pa_cons pe_str (pa_cons pe_str (pa_cons pe_str pa_nil))))))))))) (pv 4)) po_none (po_some (pv 1))))) pss_nil)
      (pss_one (ps_ret (pe_lc (own := [("k", 5)]) (g := gName 5) (tt := tYes) (te := tBM K "list" rPopAt (tVar 4) (tCons (tCall spDraw [] E0 (tCons (tVar 0) (tCons (tCB (rLenS K) (tCons (tVar 4) tNil)) tNil))) tNil)) rfl scPages.nd (pi_range1 (by rfl) B0.range (pa_cons (pv 1) pa_nil)) (blkOk_by (N := ["source", "count", "letters", "style", "names", "k", "name"]) (sc := defScope sPages) (by decide +kernel))
        (fun _ _ _ _ _ => pg_name (i := 5) scPages.nd rfl (Or.inl rfl)) (fun _ _ _ _ _ => pts_nil)
        (fun _ _ _ _ _ => pe_bm PySem.F.plainAttrs_list PySem.F.slot_list_pop PySem.F.type_list_pop mt_popAt (pv 4) (pa_cons (pe_cl cD hr (pa_cons (pv 0) (pa_cons (pe_callB call_len_seq (by rfl) B0.len bt_len (pa_cons (pv 4) pa_nil)) pa_nil))) pa_nil)))))))), ?_⟩
    refine q_asg ev_c fun H1 e1 => ?_
    -- style, names
    show tCall spDraw [] E0 (tCons (tVar 0) (tCons (tC (.int 4)) tNil)) _ H1 _
    refine w_draw rfl ev_c (by decide) (by decide) (hS.mono e1) (by omega) fun d H2 d0 d1 e2 S2 => ?_
    have k2 : Ex (hid H a) H2 := ex_hid2 (hidE e1 a) e2
    obtain ⟨xs2, a2⟩ := S2.is
    refine ⟨Nat.zero_le _, fun nm hnm => ⟨by show 2 ≤ sizeLine; decide, fun T hT => ?_⟩⟩
    have nmT : nm ≠ T := fun z => by rw [z, upd_same] at hT; cases hT
    have anm : a ≠ nm := fun z => by rw [z, hnm] at a2; cases a2
    have k3 : Ex H2 (upd (upd H2 nm (.lst [])) T (.tup [.int d, .ref nm])) := (Ex.new hnm).trans (Ex.new hT)
    have nm3 : (upd (upd H2 nm (.lst [])) T (.tup [.int d, .ref nm])) nm = some (.lst []) := by rw [upd_ne nmT, upd_same]
    refine ⟨T, _, rfl, .inl (.inl upd_same), rfl, .int d, [.ref nm], rfl, .ref nm, [], rfl, rfl, ?_⟩
    generalize upd (upd H2 nm (.lst [])) T (.tup [.int d, .ref nm]) = H3 at k3 nm3
    have fnm : H nm = none := fresh_hid k2 a2 hnm
    have k3' : Ex (hid H a) H3 := k2.trans k3
    -- the names, one by one
    refine q_forN (n := n) (ea_cons (ev_var rfl) ea_nil) (by omega) (fun i σ H' => ∃ y5 y6, σ = [some (.ref a), some (.int (n : Int)), some (.str ALPHA), some (.int d), some (.ref nm), y5, y6] ∧ Ex (hid H a) H' ∧ SrcAt H' a (B + 1) ∧ H' nm = some (.lst ((plainNames d.toNat i).map V.str)))
      (fun H4 e4 => ⟨none, none, rfl, k3'.trans e4, S2.mono (k3.trans e4), e4 nm _ nm3⟩) (fun i σ H' hi hP => ?_) (fun σ H' hP => ?_)
    · obtain ⟨y5, y6, rfl, e, S, hn⟩ := hP
      have ix : ∀ {H5 : Hp} {σ : L2.St}, σ[2]? = some (some (.str ALPHA)) → σ[5]? = some (some (.int (i : Int))) → Ev (tOp (fun x y H Q => ∃ i j, x = .str i ∧ y = .str j ∧ i.length + j.length ≤ sizeLine ∧ Q (.str (i ++ j)) H) (tOp rIxS (tVar 2) (tOp (rI CDiv fun i j => .int (i / j)) (tVar 5) (tC (.int 26)))) (tOp rIxS (tVar 2) (tOp (rI (fun _ j => 0 < j) fun i j => .int (i % j)) (tVar 5) (tC (.int 26))))) σ H5 (.str (nameAt i)) := fun hA h5 => by
        refine ev_is (ev_catS (alpha_at (j := i / 26) (ev_var hA) (ev_op (ev_var h5) ev_c (rv_I ⟨by decide, by decide⟩)) (by omega)) (alpha_at (j := i % 26) (ev_var hA) (ev_op (ev_var h5) ev_c (rv_I (by decide))) (by omega)) (show 1 + 1 ≤ 1000 by decide)) ?_
        rfl
      refine q_asg (ix rfl rfl) fun H5 e5 => ?_
      have two : (nameAt i).length = 2 := rfl
      have small : ((plainNames d.toNat i).map V.str).length < 100000 := by
        unfold plainNames
        rw [List.length_map, List.length_map, List.length_range]
        omega
      refine s_app (l := nm) (xs := (plainNames d.toNat i).map V.str) (v := .str (styled d.toNat i)) (e5 nm _ hn) (ev_var rfl) ?_ small fun H6 e6 => ?_
      · exact ev_opL1 (el_lst (ea_cons (ev_catS (ev_var rfl) ev_c (show 2 + 2 ≤ 1000 by decide)) (ea_cons (ev_var rfl) (ea_cons (ev_catS (ev_var rfl) ev_c (show 2 + 1 ≤ 1000 by decide)) (ea_cons (ev_catS ev_c (ev_var rfl) (show 2 + 2 ≤ 1000 by decide)) ea_nil)))) (show 4 ≤ 100000 by decide))
          (fun _ _ => ev_var rfl) (fun p H7 h7 _ => rv_ixL (sq_of h7) (styled_ix i d0 d1))
      · refine ⟨_, _, rfl, Ex.mut ((e.trans e5).trans e6) (hid_none fnm), ?_, ?_⟩
        · obtain ⟨x, y, z, ha, r⟩ := S.mono (e5.trans e6)
          exact ⟨x, y, z, by rw [upd_ne anm]; exact ha, r⟩
        · rw [upd_same]
          unfold plainNames
          rw [List.range_succ, List.map_append, List.map_append]
          rfl
    · obtain ⟨y5, y6, rfl, e, S, hn⟩ := hP
      -- if style == 2
      refine ⟨fun σ H' => ∃ nm2, σ = [some (.ref a), some (.int (n : Int)), some (.str ALPHA), some (.int d), some (.ref nm2), y5, y6] ∧ nm2 ≠ a ∧ H nm2 = none ∧ Ex (hid H a) H' ∧ SrcAt H' a (B + 1) ∧ H' nm2 = some (.lst ((drawnNames d.toNat n).map V.str)), ?_, fun σ' H'' hM => ?_⟩
      · refine s_when (b := decide (V.int d = V.int 2)) (et_test (ev_op (ev_var rfl) ev_c (rv_eq rfl))) (fun hb H5 e5 => ?_) (fun hb H5 e5 => ?_)
        · have hd : d = 2 := by
            have := of_decide_eq_true hb
            injection this
          subst hd
          refine s_asgL (xs := (specials.map V.str ++ (plainNames 2 n).map V.str).take n) ?_ fun p H6 hp e6 h6 => ?_
          · rw [← take_cut]
            intro H0 e0 Q' k0
            have n0 := e0 nm _ (e5 nm _ hn)
            refine ⟨by show 10 ≤ sizeLine; decide, fun p1 hp1 => ?_⟩
            have n1 := Ex.new (o := .lst (specials.map V.str)) hp1 nm _ n0
            have x1 : Ex H0 (upd H0 p1 (.lst (specials.map V.str))) := Ex.new hp1
            refine ⟨.ref nm, rfl, p1, nm, specials.map V.str, (plainNames (2 : Int).toNat n).map V.str, rfl, rfl, upd_same, n1, ?_, fun p2 hp2 => ⟨.int (n : Int), rfl, (n : Int), rfl, p2, _, rfl, sq_of upd_same, fun p3 hp3 => ?_⟩⟩
            · have : ((plainNames (2 : Int).toNat n).map V.str).length = n := by
                unfold plainNames
                rw [List.length_map, List.length_map, List.length_range]
              rw [this]
              refine Nat.le_trans ?_ (show 1000 ≤ sizeLine by decide)
              show 10 + n ≤ 1000
              omega
            · have x2 := Ex.new (o := .lst (specials.map V.str ++ (plainNames (2 : Int).toNat n).map V.str)) hp2
              have x3 := Ex.new (o := .lst (cutV (specials.map V.str ++ (plainNames (2 : Int).toNat n).map V.str) none (some (n : Int)))) hp3
              exact k0 p3 _ (fresh_back (x1.trans x2) hp3) ((x1.trans x2).trans x3) upd_same
          · obtain ⟨xs5, a5⟩ := (S.mono e5).is
            have fp : H p = none := fresh_hid (e.trans e5) a5 hp
            have pa : p ≠ a := fun z => by rw [z, a5] at hp; cases hp
            refine ⟨p, rfl, pa, fp, (e.trans e5).trans e6, S.mono (e5.trans e6), ?_⟩
            rw [h6]
            show _ = some (HO.lst ((drawnNames 2 n).map V.str))
            unfold drawnNames
            rw [if_pos rfl, List.map_take, List.map_append]
        · have hd : d.toNat ≠ 2 := by
            intro z
            have z2 : d = 2 := by omega
            rw [z2] at hb
            simp at hb
          refine ⟨nm, rfl, anm.symm, fnm, e.trans e5, S.mono e5, ?_⟩
          rw [e5 nm _ hn]
          unfold drawnNames
          rw [if_neg hd]
      · -- the names drawn out, one by one
        obtain ⟨nm2, rfl, an2, fn2, ee, SS, hn2'⟩ := hM
        obtain ⟨gp, gl⟩ := drawn_good (s := d.toNat) hn2
        obtain ⟨xs5, a5⟩ := SS.is
        generalize drawnNames d.toNat n = N0 at hn2' gp gl
        show tLc _ _ _ _ _ _ _ _
        refine w_lcR (n := n) (ea_cons (ev_var rfl) ea_nil) (by omega) (fun Dl i H' => Dl ≠ a ∧ Dl ≠ nm2 ∧ H Dl = none ∧ ∃ rest out : List Str, rest.length + i = n ∧ (out ++ rest).Perm N0 ∧ H' nm2 = some (.lst (rest.map V.str)) ∧ H' Dl = some (.lst (out.map V.str)) ∧ out.length = i ∧ Ex (hid H a) H' ∧ SrcAt H' a (B + 1 + i)) (fun Dl H1 hD e1 => ?_) (fun _ => rfl) (fun Dl i H1 hi hP => ?_) (fun Dl H1 hP => ?_)
        · obtain ⟨x, y, z, ha, r⟩ := SS.mono e1
          have n1 : Dl ≠ a := fun z => by rw [z, ha] at hD; cases hD
          have n2 : Dl ≠ nm2 := fun z => by rw [z, e1 nm2 _ hn2'] at hD; cases hD
          have n3 := fresh_hid (ee.trans e1) ha hD
          refine ⟨n1, n2, n3, N0, [], by rw [gl]; rfl, List.Perm.refl _, ?_, upd_same, rfl, Ex.mut (ee.trans e1) (hid_none n3), ⟨x, y, z, ?_, r.1, r.2.1, r.2.2.1, r.2.2.2.1, ?_⟩⟩
          · rw [upd_ne n2.symm]
            exact e1 nm2 _ hn2'
          · rw [upd_ne n1.symm]
            exact ha
          · have := r.2.2.2.2
            show z ≤ B + 1 + ((0 : Nat) : Int)
            omega
        · obtain ⟨n1, n2, n3, rest, out, hl, hp, hr1, ho, hol, e, S⟩ := hP
          have rl : 0 < rest.length := by omega
          refine ⟨.ref nm2, rfl, .inl ⟨rfl, _, sq_of hr1⟩, ?_⟩
          refine w_draw rfl (b := (rest.length : Int)) (ev_is (ev_len (ev_var rfl) (sq_of hr1)) (by rw [List.length_map])) (by omega) (by omega) S (by omega) fun g H2 g0 g1 e2 S2 => ?_
          have k2 : Ex (hid H a) H2 := ex_hid2 e e2
          have c1 : H2 nm2 = some (.lst (rest.map V.str)) := e2 nm2 _ (by rw [hid_ne an2]; exact hr1)
          have c2 : H2 Dl = some (.lst (out.map V.str)) := e2 Dl _ (by rw [hid_ne n1]; exact ho)
          have gi : g.toNat < rest.length := by omega
          have gat : rest[g.toNat]? = some rest[g.toNat] := List.getElem?_eq_getElem gi
          refine ⟨nm2, rest.map V.str, g, g.toNat, .str rest[g.toNat], rfl, rfl, c1, by omega, ?_, ?_, ?_, out.map V.str, ?_, ?_, n1, n2, n3, rest.eraseIdx g.toNat, out ++ [rest[g.toNat]], ?_, ?_, ?_, ?_, ?_, ?_, ?_⟩
          · omega
          · rw [List.length_map]
            exact seq_nat g0 g1
          · rw [List.getElem?_map, gat]
            rfl
          · rw [upd_ne n2]
            exact c2
          · rw [List.length_map, hol]
            exact Nat.lt_of_le_of_lt (show i ≤ 200 by omega) (by decide)
          · have := erase_len rest g.toNat gi
            omega
          · have pp := perm_pop rest g.toNat _ gat
            rw [List.append_assoc]
            exact (List.Perm.append_left out pp.symm).trans hp
          · rw [upd_ne n2.symm, upd_same, erase_map]
          · rw [upd_same, List.map_append]
            rfl
          · rw [List.length_append, hol]
            rfl
          · exact Ex.mut (Ex.mut k2 (hid_none fn2)) (hid_none n3)
          · obtain ⟨x, y, z, ha, r⟩ := S2
            refine ⟨x, y, z, ?_, r.1, r.2.1, r.2.2.1, r.2.2.2.1, ?_⟩
            · rw [upd_ne n1.symm, upd_ne an2.symm]
              exact ha
            · have := r.2.2.2.2
              omega
        · obtain ⟨n1, n2, n3, rest, out, hl, hp, hr1, ho, hol, e, S⟩ := hP
          have rl : rest = [] := List.length_eq_zero_iff.mp (by omega)
          subst rl
          rw [List.append_nil] at hp
          exact q Dl out H1 n3 e (S.le (by omega)) (gp.perm hp) hol ho
end
end KB

set_option Elab.async false
set_option linter.all false
set_option maxRecDepth 100000
set_option maxHeartbeats 4000000
/-! KD: data of texts and of ints; what a run of a shelf is. -/
namespace KB
open PySem L2 Evl

theorem dp_strs {K : PySem.W.Frag} {H : Hp} : ∀ xs : List Str, DpAll K H (xs.map V.str) (xs.map PyData.str)
  | [] => .nil
  | x :: xs => .cons (.str x) (dp_strs xs)
theorem dp_ints {K : PySem.W.Frag} {H : Hp} : ∀ xs : List Nat, DpAll K H (xs.map natV) (xs.map fun (n : Nat) => PyData.int (n : Int))
  | [] => .nil
  | x :: xs => .cons (.int (x : Int)) (dp_ints xs)
theorem lay_strs : ∀ {xs : List Str}, (∀ x ∈ xs, pageB x = true) → PyData.canLayAll0 (xs.map PyData.str) = true
  | [], _ => rfl
  | x :: xs, h => by
    have ih := lay_strs (xs := xs) fun y hy => h y (List.mem_cons_of_mem _ hy)
    have hx := h x List.mem_cons_self
    rw [List.map_cons, PyData.canLayAll0, ih, Bool.and_true]
    show PyData.strOk x = true
    unfold pageB at hx
    simp only [Bool.and_eq_true, decide_eq_true_eq, List.all_eq_true] at hx
    have small : ∀ c ∈ LETS, c < 1114112 := by decide
    unfold PyData.strOk
    rw [← Array.all_toList, List.all_eq_true]
    intro c hc
    exact decide_eq_true (small c (hx.2 c hc))
theorem lay_ints : ∀ xs : List Nat, PyData.canLayAll0 (xs.map fun (n : Nat) => PyData.int (n : Int)) = true
  | [] => rfl
  | x :: xs => by
    rw [List.map_cons, PyData.canLayAll0, lay_ints xs]
    rfl
theorem depth_strs : ∀ xs : List Str, PyData.depthAll (xs.map PyData.str) = 0
  | [] => rfl
  | x :: xs => by
    rw [List.map_cons, PyData.depthAll, depth_strs xs]
    rfl
theorem depth_ints : ∀ xs : List Nat, PyData.depthAll (xs.map fun (n : Nat) => PyData.int (n : Int)) = 0
  | [] => rfl
  | x :: xs => by
    rw [List.map_cons, PyData.depthAll, depth_ints xs]
    rfl
theorem shaped_strs {xs : List Str} (h : ∀ x ∈ xs, pageB x = true) : SeqAt.shaped (.list (xs.map PyData.str)) = true := by
  unfold SeqAt.shaped
  rw [show PyData.canLay0 (.list (xs.map PyData.str)) = PyData.canLayAll0 (xs.map PyData.str) from rfl, lay_strs h, show PyData.depth (.list (xs.map PyData.str)) = PyData.depthAll (xs.map PyData.str) + 1 from rfl, depth_strs]
  rfl
theorem shaped_ints (xs : List Nat) : SeqAt.shaped (.list (xs.map fun (n : Nat) => PyData.int (n : Int))) = true := by
  unfold SeqAt.shaped
  rw [show PyData.canLay0 (.list (xs.map fun (n : Nat) => PyData.int (n : Int))) = PyData.canLayAll0 (xs.map fun (n : Nat) => PyData.int (n : Int)) from rfl, lay_ints, show PyData.depth (.list (xs.map fun (n : Nat) => PyData.int (n : Int))) = PyData.depthAll (xs.map fun (n : Nat) => PyData.int (n : Int)) + 1 from rfl, depth_ints]
  rfl
theorem eqv_nil (xs : List Str) : PyData.eqv (.list (xs.map PyData.str)) (.list []) = xs.isEmpty := by
  cases xs <;> rfl
theorem in_strs (x : Str) : ∀ cs : List Str, inV (.str x) (cs.map V.str) = decide (x ∈ cs)
  | [] => rfl
  | c :: cs => by
    have ih := in_strs x cs
    unfold inV at ih ⊢
    rw [List.map_cons, List.any_cons, ih]
    show (c == x || decide (x ∈ cs)) = decide (x ∈ c :: cs)
    by_cases e : c = x
    · subst e
      simp
    · have e2 : ¬ x = c := fun z => e z.symm
      simp [e, e2, List.mem_cons]
theorem flat_all (cs : List Str) : (cs.map V.str).all flatV = true := by
  rw [List.all_map, List.all_eq_true]
  intro _ _
  rfl
theorem range_get (ps : List Str) (d : Str) : (List.range ps.length).map (fun i => ps.getD i d) = ps := by
  apply List.ext_getElem
  · simp
  · intro i h1 h2
    simp [List.getD_eq_getElem?_getD, List.getElem?_eq_getElem h2]
theorem given_filter (ps : List Str) (f : Str → Bool) (d : Str) : given ps.length (fun i => f (ps.getD i d)) (fun i => V.str (ps.getD i d)) = (ps.filter f).map V.str := by
  have h := range_get ps d
  unfold given
  rw [← h, List.filter_map, List.map_map]
  simp only [List.length_map, List.length_range]
  rw [h]
  rfl

/-! ### a run: the events, the evicted pages, the contents at all moments, the contents now -/
inductive RunTo (room : Nat) (c0 : List Str) : List Ev1 → List Str → List (List Str) → List Str → Prop where
  | nil : RunTo room c0 [] [] [c0] c0
  | hit {es gs css cs} {p : Str} (r : RunTo room c0 es gs css cs) (h : p ∈ cs) : RunTo room c0 (es ++ [(hitS, p)]) gs (css ++ [cs]) cs
  | add {es gs css cs} {p : Str} (r : RunTo room c0 es gs css cs) (h : p ∉ cs) (hp : pageB p = true) (hl : cs.length ≠ room) : RunTo room c0 (es ++ [(missS, p)]) gs (css ++ [cs ++ [p]]) (cs ++ [p])
  | evict {es gs css cs} {p g : Str} {j : Nat} (r : RunTo room c0 es gs css cs) (h : p ∉ cs) (hp : pageB p = true) (hl : cs.length = room) (hj : cs[j]? = some g) : RunTo room c0 (es ++ [(missS, p)]) (gs ++ [g]) (css ++ [cs.eraseIdx j ++ [p]]) (cs.eraseIdx j ++ [p])
section
variable {room : Nat} {c0 : List Str} {es : List Ev1} {gs : List Str} {css : List (List Str)} {cs : List Str}
theorem szAt_snoc {n : Nat} {e : Ev1} {t : Nat} (h : t ≤ es.length) : szAt room n (es ++ [e]) t = szAt room n es t := by
  unfold szAt
  rw [List.take_append_of_le_length h]
theorem szAt_end {n : Nat} {e : Ev1} : szAt room n (es ++ [e]) (es.length + 1) = min room (n + misses es + (if isMiss e = true then 1 else 0)) := by
  unfold szAt misses
  rw [List.take_of_length_le (by simp), List.countP_append]
  simp only [List.countP_cons, List.countP_nil]
  rw [Nat.add_assoc]
  simp
theorem szs_snoc {n : Nat} {e : Ev1} : szs room n (es ++ [e]) = szs room n es ++ [szAt room n (es ++ [e]) (es.length + 1)] := by
  unfold szs
  rw [List.length_append]
  show (List.range (es.length + 1 + 1)).map _ = _
  rw [List.range_succ, List.map_append]
  congr 1
  refine List.map_congr_left fun t ht => szAt_snoc ?_
  have := List.mem_range.mp ht
  omega
theorem late_snoc {n : Nat} {e : Ev1} : lates room n (es ++ [e]) = lates room n es ++ (if (isMiss e && decide (szAt room n es es.length = room)) = true then [es.length] else []) := by
  unfold lates
  rw [List.length_append]
  show (List.range (es.length + 1)).filter _ = _
  rw [List.range_succ, List.filter_append]
  congr 1
  · refine List.filter_congr fun t ht => ?_
    have ht' := List.mem_range.mp ht
    unfold lateB
    rw [List.getElem?_append_left ht', szAt_snoc (Nat.le_of_lt ht')]
  · have e1 : lateB room n (es ++ [e]) es.length = (isMiss e && decide (szAt room n es es.length = room)) := by
      unfold lateB
      rw [List.getElem?_append_right (Nat.le_refl _), Nat.sub_self, szAt_snoc (Nat.le_refl _)]
      rfl
    rw [List.filter_cons, e1]
    split <;> rfl
theorem miss_isMiss (p : Str) : isMiss (missS, p) = true := by
  show decide (missS = missS) = true
  decide
theorem hit_isMiss (p : Str) : isMiss (hitS, p) = false := by
  show decide (hitS = missS) = false
  decide
/-- what the sizes of a run are -/
theorem RunTo.facts (h0 : c0.length ≤ room) (n0 : c0.Nodup) (p0 : ∀ p ∈ c0, pageB p = true) (r : RunTo room c0 es gs css cs) :
    cs.length = szAt room c0.length es es.length ∧ css.map List.length = szs room c0.length es ∧ gs.length = (lates room c0.length es).length ∧ cs.Nodup ∧ (∀ p ∈ cs, pageB p = true) ∧ (∀ e ∈ es, okE e) ∧ szAt room c0.length es es.length = min room (c0.length + misses es) := by
  have top : ∀ es : List Ev1, szAt room c0.length es es.length = min room (c0.length + misses es) := fun es => by
    unfold szAt
    rw [List.take_length]
  induction r with
  | nil =>
    have e0 : szAt room c0.length [] 0 = c0.length := by
      show min room (c0.length + 0) = c0.length
      omega
    refine ⟨e0.symm, ?_, rfl, n0, p0, (fun e he => nomatch he), top _⟩
    show [c0.length] = [szAt room c0.length [] 0]
    rw [e0]
  | @hit es gs css cs p r h ih =>
    obtain ⟨i1, i2, i3, i4, i5, i6, i7⟩ := ih
    have e1 : szAt room c0.length (es ++ [(hitS, p)]) (es.length + 1) = cs.length := by
      rw [szAt_end, hit_isMiss, i1, i7]
      rfl
    refine ⟨by rw [List.length_append]; exact e1.symm, ?_, ?_, i4, i5, fun e he => ?_, top _⟩
    · rw [List.map_append, i2, szs_snoc, e1]
      rfl
    · rw [late_snoc, hit_isMiss, i3]
      simp
    · rcases List.mem_append.mp he with q | q
      · exact i6 e q
      · rw [List.mem_singleton.mp q]
        exact ⟨.inl rfl, i5 p h⟩
  | @add es gs css cs p r h hp hl ih =>
    obtain ⟨i1, i2, i3, i4, i5, i6, i7⟩ := ih
    have e1 : szAt room c0.length (es ++ [(missS, p)]) (es.length + 1) = (cs ++ [p]).length := by
      rw [szAt_end, miss_isMiss, List.length_append, i1, i7]
      rw [i1, i7] at hl
      show _ = _ + 1
      simp only [if_true]
      omega
    refine ⟨by rw [show (es ++ [(missS, p)]).length = es.length + 1 by simp]; exact e1.symm, ?_, ?_, ?_, fun q hq => ?_, fun e he => ?_, top _⟩
    · rw [List.map_append, i2, szs_snoc, e1]
      rfl
    · rw [late_snoc, i3]
      have : ¬ (isMiss (missS, p) && decide (szAt room c0.length es es.length = room)) = true := by
        rw [← i1]
        simp [hl]
      rw [if_neg this, List.append_nil]
    · exact List.nodup_append.mpr ⟨i4, by simp, fun a ha b hb z => h (by rw [← List.mem_singleton.mp hb, ← z]; exact ha)⟩
    · rcases List.mem_append.mp hq with q2 | q2
      · exact i5 q q2
      · rw [List.mem_singleton.mp q2]
        exact hp
    · rcases List.mem_append.mp he with q | q
      · exact i6 e q
      · rw [List.mem_singleton.mp q]
        exact ⟨.inr rfl, hp⟩
  | @evict es gs css cs p g j r h hp hl hj ih =>
    obtain ⟨i1, i2, i3, i4, i5, i6, i7⟩ := ih
    have jl : j < cs.length := (List.getElem?_eq_some_iff.mp hj).1
    have el := erase_len cs j jl
    have e1 : szAt room c0.length (es ++ [(missS, p)]) (es.length + 1) = (cs.eraseIdx j ++ [p]).length := by
      rw [szAt_end, miss_isMiss, List.length_append]
      rw [hl] at el
      rw [i1, i7] at hl
      show _ = _ + 1
      simp only [if_true]
      omega
    have sub : ∀ q ∈ cs.eraseIdx j, q ∈ cs := fun q hq => List.mem_of_mem_eraseIdx hq
    refine ⟨by rw [show (es ++ [(missS, p)]).length = es.length + 1 by simp]; exact e1.symm, ?_, ?_, ?_, fun q hq => ?_, fun e he => ?_, top _⟩
    · rw [List.map_append, i2, szs_snoc, e1]
      rfl
    · rw [late_snoc, List.length_append, i3]
      have : (isMiss (missS, p) && decide (szAt room c0.length es es.length = room)) = true := by
        rw [← i1]
        simp [hl, miss_isMiss]
      rw [if_pos this, List.length_append]
      rfl
    · exact List.nodup_append.mpr ⟨i4.sublist (List.eraseIdx_sublist _ _), by simp, fun a ha b hb z => h (by rw [← List.mem_singleton.mp hb, ← z]; exact sub a ha)⟩
    · rcases List.mem_append.mp hq with q2 | q2
      · exact i5 q (sub q q2)
      · rw [List.mem_singleton.mp q2]
        exact hp
    · rcases List.mem_append.mp he with q | q
      · exact i6 e q
      · rw [List.mem_singleton.mp q]
        exact ⟨.inr rfl, hp⟩
end
end KB

set_option Elab.async false
set_option linter.all false
set_option maxRecDepth 100000
set_option maxHeartbeats 4000000
/-! KR: the law's run of a shelf: its state. -/
namespace KB
open PySem L2 Evl
abbrev TupAt (H : Hp) (t : Addr) (e : Ev1) : Prop := H t = some (.tup [.str e.1, .str e.2])
abbrev LstAt (H : Hp) (q : Addr) (c : List Str) : Prop := H q = some (.lst (c.map V.str))
/-- what a run holds in memory; H: the memory at its entry -/
structure RS (H H' : Hp) (a : Addr) (B : Int) (cp hp gp cq : Addr) (ts qs : List Addr) (es : List Ev1) (gs : List Str) (css : List (List Str)) (cs : List Str) : Prop where
  ex : Ex (hid H a) H'
  src : SrcAt H' a B
  hcp : H' cp = some (.lst (cs.map V.str))
  hhp : H' hp = some (.lst (ts.map V.ref))
  hts : Paired (TupAt H') ts es
  hgp : H' gp = some (.lst (gs.map V.str))
  hcq : H' cq = some (.lst (qs.map V.ref))
  hqs : Paired (LstAt H') qs css
  f1 : H cp = none
  f2 : H hp = none
  f3 : H gp = none
  f4 : H cq = none
  d1 : cp ≠ hp
  d2 : cp ≠ gp
  d3 : cp ≠ cq
  d4 : hp ≠ gp
  d5 : hp ≠ cq
  d6 : gp ≠ cq
  a1 : a ≠ cp
  a2 : a ≠ hp
  a3 : a ≠ gp
  a4 : a ≠ cq
  dq : ∀ q ∈ qs, q ≠ cp ∧ q ≠ hp ∧ q ≠ gp ∧ q ≠ cq ∧ q ≠ a ∧ H q = none
theorem SrcAt.upd {H : Hp} {a l : Addr} {B : Int} {o : HO} (h : SrcAt H a B) (n : a ≠ l) : SrcAt (L2.upd H l o) a B := by
  obtain ⟨x, y, z, e, r⟩ := h
  exact ⟨x, y, z, by rw [upd_ne n]; exact e, r⟩
theorem Paired.impM {α β : Type} {R S : α → β → Prop} : ∀ {as : List α} {bs : List β}, Paired R as bs → (∀ a b, a ∈ as → R a b → S a b) → Paired S as bs
  | _, _, .nil, _ => .nil
  | _, _, .cons h t, k => .cons (k _ _ List.mem_cons_self h) (Paired.impM t fun a b ha => k a b (List.mem_cons_of_mem _ ha))
theorem tup_upd {H : Hp} {l : Addr} {xs : List V} {o : HO} {ts : List Addr} {es : List Ev1} (hl : H l = some (.lst xs)) (h : Paired (TupAt H) ts es) : Paired (TupAt (L2.upd H l o)) ts es :=
  Paired.imp h fun t e z => by
    show L2.upd H l o t = _
    rw [upd_ne (ne_of z hl (by intro q; cases q))]
    exact z
section
variable {H H' H1 : Hp} {a cp hp gp cq : Addr} {B : Int} {ts qs : List Addr} {es : List Ev1} {gs : List Str} {css : List (List Str)} {cs : List Str}
theorem RS.mono (s : RS H H' a B cp hp gp cq ts qs es gs css cs) (e : Ex H' H1) : RS H H1 a B cp hp gp cq ts qs es gs css cs :=
  { s with ex := s.ex.trans e, src := s.src.mono e, hcp := e _ _ s.hcp, hhp := e _ _ s.hhp, hts := Paired.imp s.hts fun _ _ z => e _ _ z, hgp := e _ _ s.hgp, hcq := e _ _ s.hcq, hqs := Paired.imp s.hqs fun _ _ z => e _ _ z }
theorem RS.draw {B' : Int} (s : RS H H' a B cp hp gp cq ts qs es gs css cs) (e : Ex (hid H' a) H1) (S : SrcAt H1 a B') : RS H H1 a B' cp hp gp cq ts qs es gs css cs := by
  have k : ∀ {b o}, b ≠ a → H' b = some o → H1 b = some o := fun n h => e _ _ (by rw [hid_ne n]; exact h)
  obtain ⟨xs, ha⟩ := s.src.is
  exact { s with ex := ex_hid2 s.ex e, src := S, hcp := k s.a1.symm s.hcp, hhp := k s.a2.symm s.hhp, hts := Paired.imp s.hts (fun t v z => k (ne_of z ha (fun q => by cases q)) z), hgp := k s.a3.symm s.hgp, hcq := k s.a4.symm s.hcq, hqs := Paired.impM s.hqs fun q c hq z => k (s.dq q hq).2.2.2.2.1 z }
theorem RS.le {B' : Int} (s : RS H H' a B cp hp gp cq ts qs es gs css cs) (h : B ≤ B') : RS H H' a B' cp hp gp cq ts qs es gs css cs := { s with src := s.src.le h }
/-- happened.append((mark, page)) -/
theorem RS.event {t : Addr} {e : Ev1} (s : RS H H' a B cp hp gp cq ts qs es gs css cs) (ht : H' t = some (.tup [.str e.1, .str e.2])) : RS H (L2.upd H' hp (.lst ((ts ++ [t]).map V.ref))) a B cp hp gp cq (ts ++ [t]) qs (es ++ [e]) gs css cs := by
  have nt : t ≠ hp := ne_of ht s.hhp (by intro q; cases q)
  exact { s with
    ex := Ex.mut s.ex (hid_none s.f2), src := s.src.upd s.a2, hcp := by rw [upd_ne s.d1]; exact s.hcp, hhp := upd_same
    hts := paired_snoc (by show L2.upd H' hp _ t = _; rw [upd_ne nt]; exact ht) (tup_upd s.hhp s.hts)
    hgp := by rw [upd_ne s.d4.symm]; exact s.hgp
    hcq := by rw [upd_ne s.d5.symm]; exact s.hcq
    hqs := Paired.impM s.hqs fun q c hq z => by show L2.upd H' hp _ q = _; rw [upd_ne (s.dq q hq).2.1]; exact z }
/-- gone.append(page) -/
theorem RS.left {g : Str} (s : RS H H' a B cp hp gp cq ts qs es gs css cs) : RS H (L2.upd H' gp (.lst ((gs ++ [g]).map V.str))) a B cp hp gp cq ts qs es (gs ++ [g]) css cs :=
  { s with
    ex := Ex.mut s.ex (hid_none s.f3), src := s.src.upd s.a3, hcp := by rw [upd_ne s.d2]; exact s.hcp, hgp := upd_same
    hts := tup_upd s.hgp s.hts
    hhp := by rw [upd_ne s.d4]; exact s.hhp
    hcq := by rw [upd_ne s.d6.symm]; exact s.hcq
    hqs := Paired.impM s.hqs fun q c hq z => by show L2.upd H' gp _ q = _; rw [upd_ne (s.dq q hq).2.2.1]; exact z }
/-- content.pop(j) -/
theorem RS.popped {j : Nat} (s : RS H H' a B cp hp gp cq ts qs es gs css cs) : RS H (L2.upd H' cp (.lst ((cs.map V.str).eraseIdx j))) a B cp hp gp cq ts qs es gs css (cs.eraseIdx j) :=
  { s with
    ex := Ex.mut s.ex (hid_none s.f1), src := s.src.upd s.a1, hcp := by rw [upd_same, erase_map]
    hts := tup_upd s.hcp s.hts
    hhp := by rw [upd_ne s.d1.symm]; exact s.hhp
    hgp := by rw [upd_ne s.d2.symm]; exact s.hgp
    hcq := by rw [upd_ne s.d3.symm]; exact s.hcq
    hqs := Paired.impM s.hqs fun q c hq z => by show L2.upd H' cp _ q = _; rw [upd_ne (s.dq q hq).1]; exact z }
/-- content = .. : another list -/
theorem RS.anew {c2 : Addr} {cs2 : List Str} (s : RS H H' a B cp hp gp cq ts qs es gs css cs) (e : Ex H' H1) (hn : H' c2 = none) (h2 : H1 c2 = some (.lst (cs2.map V.str))) : RS H H1 a B c2 hp gp cq ts qs es gs css cs2 := by
  have s' := s.mono e
  obtain ⟨xs, ha⟩ := s.src.is
  have nq : ∀ {b o}, H' b = some o → c2 ≠ b := fun h z => by rw [z, h] at hn; cases hn
  refine { s' with hcp := h2, f1 := fresh_hid s.ex ha hn, d1 := nq s.hhp, d2 := nq s.hgp, d3 := nq s.hcq, a1 := (nq ha).symm, dq := fun q hq => ⟨?_, (s.dq q hq).2⟩ }
  obtain ⟨i, hi⟩ := List.mem_iff_getElem?.mp hq
  obtain ⟨c, _, hc⟩ := paired_at' s.hqs hi
  exact (nq hc).symm
/-- contents.append(list(content)) -/
theorem RS.noted {q : Addr} (s : RS H H' a B cp hp gp cq ts qs es gs css cs) (e : Ex H' H1) (hn : H' q = none) (h2 : H1 q = some (.lst (cs.map V.str))) : RS H (L2.upd H1 cq (.lst ((qs ++ [q]).map V.ref))) a B cp hp gp cq ts (qs ++ [q]) es gs (css ++ [cs]) cs := by
  have s' := s.mono e
  obtain ⟨xs, ha⟩ := s.src.is
  have nq : ∀ {b o}, H' b = some o → q ≠ b := fun h z => by rw [z, h] at hn; cases hn
  exact { s' with
    ex := Ex.mut s'.ex (hid_none s.f4), src := s'.src.upd s.a4, hcp := by rw [upd_ne s.d3]; exact s'.hcp, hcq := upd_same
    hts := tup_upd s'.hcq s'.hts
    hhp := by rw [upd_ne s.d5]; exact s'.hhp
    hgp := by rw [upd_ne s.d6]; exact s'.hgp
    hqs := paired_snoc (by show L2.upd H1 cq _ q = _; rw [upd_ne (nq s.hcq)]; exact h2) (Paired.impM s'.hqs fun r c hr z => by show L2.upd H1 cq _ r = _; rw [upd_ne (s.dq r hr).2.2.2.1]; exact z)
    dq := fun r hr => by
      rcases List.mem_append.mp hr with z | z
      · exact s.dq r z
      · rw [List.mem_singleton.mp z]
        exact ⟨nq s.hcp, nq s.hhp, nq s.hgp, nq s.hcq, nq ha, fresh_hid s.ex ha hn⟩ }
end
/-- the test of a turn -/
theorem w_cond {K : PySem.W.Frag} {σ : L2.St} {H : Hp} {cs ab : List Str} {cp ap a : Addr} {B : Int} {busy : Int} {Q : Bool → Hp → Prop} (h5 : σ[5]? = some (some (.ref cp))) (h12 : σ[12]? = some (some (.ref ap))) (h0 : σ[0]? = some (some (.ref a))) (h9 : σ[9]? = some (some (.int busy)))
    (hc : H cp = some (.lst (cs.map V.str))) (ha : H ap = some (.lst (ab.map V.str))) (pc : ∀ x ∈ cs, pageB x = true) (pa : ∀ x ∈ ab, pageB x = true) (na : cs = [] → ab ≠ []) (S : SrcAt H a B) (hB : B ≤ 1000000)
    (k : ∀ b H', Ex (hid H a) H' → SrcAt H' a (B + 1) → (b = true → cs ≠ []) → (b = false → ab ≠ []) → Q b H') :
    tAnd (tTest (tOp (rNeD K) (tVar 5) (tLst tNil))) (tOr (tTest (tOp (rEqD K) (tVar 12) (tLst tNil))) (tTest (tOp (rI0 fun i j => .bl (decide (i < j))) (tCall spDraw [] E0 (tCons (tVar 0) (tCons (tC (.int 6)) tNil))) (tVar 9)))) σ H Q := by
  have t1 : EvT (tTest (tOp (rNeD K) (tVar 5) (tLst tNil))) σ H (!cs.isEmpty) := et_test (ev_opL (ev_var h5) (el_lst ea_nil (Nat.zero_le _)) fun p H1 hp e1 H2 e2 Q' k' => ⟨.list (cs.map PyData.str), .list [], .lst (sq_of (e2 _ _ (e1 _ _ hc))) (dp_strs cs), .lst (sq_of (e2 _ _ hp)) .nil, shaped_strs pc, by decide, by
    rw [eqv_nil]
    exact k' H2 (Ex.refl H2)⟩)
  have t2 : EvT (tTest (tOp (rEqD K) (tVar 12) (tLst tNil))) σ H ab.isEmpty := et_test (ev_opL (ev_var h12) (el_lst ea_nil (Nat.zero_le _)) fun p H1 hp e1 H2 e2 Q' k' => ⟨.list (ab.map PyData.str), .list [], .lst (sq_of (e2 _ _ (e1 _ _ ha))) (dp_strs ab), .lst (sq_of (e2 _ _ hp)) .nil, shaped_strs pa, by decide, by
    rw [eqv_nil]
    exact k' H2 (Ex.refl H2)⟩)
  refine t1 H (Ex.refl H) _ fun H1 e1 => ?_
  have S1 := S.mono e1
  cases hcs : cs with
  | nil =>
    show Q false H1
    exact k false H1 (hidE e1 a) (S1.le (by omega)) (fun z => nomatch z) fun _ => na hcs
  | cons c r =>
    refine t2 H1 e1 _ fun H2 e2 => ?_
    cases hab : ab with
    | nil =>
      show Q true H2
      exact k true H2 (hidE (e1.trans e2) a) ((S1.mono e2).le (by omega)) (fun _ => by rw [hcs]; exact List.cons_ne_nil _ _) fun z => nomatch z
    | cons x y =>
      show tTest (tOp _ (tCall spDraw [] E0 (tCons (tVar 0) (tCons (tC (.int 6)) tNil))) (tVar 9)) σ H2 Q
      refine w_draw h0 ev_c (by decide) (by decide) (S1.mono e2) hB fun d H3 d0 d1 e3 S3 => ⟨.int busy, h9, d, busy, rfl, rfl, _, rfl, ?_⟩
      refine k _ H3 (ex_hid2 (hidE (e1.trans e2) a) e3) S3 (fun _ => by rw [hcs]; exact List.cons_ne_nil _ _) fun _ => by rw [hab]; exact List.cons_ne_nil _ _
end KB

set_option Elab.async false
set_option linter.all false
set_option maxRecDepth 100000
set_option maxHeartbeats 8000000
/-! KR2: the law's run of a shelf, walked. -/
namespace KB
open PySem L2 Evl
section
variable {K : PySem.W.Frag} {σ : L2.St} {H : Hp} {te ta : TE} {D : Ends}
/-- list(e) of a list or tuple -/
theorem el_listT {p : Addr} {xs : List V} (ha : Ev ta σ H (.ref p)) (h : SqT K H p xs) : EvL (tCB (rListS K) (tCons ta tNil)) σ H xs := fun H1 e Q q =>
  ha H1 e _ fun H2 e2 => ⟨p, xs, rfl, Or.inr (ex_t (e.trans e2) h), fun l hl => q l _ (fresh_back e2 hl) (e2.trans (Ex.new hl)) upd_same⟩
end
section
variable {P : Program} {w : World} {K : PySem.W.Frag} {mg : Str → Option Value} {base : Heap}
abbrev NRun : List Str := ["source", "room", "initial", "pages", "size", "content", "happened", "gone", "contents", "busy", "k", "page", "absent"]
theorem scRun : FnScope NRun ["source", "room", "initial", "pages", "size"] (defScope sRun) := ⟨rfl, rfl, rfl, by decide +kernel, rfl, by decide +kernel, by decide +kernel⟩
def spRun (K : PySem.W.Frag) : Sp := fun vs H Q _ => ∃ (a t pg : Addr) (room n : Nat) (c0 pages : List Str) (B : Int), vs = [.ref a, .int (room : Int), .ref t, .ref pg, .int (n : Int)] ∧ SrcAt H a B ∧ B ≤ 800000 ∧ 1 ≤ room ∧ room ≤ 1000 ∧
  SqT K H t (c0.map V.str) ∧ Pages c0 ∧ c0.length ≤ room ∧ SqL K H pg (pages.map V.str) ∧ pg ≠ a ∧ Pages pages ∧ pages ≠ [] ∧ n ≤ 200 ∧
  ∀ T cp hp gp cq ts qs es gs css cs H2, H T = none → H2 T = some (.tup [.ref hp, .ref gp, .ref cq]) → RS H H2 a (B + 700) cp hp gp cq ts qs es gs css cs → RunTo room c0 es gs css cs → es.length = n → Q (.ref T) H2
theorem ok_run {f : Addr} {fd : FuncData} (F : Fun K "_law_run" "_law_run" sRun f fd) (B0 : Bn mg) (cD : Cl P w K mg base 1 "_law_draw" ["source", "bound"] spDraw) : FnOk P w K mg base CX0 2 f fd ["source", "room", "initial", "pages", "size"] (spRun K) := by
  refine F.ok scRun (fun vs H Q E h => ?_) (fun cdv A outer s H vs Q E hr h => ?_)
  · obtain ⟨a, t, pg, room, n, c0, pages, B, rfl, _⟩ := h
    rfl
  · obtain ⟨a, t, pg, room, n, c0, pages, B, rfl, hS, hB, hr1, hr2, ht, pc0, hc0, hpg, npg, ppg, nepg, hn, q⟩ := h
    have nd := scRun.nd
    refine ⟨_, pss_cons (ps_asg (pe_tup (pa_cons (pe_callTy call_list_of (by rfl) B0.list bt_list (pa_cons (pv 2) pa_nil)) (pa_cons (pe_lst pa_nil) (pa_cons (pe_lst pa_nil) (pa_cons (pe_lst (pa_cons (pe_callTy call_list_of (by rfl) B0.list bt_list (pa_cons (pv 2) pa_nil)) pa_nil)) pa_nil)))))
        (pg_tup rfl (pgs_cons (pg_name (i := 5) nd rfl (Or.inr rfl)) (pgs_cons (pg_name (i := 6) nd rfl (Or.inl rfl)) (pgs_cons (pg_name (i := 7) nd rfl (Or.inl rfl)) (pgs_cons (pg_name (i := 8) nd rfl (Or.inl rfl)) pgs_nil))))))
      (pss_cons (ps_set (i := 9) nd rfl (Or.inl rfl) (pe_op op_add pe_int (pe_cl cD hr (pa_cons (pv 0) (pa_cons pe_int pa_nil)))))
      (pss_cons (ps_for PassesOwn.never rfl (pi_range1 (by rfl) B0.range (pa_cons (pv 4) pa_nil)) (pg_name (i := 10) nd rfl (Or.inl rfl))
        (pss_cons (ps_setLc (i := 12) (own := [("page", 11)]) (g := gName 11) (tt := tTest (tOp (rIn K true) (tVar 11) (tVar 5))) (te := tVar 11) (by rfl) nd rfl rfl (sw_true rfl rfl rfl (by decide +kernel)) (pi_list (pv 3)) (blkOk_by (N := NRun) (sc := defScope sRun) (by decide +kernel))
            (fun _ _ _ _ _ => pg_name (i := 11) nd rfl (Or.inl rfl)) (fun _ _ _ _ _ => pts_one (pt_cmpR (r := rIn K true) op_notIn_seq (pv 11) (pv 5) (by with_unfolding_all rfl))) (fun _ _ _ _ _ => pv 11))
        (pss_cut (ps_if (PW.pt (pw_and (pt_cmpR (op_neD hr.units) (pv 5) (pe_lst pa_nil) (nomark _)) (pw_and1 (PW.pt (pw_or (pt_cmpR (op_eqD hr.units) (pv 12) (pe_lst pa_nil) (nomark _)) (pw_or1 (pt_cmpR op_lt (pe_cl cD hr (pa_cons (pv 0) (pa_cons pe_int pa_nil))) (pv 9) (nomark _))))))))
          (pss_one (ps_expr (pe_bm PySem.F.plainAttrs_list PySem.F.slot_list_append PySem.F.type_list_append mt_append (pv 6) (pa_cons (pe_tup (pa_cons pe_str (pa_cons (pe_ix ix_list (pv 5) (pe_cl cD hr (pa_cons (pv 0) (pa_cons (pe_callB call_len_seq (by rfl) B0.len bt_len (pa_cons (pv 5) pa_nil)) pa_nil))) (fun _ _ => rfl)) pa_nil))) pa_nil))))
          (pss_cons (ps_set (i := 11) nd rfl (Or.inl rfl) (pe_ix ix_list (pv 12) (pe_cl cD hr (pa_cons (pv 0) (pa_cons (pe_callB call_len_seq (by rfl) B0.len bt_len (pa_cons (pv 12) pa_nil)) pa_nil))) (fun _ _ => rfl)))
          (pss_cons (ps_expr (pe_bm PySem.F.plainAttrs_list PySem.F.slot_list_append PySem.F.type_list_append mt_append (pv 6) (pa_cons (pe_tup (pa_cons pe_str (pa_cons (pv 11) pa_nil))) pa_nil)))
          (pss_cut (ps_if (pt_cmpR op_eq (pe_callB call_len_seq (by rfl) B0.len bt_len (pa_cons (pv 5) pa_nil)) (pv 1) (nomark _))
            (pss_one (ps_expr (pe_bm PySem.F.plainAttrs_list PySem.F.slot_list_append PySem.F.type_list_append mt_append (pv 7) (pa_cons (pe_bm PySem.F.plainAttrs_list PySem.F.slot_list_pop PySem.F.type_list_pop mt_popAt (pv 5) (pa_cons (pe_cl cD hr (pa_cons (pv 0) (pa_cons (pv 1) pa_nil))) pa_nil)) pa_nil)))) pss_nil)
          (pss_one (ps_set (i := 5) nd rfl (Or.inr rfl) (pe_op op_cat (pv 5) (pe_lst (pa_cons (pv 11) pa_nil)))))))))
        (pss_one (ps_expr (pe_bm PySem.F.plainAttrs_list PySem.F.slot_list_append PySem.F.type_list_append mt_append (pv 8) (pa_cons (pe_callTy call_list_of (by rfl) B0.list bt_list (pa_cons (pv 5) pa_nil)) pa_nil)))))))
      (pss_one (ps_ret (pe_tup (pa_cons (pv 6) (pa_cons (pv 7) (pa_cons (pv 8) pa_nil)))))))), ?_⟩
    have hcl : c0.length ≤ 200 := pc0.len
    have hpl : pages.length ≤ 200 := ppg.len
    -- the four lists
    refine ⟨.ref t, rfl, t, c0.map V.str, rfl, .inr ht, fun cp n1 => ?_⟩
    refine ⟨Nat.zero_le _, fun hp n2 => ⟨Nat.zero_le _, fun gp n3 => ?_⟩⟩
    have x1 := Ex.new (o := .lst (c0.map V.str)) n1
    have x2 := Ex.new (o := .lst []) n2
    have x3 := Ex.new (o := .lst []) n3
    refine ⟨.ref t, rfl, t, c0.map V.str, rfl, .inr (ex_t ((x1.trans x2).trans x3) ht), fun q0 n4 => ?_⟩
    have x4 := Ex.new (o := .lst (c0.map V.str)) n4
    refine ⟨by show 1 ≤ sizeLine; decide, fun cq n5 => ⟨by show 4 ≤ sizeLine; decide, fun T0 n6 => ?_⟩⟩
    have x5 := Ex.new (o := .lst [.ref q0]) n5
    have x6 := Ex.new (o := .tup [.ref cp, .ref hp, .ref gp, .ref cq]) n6
    obtain ⟨xsa, ha⟩ := hS.is
    have y12 := x1.trans x2
    have y13 := y12.trans x3
    have y14 := y13.trans x4
    have y15 := y14.trans x5
    have w0 : RS H _ a B cp hp gp cq [] [q0] [] [] [c0] c0 := {
      ex := hidE (y15.trans x6) a, src := hS.mono (y15.trans x6), hcp := x6 _ _ (x5 _ _ (x4 _ _ (x3 _ _ (x2 _ _ upd_same)))), hhp := x6 _ _ (x5 _ _ (x4 _ _ (x3 _ _ upd_same))), hts := .nil, hgp := x6 _ _ (x5 _ _ (x4 _ _ upd_same)), hcq := x6 _ _ upd_same
      hqs := .cons (x6 _ _ (x5 _ _ upd_same)) .nil
      f1 := n1, f2 := fresh_back x1 n2, f3 := fresh_back y12 n3, f4 := fresh_back y14 n5
      d1 := ne_of_none upd_same n2, d2 := ne_of_none (x2 _ _ upd_same) n3, d3 := ne_of_none (x4 _ _ (x3 _ _ (x2 _ _ upd_same))) n5, d4 := ne_of_none upd_same n3, d5 := ne_of_none (x4 _ _ (x3 _ _ upd_same)) n5, d6 := ne_of_none (x4 _ _ upd_same) n5
      a1 := ne_of_none ha n1, a2 := ne_of_none (x1 _ _ ha) n2, a3 := ne_of_none (y12 _ _ ha) n3, a4 := ne_of_none (y14 _ _ ha) n5
      dq := fun z hz => by
        rw [List.mem_singleton.mp hz]
        exact ⟨(ne_of_none (x3 _ _ (x2 _ _ upd_same)) n4).symm, (ne_of_none (x3 _ _ upd_same) n4).symm, (ne_of_none upd_same n4).symm, ne_of_none upd_same n5, (ne_of_none (y13 _ _ ha) n4).symm, fresh_back y13 n4⟩ }
    refine ⟨T0, _, rfl, .inl (.inl upd_same), rfl, .ref cp, _, rfl, .ref hp, _, rfl, .ref gp, _, rfl, .ref cq, _, rfl, rfl, ?_⟩
    generalize upd _ T0 _ = H1 at w0 ⊢
    -- busy
    show tCall spDraw [] E0 (tCons (tVar 0) (tCons (tC (.int 4)) tNil)) _ H1 _
    refine w_draw rfl ev_c (by decide) (by decide) w0.src (by omega) fun bz H2 _ _ e2 S2 => ⟨1, bz, rfl, rfl, ?_⟩
    have w1 := w0.draw e2 S2
    have hpgK : ∀ {H' : Hp}, Ex (hid H a) H' → SqL K H' pg (pages.map V.str) := fun e => ex_l e (sql_hid hpg npg)
    refine q_forN (n := n) (ea_cons (ev_var rfl) ea_nil) (by omega) (fun i σ H' => ∃ cp cs ts qs es gs css z10 z11 z12, σ = [some (.ref a), some (.int (room : Int)), some (.ref t), some (.ref pg), some (.int (n : Int)), some (.ref cp), some (.ref hp), some (.ref gp), some (.ref cq), some (.int (1 + bz)), z10, z11, z12] ∧
      RS H H' a (B + 1 + 3 * (i : Int)) cp hp gp cq ts qs es gs css cs ∧ RunTo room c0 es gs css cs ∧ es.length = i ∧ qs.length = i + 1)
      (fun H3 e3 => ⟨cp, c0, [], [q0], [], [], [c0], none, none, none, rfl, (w1.mono e3).le (by omega), .nil, rfl, rfl⟩) (fun i σ H' hi hP => ?_) (fun σ H' hP => ?_)
    · obtain ⟨cp, cs, ts, qs, es, gs, css, z10, z11, z12, rfl, w, r, hes, hqs⟩ := hP
      obtain ⟨i1, i2, i3, i4, i5, i6, i7⟩ := r.facts hc0 pc0.nd pc0.all
      have hts := paired_len w.hts
      have hgs : gs.length ≤ i := by
        rw [i3]
        unfold lates
        have := List.length_filter_le (lateB room c0.length es) (List.range es.length)
        rw [List.length_range] at this
        omega
      have hcs : cs.length ≤ room := by
        rw [i1, i7]
        omega
      -- absent
      refine q_asgL (xs := (pages.filter fun x => !decide (x ∈ cs)).map V.str) ?_ fun ap H3 hap e3 h3 => ?_
      · rw [← given_filter pages (fun x => !decide (x ∈ cs)) ""]
        have hm : (pages.map V.str).length = pages.length := List.length_map ..
        rw [← hm]
        refine el_lcL _ _ (ev_var rfl) (hpgK w.ex) (by omega) (fun _ => rfl) (fun j x H4 e4 hx => ?_) (fun j x H4 e4 hx _ => ?_)
        all_goals
          rw [List.getElem?_map] at hx
          obtain ⟨y, hy, rfl⟩ := Option.map_eq_some_iff.mp hx
          have ey : pages.getD j "" = y := by rw [List.getD_eq_getElem?_getD, hy]; rfl
          rw [ey]
        · exact et_is (et_test (ev_op (ev_var rfl) (ev_var rfl) (rv_niL (sq_of (e4 _ _ w.hcp)) rfl (flat_all cs)))) (by rw [in_strs])
        · exact ev_var rfl
      · have habs : ∀ x ∈ pages.filter (fun x => !decide (x ∈ cs)), x ∈ pages ∧ x ∉ cs := fun x hx => by
          obtain ⟨q1, q2⟩ := List.mem_filter.mp hx
          exact ⟨q1, by simpa using q2⟩
        have hne : cs = [] → pages.filter (fun x => !decide (x ∈ cs)) ≠ [] := fun z => by
          subst z
          rw [List.filter_eq_self.mpr (fun _ _ => by simp)]
          exact nepg
        have hab : (pages.filter fun x => !decide (x ∈ cs)).length ≤ 200 := Nat.le_trans (List.length_filter_le _ _) hpl
        generalize (pages.filter fun x => !decide (x ∈ cs)) = ab at h3 habs hne hab
        have w3 := w.mono e3
        obtain ⟨xs3, ha3⟩ := w.src.is
        have nap : ap ≠ a := (ne_of_none ha3 hap).symm
        refine ⟨fun σ' H'' => ∃ cp cs ts es gs z10 z11 z12, σ' = [some (.ref a), some (.int (room : Int)), some (.ref t), some (.ref pg), some (.int (n : Int)), some (.ref cp), some (.ref hp), some (.ref gp), some (.ref cq), some (.int (1 + bz)), z10, z11, z12] ∧
          RS H H'' a (B + 1 + 3 * ((i + 1 : Nat) : Int)) cp hp gp cq ts qs es gs css cs ∧ RunTo room c0 es gs (css ++ [cs]) cs ∧ es.length = i + 1, ?_, fun σ' H'' hM => ?_⟩
        · refine w_cond (cs := cs) (ab := ab) (cp := cp) (ap := ap) (a := a) (busy := 1 + bz) rfl rfl rfl rfl w3.hcp h3 i5 (fun x hx => ppg.all x (habs x hx).1) hne w3.src (by omega) fun b H4 e4 S4 kt kf => ite2 (fun hb => ?_) (fun hb => ?_)
          · -- a hit
            have w4 := w3.draw e4 S4
            have cpos : 0 < cs.length := List.length_pos_iff.mpr (kt hb)
            refine ⟨.ref hp, rfl, .inl ⟨rfl, _, sq_of w4.hhp⟩, .ref cp, rfl, ?_⟩
            refine w_draw rfl (b := (cs.length : Int)) (ev_is (ev_len (ev_var rfl) (sq_of w4.hcp)) (by rw [List.length_map])) (by omega) (by omega) w4.src (by omega) fun g H5 g0 g1 e5 S5 => ?_
            have w5 := w4.draw e5 S5
            have gi : g.toNat < cs.length := by omega
            have gat : cs[g.toNat]? = some cs[g.toNat] := List.getElem?_eq_getElem gi
            refine ⟨cp, cs.map V.str, g, .str cs[g.toNat], rfl, rfl, sq_of w5.hcp, at_of (j := g.toNat) (by omega) (by rw [List.getElem?_map, gat]; rfl), ?_⟩
            refine ⟨by show 2 ≤ sizeLine; decide, fun tp ntp => ⟨hp, ts.map V.ref, .ref tp, rfl, rfl, Ex.new ntp _ _ w5.hhp, ?_, ?_⟩⟩
            · rw [List.length_map, hts, hes]
              exact Nat.lt_of_le_of_lt (show i ≤ 200 by omega) (by decide)
            · have w6 := (w5.mono (Ex.new ntp)).event (e := (hitS, cs[g.toNat])) upd_same
              have em : (ts ++ [tp]).map V.ref = ts.map V.ref ++ [V.ref tp] := by rw [List.map_append]; rfl
              rw [em] at w6
              exact ⟨cp, cs, ts ++ [tp], _, gs, _, _, _, rfl, w6.le (by omega), r.hit (List.mem_of_getElem? gat), by rw [List.length_append, hes]; rfl⟩
          · -- a miss
            have w4 := w3.draw e4 S4
            have hb' : b = false := by simpa using hb
            have apos : 0 < ab.length := List.length_pos_iff.mpr (kf hb')
            have h4 : H4 ap = some (.lst (ab.map V.str)) := e4 _ _ (by rw [hid_ne nap]; exact h3)
            refine ⟨.ref ap, rfl, ?_⟩
            refine w_draw rfl (b := (ab.length : Int)) (ev_is (ev_len (ev_var rfl) (sq_of h4)) (by rw [List.length_map])) (by omega) (by omega) w4.src (by omega) fun g H5 g0 g1 e5 S5 => ?_
            have w5 := w4.draw e5 S5
            have h5 : H5 ap = some (.lst (ab.map V.str)) := e5 _ _ (by rw [hid_ne nap]; exact h4)
            have gi : g.toNat < ab.length := by omega
            have gat : ab[g.toNat]? = some ab[g.toNat] := List.getElem?_eq_getElem gi
            obtain ⟨g_in, g_out⟩ := habs _ (List.mem_of_getElem? gat)
            have g_page := ppg.all _ g_in
            refine ⟨ap, ab.map V.str, g, .str ab[g.toNat], rfl, rfl, sq_of h5, at_of (j := g.toNat) (by omega) (by rw [List.getElem?_map, gat]; rfl), ?_⟩
            generalize ab[g.toNat] = p at g_in g_out g_page
            refine q_appU (l := hp) (xs := ts.map V.ref) (ys := [.str "miss", .str p]) w5.hhp (ev_var rfl) (eu_tup (ea_cons ev_c (ea_cons (ev_var rfl) ea_nil)) (show 2 ≤ 100000 by decide)) (by rw [List.length_map, hts, hes]; omega) fun tp H6 htp e6 h6 => ?_
            have w6 := (w5.mono e6).event (e := (missS, p)) h6
            have em : (ts ++ [tp]).map V.ref = ts.map V.ref ++ [V.ref tp] := by rw [List.map_append]; rfl
            rw [em] at w6
            generalize upd H6 hp (.lst (ts.map V.ref ++ [V.ref tp])) = H7 at w6 ⊢
            refine ⟨fun σ' H'' => ∃ cs2 gs2 z10 z12, σ' = [some (.ref a), some (.int (room : Int)), some (.ref t), some (.ref pg), some (.int (n : Int)), some (.ref cp), some (.ref hp), some (.ref gp), some (.ref cq), some (.int (1 + bz)), z10, some (.str p), z12] ∧
              RS H H'' a (B + 1 + 3 * ((i + 1 : Nat) : Int)) cp hp gp cq (ts ++ [tp]) qs (es ++ [(missS, p)]) gs2 css cs2 ∧ RunTo room c0 (es ++ [(missS, p)]) gs2 (css ++ [cs2 ++ [p]]) (cs2 ++ [p]) ∧ cs2.length ≤ room, ?_, fun σ' H'' hM => ?_⟩
            · refine s_when (b := decide (V.int (((cs.map V.str).length : Nat) : Int) = V.int (room : Int))) (et_test (ev_op (ev_len (ev_var rfl) (sq_of w6.hcp)) (ev_var rfl) (rv_eq rfl))) (fun hb2 H8 e8 => ?_) (fun hb2 H8 e8 => ?_)
              · have full : cs.length = room := by
                  rw [dec_int, List.length_map] at hb2
                  exact of_decide_eq_true hb2
                have w8 := w6.mono e8
                refine ⟨.ref gp, rfl, .inl ⟨rfl, _, sq_of w8.hgp⟩, .ref cp, rfl, .inl ⟨rfl, _, sq_of w8.hcp⟩, ?_⟩
                refine w_draw rfl (b := (room : Int)) (ev_var rfl) (by omega) (by omega) w8.src (by omega) fun k2 H9 k0 k1 e9 S9 => ?_
                have w9 := w8.draw e9 S9
                have ki : k2.toNat < cs.length := by omega
                have kat : cs[k2.toNat]? = some cs[k2.toNat] := List.getElem?_eq_getElem ki
                refine ⟨cp, cs.map V.str, k2, k2.toNat, .str cs[k2.toNat], rfl, rfl, w9.hcp, by omega, by omega, by rw [List.length_map]; exact seq_nat k0 (by omega), by rw [List.getElem?_map, kat]; rfl, ?_⟩
                have wa := w9.popped (j := k2.toNat)
                refine ⟨gp, gs.map V.str, .str cs[k2.toNat], rfl, rfl, wa.hgp, ?_, ?_⟩
                · rw [List.length_map]
                  exact Nat.lt_of_le_of_lt (show gs.length ≤ 200 by omega) (by decide)
                · have wb := wa.left (g := cs[k2.toNat])
                  have eg : (gs ++ [cs[k2.toNat]]).map V.str = gs.map V.str ++ [V.str cs[k2.toNat]] := by rw [List.map_append]; rfl
                  rw [eg] at wb
                  have el := erase_len cs k2.toNat ki
                  exact ⟨cs.eraseIdx k2.toNat, gs ++ [cs[k2.toNat]], _, _, rfl, wb.le (by omega), r.evict g_out g_page full kat, by omega⟩
              · have notfull : cs.length ≠ room := by
                  rw [dec_int, List.length_map] at hb2
                  exact of_decide_eq_false hb2
                exact ⟨cs, gs, _, _, rfl, (w6.mono e8).le (by omega), r.add g_out g_page notfull, hcs⟩
            · obtain ⟨cs2, gs2, z10', z12', rfl, w7, r7, hcs2⟩ := hM
              refine ⟨.ref cp, rfl, .str p, rfl, by show 1 ≤ sizeLine; decide, fun p1 np1 => ?_⟩
              have xa := Ex.new (o := .lst [V.str p]) np1
              refine ⟨cp, p1, cs2.map V.str, [.str p], rfl, rfl, xa _ _ w7.hcp, upd_same, ?_, fun c2 nc2 => ?_⟩
              · rw [List.length_map]
                exact Nat.le_trans (show cs2.length + 1 ≤ 1001 by omega) (by decide)
              · have xb := Ex.new (o := .lst (cs2.map V.str ++ [V.str p])) nc2
                have w8 := w7.anew (cs2 := cs2 ++ [p]) (xa.trans xb) (fresh_back xa nc2) (by rw [upd_same, List.map_append]; rfl)
                exact ⟨c2, cs2 ++ [p], ts ++ [tp], es ++ [(missS, p)], gs2, _, _, _, rfl, w8, r7, by rw [List.length_append, hes]; rfl⟩
        · obtain ⟨cp, cs, ts, es, gs, z10, z11, z12, rfl, w, r, hes⟩ := hM
          refine s_appL (l := cq) (xs := qs.map V.ref) (ys := cs.map V.str) w.hcq (ev_var rfl) (el_list (ev_var rfl) (sq_of w.hcp)) (by rw [List.length_map, hqs]; omega) fun q1 H5 hq e5 h5 => ?_
          have w5 := w.noted e5 hq h5
          have em : (qs ++ [q1]).map V.ref = qs.map V.ref ++ [V.ref q1] := by rw [List.map_append]; rfl
          rw [em] at w5
          exact ⟨cp, cs, ts, qs ++ [q1], es, gs, css ++ [cs], _, _, _, rfl, w5, r, hes, by rw [List.length_append, hqs]; rfl⟩
    · obtain ⟨cp, cs, ts, qs, es, gs, css, z10, z11, z12, rfl, w, r, hes, hqs⟩ := hP
      refine s_retU (eu_tup (ea_cons (ev_var rfl) (ea_cons (ev_var rfl) (ea_cons (ev_var rfl) ea_nil))) (show 3 ≤ 100000 by decide)) fun T H3 hT e3 h3 => ?_
      obtain ⟨xs3, ha3⟩ := w.src.is
      exact q T cp hp gp cq ts qs es gs css cs H3 (fresh_hid w.ex ha3 hT) h3 ((w.mono e3).le (by omega)) r hes
end
end KB

set_option Elab.async false
set_option linter.all false
set_option maxRecDepth 100000
set_option maxHeartbeats 8000000
/-! KS: the law's setup and count, walked. -/
namespace KB
open PySem L2 Evl
theorem drop_cut (xs : List V) {n : Nat} (h : n ≤ xs.length) : cutV xs (some (n : Int)) none = xs.drop n := by
  unfold cutV
  rw [HT.sIx_none, HT.sIx_nat, Nat.min_eq_left h, List.take_of_length_le (by rw [List.length_drop]; exact Nat.le_refl _)]
section
variable {P : Program} {w : World} {K : PySem.W.Frag} {mg : Str → Option Value} {base : Heap}
theorem scSetup : FnScope ["source", "most", "size", "pages", "room", "initial"] ["source", "most", "size"] (defScope sSetup) := ⟨rfl, rfl, rfl, by decide +kernel, rfl, by decide +kernel, by decide +kernel⟩
def spSetup : Sp := fun vs H Q _ => ∃ (a : Addr) (m sz B : Int), vs = [.ref a, .int m, .int sz] ∧ SrcAt H a B ∧ B ≤ 700000 ∧ 1 ≤ m ∧ m ≤ 150 ∧ 0 ≤ sz ∧ sz ≤ 199 ∧
  ∀ (T t pg : Addr) (room n : Nat) (c0 pages : List Str) H2, H T = none → H t = none → H pg = none → pg ≠ a → Ex (hid H a) H2 → SrcAt H2 a (B + 170) → H2 T = some (.tup [.int (room : Int), .ref t, .ref pg, .int (n : Int)]) →
    H2 t = some (.tup (c0.map V.str)) → H2 pg = some (.lst (pages.map V.str)) → 1 ≤ room → room ≤ 41 → Pages c0 → c0.length ≤ room → Pages pages → pages ≠ [] → (n : Int) ≤ sz → Q (.ref T) H2
theorem caps_at {d : Int} (h0 : 0 ≤ d) (h1 : d < 3) : ∃ v : Int, atI [V.int 2, V.int 5, V.int 40] d = some (V.int v) ∧ 0 < v ∧ v ≤ 40 := by
  have : d = 0 ∨ d = 1 ∨ d = 2 := by omega
  rcases this with rfl | rfl | rfl
  · exact ⟨2, rfl, by decide, by decide⟩
  · exact ⟨5, rfl, by decide, by decide⟩
  · exact ⟨40, rfl, by decide, by decide⟩
theorem nat_of {i : Int} (h : 0 ≤ i) : ∃ n : Nat, i = (n : Int) := ⟨i.toNat, (Int.toNat_of_nonneg h).symm⟩
theorem ok_setup {f : Addr} {fd : FuncData} (F : Fun K "_law_setup" "_law_setup" sSetup f fd) (B0 : Bn mg) (cD : Cl P w K mg base 1 "_law_draw" ["source", "bound"] spDraw) (cP : Cl P w K mg base 2 "_law_pages" ["source", "count"] spPages) : FnOk P w K mg base CX0 3 f fd ["source", "most", "size"] spSetup := by
  refine F.ok scSetup (fun vs H Q E h => ?_) (fun cdv A outer s H vs Q E hr h => ?_)
  · obtain ⟨a, m, sz, B, rfl, _⟩ := h
    rfl
  · obtain ⟨a, m, sz, B, rfl, hS, hB, m0, m1, s0, s1, q⟩ := h
    have nd := scSetup.nd
    refine ⟨_, pss_cons (ps_set (i := 3) nd rfl (Or.inl rfl) (pe_cl cP hr (pa_cons (pv 0) (pa_cons (pe_op op_add pe_int (pe_cl cD hr (pa_cons (pv 0) (pa_cons (pv 1) pa_nil)))) pa_nil))))
      (pss_cons (ps_set (i := 4) nd rfl (Or.inl rfl) (pe_op op_add pe_int (pe_cl cD hr (pa_cons (pv 0) (pa_cons (pe_ix ix_list (pe_lst (pa_cons pe_int (pa_cons pe_int (pa_cons pe_int pa_nil)))) (pe_cl cD hr (pa_cons (pv 0) (pa_cons pe_int pa_nil))) (fun _ _ => rfl)) pa_nil)))))
      (pss_cons (ps_set (i := 5) nd rfl (Or.inl rfl) (pe_callTy call_tuple_of (by rfl) B0.tuple bt_tuple (pa_cons (pe_slice sl_list (pv 3) po_none (po_some (pe_callB (call_min2 rfl) (by rfl) B0.min bt_min (pa_cons (pv 4) (pa_cons (pe_cl cD hr (pa_cons (pv 0) (pa_cons (pe_op op_add (pe_callB call_len_seq (by rfl) B0.len bt_len (pa_cons (pv 3) pa_nil)) pe_int) pa_nil))) pa_nil))))) pa_nil)))
      (pss_one (ps_ret (pe_tup (pa_cons (pv 4) (pa_cons (pv 5) (pa_cons (pe_op op_cat (pe_slice sl_list (pv 3) (po_some (pe_callB call_len_seq (by rfl) B0.len bt_len (pa_cons (pv 5) pa_nil))) po_none) (pe_callTy call_list_of (by rfl) B0.list bt_list (pa_cons (pv 5) pa_nil)))
        (pa_cons (pe_cl cD hr (pa_cons (pv 0) (pa_cons (pe_op op_add (pv 2) pe_int) pa_nil))) pa_nil))))))))), ?_⟩
    obtain ⟨xsa, ha⟩ := hS.is
    -- pages
    refine ⟨.ref a, rfl, ?_⟩
    refine w_draw rfl (ev_var rfl) (by omega) (by omega) hS (by omega) fun d H1 d0 d1 e1 S1 => ⟨1, d, rfl, rfl, ?_⟩
    obtain ⟨n1, hn1⟩ := nat_of (show 0 ≤ 1 + d by omega)
    refine ⟨a, n1, B + 1, by rw [← hn1]; rfl, by omega, by omega, S1, by omega, fun pg ps H2 hpg0 e2 S2 pps hps hpg => ?_⟩
    have k2 : Ex (hid H a) H2 := ex_hid2 e1 e2
    obtain ⟨xs1, ha1⟩ := S1.is
    have fpg : H pg = none := fresh_hid e1 ha1 hpg0
    have npg : pg ≠ a := (ne_of_none ha fpg).symm
    -- room
    refine ⟨.ref a, rfl, by show 3 ≤ sizeLine; decide, fun lp nlp => ?_⟩
    have x1 := Ex.new (o := .lst [V.int 2, V.int 5, V.int 40]) nlp
    obtain ⟨xs2, ha2⟩ := S2.is
    have nla : lp ≠ a := (ne_of_none ha2 nlp).symm
    refine w_draw rfl ev_c (by decide) (by decide) (S2.mono x1) (by omega) fun d2 H3 f0 f1 e3 S3 => ?_
    obtain ⟨v, hv, v0, v1⟩ := caps_at f0 f1
    have hlp : H3 lp = some (.lst [V.int 2, V.int 5, V.int 40]) := e3 _ _ (by rw [hid_ne nla, upd_same])
    have k3 : Ex (hid H a) H3 := ex_hid2 (k2.trans x1) e3
    have hpg3 : H3 pg = some (.lst (ps.map V.str)) := e3 _ _ (by rw [hid_ne npg]; exact x1 _ _ hpg)
    refine ⟨lp, [V.int 2, V.int 5, V.int 40], d2, .int v, rfl, rfl, sq_of hlp, hv, ?_⟩
    refine ⟨a, v, _, rfl, v0, by omega, S3, by omega, fun d3 H4 g0 g1 e4 S4 => ⟨1, d3, rfl, rfl, ?_⟩⟩
    have k4 : Ex (hid H a) H4 := ex_hid2 k3 e4
    have hpg4 : H4 pg = some (.lst (ps.map V.str)) := e4 _ _ (by rw [hid_ne npg]; exact hpg3)
    obtain ⟨room, hroom⟩ := nat_of (show 0 ≤ 1 + d3 by omega)
    -- initial
    refine ⟨.ref pg, rfl, .int (1 + d3), rfl, ?_⟩
    refine w_draw rfl (b := (ps.length : Int) + 1) (ev_op (ev_is (ev_len (ev_var rfl) (sq_of hpg4)) (by rw [List.length_map])) ev_c rv_I0) (by omega) (by omega) S4 (by omega) fun d4 H5 h0 h1 e5 S5 => ?_
    have k5 : Ex (hid H a) H5 := ex_hid2 k4 e5
    have hpg5 : H5 pg = some (.lst (ps.map V.str)) := e5 _ _ (by rw [hid_ne npg]; exact hpg4)
    obtain ⟨mn, hmn⟩ := nat_of (show 0 ≤ (if d4 < 1 + d3 then d4 else 1 + d3) by split <;> omega)
    have mn1 : mn ≤ ps.length := by
      split at hmn <;> omega
    have mn2 : mn ≤ room := by
      split at hmn <;> omega
    refine ⟨1 + d3, d4, rfl, (if d4 < 1 + d3 then d4 else 1 + d3), rfl, pg, ps.map V.str, rfl, sq_of hpg5, fun sp1 nsp => ?_⟩
    have hcut : cutV (ps.map V.str) none (some (if d4 < 1 + d3 then d4 else 1 + d3)) = (ps.take mn).map V.str := by rw [hmn, take_cut, List.map_take]
    have x2 := Ex.new (o := .lst (cutV (ps.map V.str) none (some (if d4 < 1 + d3 then d4 else 1 + d3)))) nsp
    refine ⟨sp1, _, rfl, .inl ⟨sq_of upd_same, fun t nt => ?_⟩⟩
    have x3 := Ex.new (o := .tup (cutV (ps.map V.str) none (some (if d4 < 1 + d3 then d4 else 1 + d3)))) nt
    have ht : upd (upd H5 sp1 (.lst (cutV (ps.map V.str) none (some (if d4 < 1 + d3 then d4 else 1 + d3))))) t (.tup (cutV (ps.map V.str) none (some (if d4 < 1 + d3 then d4 else 1 + d3)))) t = some (.tup ((ps.take mn).map V.str)) := by rw [upd_same, hcut]
    have k6 : Ex (hid H a) _ := k5.trans (x2.trans x3)
    have S6 := S5.mono (x2.trans x3)
    have hpg6 := (x2.trans x3) _ _ hpg5
    obtain ⟨xs5, ha5⟩ := S5.is
    have ft : H t = none := fresh_hid k5 ha5 (fresh_back x2 nt)
    have tlen : ((ps.take mn).map V.str).length = mn := by
      rw [List.length_map, List.length_take]
      omega
    generalize upd (upd H5 sp1 _) t _ = H6 at ht k6 S6 hpg6 ⊢
    -- return
    refine ⟨.int (1 + d3), rfl, .ref t, rfl, .ref pg, rfl, .ref t, rfl, t, _, rfl, .inr (.inl (.inl ht)), _, rfl, pg, ps.map V.str, rfl, sq_of hpg6, fun p2 np2 => ?_⟩
    have hdrop : cutV (ps.map V.str) (some ((((ps.take mn).map V.str).length : Nat) : Int)) none = (ps.drop mn).map V.str := by rw [tlen, drop_cut _ (by rw [List.length_map]; exact mn1), List.map_drop]
    have y1 := Ex.new (o := .lst (cutV (ps.map V.str) (some ((((ps.take mn).map V.str).length : Nat) : Int)) none)) np2
    refine ⟨.ref t, rfl, t, _, rfl, .inr (.inl (.inl (y1 _ _ ht))), fun p3 np3 => ?_⟩
    have y2 := Ex.new (o := .lst ((ps.take mn).map V.str)) np3
    refine ⟨p2, p3, _, _, rfl, rfl, y2 _ _ upd_same, upd_same, ?_, fun p4 np4 => ?_⟩
    · rw [hdrop, List.length_map, List.length_drop, tlen]
      exact Nat.le_trans (show _ ≤ 1000 by omega) (by decide)
    · have y3 := Ex.new (o := .lst (cutV (ps.map V.str) (some ((((ps.take mn).map V.str).length : Nat) : Int)) none ++ (ps.take mn).map V.str)) np4
      have yy := (y1.trans y2).trans y3
      have hp4 : upd (upd (upd H6 p2 (.lst (cutV (ps.map V.str) (some ((((ps.take mn).map V.str).length : Nat) : Int)) none))) p3 (.lst ((ps.take mn).map V.str))) p4 (.lst (cutV (ps.map V.str) (some ((((ps.take mn).map V.str).length : Nat) : Int)) none ++ (ps.take mn).map V.str)) p4 = some (.lst ((ps.drop mn ++ ps.take mn).map V.str)) := by rw [upd_same, hdrop, List.map_append]
      have S7 := S6.mono yy
      have ht7 := yy _ _ ht
      obtain ⟨xs6, ha6⟩ := S6.is
      have fp4 : H p4 = none := fresh_hid k6 ha6 (fresh_back (y1.trans y2) np4)
      have k7 : Ex (hid H a) _ := k6.trans yy
      generalize upd (upd (upd H6 p2 _) p3 _) p4 _ = H7 at hp4 S7 ht7 k7 ⊢
      refine w_draw rfl (b := sz + 1) (ev_op (ev_var rfl) ev_c rv_I0) (by omega) (by omega) S7 (by omega) fun d5 H8 i0 i1 e8 S8 => ?_
      have n4a : p4 ≠ a := (ne_of_none ha fp4).symm
      have hp8 : H8 p4 = some (.lst ((ps.drop mn ++ ps.take mn).map V.str)) := e8 _ _ (by rw [hid_ne n4a]; exact hp4)
      obtain ⟨xs7, ha7⟩ := S7.is
      have nta : t ≠ a := ne_of ht7 ha7 (by intro z; cases z)
      have ht8 : H8 t = some (.tup ((ps.take mn).map V.str)) := e8 _ _ (by rw [hid_ne nta]; exact ht7)
      have k8 : Ex (hid H a) H8 := ex_hid2 k7 e8
      refine ⟨by show 4 ≤ sizeLine; decide, fun T nT => ?_⟩
      obtain ⟨nn, hnn⟩ := nat_of i0
      have z1 := Ex.new (o := .tup [V.int (1 + d3), .ref t, .ref p4, .int d5]) nT
      obtain ⟨xs8, ha8⟩ := S8.is
      have fT : H T = none := fresh_hid k8 ha8 nT
      have perm : (ps.drop mn ++ ps.take mn).Perm ps := List.perm_append_comm.trans (by rw [List.take_append_drop])
      have ptake : Pages (ps.take mn) := ⟨fun x hx => pps.all x (List.mem_of_mem_take hx), pps.nd.sublist (List.take_sublist _ _), by have := pps.len; rw [List.length_take]; omega⟩
      refine q T t p4 room nn (ps.take mn) (ps.drop mn ++ ps.take mn) _ fT ft fp4 n4a (k8.trans z1) ((S8.mono z1).le (by omega)) (by rw [upd_same, hnn, hroom]) (z1 _ _ ht8) (z1 _ _ hp8) (by omega) (by omega) ptake ?_ (pps.perm perm) ?_ (by omega)
      · rw [List.length_take]
        omega
      · intro z
        have := perm.length_eq
        rw [z] at this
        simp at this
        omega
end
end KB

set_option Elab.async false
set_option linter.all false
set_option maxRecDepth 100000
set_option maxHeartbeats 8000000
/-! KC: the law's count, walked. -/
namespace KB
open PySem L2 Evl
section
variable {P : Program} {w : World} {K : PySem.W.Frag} {mg : Str → Option Value} {base : Heap}
theorem scCounted : FnScope ["room", "initial", "happened", "size", "there", "late", "k"] ["room", "initial", "happened"] (defScope sCounted) := ⟨rfl, rfl, rfl, by decide +kernel, rfl, by decide +kernel, by decide +kernel⟩
def spCounted (K : PySem.W.Frag) : Sp := fun vs H Q _ => ∃ (room : Nat) (t l : Addr) (ps : List Str) (es : List Ev1), vs = [.int (room : Int), .ref t, .ref l] ∧ SqT K H t (ps.map V.str) ∧ ps.length ≤ room ∧ LogK K H l es ∧
  ∀ p p1 p2 H2, H p = none → H p1 = none → H p2 = none → Ex H H2 → H2 p = some (.lst [.ref p1, .ref p2]) → H2 p1 = some (.lst ((szs room ps.length es).map natV)) → H2 p2 = some (.lst ((lates room ps.length es).map natV)) → Q (.ref p) H2
def lateTo (c n : Nat) (es : List Ev1) (i : Nat) : List Nat := (List.range i).filter (lateB c n es)
theorem lateTo_yes {c n : Nat} {es : List Ev1} {i : Nat} (h : lateB c n es i = true) : lateTo c n es (i + 1) = lateTo c n es i ++ [i] := by
  unfold lateTo
  rw [List.range_succ, List.filter_append, List.filter_cons, if_pos h] <;> rfl
theorem lateTo_no {c n : Nat} {es : List Ev1} {i : Nat} (h : lateB c n es i = false) : lateTo c n es (i + 1) = lateTo c n es i := by
  unfold lateTo
  rw [List.range_succ, List.filter_append, List.filter_cons, if_neg (by rw [h]; decide)]
  exact List.append_nil _
theorem ok_counted {f : Addr} {fd : FuncData} (F : Fun K "_law_counted" "_law_counted" sCounted f fd) (B0 : Bn mg) : FnOk P w K mg base CX0 1 f fd ["room", "initial", "happened"] (spCounted K) := by
  refine F.ok scCounted (fun vs H Q E h => ?_) (fun cdv A outer s H vs Q E hr h => ?_)
  · obtain ⟨room, t, l, ps, es, rfl, _⟩ := h
    rfl
  · obtain ⟨room, t, l, ps, es, rfl, ht, hle, hL, q⟩ := h
    have nd := scCounted.nd
    refine ⟨_, pss_cons (ps_par3 (i := 3) (j := 4) (l := 5) rfl nd rfl rfl rfl (by decide) (by decide) (by decide) rfl rfl rfl (pa_cons (pe_callB call_len_seq (by rfl) B0.len bt_len (pa_cons (pv 1) pa_nil)) (pa_cons (pe_lst (pa_cons (pe_callB call_len_seq (by rfl) B0.len bt_len (pa_cons (pv 1) pa_nil)) pa_nil)) (pa_cons (pe_lst pa_nil) pa_nil))) rfl)
      (pss_cons (ps_for PassesOwn.never rfl (pi_range1 (by rfl) B0.range (pa_cons (pe_callB call_len_seq (by rfl) B0.len bt_len (pa_cons (pv 2) pa_nil)) pa_nil)) (pg_name (i := 6) nd rfl (Or.inl rfl))
        (pss_cut (ps_if (PW.pt (pw_and (pt_cmpR op_eq (pe_ix ix_tup (pe_ix ix_list (pv 2) (pv 6) (fun _ _ => rfl)) pe_int (fun _ _ => rfl)) pe_str (nomark _)) (pw_and1 (pt_cmpR op_eq (pv 3) (pv 0) (nomark _)))))
          (pss_one (ps_expr (pe_bm PySem.F.plainAttrs_list PySem.F.slot_list_append PySem.F.type_list_append mt_append (pv 5) (pa_cons (pv 6) pa_nil))))
          (pss_one (ps_if (pt_cmpR op_eq (pe_ix ix_tup (pe_ix ix_list (pv 2) (pv 6) (fun _ _ => rfl)) pe_int (fun _ _ => rfl)) pe_str (nomark _)) (pss_one (ps_set (i := 3) nd rfl (Or.inl rfl) (pe_op op_add (pv 3) pe_int))) pss_nil)))
        (pss_one (ps_expr (pe_bm PySem.F.plainAttrs_list PySem.F.slot_list_append PySem.F.type_list_append mt_append (pv 4) (pa_cons (pv 3) pa_nil))))))
      (pss_one (ps_ret (pe_lst (pa_cons (pv 4) (pa_cons (pv 5) pa_nil)))))), ?_⟩
    obtain ⟨ts, h1, h2⟩ := hL.at_
    have hn := paired_len h2
    have hl := hL.len
    have hm : (ts.map V.ref).length = es.length := by rw [List.length_map, hn]
    have hps : (ps.map V.str).length = ps.length := List.length_map ..
    refine ⟨.ref t, rfl, t, _, rfl, .inr ht, .ref t, rfl, t, _, rfl, .inr ht, by show 1 ≤ sizeLine; decide, fun p1 n1 => ?_⟩
    have x1 := Ex.new (o := .lst [V.int (((ps.map V.str).length : Nat) : Int)]) n1
    refine ⟨Nat.zero_le _, fun p2 n2 => ⟨_, _, _, rfl, ?_⟩⟩
    have x2 := Ex.new (o := .lst []) n2
    have ne12 : p1 ≠ p2 := ne_of_none upd_same n2
    have g1 : (upd (upd H p1 (.lst [V.int (((ps.map V.str).length : Nat) : Int)])) p2 (.lst [])) p1 = some (.lst [V.int (((ps.map V.str).length : Nat) : Int)]) := x2 _ _ upd_same
    have g2 : (upd (upd H p1 (.lst [V.int (((ps.map V.str).length : Nat) : Int)])) p2 (.lst [])) p2 = some (.lst []) := upd_same
    have f2 : H p2 = none := fresh_back x1 n2
    have k2 : Ex H (upd (upd H p1 (.lst [V.int (((ps.map V.str).length : Nat) : Int)])) p2 (.lst [])) := x1.trans x2
    generalize upd (upd H p1 _) p2 _ = H2 at g1 g2 k2 ⊢
    have s0 : szAt room ps.length es 0 = ps.length := by
      show min room (ps.length + misses (es.take 0)) = ps.length
      rw [List.take_zero]
      show min room (ps.length + 0) = ps.length
      omega
    refine q_forN (n := es.length) (ea_cons (ev_is (ev_len (ev_var rfl) (ex_l k2 h1)) (by rw [hm])) ea_nil) (by omega) (fun i σ H' => ∃ z6, σ = [some (.int (room : Int)), some (.ref t), some (.ref l), some (natV (szAt room ps.length es i)), some (.ref p1), some (.ref p2), z6] ∧ Ex H H' ∧
      H' p1 = some (.lst (((List.range (i + 1)).map (szAt room ps.length es)).map natV)) ∧ H' p2 = some (.lst ((lateTo room ps.length es i).map natV))) (fun H3 e3 => ⟨none, ?_, k2.trans e3, ?_, e3 _ _ g2⟩) (fun i σ H' hi hP => ?_) (fun σ H' hP => ?_)
    · rw [s0]
      show [some (V.int (room : Int)), some (.ref t), some (.ref l), some (.int (((ps.map V.str).length : Nat) : Int)), some (.ref p1), some (.ref p2), none] = _
      rw [hps]
      rfl
    · rw [e3 _ _ g1, hps]
      show _ = some (HO.lst [natV (szAt room ps.length es 0)])
      rw [s0]
      rfl
    · obtain ⟨z6, rfl, e, c1, c2⟩ := hP
      have hv : es[i]? = some es[i] := List.getElem?_eq_getElem hi
      obtain ⟨y, hy, hT⟩ := paired_at h2 hv
      have hts : (ts.map V.ref)[i]? = some (.ref y) := by rw [List.getElem?_map, hy]; rfl
      have step := misses_succ hv
      have mark : ∀ {H5 : Hp} {σ : L2.St}, Ex H' H5 → σ[2]? = some (some (.ref l)) → σ[6]? = some (some (.int (i : Int))) → EvT (tTest (tOp rEq (tOp (rIxT K) (tOp (rIxL K) (tVar 2) (tVar 6)) (tC (.int 0))) (tC (.str "miss")))) σ H5 (isMiss es[i]) := fun e5 s2 s6 =>
        et_is (et_test (ev_op (ev_op (ev_op (ev_var s2) (ev_var s6) (rv_ixL (ex_l (e.trans e5) h1) (atI_nat hts))) ev_c (rv_ixT (ex_t (e.trans e5) hT) (atI_nat (j := 0) rfl))) ev_c (rv_eq rfl))) (dec_miss _)
      have lb : lateB room ps.length es i = (isMiss es[i] && decide (szAt room ps.length es i = room)) := by
        unfold lateB
        rw [hv]
      have sz1 : szAt room ps.length es (i + 1) = min room (ps.length + (misses (es.take i) + if isMiss es[i] = true then 1 else 0)) := by
        unfold szAt
        rw [step]
      have sz0 : szAt room ps.length es i = min room (ps.length + misses (es.take i)) := rfl
      refine ⟨fun σ' H'' => ∃ z6, σ' = [some (.int (room : Int)), some (.ref t), some (.ref l), some (natV (szAt room ps.length es (i + 1))), some (.ref p1), some (.ref p2), z6] ∧ Ex H H'' ∧
        H'' p1 = some (.lst (((List.range (i + 1)).map (szAt room ps.length es)).map natV)) ∧ H'' p2 = some (.lst ((lateTo room ps.length es (i + 1)).map natV)), ?_, fun σ' H'' hM => ?_⟩
      · refine s_if (b := isMiss es[i] && decide (szAt room ps.length es i = room)) (et_and (mark (Ex.refl _) rfl rfl) fun _ => et_is (et_test (ev_op (ev_var rfl) (ev_var rfl) (rv_eq rfl))) (dec_int _ _)) (fun hb H3 e3 => ?_) (fun hb H3 e3 => ?_)
        · rw [← lb] at hb
          refine s_app (l := p2) (xs := (lateTo room ps.length es i).map natV) (v := .int (i : Int)) (e3 _ _ c2) (ev_var rfl) (ev_var rfl) ?_ fun H4 e4 => ?_
          · rw [List.length_map]
            unfold lateTo
            have := List.length_filter_le (lateB room ps.length es) (List.range i)
            rw [List.length_range] at this
            omega
          · rw [lb] at hb
            simp only [Bool.and_eq_true, decide_eq_true_eq] at hb
            have same : szAt room ps.length es (i + 1) = szAt room ps.length es i := by
              rw [sz1, if_pos hb.1]
              rw [sz0] at hb ⊢
              omega
            refine ⟨some (.int (i : Int)), ?_, Ex.mut (e.trans (e3.trans e4)) f2, ?_, ?_⟩
            · rw [same]
              rfl
            · rw [upd_ne ne12]
              exact e4 _ _ (e3 _ _ c1)
            · rw [upd_same, lateTo_yes (by rw [lb]; simp [hb]), List.map_append]
              rfl
        · rw [← lb] at hb
          refine s_when (b := isMiss es[i]) (mark e3 rfl rfl) (fun hb2 H4 e4 => ?_) (fun hb2 H4 e4 => ?_)
          · have nf : szAt room ps.length es i ≠ room := fun z => by
              rw [lb, hb2, z, decide_eq_true rfl] at hb
              cases hb
            have more : szAt room ps.length es (i + 1) = szAt room ps.length es i + 1 := by
              rw [sz1, if_pos hb2]
              rw [sz0] at nf ⊢
              omega
            refine s_asg (ev_op (ev_var rfl) ev_c rv_I0) fun H5 e5 => ⟨some (.int (i : Int)), ?_, e.trans (e3.trans (e4.trans e5)), e5 _ _ (e4 _ _ (e3 _ _ c1)), ?_⟩
            · rw [more]
              rfl
            · rw [lateTo_no hb]
              exact e5 _ _ (e4 _ _ (e3 _ _ c2))
          · have same : szAt room ps.length es (i + 1) = szAt room ps.length es i := by
              rw [sz1, hb2, sz0]
              rfl
            refine ⟨some (.int (i : Int)), ?_, e.trans (e3.trans e4), e4 _ _ (e3 _ _ c1), ?_⟩
            · rw [same]
              rfl
            · rw [lateTo_no hb]
              exact e4 _ _ (e3 _ _ c2)
      · obtain ⟨z6', rfl, e5, c5, c6⟩ := hM
        refine s_app (l := p1) (xs := ((List.range (i + 1)).map (szAt room ps.length es)).map natV) (v := natV (szAt room ps.length es (i + 1))) c5 (ev_var rfl) (ev_var rfl) ?_ fun H6 e6 => ⟨z6', rfl, Ex.mut (e5.trans e6) n1, ?_, ?_⟩
        · rw [List.length_map, List.length_map, List.length_range]
          omega
        · rw [upd_same, List.range_succ (n := i + 1), List.map_append, List.map_append]
          rfl
        · rw [upd_ne ne12.symm]
          exact e6 _ _ c6
    · obtain ⟨z6, rfl, e, c1, c2⟩ := hP
      exact s_retL (el_lst (ea_cons (ev_var rfl) (ea_cons (ev_var rfl) ea_nil)) (show 2 ≤ 100000 by decide)) fun p H3 hp e3 h3 => q p p1 p2 H3 (fresh_back e hp) n1 f2 (e.trans e3) h3 (e3 _ _ c1) (e3 _ _ c2)
end
end KB

set_option Elab.async false
set_option linter.all false
set_option maxRecDepth 100000
set_option maxHeartbeats 8000000
/-! KQ: what a call and its arguments look like as data; the law's comparison, walked. -/
namespace KB
open PySem L2 Evl
def evD (e : Ev1) : PyData := .tuple [.str e.1, .str e.2]
def logD (es : List Ev1) : PyData := .list (es.map evD)
def callD (ps : List Str) (es : List Ev1) : PyData := .tuple [.tuple (ps.map PyData.str), logD es]
theorem page_ok {x : Str} (h : pageB x = true) : PyData.strOk x = true := by
  have := lay_strs (xs := [x]) fun y hy => by rw [List.mem_singleton.mp hy]; exact h
  have e : (PyData.canLay0 (.str x) && PyData.canLayAll0 []) = true := this
  rw [Bool.and_eq_true] at e
  exact e.1
theorem mark_ok {x : Str} (h : x = hitS ∨ x = missS) : PyData.strOk x = true ∧ x.cps.size ≤ 4 := by
  rcases h with rfl | rfl <;> decide +kernel
theorem evs_lay : ∀ {es : List Ev1}, (∀ e ∈ es, okE e) → PyData.canLayAll0 (es.map evD) = true
  | [], _ => rfl
  | e :: es, h => by
    have ih := evs_lay (es := es) fun y hy => h y (List.mem_cons_of_mem _ hy)
    obtain ⟨h1, h2⟩ := h e List.mem_cons_self
    rw [List.map_cons, PyData.canLayAll0, ih, Bool.and_true]
    show (PyData.strOk e.1 && (PyData.strOk e.2 && true)) = true
    rw [(mark_ok h1).1, page_ok h2]
    rfl
theorem evs_depth : ∀ es : List Ev1, PyData.depthAll (es.map evD) ≤ 1
  | [] => Nat.zero_le _
  | e :: es => by
    have ih := evs_depth es
    rw [List.map_cons, PyData.depthAll]
    have : PyData.depth (evD e) = 1 := rfl
    omega
theorem evs_weight : ∀ {es : List Ev1}, (∀ e ∈ es, okE e) → PyData.weightAll (es.map evD) ≤ 11 * es.length
  | [], _ => Nat.zero_le _
  | e :: es, h => by
    have ih := evs_weight (es := es) fun y hy => h y (List.mem_cons_of_mem _ hy)
    obtain ⟨h1, h2⟩ := h e List.mem_cons_self
    rw [List.map_cons, PyData.weightAll, List.length_cons]
    have m := (mark_ok h1).2
    have p : e.2.cps.size ≤ 4 := pageB_len h2
    have : PyData.weight (evD e) = e.1.cps.size + 1 + (e.2.cps.size + 1 + 0) := rfl
    omega
theorem strs_weight : ∀ {ps : List Str}, (∀ p ∈ ps, pageB p = true) → PyData.weightAll (ps.map PyData.str) ≤ 5 * ps.length
  | [], _ => Nat.zero_le _
  | p :: ps, h => by
    have ih := strs_weight (ps := ps) fun y hy => h y (List.mem_cons_of_mem _ hy)
    have hp : p.cps.size ≤ 4 := pageB_len (h p List.mem_cons_self)
    rw [List.map_cons, PyData.weightAll, List.length_cons]
    have : PyData.weight (.str p) = p.cps.size := rfl
    omega
theorem evs_show : ∀ es : List Ev1, PyData.showableAll (es.map evD) = true
  | [] => rfl
  | e :: es => by
    rw [List.map_cons, PyData.showableAll, evs_show es]
    rfl
theorem strs_show : ∀ ps : List Str, PyData.showableAll (ps.map PyData.str) = true
  | [] => rfl
  | e :: es => by
    rw [List.map_cons, PyData.showableAll, strs_show es]
    rfl
theorem evs_short : ∀ es : List Ev1, PyData.intsShortAll 13 (es.map evD) = true
  | [] => rfl
  | e :: es => by
    rw [List.map_cons, PyData.intsShortAll, evs_short es]
    rfl
theorem strs_short : ∀ ps : List Str, PyData.intsShortAll 13 (ps.map PyData.str) = true
  | [] => rfl
  | e :: es => by
    rw [List.map_cons, PyData.intsShortAll, strs_short es]
    rfl
theorem call_lay {ps : List Str} {es : List Ev1} (hp : ∀ p ∈ ps, pageB p = true) (he : ∀ e ∈ es, okE e) : PyData.canLay0 (callD ps es) = true := by
  show (PyData.canLayAll0 (ps.map PyData.str) && (PyData.canLayAll0 (es.map evD) && true)) = true
  rw [lay_strs hp, evs_lay he]
  rfl
theorem call_depth (ps : List Str) (es : List Ev1) : PyData.depth (callD ps es) ≤ 4 := by
  have h1 := evs_depth es
  have h2 := depth_strs ps
  have : PyData.depth (callD ps es) = max (PyData.depthAll (ps.map PyData.str) + 1) (max (PyData.depthAll (es.map evD) + 1) 0) + 1 := rfl
  omega
theorem call_text {ps : List Str} {es : List Ev1} (hp : Pages ps) (he : ∀ e ∈ es, okE e) (hl : es.length ≤ 300) : (callD ps es).shown.length ≤ sizeLine := by
  refine PyData.shown_fits_of_layable0 (B := 13) (by decide) (by decide) ?_ ?_
  · unfold PyData.layable0
    rw [call_lay hp.all he, Bool.true_and, Bool.and_eq_true, decide_eq_true_eq, decide_eq_true_eq]
    have h1 := call_depth ps es
    have h2 := evs_weight he
    have h3 := strs_weight hp.all
    have h4 := hp.len
    have : PyData.weight (callD ps es) = PyData.weightAll (ps.map PyData.str) + 1 + (PyData.weightAll (es.map evD) + 1 + 0) := rfl
    omega
  · show (PyData.intsShortAll 13 (ps.map PyData.str) && (PyData.intsShortAll 13 (es.map evD) && true)) = true
    rw [strs_short, evs_short]
    rfl
theorem call_show (ps : List Str) (es : List Ev1) : (callD ps es).showable = true := by
  show (PyData.showableAll (ps.map PyData.str) && (PyData.showableAll (es.map evD) && true)) = true
  rw [strs_show, evs_show]
  rfl
theorem dp_evs {K : PySem.W.Frag} {H : Hp} : ∀ {ts : List Addr} {es : List Ev1}, Paired (fun t (e : Ev1) => SqT K H t [.str e.1, .str e.2]) ts es → DpAll K H (ts.map V.ref) (es.map evD)
  | _, _, .nil => .nil
  | _, _, .cons h t => .cons (.tup h (.cons (.str _) (.cons (.str _) .nil))) (dp_evs t)
/-- the data of two lists of numbers -/
def numD (ns : List Nat) : PyData := .list (ns.map fun (n : Nat) => PyData.int (n : Int))
def twoD (as bs : List Nat) : PyData := .list [numD as, numD bs]
def TwoAt (H : Hp) (p p1 p2 : Addr) (as bs : List Nat) : Prop := H p = some (.lst [.ref p1, .ref p2]) ∧ H p1 = some (.lst (as.map natV)) ∧ H p2 = some (.lst (bs.map natV))
theorem TwoAt.mono {H H' : Hp} {p p1 p2 : Addr} {as bs : List Nat} (e : Ex H H') (h : TwoAt H p p1 p2 as bs) : TwoAt H' p p1 p2 as bs := ⟨e _ _ h.1, e _ _ h.2.1, e _ _ h.2.2⟩
theorem TwoAt.dp {K : PySem.W.Frag} {H : Hp} {p p1 p2 : Addr} {as bs : List Nat} (h : TwoAt H p p1 p2 as bs) : Dp K H (.ref p) (twoD as bs) :=
  .lst (sq_of h.1) (.cons (.lst (sq_of h.2.1) (dp_ints as)) (.cons (.lst (sq_of h.2.2) (dp_ints bs)) .nil))
theorem two_lay (as bs : List Nat) : PyData.canLay0 (twoD as bs) = true := by
  show (PyData.canLayAll0 _ && (PyData.canLayAll0 _ && true)) = true
  rw [lay_ints, lay_ints]
  rfl
theorem two_shaped (as bs : List Nat) : SeqAt.shaped (twoD as bs) = true := by
  unfold SeqAt.shaped
  rw [two_lay, Bool.true_and, decide_eq_true_eq]
  have h1 := depth_ints as
  have h2 := depth_ints bs
  have : PyData.depth (twoD as bs) = max (PyData.depthAll (as.map fun (n : Nat) => PyData.int (n : Int)) + 1) (max (PyData.depthAll (bs.map fun (n : Nat) => PyData.int (n : Int)) + 1) 0) + 1 := rfl
  omega
section
variable {K : PySem.W.Frag} {σ : L2.St} {H : Hp} {ta tb : TE}
theorem rv_eqTwo {p p1 p2 q q1 q2 : Addr} {as bs : List Nat} (h1 : TwoAt H p p1 p2 as bs) (h2 : TwoAt H q q1 q2 as bs) : RV (rEqD K) (.ref p) (.ref q) H (.bl true) := fun H1 e Q k => ⟨twoD as bs, twoD as bs, (h1.mono e).dp, (h2.mono e).dp, two_shaped as bs, two_shaped as bs, by
  rw [SeqAt.eqv_refl _ (two_lay as bs)]
  exact k H1 (Ex.refl H1)⟩
theorem rv_neTwo {p p1 p2 q q1 q2 : Addr} {as bs : List Nat} (h1 : TwoAt H p p1 p2 as bs) (h2 : TwoAt H q q1 q2 as bs) : RV (rNeD K) (.ref p) (.ref q) H (.bl false) := fun H1 e Q k => ⟨twoD as bs, twoD as bs, (h1.mono e).dp, (h2.mono e).dp, two_shaped as bs, two_shaped as bs, by
  rw [SeqAt.eqv_refl _ (two_lay as bs)]
  exact k H1 (Ex.refl H1)⟩
/-- repr((start, log)) -/
theorem ev_reprCall {t l : Addr} {ps : List Str} {es : List Ev1} (ha : Ev ta σ H (.ref t)) (hb : Ev tb σ H (.ref l)) (ht : SqT K H t (ps.map V.str)) (hp : Pages ps) (hL : LogK K H l es) :
    Ev (tCB (rReprD K) (tCons (tTup (tCons ta (tCons tb tNil))) tNil)) σ H (.str (callD ps es).shown) := fun H1 e Q q =>
  by
    have hu : EvU (tTup (tCons ta (tCons tb tNil))) σ H [.ref t, .ref l] := eu_tup (ea_cons ha (ea_cons hb ea_nil)) (show 2 ≤ 100000 by decide)
    show tTup (tCons ta (tCons tb tNil)) σ H1 (fun x H2 => tNil σ H2 fun xs H3 => rReprD K (x :: xs) H3 Q)
    refine hu H1 e _ fun p H2 _ e2 h2 => ?_
    obtain ⟨ts, h3, h4⟩ := (hL.mono (e.trans e2)).at_
    exact ⟨p, callD ps es, rfl, .tup (.inl (.inl h2)) (.cons (.tup (ex_t (e.trans e2) ht) (dp_strs ps)) (.cons (.lst h3 (dp_evs h4)) .nil)), call_show ps es, PyData.hasDict_of_canLay _ (call_lay hp.all hL.ok), Nat.le_trans (call_depth ps es) (by decide), call_text hp hL.ok hL.len, q H2 e2⟩
theorem el_k0 {sp : Sp} {gV : List V → List V → List V} {zs xs : List V} {tk : TA} (h : EvA tk σ H zs) (hs : ∀ H1, Ex H H1 → ∀ Q : VK, RetL xs H1 Q → sp (gV [] zs) H1 Q E0) : EvL (tCallK0 sp gV E0 tk) σ H xs := fun H1 e Q q =>
  h H1 e _ fun H2 e2 => hs H2 (e.trans e2) Q fun p H3 hp e3 h3 => q p H3 (fresh_back e2 hp) (e2.trans e3) h3
end
/-- a def as callers by keywords know it -/
structure ClK (P : Program) (w : World) (K : PySem.W.Frag) (mg : Str → Option Value) (base : Heap) (k : Nat) (x : Str) (ps ks : List Str) (gV : List V → List V → List V) (sp : Sp) : Prop where
  ex : ∃ (f : Addr) (fd : FuncData) (g : List Value → List Value → List Value), FnOk P w K mg base CX0 k f fd ps sp ∧ mg x = some (.ref f) ∧ PySem.W.keepIn K (.ref f) = true ∧ KBinds K fd ps ks g gV
theorem pe_clk {X : Cx} {k j : Nat} {ps ks : List Str} {sp : Sp} {x : Str} {p pos : Pos} {kws : List Keyword} {tk : TA} {gV : List V → List V → List V} (c : ClK X.prog X.w X.K X.mg X.base k x ps ks gV sp) (hr : Room j X.A) (hkw : PK X kws tk) (hk : k ≤ j := by decide) (hg : Gl X x := by rfl)
    (hall : (backToKw pos (keywordEach kws X.env)).all (·.1.isSome) = true := by rfl) (hks : (backToKw pos (keywordEach kws X.env)).filterMap (·.1) = ks := by rfl)
    (hdb : (x == ("__debug__" : Str)) = false := by decide) (hpl : ((backTo pos (starEach [] X.env)).any (·.1) || (backToKw pos (keywordEach kws X.env)).any (·.1.isNone)) = false := by rfl) : PE X (.Call (.Name x p) [] kws pos) (tCallK0 sp gV E0 tk) := by
  obtain ⟨f, fd, g, F, hm, kp, hb⟩ := c.ex
  exact pe_callK0 F (hr.mono hk) hg hm kp hb pass0 hkw hall hks hdb hpl
/-- keywords in the parameters' order, and turned round -/
def kwSame (vs zs : List V) : List V := if vs = [] then zs else []
def kwBack (vs zs : List V) : List V := if vs = [] then zs.reverse else []
section
variable {P : Program} {w : World} {K : PySem.W.Frag} {mg : Str → Option Value} {base : Heap}
abbrev NRight : List Str := ["room", "initial", "happened", "due", "before", "found", "again"]
theorem scRight : FnScope NRight ["room", "initial", "happened", "due"] (defScope sRight) := ⟨rfl, rfl, rfl, by decide +kernel, rfl, by decide +kernel, by decide +kernel⟩
def spRight (K : PySem.W.Frag) : Sp := fun vs H Q _ => ∃ (c : Nat) (t l du d1 d2 : Addr) (ps : List Str) (es : List Ev1), vs = [.int (c : Int), .ref t, .ref l, .ref du] ∧ Args3 K H c t l ps es ∧ TwoAt H du d1 d2 (szs c ps.length es) (lates c ps.length es) ∧ RetV (.bl true) H Q
abbrev P3 : List Str := ["capacity", "start", "log"]
theorem ok_right {f : Addr} {fd : FuncData} (F : Fun K "_law_right" "_law_right" sRight f fd) (B0 : Bn mg) (B2 : Bl mg) (cS : Cl P w K mg base 7 "sizes" P3 (spSizes K)) (cE : Cl P w K mg base 8 "evicting_misses" P3 (spEvicting K))
    (kS : ClK P w K mg base 7 "sizes" P3 ["capacity", "start", "log"] kwSame (spSizes K)) (kE : ClK P w K mg base 8 "evicting_misses" P3 ["log", "start", "capacity"] kwBack (spEvicting K)) : FnG P w K mg base CX0 9 f fd ["room", "initial", "happened", "due"] (spRight K) := by
  refine okG F scRight (fun vs H Q E h => ?_) (fun cdv A outer s H vs Q E hG hr h => ?_)
  · obtain ⟨c, t, l, du, d1, d2, ps, es, rfl, _⟩ := h
    rfl
  · obtain ⟨c, t, l, du, d1, d2, ps, es, rfl, ha, hd, q⟩ := h
    have nd := scRight.nd
    refine ⟨_, (pss_cons (ps_set (i := 4) nd rfl (Or.inl rfl) (pe_callB (call_reprD hr hG) (by rfl) B2.repr bt_repr (pa_cons (pe_tup (pa_cons (pv 1) (pa_cons (pv 2) pa_nil))) pa_nil)))
      (pss_cons (ps_set (i := 5) nd rfl (Or.inl rfl) (pe_lst (pa_cons (pe_cl cS hr (pa_cons (pv 0) (pa_cons (pv 1) (pa_cons (pv 2) pa_nil)))) (pa_cons (pe_cl cE hr (pa_cons (pv 0) (pa_cons (pv 1) (pa_cons (pv 2) pa_nil)))) pa_nil))))
      (pss_cons (ps_set (i := 6) nd rfl (Or.inl rfl) (pe_lst (pa_cons (pe_clk kS hr (pk_cons (pv 0) (pk_cons (pv 1) (pk_cons (pv 2) pk_nil)))) pa_nil)))
      (pss_cons (ps_expr (pe_bm PySem.F.plainAttrs_list PySem.F.slot_list_append PySem.F.type_list_append mt_append (pv 6) (pa_cons (pe_clk kE hr (pk_cons (pv 2) (pk_cons (pv 1) (pk_cons (pv 0) pk_nil)))) pa_nil)))
      (pss_cons (ps_if (PW.pt (pw_or (pt_cmpR (op_neD hr.units) (pv 5) (pv 3) (nomark _)) (pw_or (pt_cmpR (op_neD hr.units) (pv 6) (pv 3) (nomark _)) (pw_or1 (pt_cmpR op_ne (pe_callB (call_reprD hr hG) (by rfl) B2.repr bt_repr (pa_cons (pe_tup (pa_cons (pv 1) (pa_cons (pv 2) pa_nil))) pa_nil)) (pv 4) (nomark _)))))) (pss_one (ps_ret pe_bl)) pss_nil)
      (pss_cons (ps_expr (pe_bm PySem.F.plainAttrs_list PySem.F.slot_list_append PySem.F.type_list_append mt_append (pe_ix ix_list (pv 5) pe_int (fun _ _ => rfl)) (pa_cons pe_int pa_nil)))
      (pss_cons (ps_expr (pe_bm PySem.F.plainAttrs_list PySem.F.slot_list_append PySem.F.type_list_append mt_append (pe_ix ix_list (pv 5) pe_int (fun _ _ => rfl)) (pa_cons pe_int pa_nil)))
      (pss_one (ps_ret (pe_cmpR (op_eqD hr.units) (pe_lst (pa_cons (pe_cl cS hr (pa_cons (pv 0) (pa_cons (pv 1) (pa_cons (pv 2) pa_nil)))) (pa_cons (pe_cl cE hr (pa_cons (pv 0) (pa_cons (pv 1) (pa_cons (pv 2) pa_nil)))) pa_nil))) (pv 3) (nomark _))))))))))).nox, ?_⟩
    have three : ∀ {σ : L2.St} {H' : Hp}, σ[0]? = some (some (.int (c : Int))) → σ[1]? = some (some (.ref t)) → σ[2]? = some (some (.ref l)) → EvA (tCons (tVar 0) (tCons (tVar 1) (tCons (tVar 2) tNil))) σ H' [.int (c : Int), .ref t, .ref l] := fun a b d => ea_cons (ev_var a) (ea_cons (ev_var b) (ea_cons (ev_var d) ea_nil))
    refine q_asg (ev_reprCall (ev_var rfl) (ev_var rfl) ha.st ha.pg ha.lg) fun H1 e1 => ?_
    -- found
    refine (el_fn (xs := (szs c ps.length es).map natV) (three rfl rfl rfl) fun H4 e4 Q' k => ⟨c, t, l, ps, es, rfl, ha.mono (e1.trans e4), k⟩) H1 (Ex.refl H1) _ fun p1 H2 hp1 e2 c1 => ?_
    refine (el_fn (xs := (lates c ps.length es).map natV) (three rfl rfl rfl) fun H4 e4 Q' k => ⟨c, t, l, ps, es, rfl, ha.mono (e1.trans (e2.trans e4)), k⟩) H2 (Ex.refl H2) _ fun p2 H3 hp2 e3 c2 => ⟨by show 2 ≤ sizeLine; decide, fun fo nfo => ?_⟩
    have x1 := Ex.new (o := .lst [V.ref p1, .ref p2]) nfo
    have tw1 : TwoAt (upd H3 fo (.lst [V.ref p1, .ref p2])) fo p1 p2 (szs c ps.length es) (lates c ps.length es) := ⟨upd_same, x1 _ _ (e3 _ _ c1), x1 _ _ c2⟩
    have f1 : H p1 = none := fresh_back e1 hp1
    have f2 : H p2 = none := fresh_back (e1.trans e2) hp2
    have n12 : p1 ≠ p2 := ne_of_none c1 hp2
    have n1f : p1 ≠ fo := ne_of_none (e3 _ _ c1) nfo
    have n2f : p2 ≠ fo := ne_of_none c2 nfo
    have k4 : Ex H (upd H3 fo (.lst [V.ref p1, .ref p2])) := (e1.trans (e2.trans e3)).trans x1
    generalize upd H3 fo _ = H4 at tw1 k4 ⊢
    -- again
    refine (el_k0 (xs := (szs c ps.length es).map natV) (three rfl rfl rfl) fun H5 e5 Q' k => ⟨c, t, l, ps, es, rfl, ha.mono (k4.trans e5), k⟩) H4 (Ex.refl H4) _ fun b1 H5 hb1 e5 c5 => ⟨by show 1 ≤ sizeLine; decide, fun ag nag => ?_⟩
    have x2 := Ex.new (o := .lst [V.ref b1]) nag
    have nfa : fo ≠ ag := ne_of_none (e5 _ _ tw1.1) nag
    have n1a : p1 ≠ ag := ne_of_none (e5 _ _ tw1.2.1) nag
    have n2a : p2 ≠ ag := ne_of_none (e5 _ _ tw1.2.2) nag
    have nba : b1 ≠ ag := ne_of_none c5 nag
    have fag : H ag = none := fresh_back (k4.trans e5) nag
    refine q_appL (l := ag) (xs := [V.ref b1]) (ys := (lates c ps.length es).map natV) upd_same (ev_var rfl) (el_k0 (ea_cons (ev_var rfl) (ea_cons (ev_var rfl) (ea_cons (ev_var rfl) ea_nil))) fun H6 e6 Q' k => ⟨c, t, l, ps, es, rfl, ha.mono (((k4.trans e5).trans x2).trans e6), k⟩) (show 1 < 100000 by decide) fun b2 H6 hb2 e6 c6 => ?_
    have nb2 : b2 ≠ ag := fun z => by rw [z, upd_same] at hb2; cases hb2
    have tw2 : TwoAt (upd H6 ag (.lst ([V.ref b1] ++ [.ref b2]))) ag b1 b2 (szs c ps.length es) (lates c ps.length es) := ⟨upd_same, by rw [upd_ne nba]; exact e6 _ _ (x2 _ _ c5), by rw [upd_ne nb2]; exact c6⟩
    have tw3 : TwoAt (upd H6 ag (.lst ([V.ref b1] ++ [.ref b2]))) fo p1 p2 (szs c ps.length es) (lates c ps.length es) := ⟨by rw [upd_ne nfa]; exact e6 _ _ (x2 _ _ (e5 _ _ tw1.1)), by rw [upd_ne n1a]; exact e6 _ _ (x2 _ _ (e5 _ _ tw1.2.1)), by rw [upd_ne n2a]; exact e6 _ _ (x2 _ _ (e5 _ _ tw1.2.2))⟩
    have k7 : Ex H (upd H6 ag (.lst ([V.ref b1] ++ [.ref b2]))) := Ex.mut (((k4.trans e5).trans x2).trans e6) fag
    generalize upd H6 ag _ = H7 at tw2 tw3 k7 ⊢
    -- the comparisons
    refine q_when (b := false || (false || !decide (V.str (callD ps es).shown = V.str (callD ps es).shown))) ?_ (fun hb => by simp at hb) (fun _ H8 e8 => ?_)
    · exact et_or (et_test (ev_op (ev_var rfl) (ev_var rfl) (rv_neTwo tw3 (hd.mono k7)))) fun _ => et_or (et_test (ev_op (ev_var rfl) (ev_var rfl) (rv_neTwo tw2 (hd.mono k7)))) fun _ =>
        et_test (ev_op (ev_reprCall (ev_var rfl) (ev_var rfl) (ex_t k7 ha.st) ha.pg (ha.lg.mono k7)) (ev_var rfl) (rv_ne rfl))
    · have tw4 := tw3.mono e8
      refine q_app (l := p1) (xs := (szs c ps.length es).map natV) (v := .int 7) tw4.2.1 (ev_op (ev_var rfl) ev_c (rv_ixL (sq_of tw4.1) (atI_nat (j := 0) rfl))) ev_c ?_ fun H9 e9 => ?_
      · unfold szs
        have := ha.lg.len
        rw [List.length_map, List.length_map, List.length_range]
        omega
      · have k9 : Ex H (upd H9 p1 (.lst ((szs c ps.length es).map natV ++ [.int 7]))) := Ex.mut (k7.trans (e8.trans e9)) f1
        have g2 : (upd H9 p1 (.lst ((szs c ps.length es).map natV ++ [.int 7]))) p2 = some (.lst ((lates c ps.length es).map natV)) := by rw [upd_ne n12.symm]; exact e9 _ _ tw4.2.2
        have gf : (upd H9 p1 (.lst ((szs c ps.length es).map natV ++ [.int 7]))) fo = some (.lst [.ref p1, .ref p2]) := by rw [upd_ne n1f.symm]; exact e9 _ _ tw4.1
        generalize upd H9 p1 _ = Ha at k9 g2 gf ⊢
        refine q_app (l := p2) (xs := (lates c ps.length es).map natV) (v := .int 7) g2 (ev_op (ev_var rfl) ev_c (rv_ixL (sq_of gf) (atI_nat (j := 1) rfl))) ev_c ?_ fun Hb eb => ?_
        · unfold lates
          have := ha.lg.len
          have h2 := List.length_filter_le (lateB c ps.length es) (List.range es.length)
          rw [List.length_range] at h2
          rw [List.length_map]
          omega
        · have kb : Ex H (upd Hb p2 (.lst ((lates c ps.length es).map natV ++ [.int 7]))) := Ex.mut (k9.trans eb) f2
          generalize upd Hb p2 _ = Hc at kb ⊢
          -- once more
          refine (el_fn (xs := (szs c ps.length es).map natV) (three rfl rfl rfl) fun H4 e4 Q' k => ⟨c, t, l, ps, es, rfl, ha.mono (kb.trans e4), k⟩) Hc (Ex.refl Hc) _ fun r1 Hd hr1 ed cd => ?_
          refine (el_fn (xs := (lates c ps.length es).map natV) (three rfl rfl rfl) fun H4 e4 Q' k => ⟨c, t, l, ps, es, rfl, ha.mono (kb.trans (ed.trans e4)), k⟩) Hd (Ex.refl Hd) _ fun r2 He hr2 ee ce => ⟨by show 2 ≤ sizeLine; decide, fun ro nro => ?_⟩
          have x3 := Ex.new (o := .lst [V.ref r1, .ref r2]) nro
          have tw5 : TwoAt (upd He ro (.lst [V.ref r1, .ref r2])) ro r1 r2 (szs c ps.length es) (lates c ps.length es) := ⟨upd_same, x3 _ _ (ee _ _ cd), x3 _ _ ce⟩
          have kf : Ex H _ := (kb.trans (ed.trans ee)).trans x3
          refine ⟨.ref du, rfl, ?_⟩
          exact rv_eqTwo tw5 (hd.mono kf) _ (Ex.refl _) _ fun Hf ef => q Hf (kf.trans ef)
end
end KB

set_option Elab.async false
set_option linter.all false
set_option maxRecDepth 100000
set_option maxHeartbeats 16000000
/-! KX: the law. -/
namespace KB
open PySem L2 Evl
theorem exP {H H' H'' : Hp} {p : Addr} (e0 : Ex H H') (fp : H p = none) (e : Ex (hid H' p) H'') : Ex H H'' := fun b o h => e b o (by rw [hid_ne (ne_of_none h fp)]; exact e0 b o h)
section
variable {K : PySem.W.Frag} {σ : L2.St} {H H1 : Hp} {te tl : TE} {Q : VK}
/-- within a comprehension over range(n) -/
theorem lcR_in {j n : Nat} {vs : List Nat} (Pv : Addr → Nat → Hp → Prop) (h0 : ∀ Dl, H1 Dl = none → Pv Dl 0 (upd H1 Dl (.lst [])))
    (hw : ∀ x, wipe ((wipe σ vs).set j (some x)) vs = wipe σ vs)
    (hs : ∀ Dl i H1, i < n → Pv Dl i H1 → te ((wipe σ vs).set j (some (.int (i : Int)))) H1 fun y H4 => ∃ acc, H4 Dl = some (.lst acc) ∧ acc.length < sizeLine ∧ Pv Dl (i + 1) (upd H4 Dl (.lst (acc ++ [y]))))
    (hd : ∀ Dl H1, Pv Dl n H1 → Q (.ref Dl) H1) : tLc (fun _ _ R => R (Itr 0 n) H1) (gName j) tYes te vs σ H Q :=
  fun Dl hD => lc_range (lo := 0) (n := n) (Pv Dl) (h0 Dl hD) (fun i H' hi p => by
    have e0 : (0 : Int) + (i : Int) = (i : Int) := Int.zero_add _
    show wipe ((wipe σ vs).set j (some (.int ((0 : Int) + (i : Int))))) vs = wipe σ vs ∧ (if true = true then te ((wipe σ vs).set j (some (.int ((0 : Int) + (i : Int))))) H' fun y H4 => ∃ acc, H4 Dl = some (.lst acc) ∧ acc.length < sizeLine ∧ Pv Dl (i + 1) (upd H4 Dl (.lst (acc ++ [y]))) else Pv Dl (i + 1) H')
    rw [e0, if_pos rfl]
    exact ⟨hw _, hs Dl i H' hi p⟩) (fun H' p => hd Dl H' p)
theorem w_lcRd {i j : Nat} {vs : List Nat} {a : Addr} {b B : Int} (hs : σ[i]? = some (some (.ref a))) (h1 : 0 < b) (h2 : b ≤ 1000) (S : SrcAt H a B) (hB : B ≤ 1000000)
    (k : ∀ (n : Nat) H1, (n : Int) < b → Ex (hid H a) H1 → SrcAt H1 a (B + 1) → tLc (fun _ _ R => R (Itr 0 n) H1) (gName j) tYes te vs σ H Q) : tLc (iRng1 (tCons (tCall spDraw [] E0 (tCons (tVar i) (tCons (tC (.int b)) tNil))) tNil)) (gName j) tYes te vs σ H Q :=
  w_draw (Q := fun x H1 => tNil σ H1 fun xs H2 => ∃ jj : Int, x :: xs = [.int jj] ∧ -(2 ^ 62) ≤ jj ∧ jj < 2 ^ 62 ∧ tLc (fun _ _ R => R (Itr 0 jj.toNat) H2) (gName j) tYes te vs σ H Q) hs ev_c h1 (by omega) S hB fun d H1 d0 d1 e S1 => ⟨d, rfl, by omega, by omega, k d.toNat H1 (by omega) e S1⟩
/-- a comprehension over a list whose element may lay new things -/
theorem w_lcL {a : Addr} {xs : List V} {j : Nat} {vs : List Nat} (h : Ev tl σ H (.ref a)) (hq : SqL K H a xs) (Pv : Addr → Nat → Hp → Prop) (h0 : ∀ Dl H1, H1 Dl = none → Ex H H1 → Pv Dl 0 (upd H1 Dl (.lst [])))
    (hl : ∀ Dl i H1, Pv Dl i H1 → SqL K H1 a xs) (hw : ∀ x, wipe ((wipe σ vs).set j (some x)) vs = wipe σ vs)
    (hs : ∀ Dl i x H1, xs[i]? = some x → Pv Dl i H1 → te ((wipe σ vs).set j (some x)) H1 fun y H4 => ∃ acc, H4 Dl = some (.lst acc) ∧ acc.length < sizeLine ∧ Pv Dl (i + 1) (upd H4 Dl (.lst (acc ++ [y]))))
    (hd : ∀ Dl H1, Pv Dl xs.length H1 → Q (.ref Dl) H1) : tLc (iList K tl) (gName j) tYes te vs σ H Q :=
  h H (Ex.refl H) _ fun H1 e1 => ⟨a, rfl, ⟨xs, ex_l e1 hq⟩, fun Dl hD => lc_list (xs := xs) (Pv Dl) (h0 Dl H1 hD e1) (fun i H' _ p => hl Dl i H' p) (fun i x H' hx p => by
    show wipe ((wipe σ vs).set j (some x)) vs = wipe σ vs ∧ (if true = true then te ((wipe σ vs).set j (some x)) H' fun y H4 => ∃ acc, H4 Dl = some (.lst acc) ∧ acc.length < sizeLine ∧ Pv Dl (i + 1) (upd H4 Dl (.lst (acc ++ [y]))) else Pv Dl (i + 1) H')
    rw [if_pos rfl]
    exact ⟨hw _, hs Dl i x H' hx p⟩) (fun H' p => hd Dl H' p)⟩
theorem q_asgW {i : Nat} {tz : TS} {D : Ends} (h : te σ H fun x H1 => tz D (σ.set i (some x)) H1) : tSeq (tAsg te (gName i)) tz D σ H := h
theorem q_asgG {g : TG} {tz : TS} {D : Ends} (h : te σ H fun x H1 => g x σ H1 (tz D)) : tSeq (tAsg te g) tz D σ H := h
/-- a list of events written out -/
def EvLg (K : PySem.W.Frag) (te : TE) (σ : L2.St) (H : Hp) (es : List Ev1) : Prop := ∀ H1, Ex H H1 → ∀ Q : VK, (∀ l H2, Ex H1 H2 → LogK K H2 l es → Q (.ref l) H2) → te σ H1 Q
theorem lg_nil : EvLg K (tLst tNil) σ H [] := fun H1 e Q q => ⟨Nat.zero_le _, fun l hl => q l _ (Ex.new hl) ⟨⟨[], .inl (.inl upd_same), .nil⟩, (fun e he => nomatch he), Nat.zero_le _⟩⟩
theorem lg_one {m x : Str} (hm : okE (m, x)) : EvLg K (tLst (tCons (tTup (tCons (tC (.str m)) (tCons (tC (.str x)) tNil))) tNil)) σ H [(m, x)] := fun H1 e Q q => ⟨by show 2 ≤ sizeLine; decide, fun tp ntp => ⟨by show 1 ≤ sizeLine; decide, fun l hl =>
  q l _ ((Ex.new ntp).trans (Ex.new hl)) ⟨⟨[tp], .inl (.inl upd_same), .cons (.inl (.inl (Ex.new hl _ _ upd_same))) .nil⟩, (fun e he => by rw [List.mem_singleton.mp he]; exact hm), (show 1 ≤ 300 by decide)⟩⟩⟩
theorem el_sizes3 {c : Nat} {ps : List Str} {es : List Ev1} {tt tl : TE} (hc : 1 ≤ c) (hp : Pages ps) (hle : ps.length ≤ c) (ht : EvU tt σ H (ps.map V.str)) (hl : EvLg K tl σ H es) : EvL (tCall (spSizes K) [] E0 (tCons (tC (.int (c : Int))) (tCons tt (tCons tl tNil)))) σ H ((szs c ps.length es).map natV) := fun H1 e Q q =>
  ht H1 e _ fun t H2 ht0 e2 h2 => hl H2 (e.trans e2) _ fun l H3 e3 L => ⟨c, t, l, ps, es, rfl, ⟨hc, .inl (.inl (e3 _ _ h2)), hp, hle, L⟩, fun p H4 hp4 e4 h4 => q p H4 (fresh_back (e2.trans e3) hp4) ((e2.trans e3).trans e4) h4⟩
theorem el_evict3 {c : Nat} {ps : List Str} {es : List Ev1} {tt tl : TE} (hc : 1 ≤ c) (hp : Pages ps) (hle : ps.length ≤ c) (ht : EvU tt σ H (ps.map V.str)) (hl : EvLg K tl σ H es) : EvL (tCall (spEvicting K) [] E0 (tCons (tC (.int (c : Int))) (tCons tt (tCons tl tNil)))) σ H ((lates c ps.length es).map natV) := fun H1 e Q q =>
  ht H1 e _ fun t H2 ht0 e2 h2 => hl H2 (e.trans e2) _ fun l H3 e3 L => ⟨c, t, l, ps, es, rfl, ⟨hc, .inl (.inl (e3 _ _ h2)), hp, hle, L⟩, fun p H4 hp4 e4 h4 => q p H4 (fresh_back (e2.trans e3) hp4) ((e2.trans e3).trans e4) h4⟩
theorem gName_go {i : Nat} {v : V} {Q : L2.St → Hp → Prop} (h : Q (σ.set i (some v)) H) : gName i v σ H Q := h
theorem paired_app {α β : Type} {R : α → β → Prop} : ∀ {as as' : List α} {bs bs' : List β}, Paired R as bs → Paired R as' bs' → Paired R (as ++ as') (bs ++ bs')
  | _, _, _, _, .nil, h => h
  | _, _, _, _, .cons h t, h2 => .cons h (paired_app t h2)
theorem paired_take {α β : Type} {R : α → β → Prop} : ∀ (n : Nat) {as : List α} {bs : List β}, Paired R as bs → Paired R (as.take n) (bs.take n)
  | 0, _, _, _ => .nil
  | _ + 1, _, _, .nil => .nil
  | n + 1, _, _, .cons h t => .cons h (paired_take n t)
theorem num1 : szs 1 0 [] = [0] := by decide +kernel
theorem num2 : lates 1 1 [] = [] := by decide +kernel
theorem num3 : szs 2 2 [(missS, "c")] = [2, 2] := by decide +kernel
theorem num4 : lates 2 2 [(missS, "c")] = [0] := by decide +kernel
theorem small_pages {ps : List Str} (h : (∀ p ∈ ps, pageB p = true) ∧ ps.Nodup ∧ ps.length ≤ 200) : Pages ps := ⟨h.1, h.2.1, h.2.2⟩
def NumAt (H : Hp) (p : Addr) (as : List Nat) : Prop := H p = some (.lst (as.map natV))
theorem rv_eqNum {p q : Addr} {as : List Nat} (h1 : NumAt H p as) (h2 : NumAt H q as) : RV (rEqD K) (.ref p) (.ref q) H (.bl true) := fun H1 e Q k => ⟨numD as, numD as, .lst (sq_of (e _ _ h1)) (dp_ints as), .lst (sq_of (e _ _ h2)) (dp_ints as), shaped_ints as, shaped_ints as, by
  rw [SeqAt.eqv_refl _ (show PyData.canLay0 (numD as) = true from lay_ints as)]
  exact k H1 (Ex.refl H1)⟩
theorem rv_neNum {p q : Addr} {as : List Nat} (h1 : NumAt H p as) (h2 : NumAt H q as) : RV (rNeD K) (.ref p) (.ref q) H (.bl false) := fun H1 e Q k => ⟨numD as, numD as, .lst (sq_of (e _ _ h1)) (dp_ints as), .lst (sq_of (e _ _ h2)) (dp_ints as), shaped_ints as, shaped_ints as, by
  rw [SeqAt.eqv_refl _ (show PyData.canLay0 (numD as) = true from lay_ints as)]
  exact k H1 (Ex.refl H1)⟩
end
theorem range_nat (l : List Nat) : (List.range l.length).map (fun i => natV (l.getD i 0)) = l.map natV := by
  apply List.ext_getElem
  · simp
  · intro i h1 h2
    have h3 : i < l.length := by simpa using h2
    simp [List.getD_eq_getElem?_getD, List.getElem?_eq_getElem h3]
theorem two_at {d : Int} (h0 : 0 ≤ d) (h1 : d < 2) : ∃ v : Int, atI [V.int 8, V.int 120] d = some (V.int v) ∧ 1 ≤ v ∧ v ≤ 150 := by
  have : d = 0 ∨ d = 1 := by omega
  rcases this with rfl | rfl
  · exact ⟨8, rfl, by decide, by decide⟩
  · exact ⟨120, rfl, by decide, by decide⟩
theorem marks_at {d : Int} (h0 : 0 ≤ d) (h1 : d < 2) : ∃ m : Str, atI [V.str "hit", V.str "miss"] d = some (V.str m) ∧ (m = hitS ∨ m = missS) := by
  have : d = 0 ∨ d = 1 := by omega
  rcases this with rfl | rfl
  · exact ⟨hitS, rfl, .inl rfl⟩
  · exact ⟨missS, rfl, .inr rfl⟩
section
variable {P : Program} {w : World} {K : PySem.W.Frag} {mg : Str → Option Value} {base : Heap}
abbrev NLaw : List Str := ["script", "k", "source", "turn", "room", "initial", "pages", "size", "happened", "gone", "contents", "due", "marks_there", "content", "step", "mark"]
theorem scLaw : FnScope NLaw ["script"] (defScope sLaw) := ⟨rfl, rfl, rfl, by decide +kernel, rfl, by decide +kernel, by decide +kernel⟩
def spLaw (K : PySem.W.Frag) : Sp := fun vs H Q _ => ∃ (a : Addr) (ns : List Int), vs = [.ref a] ∧ SqL K H a (ns.map V.int) ∧ ∀ H', Q (.bl true) H'
theorem ok_law {f fR : Addr} {fd fdR : FuncData} (F : Fun K "law" "law" sLaw f fd) (B0 : Bn mg) (B2 : Bl mg) (cD : Cl P w K mg base 1 "_law_draw" ["source", "bound"] spDraw) (cSrc : Cl P w K mg base 1 "_law_source" ["script", "k"] (spSource K))
    (cSet : Cl P w K mg base 3 "_law_setup" ["source", "most", "size"] spSetup) (cRun : Cl P w K mg base 2 "_law_run" ["source", "room", "initial", "pages", "size"] (spRun K)) (cCnt : Cl P w K mg base 1 "_law_counted" ["room", "initial", "happened"] (spCounted K))
    (cS : Cl P w K mg base 7 "sizes" P3 (spSizes K)) (cE : Cl P w K mg base 8 "evicting_misses" P3 (spEvicting K))
    (FR : FnG P w K mg base CX0 9 fR fdR ["room", "initial", "happened", "due"] (spRight K)) (mR : mg "_law_right" = some (.ref fR)) (kR : PySem.W.keepIn K (.ref fR) = true) (bR : Binds K fdR ["room", "initial", "happened", "due"] []) : FnG P w K mg base CX0 10 f fd ["script"] (spLaw K) := by
  refine okG F scLaw (fun vs H Q E h => ?_) (fun cdv A outer s H vs Q E hG hr h => ?_)
  · obtain ⟨a, ns, rfl, _⟩ := h
    rfl
  · obtain ⟨a, ns, rfl, hns, q⟩ := h
    have nd := scLaw.nd
    refine ⟨_, (pss_cons (ps_for PassesOwn.never rfl (pi_range1 (by rfl) B0.range (pa_cons (pe_callB (call_max2 rfl) (by rfl) B2.max bt_max (pa_cons pe_int (pa_cons (pe_callB (call_min2 rfl) (by rfl) B0.min bt_min (pa_cons pe_int (pa_cons (pe_callB call_len_seq (by rfl) B0.len bt_len (pa_cons (pv 0) pa_nil)) pa_nil))) pa_nil))) pa_nil)) (pg_name (i := 1) nd rfl (Or.inl rfl))
        (pss_cons (ps_set (i := 2) nd rfl (Or.inr rfl) (pe_cl cSrc hr (pa_cons (pv 0) (pa_cons (pv 1) pa_nil))))
        (pss_one (ps_for PassesOwn.never rfl (pi_range1 (by rfl) B0.range (pa_cons pe_int pa_nil)) (pg_name (i := 3) nd rfl (Or.inl rfl))
          (pss_cons (ps_asg (pe_cl cSet hr (pa_cons (pv 2) (pa_cons (pe_ix ix_list (pe_lst (pa_cons pe_int (pa_cons pe_int pa_nil))) (pe_cl cD hr (pa_cons (pv 2) (pa_cons pe_int pa_nil))) (fun _ _ => rfl)) (pa_cons pe_int pa_nil))))
            (pg_tup rfl (pgs_cons (pg_name (i := 4) nd rfl (Or.inl rfl)) (pgs_cons (pg_name (i := 5) nd rfl (Or.inl rfl)) (pgs_cons (pg_name (i := 6) nd rfl (Or.inr rfl)) (pgs_cons (pg_name (i := 7) nd rfl (Or.inl rfl)) pgs_nil))))))
          (pss_cons (ps_asg (pe_cl cRun hr (pa_cons (pv 2) (pa_cons (pv 4) (pa_cons (pv 5) (pa_cons (pv 6) (pa_cons (pv 7) pa_nil))))))
            (pg_tup rfl (pgs_cons (pg_name (i := 8) nd rfl (Or.inl rfl)) (pgs_cons (pg_name (i := 9) nd rfl (Or.inl rfl)) (pgs_cons (pg_name (i := 10) nd rfl (Or.inl rfl)) pgs_nil)))))
          (pss_cons (ps_set (i := 11) nd rfl (Or.inl rfl) (pe_cl cCnt hr (pa_cons (pv 4) (pa_cons (pv 5) (pa_cons (pv 8) pa_nil)))))
          (pss_cons (ps_if (PW.pt (pw_or (pt_cmpR (op_neD hr.units) (pe_ix ix_list (pv 11) pe_int (fun _ _ => rfl)) (pe_lc (own := [("content", 13)]) (g := gName 13) (tt := tYes) (te := tCB (rLenS K) (tCons (tVar 13) tNil)) rfl nd (pi_list (pv 10)) (blkOk_by (N := NLaw) (sc := defScope sLaw) (by decide +kernel))
              (fun _ _ _ _ _ => pg_name (i := 13) nd rfl (Or.inl rfl)) (fun _ _ _ _ _ => pts_nil) (fun _ _ _ _ _ => pe_callB call_len_seq (by rfl) B0.len bt_len (pa_cons (pv 13) pa_nil))) (nomark _))
              (pw_or1 (pt_cmpR op_ne (pe_callB call_len_seq (by rfl) B0.len bt_len (pa_cons (pe_ix ix_list (pv 11) pe_int (fun _ _ => rfl)) pa_nil)) (pe_callB call_len_seq (by rfl) B0.len bt_len (pa_cons (pv 9) pa_nil)) (nomark _))))) (pss_one (ps_ret pe_bl)) pss_nil)
          (pss_cons (ps_if (pt_not (pt_val (pe_callG FR hG (hr.mono (by decide)) (by rfl) mR kR bR pass0 (pa_cons (pv 4) (pa_cons (pv 5) (pa_cons (pv 8) (pa_cons (pv 11) pa_nil))))))) (pss_one (ps_ret pe_bl)) pss_nil)
          (pss_cons (ps_setLc (i := 12) (own := [("step", 14)]) (g := gName 14) (tt := tYes) (te := tOp (rIxL K) (tLst (tCons (tC (.str "hit")) (tCons (tC (.str "miss")) tNil))) (tCall spDraw [] E0 (tCons (tVar 2) (tCons (tC (.int 2)) tNil)))) (by rfl) nd rfl rfl (sw_true rfl rfl rfl (by decide +kernel))
              (pi_range1 (by rfl) B0.range (pa_cons (pe_cl cD hr (pa_cons (pv 2) (pa_cons pe_int pa_nil))) pa_nil)) (blkOk_by (N := NLaw) (sc := defScope sLaw) (by decide +kernel)) (fun _ _ _ _ _ => pg_name (i := 14) nd rfl (Or.inl rfl)) (fun _ _ _ _ _ => pts_nil)
              (fun _ _ _ _ _ => pe_ix ix_list (pe_lst (pa_cons pe_str (pa_cons pe_str pa_nil))) (pe_cl cD hr (pa_cons (pv 2) (pa_cons pe_int pa_nil))) (fun _ _ => rfl)))
          (pss_cons (ps_asg (pe_lc (own := [("mark", 15)]) (g := gName 15) (tt := tYes) (te := tTup (tCons (tVar 15) (tCons (tOp (rIxL K) (tVar 6) (tC (.int 0))) tNil))) rfl nd (pi_list (pv 12)) (blkOk_by (N := NLaw) (sc := defScope sLaw) (by decide +kernel))
              (fun _ _ _ _ _ => pg_name (i := 15) nd rfl (Or.inl rfl)) (fun _ _ _ _ _ => pts_nil) (fun _ _ _ _ _ => pe_tup (pa_cons (pv 15) (pa_cons (pe_ix ix_list (pv 6) pe_int (fun _ _ => rfl)) pa_nil))))
              (pg_tail (pv 8) (pe_op op_fdiv (pe_callB call_len_seq (by rfl) B0.len bt_len (pa_cons (pv 8) pa_nil)) pe_int)))
          (pss_one (ps_if (pt_not (pt_val (pe_callG FR hG (hr.mono (by decide)) (by rfl) mR kR bR pass0 (pa_cons (pv 4) (pa_cons (pv 5) (pa_cons (pv 8) (pa_cons (pe_cl cCnt hr (pa_cons (pv 4) (pa_cons (pv 5) (pa_cons (pv 8) pa_nil)))) pa_nil))))))) (pss_one (ps_ret pe_bl)) pss_nil)))))))))))))
      (pss_cons (ps_if (PW.pt (pw_or (pt_cmpR (op_neD hr.units) (pe_cl cS hr (pa_cons pe_int (pa_cons (pe_tup pa_nil) (pa_cons (pe_lst pa_nil) pa_nil)))) (pe_lst (pa_cons pe_int pa_nil)) (nomark _))
          (pw_or1 (pt_cmpR (op_neD hr.units) (pe_cl cE hr (pa_cons pe_int (pa_cons (pe_tup (pa_cons pe_str pa_nil)) (pa_cons (pe_lst pa_nil) pa_nil)))) (pe_lst pa_nil) (nomark _))))) (pss_one (ps_ret pe_bl)) pss_nil)
      (pss_one (ps_ret (pe_and (pe_cmpR (op_eqD hr.units) (pe_cl cS hr (pa_cons pe_int (pa_cons (pe_tup (pa_cons pe_str (pa_cons pe_str pa_nil))) (pa_cons (pe_lst (pa_cons (pe_tup (pa_cons pe_str (pa_cons pe_str pa_nil))) pa_nil)) pa_nil)))) (pe_lst (pa_cons pe_int (pa_cons pe_int pa_nil))) (nomark _))
          (pe_one (pe_cmpR (op_eqD hr.units) (pe_cl cE hr (pa_cons pe_int (pa_cons (pe_tup (pa_cons pe_str (pa_cons pe_str pa_nil))) (pa_cons (pe_lst (pa_cons (pe_tup (pa_cons pe_str (pa_cons pe_str pa_nil))) pa_nil)) pa_nil)))) (pe_lst (pa_cons pe_int pa_nil)) (nomark _)))))))).nox, ?_⟩
    have hsc : (ns.map V.int).length = ns.length := List.length_map ..
    obtain ⟨rounds, hro, hr6⟩ : ∃ n : Nat, (if (if ((ns.map V.int).length : Int) < 6 then ((ns.map V.int).length : Int) else 6) > 1 then (if ((ns.map V.int).length : Int) < 6 then ((ns.map V.int).length : Int) else 6) else 1) = (n : Int) ∧ n ≤ 6 := by
      obtain ⟨n, hn⟩ := nat_of (show 0 ≤ (if (if ((ns.map V.int).length : Int) < 6 then ((ns.map V.int).length : Int) else 6) > 1 then (if ((ns.map V.int).length : Int) < 6 then ((ns.map V.int).length : Int) else 6) else 1) by split <;> (try split) <;> omega)
      refine ⟨n, hn, ?_⟩
      split at hn <;> (try split at hn) <;> omega
    refine q_forN (n := rounds) (ea_cons (ev_is (ev_cb (vs := [.int 1, .int (if ((ns.map V.int).length : Int) < 6 then ((ns.map V.int).length : Int) else 6)]) (ea_cons ev_c (ea_cons (ev_cb (ea_cons ev_c (ea_cons (ev_len (ev_var rfl) hns) ea_nil)) fun H7 e7 Q' k => ⟨_, _, rfl, k H7 (Ex.refl H7)⟩) ea_nil)) fun H7 e7 Q' k => ⟨_, _, rfl, k H7 (Ex.refl H7)⟩) (by rw [hro])) ea_nil) (by omega)
      (fun i σ H' => ∃ y1 y2 y3 y4 y5 y6 y7 y8 y9 y10 y11 y12 y13 y14 y15, σ = [some (.ref a), y1, y2, y3, y4, y5, y6, y7, y8, y9, y10, y11, y12, y13, y14, y15] ∧ Ex H H') (fun H1 e1 => ⟨_, _, _, _, _, _, _, _, _, _, _, _, _, _, _, rfl, e1⟩) (fun i σ H0 hi hP => ?_) (fun σ H0 hP => ?_)
    · obtain ⟨y1, y2, y3, y4, y5, y6, y7, y8, y9, y10, y11, y12, y13, y14, y15, rfl, e0⟩ := hP
      -- source
      refine ⟨.ref a, rfl, .int (i : Int), rfl, a, i, ns, rfl, ex_l e0 hns, by omega, fun p H1 hp1 e1 S1 => ?_⟩
      have k1 := e0.trans e1
      have fp : H p = none := fresh_back e0 hp1
      refine s_forR1 (n := 2) (ea_cons ev_c ea_nil) (by decide) (fun u σ H' => ∃ y3 y4 y5 y6 y7 y8 y9 y10 y11 y12 y13 y14 y15, σ = [some (.ref a), some (.int (i : Int)), some (.ref p), y3, y4, y5, y6, y7, y8, y9, y10, y11, y12, y13, y14, y15] ∧ Ex H H' ∧ SrcAt H' p (3000 * (u : Int)))
        (fun H2 e2 => ⟨_, _, _, _, _, _, _, _, _, _, _, _, _, rfl, k1.trans e2, (S1.mono e2).le (by omega)⟩) (fun u σ H2 hu hP => ?_) (fun σ H2 hP => ?_)
      · obtain ⟨y3, y4, y5, y6, y7, y8, y9, y10, y11, y12, y13, y14, y15, rfl, k2, S2⟩ := hP
        -- setup
        refine ⟨.ref p, rfl, by show 2 ≤ sizeLine; decide, fun lp nlp => ?_⟩
        have x1 := Ex.new (o := .lst [V.int 8, V.int 120]) nlp
        obtain ⟨xs2, hp2⟩ := S2.is
        have nlp' : lp ≠ p := (ne_of_none hp2 nlp).symm
        refine w_draw rfl ev_c (by decide) (by decide) (S2.mono x1) (by omega) fun d H3 d0 d1 e3 S3 => ?_
        obtain ⟨v, hv, v0, v1⟩ := two_at d0 d1
        have hlp : H3 lp = some (.lst [V.int 8, V.int 120]) := e3 _ _ (by rw [hid_ne nlp', upd_same])
        have k3 : Ex H H3 := exP (k2.trans x1) fp e3
        refine ⟨lp, [V.int 8, V.int 120], d, .int v, rfl, rfl, sq_of hlp, hv, ?_⟩
        refine ⟨p, v, 125, _, rfl, S3, by omega, v0, v1, by decide, by decide, fun T t pg room n c0 pages H4 _ _ _ npg e4 S4 hT ht hpg r1 r2 pc0 lc0 ppg nepg hn => ?_⟩
        have k4 : Ex H H4 := exP k3 fp e4
        refine ⟨T, _, rfl, .inl (.inl hT), rfl, .int (room : Int), _, rfl, .ref t, _, rfl, .ref pg, _, rfl, .int (n : Int), _, rfl, rfl, ?_⟩
        -- run
        refine ⟨.ref p, rfl, .int (room : Int), rfl, .ref t, rfl, .ref pg, rfl, .int (n : Int), rfl, p, t, pg, room, n, c0, pages, _, rfl, S4, by omega, r1, by omega, .inl (.inl ht), pc0, lc0, sq_of hpg, npg, ppg, nepg, by omega, fun T2 cp hp gp cq ts qs es gs css cs H5 _ hT2 ww r hes => ?_⟩
        refine ⟨T2, _, rfl, .inl (.inl hT2), rfl, .ref hp, _, rfl, .ref gp, _, rfl, .ref cq, _, rfl, rfl, ?_⟩
        obtain ⟨i1, i2, i3, i4, i5, i6, i7⟩ := r.facts lc0 pc0.nd pc0.all
        have k5 : Ex H H5 := exP k4 fp ww.ex
        obtain ⟨xs4, hp4⟩ := S4.is
        have ntp : t ≠ p := ne_of ht hp4 (by intro z; cases z)
        have ht5 : H5 t = some (.tup (c0.map V.str)) := ww.ex _ _ (by rw [hid_ne ntp]; exact ht)
        have hpg5 : H5 pg = some (.lst (pages.map V.str)) := ww.ex _ _ (by rw [hid_ne npg]; exact hpg)
        have hes125 : es.length ≤ 125 := by omega
        have L5 : LogK K H5 hp es := ⟨⟨ts, sq_of ww.hhp, Paired.imp ww.hts fun _ _ z => .inl (.inl z)⟩, i6, by omega⟩
        have A5 : Args3 K H5 room t hp c0 es := ⟨r1, .inl (.inl ht5), pc0, lc0, L5⟩
        have nhpg : hp ≠ pg := fun z => by
          have := ww.f2
          rw [z, hpg] at this
          cases this
        -- due
        refine ⟨.int (room : Int), rfl, .ref t, rfl, .ref hp, rfl, room, t, hp, c0, es, rfl, .inl (.inl ht5), lc0, L5, fun du d1' d2' H6 _ _ _ e6 c1 c2 c3 => ?_⟩
        have tw : TwoAt H6 du d1' d2' (szs room c0.length es) (lates room c0.length es) := ⟨c1, c2, c3⟩
        have k6 := k5.trans e6
        have w6 := ww.mono e6
        have hqs := paired_len w6.hqs
        refine gName_go ?_
        dsimp only
        refine q_when (b := false || !decide (V.int ((((lates room c0.length es).map natV).length : Nat) : Int) = V.int (((gs.map V.str).length : Nat) : Int))) ?_ (fun hb => ?_) (fun _ H7 e7 => ?_)
        · refine et_or (et_test (ev_opL (ev_op (ev_var rfl) ev_c (rv_ixL (sq_of tw.1) (atI_nat (j := 0) rfl))) (xs := (szs room c0.length es).map natV) ?_ fun pz H8 h8 e8 => rv_neNum (e8 _ _ tw.2.1) h8)) fun _ => et_test (ev_op (ev_len (ev_op (ev_var rfl) ev_c (rv_ixL (sq_of tw.1) (atI_nat (j := 1) rfl))) (sq_of tw.2.2)) (ev_len (ev_var rfl) (sq_of w6.hgp)) (rv_ne rfl))
          rw [← i2, ← range_nat]
          have hlen : (css.map List.length).length = (qs.map V.ref).length := by rw [List.length_map, List.length_map, hqs]
          rw [hlen, ← given_all]
          have hq200 : css.length ≤ 200 := by
            have := congrArg List.length i2
            unfold szs at this
            rw [List.length_map, List.length_map, List.length_range] at this
            omega
          refine el_lcL _ _ (ev_var rfl) (sq_of w6.hcq) (by rw [List.length_map, hqs]; omega) (fun _ => rfl) (fun j x H8 e8 hx => et_yes) fun j x H8 e8 hx _ => ?_
          rw [List.getElem?_map] at hx
          obtain ⟨y, hy, rfl⟩ := Option.map_eq_some_iff.mp hx
          obtain ⟨cc, hc, hcc⟩ := paired_at' w6.hqs hy
          have ec : (css.map List.length).getD j 0 = cc.length := by
            rw [List.getD_eq_getElem?_getD, List.getElem?_map, hc]
            rfl
          rw [ec]
          refine ev_is (ev_len (ev_var rfl) (sq_of (e8 _ _ hcc))) ?_
          rw [List.length_map]
          rfl
        · rw [List.length_map, List.length_map, i3] at hb
          simp at hb
        · -- _law_right
          have k7 := k6.trans e7
          have w7 := w6.mono e7
          have A7 := A5.mono (e6.trans e7)
          refine q_when (b := !true) (et_not (et_B (ev_fn (ea_cons (ev_var rfl) (ea_cons (ev_var rfl) (ea_cons (ev_var rfl) (ea_cons (ev_var rfl) ea_nil)))) fun H8 e8 Q' k => ⟨room, t, hp, du, d1', d2', c0, es, rfl, A7.mono e8, (tw.mono e7).mono e8, k⟩))) (fun hb => by cases hb) (fun _ H8 e8 => ?_)
          have k8 := k7.trans e8
          have w8 := w7.mono e8
          have ht8 := (e6.trans (e7.trans e8)) _ _ ht5
          have hpg8 := (e6.trans (e7.trans e8)) _ _ hpg5
          have fhp : H hp = none := by
            cases z : H hp with
            | none => rfl
            | some o =>
              have := k4 _ _ z
              rw [ww.f2] at this
              cases this
          have hpne : p ≠ hp := ww.a2
          have hppg : p ≠ pg := npg.symm
          -- marks_there
          refine q_asgW ?_
          refine w_lcRd rfl (by decide) (by decide) w8.src (by omega) fun m H9 hm e9 S9 => ?_
          have w9 := w8.draw e9 S9
          have k9 : Ex H H9 := exP k8 fp e9
          have ht9 : H9 t = some (.tup (c0.map V.str)) := e9 _ _ (by rw [hid_ne ntp]; exact ht8)
          have hpg9 : H9 pg = some (.lst (pages.map V.str)) := e9 _ _ (by rw [hid_ne npg]; exact hpg8)
          obtain ⟨xs9, hp9⟩ := S9.is
          refine lcR_in (fun Dl s H' => Dl ≠ p ∧ H9 Dl = none ∧ Ex (hid H9 p) H' ∧ SrcAt H' p (3000 * (u : Int) + 1000 + (s : Int)) ∧ ∃ ms : List Str, ms.length = s ∧ (∀ x ∈ ms, x = hitS ∨ x = missS) ∧ H' Dl = some (.lst (ms.map V.str)))
            (fun Dl hD => ?_) (fun _ => rfl) (fun Dl s Ha hs hP => ?_) (fun Dl Ha hP => ?_)
          · have n1 : Dl ≠ p := (ne_of_none hp9 hD).symm
            exact ⟨n1, hD, (ex_hid H9 p).trans (Ex.new hD), (S9.le (by omega)).upd n1.symm, [], rfl, (fun x hx => nomatch hx), upd_same⟩
          · obtain ⟨n1, n2, ea, Sa, ms, hms, hmk, hDl⟩ := hP
            refine ⟨by show 2 ≤ sizeLine; decide, fun lq nlq => ?_⟩
            have xq := Ex.new (o := .lst [V.str "hit", V.str "miss"]) nlq
            obtain ⟨xsa, hpa⟩ := Sa.is
            have nlqp : lq ≠ p := (ne_of_none hpa nlq).symm
            refine w_draw rfl ev_c (by decide) (by decide) (Sa.mono xq) (by omega) fun d3 Hb f0 f1 eb Sb => ?_
            obtain ⟨mk, hmk1, hmk2⟩ := marks_at f0 f1
            refine ⟨lq, [V.str "hit", V.str "miss"], d3, .str mk, rfl, rfl, sq_of (eb _ _ (by rw [hid_ne nlqp, upd_same])), hmk1, ms.map V.str, eb _ _ (by rw [hid_ne n1]; exact xq _ _ hDl), ?_, n1, n2, ?_, ?_, ms ++ [mk], ?_, ?_, ?_⟩
            · rw [List.length_map, hms]
              exact Nat.lt_of_le_of_lt (show s ≤ 200 by omega) (by decide)
            · exact Ex.mut (ex_hid2 (ea.trans xq) eb) (hid_none n2)
            · exact (Sb.le (by omega)).upd n1.symm
            · rw [List.length_append, hms]
              rfl
            · intro x hx
              rcases List.mem_append.mp hx with z | z
              · exact hmk x z
              · rw [List.mem_singleton.mp z]
                exact hmk2
            · rw [upd_same, List.map_append]
              rfl
          · obtain ⟨n1, n2, ea, Sa, ms, hms, hmk, hDl⟩ := hP
            have hm60 : ms.length ≤ 60 := by omega
            have ka : Ex H Ha := exP k9 fp ea
            have hta : Ha t = some (.tup (c0.map V.str)) := ea _ _ (by rw [hid_ne ntp]; exact ht9)
            have hpga : Ha pg = some (.lst (pages.map V.str)) := ea _ _ (by rw [hid_ne npg]; exact hpg9)
            have hhpa : Ha hp = some (.lst (ts.map V.ref)) := ea _ _ (by rw [hid_ne hpne.symm]; exact w9.hhp)
            have htsa : Paired (TupAt Ha) ts es := Paired.imp w9.hts fun _ _ z => ea _ _ (by rw [hid_ne (ne_of z hp9 (by intro q; cases q))]; exact z)
            obtain ⟨p0, prest, hpe⟩ : ∃ p0 r, pages = p0 :: r := List.exists_cons_of_ne_nil nepg
            have pg0 : pageB p0 = true := ppg.all p0 (by rw [hpe]; exact List.mem_cons_self)
            -- happened[..:] = ..
            refine q_asgG ?_
            refine w_lcL (a := Dl) (xs := ms.map V.str) (ev_var rfl) (sq_of hDl) (fun D2 s H' => Ha D2 = none ∧ Ex Ha H' ∧ ∃ ts2, Paired (TupAt H') ts2 ((ms.take s).map fun x => (x, p0)) ∧ H' D2 = some (.lst (ts2.map V.ref)))
              (fun D2 H1' hD e1' => ⟨fresh_back e1' hD, e1'.trans (Ex.new hD), [], .nil, upd_same⟩) (fun D2 s H' hP => sq_of (hP.2.1 _ _ hDl)) (fun _ => rfl) (fun D2 s x H' hx hP => ?_) (fun D2 H' hP => ?_)
            · obtain ⟨nd2, eb, ts2, hts2, hD2⟩ := hP
              rw [List.getElem?_map] at hx
              obtain ⟨y, hy, rfl⟩ := Option.map_eq_some_iff.mp hx
              have hs : s < ms.length := (List.getElem?_eq_some_iff.mp hy).1
              have hEU := eu_tup (ta := tCons (tVar 15) (tCons (tOp (rIxL K) (tVar 6) (tC (.int 0))) tNil)) (vs := [.str y, .str p0]) (H := H') (σ := ([some (V.ref a), some (.int (i : Int)), some (.ref p), some (.int (u : Int)), some (.int (room : Int)), some (.ref t), some (.ref pg), some (.int (n : Int)), some (.ref hp), some (.ref gp), some (.ref cq), some (.ref du), some (.ref Dl), y13, y14, some (.str y)] : L2.St))
                (ea_cons (ev_var rfl) (ea_cons (ev_op (ev_var rfl) ev_c (rv_ixL (sq_of (eb _ _ hpga)) (atI_nat (j := 0) (by rw [hpe]; rfl)))) ea_nil)) (show 2 ≤ 100000 by decide)
              refine hEU H' (Ex.refl H') _ fun tp H4' htp e4' h4' => ?_
              have nD : D2 ≠ tp := ne_of_none hD2 htp
              have lts := paired_len hts2
              rw [List.length_map, List.length_take] at lts
              refine ⟨ts2.map V.ref, e4' _ _ hD2, ?_, nd2, Ex.mut (eb.trans e4') nd2, ts2 ++ [tp], ?_, ?_⟩
              · rw [List.length_map]
                exact Nat.lt_of_le_of_lt (show ts2.length ≤ 200 by omega) (by decide)
              · rw [List.take_add_one, hy, List.map_append]
                exact tup_upd (e4' _ _ hD2) (paired_snoc (R := TupAt H4') (b := (y, p0)) h4' (Paired.imp (R := TupAt H') (S := TupAt H4') hts2 fun _ _ z => e4' _ _ z))
              · rw [upd_same, List.map_append]
                rfl
            · obtain ⟨nd2, eb, ts2, hts2, hD2⟩ := hP
              rw [List.length_map, List.take_length] at hts2
              have lts2 := paired_len hts2
              rw [List.length_map] at lts2
              have lts := paired_len htsa
              refine ⟨.ref hp, rfl, ?_⟩
              refine (ev_op (ev_len (ev_var rfl) (sq_of (eb _ _ hhpa))) ev_c (rv_I ⟨by decide, by decide⟩)) H' (Ex.refl H') _ fun Hc ec => ?_
              have nhD : hp ≠ D2 := ne_of_none hhpa nd2
              refine ⟨hp, D2, ts.map V.ref, ts2.map V.ref, (ts.map V.ref).length / 2, rfl, rfl, rfl, ec _ _ (eb _ _ hhpa), ec _ _ hD2, nhD, Nat.div_le_self _ _, ?_, ?_⟩
              · rw [List.length_map, List.length_map]
                exact Nat.le_trans (show ts.length + ts2.length ≤ 1000 by omega) (by decide)
              · have el : (ts.map V.ref).take ((ts.map V.ref).length / 2) ++ ts2.map V.ref = (ts.take ((ts.map V.ref).length / 2) ++ ts2).map V.ref := by rw [List.map_append, List.map_take]
                have ebc := eb.trans ec
                have kd : Ex H (upd Hc hp (.lst ((ts.map V.ref).take ((ts.map V.ref).length / 2) ++ ts2.map V.ref))) := Ex.mut (ka.trans ebc) fhp
                have Sd : SrcAt (upd Hc hp (.lst ((ts.map V.ref).take ((ts.map V.ref).length / 2) ++ ts2.map V.ref))) p _ := (Sa.mono ebc).upd hpne
                have nth : t ≠ hp := ne_of hta hhpa (by intro z; cases z)
                have htd : (upd Hc hp (.lst ((ts.map V.ref).take ((ts.map V.ref).length / 2) ++ ts2.map V.ref))) t = some (.tup (c0.map V.str)) := by rw [upd_ne nth]; exact ebc _ _ hta
                have Ld : LogK K (upd Hc hp (.lst ((ts.map V.ref).take ((ts.map V.ref).length / 2) ++ ts2.map V.ref))) hp (es.take ((ts.map V.ref).length / 2) ++ ms.map fun x => (x, p0)) := by
                  refine ⟨⟨ts.take ((ts.map V.ref).length / 2) ++ ts2, sq_of (by rw [upd_same, el]), paired_app (paired_take _ (Paired.imp (tup_upd (ebc _ _ hhpa) (Paired.imp (R := TupAt Ha) (S := TupAt Hc) htsa fun _ _ z => ebc _ _ z)) fun _ _ z => .inl (.inl z))) (Paired.imp (tup_upd (ebc _ _ hhpa) (Paired.imp (R := TupAt H') (S := TupAt Hc) hts2 fun _ _ z => ec _ _ z)) fun _ _ z => .inl (.inl z))⟩, fun e he => ?_, ?_⟩
                  · rcases List.mem_append.mp he with z | z
                    · exact i6 e (List.mem_of_mem_take z)
                    · obtain ⟨x, hx, rfl⟩ := List.mem_map.mp z
                      exact ⟨hmk x hx, pg0⟩
                  · simp only [List.length_append, List.length_take, List.length_map]
                    omega
                generalize upd Hc hp _ = Hd at kd Sd htd Ld ⊢
                refine ⟨.int (room : Int), rfl, .ref t, rfl, .ref hp, rfl, .int (room : Int), rfl, .ref t, rfl, .ref hp, rfl, room, t, hp, c0, _, rfl, .inl (.inl htd), lc0, Ld, fun du2 b1 b2 He _ _ _ ee z1 z2 z3 => ?_⟩
                refine ⟨room, t, hp, du2, b1, b2, c0, _, rfl, ⟨r1, .inl (.inl (ee _ _ htd)), pc0, lc0, Ld.mono ee⟩, ⟨z1, z2, z3⟩, fun Hf ef => ⟨true, rfl, iteF ?_⟩⟩
                exact ⟨_, _, _, _, _, _, _, _, _, _, _, _, _, rfl, kd.trans (ee.trans ef), (Sd.mono (ee.trans ef)).le (by omega)⟩
      · obtain ⟨y3, y4, y5, y6, y7, y8, y9, y10, y11, y12, y13, y14, y15, rfl, k2, S2⟩ := hP
        exact ⟨_, _, _, _, _, _, _, _, _, _, _, _, _, _, _, rfl, k2⟩
    · obtain ⟨y1, y2, y3, y4, y5, y6, y7, y8, y9, y10, y11, y12, y13, y14, y15, rfl, e0⟩ := hP
      have pe : Pages [] := small_pages ⟨(fun p hp => nomatch hp), List.nodup_nil, by decide⟩
      have pa1 : Pages ["a"] := small_pages (by decide +kernel)
      have pab : Pages ["a", "b"] := small_pages (by decide +kernel)
      have okc : okE (missS, "c") := ⟨.inr rfl, by decide +kernel⟩
      refine q_when (b := false || false) (et_or (et_test (ev_opLL (el_sizes3 (c := 1) (ps := []) (es := []) (by decide) pe (by decide) (eu_tup ea_nil (Nat.zero_le _)) lg_nil) (el_lst (ea_cons ev_c ea_nil) (show 1 ≤ 100000 by decide)) fun x y H1 hx hy _ => rv_neNum (as := [0]) hx hy))
        fun _ => et_test (ev_opLL (el_evict3 (c := 1) (ps := ["a"]) (es := []) (by decide) pa1 (by decide) (eu_tup (ea_cons ev_c ea_nil) (show 1 ≤ 100000 by decide)) lg_nil) (el_lst ea_nil (Nat.zero_le _)) fun x y H1 hx hy _ => rv_neNum (as := []) hx hy)) (fun hb => by cases hb) (fun _ H1 e1 => ?_)
      refine s_ret (v := .bl (true && true)) (ev_andV (ev_opLL (el_sizes3 (c := 2) (ps := ["a", "b"]) (es := [(missS, "c")]) (by decide) pab (by decide) (eu_tup (ea_cons ev_c (ea_cons ev_c ea_nil)) (show 2 ≤ 100000 by decide)) (lg_one okc)) (el_lst (ea_cons ev_c (ea_cons ev_c ea_nil)) (show 2 ≤ 100000 by decide)) fun x y H1 hx hy _ => rv_eqNum (as := [2, 2]) (by have h' : H1 x = some (.lst ((szs 2 2 [(missS, "c")]).map natV)) := hx; rw [num3] at h'; exact h') hy)
        fun _ => ev_opLL (el_evict3 (c := 2) (ps := ["a", "b"]) (es := [(missS, "c")]) (by decide) pab (by decide) (eu_tup (ea_cons ev_c (ea_cons ev_c ea_nil)) (show 2 ≤ 100000 by decide)) (lg_one okc)) (el_lst (ea_cons ev_c ea_nil) (show 1 ≤ 100000 by decide)) fun x y H1 hx hy _ => rv_eqNum (as := [0]) (by have h' : H1 x = some (.lst ((lates 2 2 [(missS, "c")]).map natV)) := hx; rw [num4] at h'; exact h') hy) fun H2 e2 => q H2
end
end KB

set_option Elab.async false
set_option linter.all false
set_option maxRecDepth 100000
set_option maxHeartbeats 8000000
/-! KEnd: the defs put together; what the top has left. -/
namespace KB
open PySem L2 Evl
/-- a def as it stands behind the top -/
def Known (K : PySem.W.Frag) (x : Str) (st : Stmt) : Prop := ∃ (f : Addr) (oc : Value) (od an : Option Addr) (sl : Array (Option Value)) (kV dc pm cd ct : Value), PySem.W.nsIn K mainGlobals x = some (some (.ref f)) ∧
  K.lookup f = some ⟨oc, od, .func (PySem.W.fnOf x x (defArgs st) (defBody st) (defScope st) .none kV dc pm an cd ct), sl⟩ ∧ PySem.W.codeIn K cd x = true ∧ PySem.W.keepIn K (.ref f) = true
theorem known {K : PySem.W.Frag} {x : Str} {st : Stmt} {f : Addr} {oc : Value} {od an : Option Addr} {sl : Array (Option Value)} {kV dc pm cd ct : Value} (a : PySem.W.nsIn K mainGlobals x = some (some (.ref f)))
    (l : K.lookup f = some ⟨oc, od, .func (PySem.W.fnOf x x (defArgs st) (defBody st) (defScope st) .none kV dc pm an cd ct), sl⟩) (c : PySem.W.codeIn K cd x = true) (k : PySem.W.keepIn K (.ref f) = true) : Known K x st := ⟨f, oc, od, an, sl, kV, dc, pm, cd, ct, a, l, c, k⟩
theorem hasS {K : PySem.W.Frag} {x y : Str} {t : Tok} (h : PySem.W.nsIn K mainGlobals x = some (some (.str y t))) : ∃ t, PySem.W.nsIn K mainGlobals x = some (some (.str y t)) := ⟨t, h⟩
theorem hasI {K : PySem.W.Frag} {x : Str} {y : Int} {t : Tok} (h : PySem.W.nsIn K mainGlobals x = some (some (.int y t))) : ∃ t, PySem.W.nsIn K mainGlobals x = some (some (.int y t)) := ⟨t, h⟩
theorem Known.fn {K : PySem.W.Frag} {x : Str} {st : Stmt} {h : Heap} {mg : Str → Option Value} (k : Known K x st) (X : K.In h) (G : h.Ns mainGlobals mg) : ∃ f fd, Fun K x x st f fd ∧ mg x = some (.ref f) := by
  obtain ⟨f, oc, od, an, sl, kV, dc, pm, cd, ct, a, l, c, kp⟩ := k
  exact ⟨f, _, fun_mk l c kp, PySem.W.mg_of X G a⟩
def gSame : List Value → List Value → List Value
  | [], ws => ws
  | _ :: _, _ => []
def gBack : List Value → List Value → List Value
  | [], ws => ws.reverse
  | _ :: _, _ => []
theorem vals_rev : ∀ {zs : List V} {ws : List Value}, Vals zs ws → Vals zs.reverse ws.reverse
  | _, _, .nil => .nil
  | _, _, .cons h t => by
    rw [List.reverse_cons, List.reverse_cons]
    exact Vals.append (vals_rev t) (.cons h .nil)
theorem kb_same {K : PySem.W.Frag} {f : Addr} {fd : FuncData} (F : Fun K "sizes" "sizes" sSizes f fd) : KBinds K fd P3 ["capacity", "start", "log"] gSame kwSame := by
  obtain ⟨oc, od, kV, doc, pm, an, cdv, ct, osl, rfl, lk, hcd⟩ := F.ex
  refine ⟨fun s us ws _ hl => ?_, fun {vs us zs ws} r rz => ?_⟩
  · match us, hl with
    | [], hl =>
      match ws, hl with
      | [a, b, c], _ => exact .of_eq rfl
    | _ :: _, hl => exact absurd hl (by show ¬ 0 = 3; decide)
  · cases r with
    | nil =>
      rw [show kwSame [] zs = zs from if_pos rfl]
      exact rz
    | cons h t =>
      rw [show kwSame (_ :: _) zs = [] from if_neg (List.cons_ne_nil _ _)]
      exact .nil
theorem kb_back {K : PySem.W.Frag} {f : Addr} {fd : FuncData} (F : Fun K "evicting_misses" "evicting_misses" sEvicting f fd) : KBinds K fd P3 ["log", "start", "capacity"] gBack kwBack := by
  obtain ⟨oc, od, kV, doc, pm, an, cdv, ct, osl, rfl, lk, hcd⟩ := F.ex
  refine ⟨fun s us ws _ hl => ?_, fun {vs us zs ws} r rz => ?_⟩
  · match us, hl with
    | [], hl =>
      have hl2 : ws.length = 3 := by
        have h3 : ws.reverse.length = 3 := hl
        rw [List.length_reverse] at h3
        exact h3
      match ws, hl2 with
      | [a, b, c], _ => exact .of_eq rfl
    | _ :: _, hl => exact absurd hl (by show ¬ 0 = 3; decide)
  · cases r with
    | nil =>
      rw [show kwBack [] zs = zs.reverse from if_pos rfl]
      exact vals_rev rz
    | cons h t =>
      rw [show kwBack (_ :: _) zs = [] from if_neg (List.cons_ne_nil _ _)]
      exact .nil
section
variable {P : Program} {w : World} {K : PySem.W.Frag} {mg : Str → Option Value} {base : Heap}
theorem mkCl {k : Nat} {x : Str} {st : Stmt} {f : Addr} {fd : FuncData} {ps : List Str} {sp : Sp} (F : Fun K x x st f fd) (ok : FnOk P w K mg base CX0 k f fd ps sp) (hm : mg x = some (.ref f)) (hb : Binds K fd ps []) : Cl P w K mg base k x ps sp := ⟨f, fd, ok, hm, F.kp, hb⟩
structure Left (K : PySem.W.Frag) : Prop where
  d0 : Known K "is_integer" sIsInteger
  d1 : Known K "is_page" sIsPage
  d2 : Known K "is_event" sIsEvent
  d3 : Known K "is_shelf" sIsShelf
  d4 : Known K "is_log" sIsLog
  d5 : Known K "check_capacity" sCheckCapacity
  d6 : Known K "check_shelf" sCheckShelf
  d7 : Known K "check_start" sCheckStart
  d8 : Known K "check_log" sCheckLog
  d9 : Known K "check_arguments" sCheckArguments
  d10 : Known K "sizes" sSizes
  d11 : Known K "evicting_misses" sEvicting
  d12 : Known K "_law_source" sSource
  d13 : Known K "_law_draw" sDraw
  d14 : Known K "_law_pages" sPages
  d15 : Known K "_law_run" sRun
  d16 : Known K "_law_setup" sSetup
  d17 : Known K "_law_counted" sCounted
  d18 : Known K "_law_right" sRight
  d19 : Known K "law" sLaw
  d20 : Known K "is_mark" sIsMark
  n_isinstance : PySem.W.nsIn K mainGlobals "isinstance" = some none
  n_int : PySem.W.nsIn K mainGlobals "int" = some none
  n_bool : PySem.W.nsIn K mainGlobals "bool" = some none
  n_str : PySem.W.nsIn K mainGlobals "str" = some none
  n_len : PySem.W.nsIn K mainGlobals "len" = some none
  n_all : PySem.W.nsIn K mainGlobals "all" = some none
  n_tuple : PySem.W.nsIn K mainGlobals "tuple" = some none
  n_set : PySem.W.nsIn K mainGlobals "set" = some none
  n_list : PySem.W.nsIn K mainGlobals "list" = some none
  n_range : PySem.W.nsIn K mainGlobals "range" = some none
  n_min : PySem.W.nsIn K mainGlobals "min" = some none
  n_max : PySem.W.nsIn K mainGlobals "max" = some none
  n_abs : PySem.W.nsIn K mainGlobals "abs" = some none
  n_repr : PySem.W.nsIn K mainGlobals "repr" = some none
  hit : ∃ t, PySem.W.nsIn K mainGlobals "HIT" = some (some (.str "hit" t))
  miss : ∃ t, PySem.W.nsIn K mainGlobals "MISS" = some (some (.str "miss" t))
  letters : ∃ t, PySem.W.nsIn K mainGlobals "LETTERS" = some (some (.str "abcdefghijklmnopqrstuvwxyz" t))
  longest : ∃ t, PySem.W.nsIn K mainGlobals "LONGEST_PAGE" = some (some (.int 4 t))
theorem all_ok {h : Heap} (T : Left K) (X : K.In h) (G : h.Ns mainGlobals mg) {fa : Addr} (hfa : mg "law" = some (.ref fa)) :
    ∃ fd : FuncData, (∀ (s : Shared) (v : Value), BindsTo s fd ⟨[v], []⟩ [("script", v)]) ∧ ∀ base : Heap, K.In base → base.Ns mainGlobals mg → FnG P w K mg base CX0 10 fa fd ["script"] (spLaw K) := by
  obtain ⟨f0, fd0, F0, m0⟩ := T.d0.fn X G
  obtain ⟨f1, fd1, F1, m1⟩ := T.d1.fn X G
  obtain ⟨f2, fd2, F2, m2⟩ := T.d2.fn X G
  obtain ⟨f3, fd3, F3, m3⟩ := T.d3.fn X G
  obtain ⟨f4, fd4, F4, m4⟩ := T.d4.fn X G
  obtain ⟨f5, fd5, F5, m5⟩ := T.d5.fn X G
  obtain ⟨f6, fd6, F6, m6⟩ := T.d6.fn X G
  obtain ⟨f7, fd7, F7, m7⟩ := T.d7.fn X G
  obtain ⟨f8, fd8, F8, m8⟩ := T.d8.fn X G
  obtain ⟨f9, fd9, F9, m9⟩ := T.d9.fn X G
  obtain ⟨f10, fd10, F10, m10⟩ := T.d10.fn X G
  obtain ⟨f11, fd11, F11, m11⟩ := T.d11.fn X G
  obtain ⟨f12, fd12, F12, m12⟩ := T.d12.fn X G
  obtain ⟨f13, fd13, F13, m13⟩ := T.d13.fn X G
  obtain ⟨f14, fd14, F14, m14⟩ := T.d14.fn X G
  obtain ⟨f15, fd15, F15, m15⟩ := T.d15.fn X G
  obtain ⟨f16, fd16, F16, m16⟩ := T.d16.fn X G
  obtain ⟨f17, fd17, F17, m17⟩ := T.d17.fn X G
  obtain ⟨f18, fd18, F18, m18⟩ := T.d18.fn X G
  obtain ⟨f19, fd19, F19, m19⟩ := T.d19.fn X G
  obtain ⟨f20, fd20, F20, m20⟩ := T.d20.fn X G
  have e := hfa.symm.trans m19
  cases e
  obtain ⟨th, hh⟩ := T.hit
  obtain ⟨tm, hm⟩ := T.miss
  obtain ⟨tl, hl⟩ := T.letters
  obtain ⟨t4, h4⟩ := T.longest
  have B0 : Bn mg := ⟨PySem.W.mg_none_of X G T.n_isinstance, PySem.W.mg_none_of X G T.n_int, PySem.W.mg_none_of X G T.n_bool, PySem.W.mg_none_of X G T.n_str, PySem.W.mg_none_of X G T.n_len, PySem.W.mg_none_of X G T.n_all, PySem.W.mg_none_of X G T.n_tuple, PySem.W.mg_none_of X G T.n_set, PySem.W.mg_none_of X G T.n_list, PySem.W.mg_none_of X G T.n_range, PySem.W.mg_none_of X G T.n_min, ⟨th, PySem.W.mg_of X G hh⟩, ⟨tm, PySem.W.mg_of X G hm⟩, ⟨tl, PySem.W.mg_of X G hl⟩, ⟨t4, PySem.W.mg_of X G h4⟩⟩
  have B2 : Bl mg := ⟨PySem.W.mg_none_of X G T.n_max, PySem.W.mg_none_of X G T.n_abs, PySem.W.mg_none_of X G T.n_repr⟩
  have b20 := F20.binds (ps := ["value"]) fun _ _ _ _ _ _ us hl => match us, hl with | [_], _ => rfl
  have b0 := F0.binds (ps := ["value"]) fun _ _ _ _ _ _ us hl => match us, hl with | [_], _ => rfl
  have b1 := F1.binds (ps := ["value"]) fun _ _ _ _ _ _ us hl => match us, hl with | [_], _ => rfl
  have b2 := F2.binds (ps := ["value"]) fun _ _ _ _ _ _ us hl => match us, hl with | [_], _ => rfl
  have b3 := F3.binds (ps := ["value"]) fun _ _ _ _ _ _ us hl => match us, hl with | [_], _ => rfl
  have b4 := F4.binds (ps := ["value"]) fun _ _ _ _ _ _ us hl => match us, hl with | [_], _ => rfl
  have b5 := F5.binds (ps := ["capacity"]) fun _ _ _ _ _ _ us hl => match us, hl with | [_], _ => rfl
  have b6 := F6.binds (ps := ["start"]) fun _ _ _ _ _ _ us hl => match us, hl with | [_], _ => rfl
  have b7 := F7.binds (ps := ["capacity", "start"]) fun _ _ _ _ _ _ us hl => match us, hl with | [_, _], _ => rfl
  have b8 := F8.binds (ps := ["log"]) fun _ _ _ _ _ _ us hl => match us, hl with | [_], _ => rfl
  have b9 := F9.binds (ps := ["capacity", "start", "log"]) fun _ _ _ _ _ _ us hl => match us, hl with | [_, _, _], _ => rfl
  have b10 := F10.binds (ps := ["capacity", "start", "log"]) fun _ _ _ _ _ _ us hl => match us, hl with | [_, _, _], _ => rfl
  have b11 := F11.binds (ps := ["capacity", "start", "log"]) fun _ _ _ _ _ _ us hl => match us, hl with | [_, _, _], _ => rfl
  have b12 := F12.binds (ps := ["script", "k"]) fun _ _ _ _ _ _ us hl => match us, hl with | [_, _], _ => rfl
  have b13 := F13.binds (ps := ["source", "bound"]) fun _ _ _ _ _ _ us hl => match us, hl with | [_, _], _ => rfl
  have b14 := F14.binds (ps := ["source", "count"]) fun _ _ _ _ _ _ us hl => match us, hl with | [_, _], _ => rfl
  have b15 := F15.binds (ps := ["source", "room", "initial", "pages", "size"]) fun _ _ _ _ _ _ us hl => match us, hl with | [_, _, _, _, _], _ => rfl
  have b16 := F16.binds (ps := ["source", "most", "size"]) fun _ _ _ _ _ _ us hl => match us, hl with | [_, _, _], _ => rfl
  have b17 := F17.binds (ps := ["room", "initial", "happened"]) fun _ _ _ _ _ _ us hl => match us, hl with | [_, _, _], _ => rfl
  have b18 := F18.binds (ps := ["room", "initial", "happened", "due"]) fun _ _ _ _ _ _ us hl => match us, hl with | [_, _, _, _], _ => rfl
  obtain ⟨oc, od, kV, doc, pm, an, cdv, ct, osl, efd, _, _⟩ := F19.ex
  refine ⟨fd19, fun s v => ?_, fun base _ _ => ?_⟩
  · rw [efd]
    exact .of_eq rfl
  · have c0 : Cl P w K mg base 1 "is_integer" ["value"] spIsInteger := mkCl F0 (ok_isInteger F0 B0) m0 b0
    have c1 : Cl P w K mg base 1 "is_page" ["value"] spIsPage := mkCl F1 (ok_isPage F1 B0) m1 b1
    have cM : Cl P w K mg base 1 "is_mark" ["value"] spIsMark := mkCl F20 (ok_isMark F20 B0) m20 b20
    have c2 := mkCl F2 (ok_isEvent F2 B0 cM c1) m2 b2
    have c3 := mkCl F3 (ok_isShelf F3 B0 c1) m3 b3
    have c4 := mkCl F4 (ok_isLog F4 B0 c2) m4 b4
    have c5 := mkCl F5 (ok_checkCapacity F5 c0) m5 b5
    have c6 := mkCl F6 (ok_checkShelf F6 c3) m6 b6
    have c7 := mkCl F7 (ok_checkStart F7 B0 c6) m7 b7
    have c8 := mkCl F8 (ok_checkLog F8 c4) m8 b8
    have c9 := mkCl F9 (ok_checkArguments F9 c5 c7 c8) m9 b9
    have o10 := ok_sizes F10 B0 c9
    have c10 := mkCl F10 o10 m10 b10
    have o11 := ok_evicting F11 B0 c10
    have c11 := mkCl F11 o11 m11 b11
    have c12 : Cl P w K mg base 1 "_law_source" ["script", "k"] (spSource K) := mkCl F12 (ok_source F12 B0 B2) m12 b12
    have c13 : Cl P w K mg base 1 "_law_draw" ["source", "bound"] spDraw := mkCl F13 (ok_draw F13) m13 b13
    have c14 := mkCl F14 (ok_pages F14 B0 c13) m14 b14
    have c15 := mkCl F15 (ok_run F15 B0 c13) m15 b15
    have c16 := mkCl F16 (ok_setup F16 B0 c13 c14) m16 b16
    have c17 : Cl P w K mg base 1 "_law_counted" ["room", "initial", "happened"] (spCounted K) := mkCl F17 (ok_counted F17 B0) m17 b17
    have kS : ClK P w K mg base 7 "sizes" P3 ["capacity", "start", "log"] kwSame (spSizes K) := ⟨f10, fd10, gSame, o10, m10, F10.kp, kb_same F10⟩
    have kE : ClK P w K mg base 8 "evicting_misses" P3 ["log", "start", "capacity"] kwBack (spEvicting K) := ⟨f11, fd11, gBack, o11, m11, F11.kp, kb_back F11⟩
    exact ok_law F19 B0 B2 c13 c12 c16 c15 c17 c10 c11 (ok_right F18 B0 B2 c10 c11 kS kE) m18 F18.kp b18
end
end KB
open PySem PySem.W PyProof.Rows
set_option maxHeartbeats 0 in
theorem PySem.Challenge.cw_hitlog_k02_sizes_and_evicting_misses_holds : PySem.Challenge.rw_hitlog_k02_sizes_and_evicting_misses.Holds := by
  w_on; o_law; k_head; (case hw => w_witness2)
  k_fill
  refine KB.walk_ofG (l := PySem.Challenge.rw_hitlog_k02_sizes_and_evicting_misses) (n := 63) (k := 10) (x := "script") (CX := fun _ => L2.CX0) (sp := fun w => KB.spLaw _) rfl (by decide) rfl ⟨rfl, by decide, by decide⟩ (fun w h Y => PySem.W.kIn_of Y) ?F (fun _ _ a ns hl _ hS => ⟨a, ns, rfl, hS, fun _ => rfl⟩) (fun _ _ _ _ _ h => h)
  case F =>
    intro w mg fa h KX G hmg
    refine' KB.all_ok ⟨KB.known ?a0 ?l0 ?c0 ?k0, KB.known ?a1 ?l1 ?c1 ?k1, KB.known ?a2 ?l2 ?c2 ?k2, KB.known ?a3 ?l3 ?c3 ?k3, KB.known ?a4 ?l4 ?c4 ?k4, KB.known ?a5 ?l5 ?c5 ?k5, KB.known ?a6 ?l6 ?c6 ?k6, KB.known ?a7 ?l7 ?c7 ?k7, KB.known ?a8 ?l8 ?c8 ?k8, KB.known ?a9 ?l9 ?c9 ?k9, KB.known ?a10 ?l10 ?c10 ?k10, KB.known ?a11 ?l11 ?c11 ?k11, KB.known ?a12 ?l12 ?c12 ?k12, KB.known ?a13 ?l13 ?c13 ?k13, KB.known ?a14 ?l14 ?c14 ?k14, KB.known ?a15 ?l15 ?c15 ?k15, KB.known ?a16 ?l16 ?c16 ?k16, KB.known ?a17 ?l17 ?c17 ?k17, KB.known ?a18 ?l18 ?c18 ?k18, KB.known ?a19 ?l19 ?c19 ?k19, KB.known ?a20 ?l20 ?c20 ?k20, ?z_isinstance, ?z_int, ?z_bool, ?z_str, ?z_len, ?z_all, ?z_tuple, ?z_set, ?z_list, ?z_range, ?z_min, ?z_max, ?z_abs, ?z_repr, KB.hasS ?h1, KB.hasS ?h2, KB.hasS ?h3, KB.hasI ?h4⟩ KX G hmg
    (case a0 => k_is); (case l0 => k_is); (case c0 => k_is); (case k0 => k_is); (case a1 => k_is); (case l1 => k_is); (case c1 => k_is); (case k1 => k_is); (case a2 => k_is); (case l2 => k_is); (case c2 => k_is); (case k2 => k_is); (case a3 => k_is); (case l3 => k_is); (case c3 => k_is); (case k3 => k_is); (case a4 => k_is); (case l4 => k_is); (case c4 => k_is); (case k4 => k_is); (case a5 => k_is); (case l5 => k_is); (case c5 => k_is); (case k5 => k_is); (case a6 => k_is); (case l6 => k_is); (case c6 => k_is); (case k6 => k_is); (case a7 => k_is); (case l7 => k_is); (case c7 => k_is); (case k7 => k_is); (case a8 => k_is); (case l8 => k_is); (case c8 => k_is); (case k8 => k_is); (case a9 => k_is); (case l9 => k_is); (case c9 => k_is); (case k9 => k_is); (case a10 => k_is); (case l10 => k_is); (case c10 => k_is); (case k10 => k_is); (case a11 => k_is); (case l11 => k_is); (case c11 => k_is); (case k11 => k_is); (case a12 => k_is); (case l12 => k_is); (case c12 => k_is); (case k12 => k_is); (case a13 => k_is); (case l13 => k_is); (case c13 => k_is); (case k13 => k_is); (case a14 => k_is); (case l14 => k_is); (case c14 => k_is); (case k14 => k_is); (case a15 => k_is); (case l15 => k_is); (case c15 => k_is); (case k15 => k_is); (case a16 => k_is); (case l16 => k_is); (case c16 => k_is); (case k16 => k_is); (case a17 => k_is); (case l17 => k_is); (case c17 => k_is); (case k17 => k_is); (case a18 => k_is); (case l18 => k_is); (case c18 => k_is); (case k18 => k_is); (case a19 => k_is); (case l19 => k_is); (case c19 => k_is); (case k19 => k_is); (case a20 => k_is); (case l20 => k_is); (case c20 => k_is); (case k20 => k_is); (case z_isinstance => k_is); (case z_int => k_is); (case z_bool => k_is); (case z_str => k_is); (case z_len => k_is); (case z_all => k_is); (case z_tuple => k_is); (case z_set => k_is); (case z_list => k_is); (case z_range => k_is); (case z_min => k_is); (case z_max => k_is); (case z_abs => k_is); (case z_repr => k_is); (case h1 => k_is); (case h2 => k_is); (case h3 => k_is); (case h4 => k_is)
