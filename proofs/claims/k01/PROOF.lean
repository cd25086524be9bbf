import PyProof.Rows.All
import Wide.All
import OpenK.AllK
import Wide.FinOn
import HandS.ForMost
import HandS.Evl
import HandS.Wide
import HandS.IsInst
import HandS.SetKeys
import HandS.Strs
import HandS.Style
import HandS.Walk
import HandS.ForExc
import HandS.MakeKwOnly
import PyProof.ReprRoads
import HandS.More
import PySem.Challenge.RW_hitlog_k01_shelves_and_logs_judged
set_option Elab.async false
set_option linter.all false
set_option maxRecDepth 100000
set_option maxHeartbeats 4000000
/-! KB0: rules of one's own beside the hand layer. -/
namespace KB
open PySem PySem.Spec PyProof.Rows L2

/-! ### powers of wide ints -/
def PowFit (i j : Int) : Prop := 0 ≤ j ∧ j ≤ 8 ∧ i.natAbs < 2 ^ 250
theorem op_powF {X : Cx} : OpR X (binaryOp .Pow) (rI PowFit fun i j => .int (i ^ j.toNat)) := opI fun i j t u s Q E hc q => by
  obtain ⟨h0, h8, hi⟩ := hc
  refine pow_int h0 ?_ q
  have h1 : Builtin.Int.intBits i ≤ 300 := by
    unfold Builtin.Int.intBits
    split
    · omega
    · rename_i hn
      have := PySem.Flt.log2_lt_of (by decide) hi
      omega
  have h2 : (Builtin.Int.intBits i : Int) * j ≤ 300 * 8 := Int.mul_le_mul (by omega) h8 h0 (by decide)
  exact Int.le_trans h2 (by decide)

/-! ### repr of data, where no repr is under way -/
def rReprD (K : PySem.W.Frag) : List V → Hp → VK → Prop := fun xs H Q => ∃ (a : Addr) (d : PyData), xs = [.ref a] ∧ Dp K H (.ref a) d ∧ d.showable = true ∧ d.hasDict = false ∧ d.depth ≤ 40 ∧ d.shown.length ≤ sizeLine ∧ Q (.str d.shown) H
theorem call_reprD {X : Cx} {k : Nat} (hr : Room k X.A) (hG : X.A.guards = some []) : CallR X (.builtin "repr") (rReprD X.K) := by
  intro pins s σ H xs us Q I r h
  obtain ⟨a, d, rfl, hd, hs, hn, hdep, hz, q⟩ := h
  have e := Vals.ref1 r
  subst e
  obtain ⟨as, hR⟩ := Dp.reads I d (.ref a) (.ref a) hd rfl
  have hu := hr.units
  refine PySem.repr_of_reads' (h₀ := s.heap) hR hs (fun z => by rw [hn] at z; cases z) hG (by omega) (fun _ _ z => z) (fun h' u tk hk => ?_) hz
  exact ⟨.str d.shown, H, I.kept hk, ⟨u, rfl⟩, q⟩

/-! ### a call with keywords alone -/
section
variable {X : Cx} {CX : CXT} {k : Nat} {f : Addr} {fd : FuncData} {ps ks : List Str} {sp : Sp} {E : XK} {x : Str} {p pos : Pos} {kws : List Keyword} {tk : TA}
variable {g : List Value → List Value → List Value} {gV : List V → List V → List V}
def tCallK0 (sp : Sp) (gV : List V → List V → List V) (E : XK) (tk : TA) : TE := fun σ H Q => tk σ H fun zs H2 => sp (gV [] zs) H2 Q E
theorem pe_callK0 (F : FnOk X.prog X.w X.K X.mg X.base CX k f fd ps sp) (hr : Room k X.A) (hg : Gl X x) (hm : X.mg x = some (.ref f)) (hk : PySem.W.keepIn X.K (.ref f) = true) (hb : KBinds X.K fd ps ks g gV) (hx : Passes CX X E)
    (hkw : PK X kws tk) (hall : (backToKw pos (keywordEach kws X.env)).all (·.1.isSome) = true := by rfl) (hks : (backToKw pos (keywordEach kws X.env)).filterMap (·.1) = ks := by rfl)
    (hdb : (x == ("__debug__" : Str)) = false := by decide) (hpl : ((backTo pos (starEach [] X.env)).any (·.1) || (backToKw pos (keywordEach kws X.env)).any (·.1.isNone)) = false := by rfl) :
    PE X (.Call (.Name x p) [] kws pos) (tCallK0 sp gV E tk) := by
  refine ⟨fun pins s σ H Q I h => wpAny_Call_Name_kw (ld_glob I hg hm (PySem.W.callWith_KW0 (h₀ := X.base) I.ok.mod.kin hk hall ?_ hpl) hdb)⟩
  refine thn (hkw.run pos pins s σ H _ I h) fun ws s2 ⟨zs, H2, I2, rz, q2⟩ => ⟨I2.kIn, ?_⟩
  rw [hks]
  exact run_fnk (us := []) (vs := []) F hr hb hx I2 .nil rz q2
end

/-! ### defs whose callers have no repr under way -/
structure FnG (P : Program) (w : World) (K : PySem.W.Frag) (mg : Str → Option Value) (base : Heap) (CX : CXT) (k : Nat) (f : Addr) (fd : FuncData) (ps : List Str) (sp : Sp) : Prop where
  len : ∀ vs H Q E, sp vs H Q E → vs.length = ps.length
  go : ∀ (A : Around) (outer : List Env) (s : Shared) (H : Hp) (args : Args) (us : List Value) (vs : List V) (Q : VK) (E : XK), A.guards = some [] → Room k A → Env0 P w K mg base A outer s H → BindsTo s fd args (ps.zip us) → Vals vs us → sp vs H Q E →
    codeAny (model P w) A (.call (.ref f) args) (CR CX outer P w H s Q E) s
/-- such a def, seen at one place A alone -/
theorem FnG.atA {P : Program} {w : World} {K : PySem.W.Frag} {mg : Str → Option Value} {base : Heap} {CX : CXT} {k : Nat} {f : Addr} {fd : FuncData} {ps : List Str} {sp : Sp} (F : FnG P w K mg base CX k f fd ps sp) {A : Around} (hG : A.guards = some []) :
    ∀ (outer : List Env) (s : Shared) (H : Hp) (args : Args) (us : List Value) (vs : List V) (Q : VK) (E : XK), Room k A → Env0 P w K mg base A outer s H → BindsTo s fd args (ps.zip us) → Vals vs us → sp vs H Q E →
    codeAny (model P w) A (.call (.ref f) args) (CR CX outer P w H s Q E) s := fun outer s H args us vs Q E => F.go A outer s H args us vs Q E hG
section
variable {X : Cx} {CX : CXT} {k : Nat} {f : Addr} {fd : FuncData} {ps : List Str} {sp : Sp} {E : XK} {x : Str} {p pos : Pos} {e : Expr} {es : List Expr} {t : TA}
theorem pe_callG (F : FnG X.prog X.w X.K X.mg X.base CX k f fd ps sp) (hG : X.A.guards = some []) (hr : Room k X.A) (hg : Gl X x) (hm : X.mg x = some (.ref f)) (hk : PySem.W.keepIn X.K (.ref f) = true) (hb : Binds X.K fd ps []) (hx : Passes CX X E)
    (ha : PA X (e :: es) t) (hdb : (x == ("__debug__" : Str)) = false := by decide) (he : starEach (e :: es) X.env = (false, eval e X.env) :: starEach es X.env := by rfl) (hpl : (backTo pos (starEach es X.env)).any (·.1) = false := by rfl) :
    PE X (.Call (.Name x p) (e :: es) [] pos) (tCall sp [] E t) := by
  refine ⟨fun pins s σ H Q I h => wpAny_Call_Name_kw (ld_glob I hg hm (PySem.W.callWith_K (h₀ := X.base) I.ok.mod.kin hk ?_ he hpl) hdb)⟩
  refine thn (ha.run pos pins s σ H _ I h) fun us s1 ⟨vs, H1, I1, r, q⟩ => ⟨I1.kIn, ?_⟩
  have q : sp (vs ++ []) H1 Q E := q
  rw [List.append_nil] at q
  have hl : (us ++ ([] : List Value)).length = ps.length := by rw [List.append_nil, ← r.length]; exact F.len _ _ _ _ q
  have bd := hb s1 us I1.kIn hl
  rw [List.append_nil] at bd
  show wpAny (model X.prog X.w) X.A (call (.ref f) us) _ _ _
  refine wpAny_call (codeAny_mono (F.go X.A X.stack s1 H1 ⟨us, []⟩ us vs Q E hG hr I1.env0 bd r q) fun rr s' hq => ?_)
  match rr, hq with
  | .error er, hq => exact hx pins σ H1 s1 er s' I1 hq
  | .ok (.ret u), hq => exact I1.after hq
  | .ok .next, hq => exact hq.elim
  | .ok .brk, hq => exact hq.elim
  | .ok .cont, hq => exact hq.elim
end

section
variable {P : Program} {w : World} {K : PySem.W.Frag} {mg : Str → Option Value} {base : Heap} {CX : CXT}
/-- a def's body, read once, at one place -/
theorem run_body {f : Addr} {name qual : Str} {params : Arguments} {body : List Stmt} {scope : Scope} {kV doc pm cdv ct oc : Value} {an od : Option Addr} {osl : Array (Option Value)} {N ps : List Str} {A : Around} {outer : List Env} {s : Shared} {H : Hp}
    {args : Args} {us : List Value} {vs : List V} {Q : VK} {E : XK} {t : TS} (lk : K.lookup f = some ⟨oc, od, .func (PySem.W.fnOf name qual params body scope .none kV doc pm an cdv ct), osl⟩) (hcd : PySem.W.codeIn K cdv qual = true) (S : FnScope N ps scope)
    (hroom : A.depth < recursionLimit) (hhd : A.handled = none) (e0 : Env0 P w K mg base A outer s H) (hb : BindsTo s (PySem.W.fnOf name qual params body scope .none kV doc pm an cdv ct) args (ps.zip us)) (r : Vals vs us) (hl : vs.length = ps.length)
    (ht : PSs (cxOf CX P w K mg base N qual scope f cdv A outer s H E) body t) (hq : t { nx := fun _ H' => Q .non H', rt := Q } (start N vs) H) : codeAny (model P w) A (.call (.ref f) args) (CR CX outer P w H s Q E) s := by
  have kin : K.In s.heap := e0.mod.kin.keeps fun b o z => (e0.bs b o z).1
  have nol : s.heap.NoLimit := e0.mod.nolimit.keeps fun b o z => (e0.bs b o z).1
  have places : ∀ y ∈ ps.zip us, scope.names.lookup y.1 = some .local ∨ (scope.names.lookup y.1 = some .cell ∧ ((cellsFrom (s.heap.objs.size + 1) scope.names []).lookup y.1).isSome = true) := fun y hy =>
    (S.par y.1 (List.of_mem_zip (show (y.1, y.2) ∈ ps.zip us from hy)).1).elim Or.inl fun c => Or.inr ⟨c, PySem.W.cellsFrom_some _ _ _ (.inl c)⟩
  refine codeAny_call_function hroom (kin _ _ lk) rfl S.co S.gen rfl (PySem.W.codeRec_of kin hcd) (hb _ _ _ _ ?_)
  refine wpAny_newFunctionEnv_cells S.kind places fun env ee s1 frame => ?_
  cases ee
  refine ⟨nol.keeps frame.toInCall.keep, codeAny_func ?_⟩
  have I := inv_start (CX := CX) (E := E) S hhd e0 hl r frame
  refine wpAny_mono (ht.run [] s1 (start N vs) H _ I hq) (fun fl s' done => ?_) (fun e s' gone => gone)
  match fl, done with
  | .ret u, ⟨v, σ', H', J, rv, q⟩ => exact ⟨v, H', J.os, J.bare, J.base, J.hok, rv, q⟩
  | .next, ⟨σ', H', J, q⟩ => exact ⟨.non, H', J.os, J.bare, J.base, J.hok, rfl, q⟩
  | .brk, ⟨_, _, _, q⟩ => exact q.elim
  | .cont, ⟨_, _, _, q⟩ => exact q.elim
/-- a def that asks that no repr be under way -/
theorem okG {x qual : Str} {st : Stmt} {f : Addr} {fd : FuncData} {N ps : List Str} {k : Nat} {sp : Sp} (F : Fun K x qual st f fd) (S : FnScope N ps (defScope st)) (len : ∀ vs H Q E, sp vs H Q E → vs.length = ps.length)
    (hbody : ∀ (cdv : Value) (A : Around) (outer : List Env) (s : Shared) (H : Hp) (vs : List V) (Q : VK) (E : XK), (A.deeper (envOfC qual (defScope st) s.heap.objs.size f cdv)).guards = some [] → Room k (A.deeper (envOfC qual (defScope st) s.heap.objs.size f cdv)) → sp vs H Q E →
      ∃ t, PSs (cxOf CX P w K mg base N qual (defScope st) f cdv A outer s H E) (defBody st) t ∧ t { nx := fun _ H' => Q .non H', rt := Q } (start N vs) H) : FnG P w K mg base CX (k + 1) f fd ps sp := by
  obtain ⟨oc, od, kV, doc, pm, an, cdv, ct, osl, rfl, lk, hcd⟩ := F.ex
  refine ⟨len, fun A outer s H args us vs Q E hG hr e0 hb r hsp => ?_⟩
  obtain ⟨t, h, q⟩ := hbody cdv A outer s H vs Q E hG (hr.deeper _) hsp
  exact run_body lk hcd S hr.depth hr.hd e0 hb r (len _ _ _ _ hsp) h q
end

/-! ### the end of a law whose def asks that no repr be under way -/
/-- the abstract heap in which the script alone is known -/
def oneHp (a : Addr) (o : Obj) (u : HO) : Hp := fun b => if b = a then some (.frz o u) else none
theorem law_callG {P : Program} {w : World} {K : PySem.W.Frag} {mg mb : Str → Option Value} {CX : CXT} {k : Nat} {fa a : Addr} {fd : FuncData} {x : Str} {sp : Sp} {s₁ : Shared} {vs : List Value} {ns : List Int}
    (KX : K.In s₁.heap) (hns : s₁.heap.Ns mainGlobals mg) (hb : s₁.heap.Ns builtinsNs mb) (hbb : ∀ x : Str, x ≠ "__name__" → mb x = bootBuiltins x) (hlim : s₁.heap.NoLimit) (hg : s₁.gens = #[])
    (ha : s₁.heap.get? a = some { cls := .type "list", data := .seq vs.toArray }) (hi : IntsAre vs ns) (hl : ns.length ≤ sizeLine) (hr : Room k callerA)
    (F : ∀ base : Heap, K.In base → base.Ns mainGlobals mg → FnG P w K mg base CX k fa fd [x] sp) (hbind : ∀ (s : Shared) (u : Value), BindsTo s fd ⟨[u], []⟩ [(x, u)])
    (hsp : ∀ H : Hp, Only H → SqL K H a (ns.map V.int) → sp [.ref a] H (fun v _ => v = .bl true) fun _ _ _ => False) (hCX : ∀ H e s', CX [] H s₁ (fun _ _ _ => False) e s' → False) :
    codeAny (model P w) callerA (.call (.ref fa) ⟨[.ref a], []⟩) (fun r s' => r = .ok (.ret (.bool true)) ∧ OldK s₁.heap s'.heap ∧ s'.os = s₁.os ∧ AllBare s'.gens) s₁ := by
  have hv := vals_ints hi
  have hlen := hi.length
  have main : ∀ H : Hp, Only H → SqL K H a (ns.map V.int) → HOk P w H s₁.heap → (∀ b, (H b).isSome = true → b = a ∧ K.lookup a = none) →
      codeAny (model P w) callerA (.call (.ref fa) ⟨[.ref a], []⟩) (fun r s' => r = .ok (.ret (.bool true)) ∧ OldK s₁.heap s'.heap ∧ s'.os = s₁.os ∧ AllBare s'.gens) s₁ := by
    intro H hO hS hok hA
    have free : ∀ {b : Addr}, (b = a → False) → H b = none := fun {b} hn => by
      cases z : H b with
      | none => rfl
      | some u => exact (hn (hA b (by rw [z] <;> rfl)).1).elim
    have ns_ : ∀ {b : Addr} {m : Str → Option Value}, s₁.heap.Ns b m → (hidT s₁.heap H).Ns b m := fun {b m} ⟨o, es, ep, e, d, r⟩ => ⟨o, es, ep, hidT_get e (free fun z => by
      subst z
      rw [ha] at e
      cases e
      have d' : Data.seq vs.toArray _ = Data.dict es ep := d
      cases d'), d, r⟩
    have kin : K.In (hidT s₁.heap H) := fun b o e => hidT_get (KX b o e) (by
      cases z : H b with
      | none => rfl
      | some u =>
        obtain ⟨e1, e2⟩ := hA b (by rw [z] <;> rfl)
        rw [e1, e2] at e
        cases e)
    obtain ⟨mc, l1, l2⟩ := hlim
    have e0 : Env0 P w K mg (hidT s₁.heap H) callerA [] s₁ H := ⟨rfl, ⟨kin, ns_ hns, ⟨mb, ns_ hb, hbb⟩, mc, ns_ l1, l2⟩, fun b o e => of_hidT e, Nat.le_of_eq (hidT_size _ _), trivial, fun b z => absurd (show b ∈ ([] : List Addr) from z) (by simp), hok, .of_eq hg⟩
    refine codeAny_mono ((F _ kin (ns_ hns)).go callerA [] s₁ H ⟨[.ref a], []⟩ [.ref a] [.ref a] _ _ rfl hr e0 (hbind s₁ (.ref a)) (.cons rfl .nil) (hsp H hO hS)) fun r s' h => ?_
    match r, h with
    | .error e, h => exact (hCX H e s' h).elim
    | .ok .next, h => exact h.elim
    | .ok .brk, h => exact h.elim
    | .ok .cont, h => exact h.elim
    | .ok (.ret u), ⟨v, H', os, bare, un, hok', r', q⟩ =>
      have q' : v = .bl true := q
      subst q'
      have r'' : u = Value.bool true := r'
      subst r''
      refine ⟨rfl, OldK.of_keep fun b o e => ?_, os, bare⟩
      rcases hO b with z | ⟨ob, xs, z⟩
      · exact un.keep b o e z (fun z => absurd (show b ∈ ([] : List Addr) from z) (by simp)) (by simp)
      · have k1 := (hok b _ z).1
        have k2 := (hok' b _ (un.frzs b ob _ z)).1
        rw [k1] at e
        rw [← e]
        exact k2
  by_cases hk : K.lookup a = none
  · refine main (oneHp a { cls := .type "list", data := .seq vs.toArray } (.lst (ns.map V.int))) (fun b => ?_) (.inl (.inr ⟨_, if_pos rfl⟩)) (fun b u z => ?_) (fun b z => ?_)
    · by_cases e : b = a
      · exact .inr ⟨_, _, if_pos e⟩
      · exact .inl (if_neg e)
    · by_cases e : b = a
      · have z1 := (show oneHp a { cls := .type "list", data := .seq vs.toArray } (.lst (ns.map V.int)) b = _ from if_pos e).symm.trans z
        cases z1
        subst e
        exact ⟨ha, by rw [List.length_map]; exact hl, vs, _, hv, ha⟩
      · have z1 := (show oneHp a { cls := .type "list", data := .seq vs.toArray } (.lst (ns.map V.int)) b = _ from if_neg e).symm.trans z
        cases z1
    · by_cases e : b = a
      · exact ⟨e, hk⟩
      · have z1 : oneHp a { cls := .type "list", data := .seq vs.toArray } (.lst (ns.map V.int)) b = none := if_neg e
        rw [z1] at z
        cases z
  · obtain ⟨o, ho⟩ := Option.ne_none_iff_exists'.mp hk
    have e := KX a o ho
    rw [ha] at e
    cases e
    exact main (fun _ => none) (fun _ => .inl rfl) (.inr ⟨_, vs.toArray, _, ho, rfl, rfl, rfl, by rw [List.size_toArray, hlen]; exact hl, by simpa using hv⟩) (fun b u z => nomatch (show (none : Option HO) = some u from z)) (fun b z => nomatch z)
theorem walk_ofG {l : PySem.W.OpenLaw} {n k : Nat} {q : Program} {loose : List Str} {XP : (Str → Option Value) → Heap → Prop} {YP : World → Heap → Prop} {d : DefRec} {K : Params → PySem.W.Frag} {CX : World → CXT} {sp : World → Sp} {x : Str}
    (hn : l.most = some n) (hn2 : n ≤ sizeLine) (hdf : d.params.defaults = []) (hr : Room k callerA) (hY : ∀ (w : World) (h : Heap), YP w h → (K w.params).In h)
    (F : ∀ (w : World) (mg : Str → Option Value) (fa : Addr) (h : Heap), (K w.params).In h → h.Ns mainGlobals mg → mg d.name = some (.ref fa) →
      ∃ fd : FuncData, (∀ (s : Shared) (u : Value), BindsTo s fd ⟨[u], []⟩ [(x, u)]) ∧ ∀ base : Heap, (K w.params).In base → base.Ns mainGlobals mg → FnG l.prog w (K w.params) mg base (CX w) k fa fd [x] (sp w))
    (hsp : ∀ (w : World) (H : Hp) (a : Addr) (ns : List Int), ns.length ≤ n → Only H → SqL (K w.params) H a (ns.map V.int) → sp w [.ref a] H (fun v _ => v = .bl true) fun _ _ _ => False)
    (hCX : ∀ (w : World) (H : Hp) (s : Shared) (e : Value) (s' : Shared), CX w [] H s (fun _ _ _ => False) e s' → False) :
    PySem.W.WalkO q loose XP YP l.row.toRowW d [] (fun f vs => PySem.call f vs) :=
  Att.attach_call hn hdf fun w s₀ s₁ mg mb fa o pm cd doc a vs ns G Y ho hd hcd hmg hobj hints hlen hg => by
    have kx := hY w _ Y
    obtain ⟨fd, hb, hF⟩ := F w mg fa _ kx G.T.g hmg
    exact law_callG kx G.T.g G.T.b G.T.builtins G.T.nolimit hg hobj hints (Nat.le_trans hlen hn2) hr hF hb (fun H hO hS => hsp w H a ns hlen hO hS) fun H e s' => hCX w H s₁ e s'
end KB

set_option Elab.async false
set_option linter.all false
set_option maxRecDepth 100000
set_option maxHeartbeats 4000000
/-! KB1: set(tuple of texts) and its length; xs[n:] = ys. -/
namespace KB
open PySem PySem.Spec PyProof.Rows L2

/-- the texts as they are met first -/
def metS (xs : List Str) : List Str := xs.foldl (fun acc x => if x ∈ acc then acc else acc ++ [x]) []
theorem metS_snoc (xs : List Str) (x : Str) : metS (xs ++ [x]) = if x ∈ metS xs then metS xs else metS xs ++ [x] := by
  unfold metS
  rw [List.foldl_append]
  rfl
theorem metS_le : ∀ (n : Nat) (xs : List Str), xs.length = n → (metS xs).length ≤ n := by
  intro n
  induction n with
  | zero =>
    intro xs h
    have e : xs = [] := List.length_eq_zero_iff.mp h
    subst e
    exact Nat.le_refl 0
  | succ n ih =>
    intro xs h
    obtain ⟨ys, y, rfl⟩ : ∃ ys y, xs = ys ++ [y] := ⟨xs.dropLast, xs.getLast (by intro z; rw [z] at h; cases h), (List.dropLast_concat_getLast _).symm⟩
    have hy : ys.length = n := by simpa using h
    have := ih ys hy
    rw [metS_snoc]
    split
    · omega
    · rw [List.length_append]
      show _ + 1 ≤ _
      omega
theorem metS_mem : ∀ (n : Nat) (xs : List Str), xs.length = n → ∀ z, z ∈ metS xs ↔ z ∈ xs := by
  intro n
  induction n with
  | zero =>
    intro xs h z
    have e : xs = [] := List.length_eq_zero_iff.mp h
    subst e
    exact Iff.rfl
  | succ n ih =>
    intro xs h z
    obtain ⟨ys, y, rfl⟩ : ∃ ys y, xs = ys ++ [y] := ⟨xs.dropLast, xs.getLast (by intro z; rw [z] at h; cases h), (List.dropLast_concat_getLast _).symm⟩
    have hy : ys.length = n := by simpa using h
    have := ih ys hy
    rw [metS_snoc]
    split
    · rename_i hin
      rw [this z, List.mem_append, List.mem_singleton]
      constructor
      · exact Or.inl
      · rintro (q | rfl)
        · exact q
        · exact (this z).mp hin
    · rw [List.mem_append, List.mem_append, this z]
theorem metS_eq : ∀ (n : Nat) (xs : List Str), xs.length = n → (metS xs).length = n → xs.Nodup := by
  intro n
  induction n with
  | zero =>
    intro xs h _
    have e : xs = [] := List.length_eq_zero_iff.mp h
    subst e
    exact List.nodup_nil
  | succ n ih =>
    intro xs h hm
    obtain ⟨ys, y, rfl⟩ : ∃ ys y, xs = ys ++ [y] := ⟨xs.dropLast, xs.getLast (by intro z; rw [z] at h; cases h), (List.dropLast_concat_getLast _).symm⟩
    have hy : ys.length = n := by simpa using h
    rw [metS_snoc] at hm
    have hle := metS_le n ys hy
    split at hm
    · omega
    · rename_i hin
      have hl : (metS ys).length = n := by
        rw [List.length_append] at hm
        have : (metS ys).length + 1 = n + 1 := hm
        omega
      have nd := ih ys hy hl
      refine List.nodup_append.mpr ⟨nd, by simp, fun a ha b hb e => ?_⟩
      have hb' := List.mem_singleton.mp hb
      subst hb'
      subst e
      exact hin ((metS_mem n ys hy a).mpr ha)
theorem metS_nodup : ∀ (n : Nat) (xs : List Str), xs.length = n → xs.Nodup → metS xs = xs := by
  intro n
  induction n with
  | zero =>
    intro xs h _
    have e : xs = [] := List.length_eq_zero_iff.mp h
    subst e
    rfl
  | succ n ih =>
    intro xs h nd
    obtain ⟨ys, y, rfl⟩ : ∃ ys y, xs = ys ++ [y] := ⟨xs.dropLast, xs.getLast (by intro z; rw [z] at h; cases h), (List.dropLast_concat_getLast _).symm⟩
    have hy : ys.length = n := by simpa using h
    obtain ⟨n1, _, n3⟩ := List.nodup_append.mp nd
    rw [metS_snoc, ih ys hy n1, if_neg fun hin => n3 y hin y (List.mem_singleton.mpr rfl) rfl]

/-! ### the set at S holds the first i texts -/
def Got (P : Program) (w : World) (h : Heap) (S : Addr) (xs : List Str) : Prop := h.SetOf (PySem.strKind P w) S (fun z => decide (z ∈ metS xs)) (metS xs).length
theorem Got.keep {P : Program} {w : World} {h h' : Heap} {S : Addr} {xs : List Str} (g : Got P w h S xs) (k : ∀ o, h.get? S = some o → h'.get? S = some o) : Got P w h' S xs := by
  obtain ⟨o, es, ep, t, ho, r⟩ := g
  exact ⟨o, es, ep, t, k o ho, r⟩
theorem Got.more {P : Program} {w : World} {h : Heap} {S : Addr} {xs : List Str} {x : Str}
    (g : h.SetOf (PySem.strKind P w) S (fun z => decide (z ∈ metS xs) || decide (z = x)) (if decide (x ∈ metS xs) = true then (metS xs).length else (metS xs).length + 1)) : Got P w h S (xs ++ [x]) := by
  refine SetOf_congr g (fun z => ?_) ?_
  · rw [metS_snoc]
    by_cases hx : x ∈ metS xs
    · rw [if_pos hx]
      by_cases e : z = x
      · subst e
        simp [hx]
      · simp [e]
    · rw [if_neg hx]
      simp [List.mem_append]
  · rw [metS_snoc]
    by_cases hx : x ∈ metS xs
    · rw [if_pos hx, if_pos (decide_eq_true hx)]
    · rw [if_neg hx, if_neg (by simpa using hx), List.length_append]
      rfl
section
variable {P : Program} {w : World} {A : Around} {E : Value → Shared → Prop} {s : Shared}
theorem strs_get : ∀ {us : List Value} {xs : List Str}, StrsAre us xs → ∀ (i : Nat) (v : Value), us[i]? = some v → ∃ x t, xs[i]? = some x ∧ v = .str x t
  | _, _, .nil, i, v, h => by simp at h
  | _, _, .cons x t _, 0, v, h => ⟨x, t, rfl, (Option.some.inj h).symm⟩
  | _, _, .cons _ _ r, i + 1, v, h => strs_get r i v h
/-- the loop of set(..) over an iterator of texts -/
theorem fill_texts {R : Result → Shared → Prop} {I : Addr} {fp wr : List Addr} {G : Array GenState → Array GenState → Prop} {Pv : Nat → Value → Prop} {St : Nat → Shared → Prop} (xs : List Str) (W : WalksS P w A.in1 I fp wr G xs.length Pv St) (S : Addr) (hS : S ∉ fp)
    (hb : xs.length + 1 < scanBound) (hval : ∀ i v, Pv i v → ∃ x t, xs[i]? = some x ∧ v = .str x t) :
    ∀ (m i : Nat) (s : Shared), xs.length - i = m → i ≤ xs.length → St i s → Got P w s.heap S (xs.take i) →
      (∀ s', Moved (S :: wr) G s s' → Got P w s'.heap S xs → R (.ok (.ret .none)) s') → codeAny (model P w) A (.builtin "set.update.loop" ⟨[.ref S, .ref I], []⟩) R s := by
  have ins : ∀ b ∈ wr, b ∈ S :: wr := fun b z => List.mem_cons_of_mem _ z
  have out : S ∉ wr := fun z => hS (W.sub _ z)
  intro m
  induction m with
  | zero =>
    intro i s hm hi hst hg back
    have hi' : i = xs.length := by omega
    rw [hi', List.take_length] at hg
    rw [hi'] at hst
    refine codeAny_builtin PyProof.Rows.F.entry_set_update_loop ?_
    rw [Around.under_plainId PyProof.Rows.F.plain_set_update_loop _]
    show wpAny _ A.in1 (pyNext (.ref I) >>= _) _ _ s
    exact wpAny_bind (W.done s _ _ hst fun s' mv => wpAny_pure (back s' (mv.mono ins) (hg.keep fun o z => mv.heap S o out z)))
  | succ m ih =>
    intro i s hm hi hst hg back
    have lt : i < xs.length := by omega
    refine codeAny_builtin PyProof.Rows.F.entry_set_update_loop ?_
    rw [Around.under_plainId PyProof.Rows.F.plain_set_update_loop _]
    show wpAny _ A.in1 (pyNext (.ref I) >>= _) _ _ s
    refine wpAny_bind (W.item i s _ _ lt hst fun v s' hP hst' mv => ?_)
    obtain ⟨x, t, hx, rfl⟩ := hval i v hP
    have g1 : Got P w s'.heap S (xs.take i) := hg.keep fun o z => mv.heap S o out z
    have small : (metS (xs.take i)).length + 1 < scanBound := by
      have := metS_le _ (xs.take i) rfl
      rw [List.length_take] at this
      omega
    show wpAny _ A.in1 (holding [Value.str x t] (setAdd S (.str x t)) >>= _) _ _ s'
    refine wpAny_bind (wpAny_holding ?_)
    unfold setAdd
    refine wpAny_holding (wpAny_bind ((PySem.strKind P w).pyHash (k := x) (strKind_is _ _ _ _) ?_))
    refine wpAny_setAddHashed_of (knd := PySem.strKind P w) (s := { s' with toks := s'.toks + 1 }) (strKind_is _ _ _ _) rfl g1 small fun h' but g2 => ?_
    have g3 : Got P w h' S (xs.take (i + 1)) := by
      rw [List.take_add_one, hx]
      exact Got.more g2
    refine wpAny_pure ⟨plainId_quiet PyProof.Rows.F.plain_set_update_loop _, ih (i + 1) _ (by omega) lt (W.frame _ s' _ _ hst' (Nat.le_succ _) fun b hb o z => ?_) g3 fun s2 mv2 g4 => ?_⟩
    · rw [but.2 b fun e => hS (e ▸ hb)]
      exact z
    · refine back s2 (Moved.trans W.gtrans ((mv.mono ins).then_heap (Nat.le_succ _) fun b o hb z => ?_) mv2) g4
      rw [but.2 b fun e => hb (e ▸ List.mem_cons_self)]
      exact z
/-- the set that set() lays -/
def bareSet (led : Bool) : Obj := { cls := .type "set", dict := none, data := .set #[] 0 (.fresh 0 0 led) }
set_option maxHeartbeats 8000000 in
theorem set_of_texts {l : Addr} {items : Array Value} {xs : List Str} {Q : Value → Shared → Prop} (hh : A.handled = none) (hl : s.heap.IsTuple l items) (hx : StrsAre items.toList xs) (hb : xs.length + 1 < scanBound)
    (h : ∀ (h' : Heap) (tk : Nat), Got P w h' s.heap.objs.size xs → (∀ b o, s.heap.get? b = some o → h'.get? b = some o) → Q (.ref s.heap.objs.size) { s with heap := h', toks := tk }) : wpAny (model P w) A (call (.type "set") [.ref l]) Q E s := by
  have size_eq : items.size = xs.length := by
    have q := StrsAre.length hx
    simpa using q
  have hmro := PySem.F.called_set.mro
  obtain ⟨c, tl, hmro⟩ := hmro
  have made := PySem.F.called_set.made
  have sub := PySem.F.called_set.sub
  have notT := PySem.F.called_set.notType
  have can := PySem.F.called_set.canCreate
  have chk := PySem.F.typeCall_set_1 (.ref l)
  refine wpAny_call (codeAny_of_tree ?_)
  show wpAny _ _ (callAny (.type "set") _) _ _ _
  refine wpAny_pure ⟨Code.quiet_builtin _ (by decide +kernel), codeAny_builtin PySem.F.entry_type_call ?_⟩
  rw [Around.under_plain (weight_type_call_type "set" [.ref l] []) rfl]
  repeat (any_goals (first | assumption | wp_step))
  refine codeAny_mono (code_set_new_1 (.ref l) (E := E) (Q₁ := fun obj s₁ => ∃ led : Bool, obj = .ref s.heap.objs.size ∧ s₁ = { s with heap := s.heap.push (bareSet led) }) fun led => ⟨led, rfl, rfl⟩) fun r s₁ hr => ?_
  match r, hr with
  | .error e, hr => exact hr
  | .ok .next, hr => exact hr.elim
  | .ok .brk, hr => exact hr.elim
  | .ok .cont, hr => exact hr.elim
  | .ok (.ret obj), hr =>
    obtain ⟨led, rfl, rfl⟩ := hr
    have atS : (s.heap.push (bareSet led)).get? s.heap.objs.size = some (bareSet led) := Heap.get?_push_size _ rfl
    have isS : Shared.TypeIs { s with heap := s.heap.push (bareSet led) } (.ref s.heap.objs.size) "set" := ⟨_, atS, rfl⟩
    have look := PySem.F.called_set.init.lookup
    have bind := PySem.F.called_set.init.bind (.ref s.heap.objs.size)
    repeat (any_goals (first | assumption | wp_step))
    refine codeAny_mono (codeAny_call_builtin (R := wants (fun r s₂ => r = .none ∧ ∃ h' tk, s₂ = { s with heap := h', toks := tk } ∧ Got P w h' s.heap.objs.size xs ∧ (∀ b o, s.heap.get? b = some o → h'.get? b = some o)) E)
      PySem.F.called_set.init.plain PySem.F.entry_set_init (check_set_init_1 isS ?_)) fun r₂ s₂ hr₂ => ?_
    · obtain ⟨⟨ocls, odict, odata, oslots⟩, hol, hcl, nl, hdl⟩ := hl
      simp only at hcl hdl
      subst hcl
      subst hdl
      have atL := Heap.get?_push_of_some (bareSet led) hol
      have hl1 : (s.heap.push (bareSet led)).IsTuple l items := ⟨_, atL, rfl, nl, rfl⟩
      have nots := PySem.F.sub_tuple_set
      have notf := PySem.F.sub_tuple_frozenset
      have notd : (Value.type "tuple" == Value.type "dict") = false := by decide
      unfold Builtin.«set.__init__» noKeywords Builtin.Frozenset.updateFrom
      generalize hPI : pyIter = PI
      wp_walk
      subst hPI
      refine wpAny_pyIter_tuple hl1 ?_
      refine wpAny_bind (wpAny_runValue ?_)
      have lS : l < s.heap.objs.size := Heap.lt_size hol
      have hh3 : A.in1.in1.in1.handled = none := by simp [hh]
      have sz : (s.heap.push (bareSet led)).objs.size = s.heap.objs.size + 1 := Heap.size_push ..
      have neI : l ≠ (s.heap.push (bareSet led)).objs.size := fun z => by
        rw [z, sz] at lS
        exact Nat.lt_irrefl _ (Nat.lt_of_succ_lt lS)
      have apart : s.heap.objs.size ∉ [(s.heap.push (bareSet led)).objs.size, l] := by
        rw [sz]
        simp only [List.mem_cons, List.not_mem_nil, or_false, not_or]
        exact ⟨Nat.ne_of_lt (Nat.lt_succ_self _), Nat.ne_of_gt lS⟩
      have vals : ∀ (i : Nat) (v : Value), items[i]? = some v → ∃ x t, xs[i]? = some x ∧ v = .str x t := fun i v hv => strs_get hx i v (by rw [Array.getElem?_toList]; exact hv)
      have Wk := (Walks.tuple (prog := P) (w := w) hh3 _ l neI items).toS
      rw [size_eq] at Wk
      refine fill_texts xs Wk s.heap.objs.size apart hb vals (xs.length - 0) 0 _ rfl (Nat.zero_le _) ⟨⟨_, Heap.get?_push_size _ rfl, rfl, rfl⟩, (hl1.push _)⟩ ?_ fun s' mv g => ?_
      · have at2 := Heap.get?_push_of_some { cls := .type "tuple_iterator", data := .fields #[.ref l, .int 0 0] } atS
        exact SetOf_congr ((setObjOf_fresh (knd := PySem.strKind P w) led).setOf at2 (by unfold scanBound; omega)) (fun _ => rfl) rfl
      · obtain ⟨h', g', d', tk', os'⟩ := s'
        have e1 : g' = s.gens := mv.gens
        have e2 : d' = s.drawn := mv.drawn
        have e3 : os' = s.os := mv.os
        subst e1
        subst e2
        subst e3
        refine wpAny_pure ?_
        show wpAny _ _ (ret Value.none) _ _ _
        refine wpAny_pure ⟨rfl, h', tk', rfl, g, fun b o z => ?_⟩
        have hbs : b < s.heap.objs.size := Heap.lt_size z
        refine mv.heap b o ?_ (Heap.get?_push_of_some _ (Heap.get?_push_of_some _ z))
        rw [sz]
        simp only [List.mem_cons, List.not_mem_nil, or_false, not_or]
        exact ⟨Nat.ne_of_lt hbs, Nat.ne_of_lt (Nat.lt_succ_of_lt hbs)⟩
    · match r₂, hr₂ with
      | .error e, hr₂ => exact hr₂
      | .ok .next, hr₂ => exact hr₂.elim
      | .ok .brk, hr₂ => exact hr₂.elim
      | .ok .cont, hr₂ => exact hr₂.elim
      | .ok (.ret v), hr₂ =>
        obtain ⟨rfl, h', tk, rfl, g, k⟩ := hr₂
        repeat (any_goals (first | assumption | wp_step))
        exact h _ _ g k
end
/-! ### set(t) and its length, over the layer -/
section
variable {X : Cx}
def SetS (P : Program) (w : World) (a : Addr) (xs : List Str) : HO := .ext fun h => Got P w h a xs
def rSetT (P : Program) (w : World) (K : PySem.W.Frag) : List V → Hp → VK → Prop := fun vs H Q => ∃ (a : Addr) (xs : List Str), vs = [.ref a] ∧ SqT K H a (xs.map V.str) ∧ xs.length ≤ 2000 ∧ ∀ p, H p = none → Q (.ref p) (upd H p (SetS P w p xs))
theorem call_setT (hc : X.calm = true) : CallR X (.type "set") (rSetT X.prog X.w X.K) := by
  intro pins s σ H vs us Q I r h
  obtain ⟨a, xs, rfl, ht, hl, q⟩ := h
  have e := Vals.ref1 r
  subst e
  obtain ⟨its, rv, tp, hz⟩ := I.tuple ht
  refine set_of_texts (P := X.prog) (w := X.w) (xs := xs) (I.ok.hd hc) tp (by simpa using Vals.strs rv) (by unfold scanBound; omega) fun h' tk g k => ?_
  have fr : H s.heap.objs.size = none := I.hok.fresh (Nat.le_refl _)
  have here : ∃ o, h'.get? s.heap.objs.size = some o := by
    obtain ⟨o, _, _, _, ho, _⟩ := id g
    exact ⟨o, ho⟩
  exact ⟨.ref s.heap.objs.size, upd H s.heap.objs.size (SetS X.prog X.w s.heap.objs.size xs), I.laid (t' := tk) k (Nat.le_refl _) ⟨g, here, fun h1 h2 z kk => z.keep kk⟩, rfl, q _ fr⟩
def rLenSetS (P : Program) (w : World) : List V → Hp → VK → Prop := fun vs H Q => ∃ (a : Addr) (xs : List Str), vs = [.ref a] ∧ H a = some (SetS P w a xs) ∧ xs.length ≤ 2000 ∧ Q (.int ((metS xs).length : Nat)) H
theorem call_lenSetS : CallR X (.builtin "len") (rLenSetS X.prog X.w) := by
  intro pins s σ H vs us Q I r h
  obtain ⟨a, xs, rfl, ha, hl, q⟩ := h
  have e := Vals.ref1 r
  subst e
  have g : Got X.prog X.w s.heap a xs := (I.hok a _ ha).1
  obtain ⟨o, es, ep, t, ho, hex, hd, _, _, _, hf, hn⟩ := g
  have hle := metS_le _ xs rfl
  refine call_len_set ho hex hd hf (by rw [hn]; omega) ⟨.int ((metS xs).length : Nat), H, I.tok _, ⟨_, by rw [hn]⟩, q⟩
end
end KB

set_option Elab.async false
set_option linter.all false
set_option maxRecDepth 100000
set_option maxHeartbeats 4000000
/-! KB2: xs[n:] = ys. -/
namespace KB
open PySem PySem.Spec PyProof.Rows L2

theorem tail_bounds {a n : Nat} (h : a ≤ n) : sliceBounds (some (a : Int)) none none n = ((a : Int), (n : Int), 1) := by
  simp only [sliceBounds, Option.getD_none]
  have z : ¬ ((a : Int) < 0) := by omega
  simp only [z, if_false, show (1 : Int) > 0 by decide, if_true]
  congr 1
  omega
section
variable {prog : Program} {w : World} {A : Around} {E : Value → Shared → Prop} {s : Shared}
theorem store_tail {l b sl : Addr} {old new : Array Value} {n n2 : Nat} {vl : Value} {a : Nat} {Q : Unit → Shared → Prop} (e : s.heap.get? l = some { cls := .type "list", data := .seq old n }) (e2 : s.heap.get? b = some { cls := .type "list", data := .seq new n2 }) (hne : l ≠ b)
    (hs : s.heap.IsSliceOf sl vl .none .none) (pl : IsPart vl (some (a : Int))) (ha : a ≤ old.size) (hsz : old.size + new.size ≤ sizeLine)
    (h : Q () { s with heap := s.heap.update l (Obj.mapSeq fun xs => xs.extract 0 a ++ new ++ xs.extract old.size xs.size) }) : wpAny (model prog w) A (setItem (.ref l) (.ref sl) (.ref b)) Q E s := by
  have isL : s.heap.IsList l old := PySem.IsL.isList e
  have isB : s.heap.IsList b new := PySem.IsL.isList e2
  obtain ⟨os, hos, hcs, hds⟩ := id hs
  have tyS : s.TypeIs (.ref sl) "slice" := ⟨os, hos, hcs⟩
  have unlike : Builtin.List.listSameRef (.ref l) (.ref b) = false := by
    unfold Builtin.List.listSameRef
    exact beq_eq_false_iff_ne.mpr hne
  have top : (max (a : Int) (old.size : Int)).toNat = old.size := by omega
  have fits : ((fun xs : Array Value => xs.extract 0 a ++ new ++ xs.extract old.size xs.size) old).size ≤ sizeLine + 1 := by
    simp only [Array.size_append, Array.size_extract]
    omega
  unfold setItem
  try with_reducible refine wpAny_holding ?_
  first | refine wpAny_bind (wpAny_pure ?_) | skip
  refine wpAny_bind (wpAny_sequenceKey isL.typeIs (by decide) ?_)
  refine wpAny_bind (wpAny_callSpecial?_slot (name := Str.ofString "__setitem__") isL.typeIs slot_list_setitem
    (wpAny_call_entry slot_list_setitem isL.typeIs entry_list_setitem ?_ (args_list_setitem _ _ _)))
  show wpAny _ _ (Builtin.List.listSubscript? (.ref sl) >>= _) _ _ s
  unfold Builtin.List.listSubscript?
  refine wpAny_bind (wpAny_bind (wpAny_specialOf tyS slice_no_index ?_))
  simp only [Option.isNone_none, if_true]
  refine wpAny_pure ?_
  show wpAny _ _ (typeOf (.ref sl) >>= _) _ _ s
  refine wpAny_bind (wpAny_typeOf tyS ?_)
  first
    | rw [if_neg (by decide)]
    | refine PySem.W.KFB.if_not (by decide) ?_
  rw [listSliceParts_eq]
  refine wpAny_bind (wpAny_bind (wpAny_field hos hds (x := .none) rfl (wpAny_bind (wpAny_listPart .none ?_))))
  rw [if_neg (show ¬ ((rawPart none == rawInt 0) = true) from Bool.false_ne_true)]
  refine wpAny_bind (wpAny_field hos hds (x := vl) rfl (wpAny_bind (wpAny_listPart pl ?_)))
  refine wpAny_bind (wpAny_field hos hds (x := .none) rfl (wpAny_bind (wpAny_listPart .none (wpAny_pure ?_))))
  first
    | simp only [unlike, Bool.false_eq_true, if_false]
    | refine PySem.W.KFB.if_not unlike ?_
    | (dsimp only
       rw [if_neg (by rw [unlike]; exact Bool.false_ne_true)])
  refine wpAny_bind (m := Builtin.List.listAllItems (.ref b) "must assign iterable to extended slice") ?_
  unfold Builtin.List.listAllItems
  refine wpAny_bind (wpAny_typeOf isB.typeIs ?_)
  first
    | refine PySem.W.KFB.if_so (by decide) ?_
    | rw [if_pos (by decide)]
    | simp only [beq_self_eq_true, Bool.true_or, if_true]
  unfold Builtin.List.listItems
  refine wpAny_bind (wpAny_seqItems e2 rfl (wpAny_pure ?_))
  refine wpAny_bind (wpAny_bind (wpAny_seqItems e rfl (wpAny_pure ?_)))
  have run := (sliceIndices_raw (some (a : Int)) none none old.size (by simp)).trans (congrArg (pure : Int × Int × Int → Sem (Int × Int × Int)) (tail_bounds ha))
  refine wpAny_bind (wpAny_of_eq run ?_)
  show wpAny _ _ (if ((1 : Int) == 1) = true then _ else _) _ _ s
  rw [if_pos (by decide)]
  refine wpAny_bind (wpAny_rule ?_)
  first
    | simp only [notLongL hsz, Bool.false_eq_true, if_false]
    | refine PySem.W.KFB.if_not (notLongL hsz) ?_
  first | refine wpAny_bind (wpAny_pure ?_) | skip
  show wpAny _ _ (updateSeq l (fun xs => xs.extract 0 ((a : Int)).toNat ++ new ++ xs.extract (max (a : Int) (old.size : Int)).toNat xs.size) >>= _) _ _ s
  rw [top, Int.toNat_natCast]
  refine wpAny_bind (wpAny_updateSeq (hz := Nat.le_trans (Nat.le_add_right _ _) hsz) (_hz' := fits) e rfl ?_)
  refine wpAny_bind (wpAny_letGo ?_)
  first
    | exact wpAny_bind (wpAny_pure (wpAny_pure ⟨.none, rfl, wpAny_pure h⟩))
    | exact wpAny_pure ⟨.none, rfl, wpAny_pure h⟩
end
section
variable {X : Cx}
/-- o[lo:] = .. -/
def gTail (to tlo : TE) : TG := fun v σ H Q => to σ H fun o H1 => tlo σ H1 fun i H2 => ∃ (l b : Addr) (xs ys : List V) (n : Nat), o = .ref l ∧ i = .int (n : Int) ∧ v = .ref b ∧ H2 l = some (.lst xs) ∧ H2 b = some (.lst ys) ∧ l ≠ b ∧ n ≤ xs.length ∧ xs.length + ys.length ≤ sizeLine ∧
  Q σ (upd H2 l (.lst (xs.take n ++ ys)))
theorem pg_tail {o lo : Expr} {to tlo : TE} {p2 pos : Pos} (ho : PE X o to) (hlo : PE X lo tlo)
    (ha : ∀ v, assign (.Subscript o (.Slice (some lo) none none p2) pos) X.env v = (do
      let ov ← holding [v] (eval o X.env)
      let iv ← holding [v, ov] (eval (.Slice (some lo) none none p2) X.env)
      standAt pos
      holding [v, ov, iv] (setItem ov iv v)
      release [iv, v, ov] []) := by intro _; rfl) : PG X (.Subscript o (.Slice (some lo) none none p2) pos) (gTail to tlo) := by
  refine ⟨fun pins s σ H v u Q I r h => ?_⟩
  rw [ha]
  refine wpAny_bind (wpAny_holding (thn (ho.run pins s σ H _ I h) fun ov s1 ⟨x, H1, I1, r1, q1⟩ => wpAny_bind (wpAny_holding (wpAny_Slice ?_))))
  refine thn (hlo.run pins s1 σ H1 _ I1 q1) fun vl s2 ⟨i, H2, I2, ri, l, b, xs, ys, n, ex, ei, ev, hl, hb, hne, hn, hz, q2⟩ => ?_
  subst ex
  subst ei
  subst ev
  rw [evalPart_none]
  refine wpAny_pure (wpAny_pure (wpAny_bind (wpAny_standAt (wpAny_bind (wpAny_holding ?_)))))
  cases r1
  cases r
  obtain ⟨t, rfl⟩ := ri
  have I3 : Inv X pins σ H2 { s2 with heap := s2.heap.push { cls := .type "slice", data := .fields #[Value.int (n : Int) t, .none, .none] } } := I2.kept (t' := s2.toks) fun b ob q => Heap.get?_push_of_some _ q
  obtain ⟨z1, its, k1, rv, hlen, e⟩ := I3.lstM hl
  obtain ⟨z2, its2, k2, rv2, hlen2, e2⟩ := I3.lstM hb
  have sa : its.toArray.size = xs.length := by rw [List.size_toArray]; exact rv.length.symm
  have sb : its2.toArray.size = ys.length := by rw [List.size_toArray]; exact rv2.length.symm
  have done : Inv X pins σ (upd H2 l (.lst (xs.take n ++ ys))) { s2 with heap := (s2.heap.push { cls := .type "slice", data := .fields #[Value.int (n : Int) t, .none, .none] }).update l (Obj.mapSeq fun xs => xs.extract 0 n ++ its2.toArray ++ xs.extract its.toArray.size xs.size) } := by
    refine I3.lset (its' := its.take n ++ its2) (t' := s2.toks) hl e ?_ (Vals.append (rv.take n) rv2) ?_
    · have g := splice_eq its its2 n its.toArray.size
      rw [show its.drop its.toArray.size = [] from List.drop_eq_nil_of_le (by rw [List.size_toArray]; exact Nat.le_refl _), List.append_nil] at g
      exact g
    · rw [List.length_append, List.length_take]
      omega
  refine store_tail (a := n) e e2 hne (Heap.IsSliceOf.new ..) (.int _ _) (by rw [sa]; exact hn) (by rw [sa, sb]; exact hz) ?_
  exact wpAny_release ⟨σ, _, done, q2⟩
end
end KB

set_option Elab.async false
set_option linter.all false
set_option maxRecDepth 100000
set_option maxHeartbeats 4000000
/-! KE0: more of what readings evaluate to; pages and logs. -/
namespace KB
open PySem L2 Evl

section
variable {K : PySem.W.Frag} {σ : L2.St} {H H' : Hp} {ta tb tc te tx : TE} {t u : TT} {x y z v : V} {r r' : R2}
theorem et_yes : EvT tYes σ H true := fun H1 _ _ q => q H1 (Ex.refl H1)
theorem ev_chain {k m : Bool} (ha : Ev ta σ H x) (hb : Ev tb σ H y) (hr : RV r x y H (.bl k)) (hc : k = true → Ev tc σ H z) (hr' : k = true → RV r' y z H (.bl m)) : Ev (tChain r r' ta tb tc) σ H (.bl (k && m)) := fun H1 e Q q =>
  ha H1 e _ fun H2 e2 => hb H2 (e.trans e2) _ fun H3 e3 => hr H3 ((e.trans e2).trans e3) _ fun H4 e4 => ⟨k, rfl, by
    cases k with
    | true =>
      show tc σ H4 _
      exact hc rfl H4 (((e.trans e2).trans e3).trans e4) _ fun H5 e5 => hr' rfl H5 ((((e.trans e2).trans e3).trans e4).trans e5) Q fun H6 e6 => q H6 ((((e2.trans e3).trans e4).trans e5).trans e6)
    | false =>
      show Q (.bl false) H4
      exact q H4 ((e2.trans e3).trans e4)⟩
/-- isinstance(e, T), T a built-in type -/
theorem ev_isi {T T' : String} {b : Bool} (ha : Ev ta σ H x) (hx : ∀ H1, Ex H H1 → TyX K H1 x (.type T)) (hk : kitB T T' = some b) : Ev (tCB (rIsi K) (tCons ta (tCons (tC (.ty T')) tNil))) σ H (.bl b) := fun H1 e Q q =>
  ha H1 e _ fun H2 e2 => ⟨x, .ty T', .type T, .type T', b, rfl, .ty T', hx H2 (e.trans e2), kit_ty hk, q H2 e2⟩
def rLenStr : List V → Hp → VK → Prop := fun xs H Q => ∃ z : Str, xs = [.str z] ∧ z.length ≤ sizeLine ∧ Q (.int z.length) H
theorem ev_lenStr {z : Str} (ha : Ev ta σ H (.str z)) (hz : z.length ≤ 100000) : Ev (tCB rLenStr (tCons ta tNil)) σ H (.int (z.length : Int)) := fun H1 e Q q =>
  ha H1 e _ fun H2 e2 => ⟨z, rfl, sz_of hz, q H2 e2⟩
theorem ev_lenTup {p : Addr} {xs : List V} (ha : Ev ta σ H (.ref p)) (h : SqT K H p xs) : Ev (tCB (rLenS K) (tCons ta tNil)) σ H (.int (xs.length : Int)) := fun H1 e Q q =>
  ha H1 e _ fun H2 e2 => ⟨p, xs, rfl, Or.inr (ex_t (e.trans e2) h), q H2 e2⟩
/-- all(..) of a new list of truth values -/
theorem ev_all {bs : List Bool} (ha : EvL ta σ H (bs.map V.bl)) : Ev (tCB (rAll K) (tCons ta tNil)) σ H (.bl (bs.all id)) := fun H1 e Q q =>
  ha H1 e _ fun p H2 _ e2 hp => ⟨p, bs, rfl, sq_of hp, q H2 e2⟩
theorem rv_inSign {c : Nat} {z : Str} : RV (fun x y H Q => ∃ (c : Nat) (z : Str), x = .str ⟨#[c]⟩ ∧ y = .str z ∧ Q (.bl (decide (c ∈ z.cps.toList))) H) (.str ⟨#[c]⟩) (.str z) H (.bl (decide (c ∈ z.cps.toList))) := fun H1 _ _ q => ⟨c, z, rfl, rfl, q H1 (Ex.refl H1)⟩
/-- a comprehension over the signs of a text -/
theorem el_lcS {s : Str} {tl : TE} {j : Nat} {vs : List Nat} (f : Nat → Bool) (v : Nat → V) (h : Ev tl σ H (.str s)) (hz : s.cps.size ≤ 40000) (hw : ∀ x, wipe ((wipe σ vs).set j (some x)) vs = wipe σ vs)
    (ht : ∀ (i c : Nat) H1, Ex H H1 → s.cps[i]? = some c → EvT t ((wipe σ vs).set j (some (.str ⟨#[c]⟩))) H1 (f i)) (he : ∀ (i c : Nat) H1, Ex H H1 → s.cps[i]? = some c → f i = true → Ev te ((wipe σ vs).set j (some (.str ⟨#[c]⟩))) H1 (v i)) :
    EvL (tLc (iStr tl) (gName j) t te vs) σ H (given s.cps.size f v) := fun H0 e Q q => h H0 e _ fun H1 e1 => ⟨s, rfl, fun Dl hD =>
  lc_it walk_str (Cw H1 f v Dl) ⟨hD, Ex.new hD, upd_same⟩ (fun _ _ _ _ => trivial) (fun i x H' H'' hi p hy => by
    obtain ⟨rfl, c, hc, rfl⟩ := hy
    exact ⟨hw _, cw_turn p (by omega) (ht i c H1 (e.trans e1) hc) (fun hf => he i c H1 (e.trans e1) hc hf)⟩) (fun H' p => q Dl H' (fresh_back e1 p.1) (e1.trans p.2.1) p.2.2)⟩
/-- over a tuple -/
theorem el_lcT {a : Addr} {xs : List V} {tl : TE} {j : Nat} {vs : List Nat} (f : Nat → Bool) (v : Nat → V) (h : Ev tl σ H (.ref a)) (hx : SqT K H a xs) (hz : xs.length ≤ 40000) (hw : ∀ x, wipe ((wipe σ vs).set j (some x)) vs = wipe σ vs)
    (ht : ∀ (i : Nat) (x : V) H1, Ex H H1 → xs[i]? = some x → EvT t ((wipe σ vs).set j (some x)) H1 (f i)) (he : ∀ (i : Nat) (x : V) H1, Ex H H1 → xs[i]? = some x → f i = true → Ev te ((wipe σ vs).set j (some x)) H1 (v i)) :
    EvL (tLc (iTup K tl) (gName j) t te vs) σ H (given xs.length f v) := fun H0 e Q q => h H0 e _ fun H1 e1 => ⟨a, rfl, ⟨xs, ex_t (e.trans e1) hx⟩, fun Dl hD =>
  lc_it (walk_tup (K := K) (a := a) (xs := xs)) (Cw H1 f v Dl) ⟨hD, Ex.new hD, upd_same⟩ (fun i H' _ p => ex_t ((e.trans e1).trans p.2.1) hx) (fun i x H' H'' hi p hy => by
    obtain ⟨rfl, hc⟩ := hy
    exact ⟨hw _, cw_turn p (by omega) (ht i x H1 (e.trans e1) hc) (fun hf => he i x H1 (e.trans e1) hc hf)⟩) (fun H' p => q Dl H' (fresh_back e1 p.1) (e1.trans p.2.1) p.2.2)⟩
/-- a, b = t at values -/
theorem given_all {n : Nat} (v : Nat → V) : given n (fun _ => true) v = (List.range n).map v := by
  unfold given
  rw [List.filter_eq_self.mpr (fun _ _ => rfl)]
theorem ex_tyT {a : Addr} {xs : List V} (h : SqT K H a xs) : TyX K H (.ref a) (.type "tuple") := by
  rcases h with (h | ⟨o, h⟩) | ⟨o, its, n, h1, h2, _⟩
  · exact .base (.tup h)
  · exact .fTuple h
  · exact .kTuple h1 h2
theorem ex_tyL {a : Addr} {xs : List V} (h : SqL K H a xs) : TyX K H (.ref a) (.type "list") := by
  rcases h with (h | ⟨o, h⟩) | ⟨o, its, n, h1, h2, _⟩
  · exact .base (.lst h)
  · exact .base (.frz h)
  · exact .kList h1 h2
end

/-! ### pages, events, logs -/
def LETS : List Nat := ("abcdefghijklmnopqrstuvwxyz" : Str).cps.toList
def pageB (x : Str) : Bool := (decide ((1 : Int) ≤ x.length) && decide ((x.length : Int) ≤ 4)) && x.cps.toList.all fun c => decide (c ∈ LETS)
theorem pageB_len {x : Str} (h : pageB x = true) : x.length ≤ 4 := by
  unfold pageB at h
  simp only [Bool.and_eq_true, decide_eq_true_eq] at h
  omega
def hitS : Str := "hit"
def missS : Str := "miss"
abbrev Ev1 := Str × Str
def okE (e : Ev1) : Prop := (e.1 = hitS ∨ e.1 = missS) ∧ pageB e.2 = true
structure Pages (ps : List Str) : Prop where
  all : ∀ p ∈ ps, pageB p = true
  nd : ps.Nodup
  len : ps.length ≤ 200
structure LogK (K : PySem.W.Frag) (H : Hp) (l : Addr) (es : List Ev1) : Prop where
  at_ : ∃ ts : List Addr, SqL K H l (ts.map V.ref) ∧ Paired (fun t (e : Ev1) => SqT K H t [.str e.1, .str e.2]) ts es
  ok : ∀ e ∈ es, okE e
  len : es.length ≤ 300
theorem Paired.imp {α β : Type} {R S : α → β → Prop} : ∀ {as : List α} {bs : List β}, Paired R as bs → (∀ a b, R a b → S a b) → Paired S as bs
  | _, _, .nil, _ => .nil
  | _, _, .cons h t, k => .cons (k _ _ h) (Paired.imp t k)
theorem LogK.mono {K : PySem.W.Frag} {H H' : Hp} {l : Addr} {es : List Ev1} (e : Ex H H') (h : LogK K H l es) : LogK K H' l es := by
  obtain ⟨⟨ts, h1, h2⟩, h3, h4⟩ := h
  exact ⟨⟨ts, ex_l e h1, Paired.imp h2 fun _ _ z => ex_t e z⟩, h3, h4⟩
theorem paired_at {α β : Type} {R : α → β → Prop} : ∀ {as : List α} {bs : List β} {i : Nat} {b : β}, Paired R as bs → bs[i]? = some b → ∃ a, as[i]? = some a ∧ R a b
  | _, _, 0, b, .cons h t, e => ⟨_, rfl, by cases e; exact h⟩
  | _, _, i + 1, b, .cons h t, e => paired_at (i := i) t e
  | _, _, 0, b, .nil, e => nomatch e
  | _, _, i + 1, b, .nil, e => nomatch e
theorem paired_at' {α β : Type} {R : α → β → Prop} : ∀ {as : List α} {bs : List β} {i : Nat} {a : α}, Paired R as bs → as[i]? = some a → ∃ b, bs[i]? = some b ∧ R a b
  | _, _, 0, b, .cons h t, e => ⟨_, rfl, by cases e; exact h⟩
  | _, _, i + 1, b, .cons h t, e => paired_at' (i := i) t e
  | _, _, 0, b, .nil, e => nomatch e
  | _, _, i + 1, b, .nil, e => nomatch e
theorem paired_len {α β : Type} {R : α → β → Prop} : ∀ {as : List α} {bs : List β}, Paired R as bs → as.length = bs.length
  | _, _, .nil => rfl
  | _, _, .cons _ t => by rw [List.length_cons, List.length_cons, paired_len t]
theorem paired_snoc {α β : Type} {R : α → β → Prop} {a : α} {b : β} (h : R a b) : ∀ {as : List α} {bs : List β}, Paired R as bs → Paired R (as ++ [a]) (bs ++ [b])
  | _, _, .nil => .cons h .nil
  | _, _, .cons h1 t => .cons h1 (paired_snoc h t)

/-! ### sizes -/
def isMiss (e : Ev1) : Bool := decide (e.1 = missS)
def misses (es : List Ev1) : Nat := es.countP isMiss
/-- the number of pages at moment t -/
def szAt (c n : Nat) (es : List Ev1) (t : Nat) : Nat := min c (n + misses (es.take t))
def szs (c n : Nat) (es : List Ev1) : List Nat := (List.range (es.length + 1)).map (szAt c n es)
/-- is event e an evicting miss -/
def lateB (c n : Nat) (es : List Ev1) (e : Nat) : Bool := match es[e]? with
  | some v => isMiss v && decide (szAt c n es e = c)
  | none => false
def lates (c n : Nat) (es : List Ev1) : List Nat := (List.range es.length).filter (lateB c n es)
def natV (n : Nat) : V := .int (n : Int)
theorem misses_succ {es : List Ev1} {t : Nat} {e : Ev1} (h : es[t]? = some e) : misses (es.take (t + 1)) = misses (es.take t) + (if isMiss e = true then 1 else 0) := by
  unfold misses
  rw [List.take_add_one, h, List.countP_append]
  simp [List.countP_cons]
end KB

set_option Elab.async false
set_option linter.all false
set_option maxRecDepth 100000
set_option maxHeartbeats 4000000
namespace KB
open PySem L2
/-! ### the text -/
def topS (i : Nat) : Stmt := PySem.Challenge.pw_hitlog_k01_shelves_and_logs_judged.main.body.getD i (.Pass ⟨0, 0, 0, 0⟩)
abbrev sIsPage : Stmt := topS 5
abbrev sIsMark : Stmt := topS 6
abbrev sIsEvent : Stmt := topS 7
abbrev sIsShelf : Stmt := topS 8
abbrev sIsLog : Stmt := topS 9
abbrev sSource : Stmt := topS 11
abbrev sDraw : Stmt := topS 12
abbrev sPages : Stmt := topS 13
abbrev sRun : Stmt := topS 14
abbrev sGoodPage : Stmt := topS 15
abbrev sGoodShelf : Stmt := topS 16
abbrev sGoodLog : Stmt := topS 17
abbrev sBent : Stmt := topS 18
abbrev sLaw : Stmt := topS 19
end KB

set_option Elab.async false
set_option linter.all false
set_option maxRecDepth 100000
set_option maxHeartbeats 4000000
/-! A1: values of any kind; the program's judgements of them. -/
namespace KB
open PySem L2 Evl
/-- the built-in names that the module leaves alone, its constants -/
structure Bn (mg : Str → Option Value) : Prop where
  isinstance : mg "isinstance" = none
  str : mg "str" = none
  len : mg "len" = none
  all : mg "all" = none
  tuple : mg "tuple" = none
  set : mg "set" = none
  list : mg "list" = none
  range : mg "range" = none
  min : mg "min" = none
  HIT : ∃ t, mg "HIT" = some (.str "hit" t)
  MISS : ∃ t, mg "MISS" = some (.str "miss" t)
  LETTERS : ∃ t, mg "LETTERS" = some (.str "abcdefghijklmnopqrstuvwxyz" t)
  LONGEST : ∃ t, mg "LONGEST_PAGE" = some (.int 4 t)
theorem bt_isinstance : bootBuiltins "isinstance" = some (.builtin "isinstance") := by decide +kernel
theorem bt_all : bootBuiltins "all" = some (.builtin "all") := by decide +kernel
theorem bt_len : bootBuiltins "len" = some (.builtin "len") := by decide +kernel
theorem bt_min : bootBuiltins "min" = some (.builtin "min") := by decide +kernel
theorem bt_int : bootBuiltins "int" = some (.type "int") := by decide +kernel
theorem bt_bool : bootBuiltins "bool" = some (.type "bool") := by decide +kernel
theorem bt_str : bootBuiltins "str" = some (.type "str") := by decide +kernel
theorem bt_tuple : bootBuiltins "tuple" = some (.type "tuple") := by decide +kernel
theorem bt_list : bootBuiltins "list" = some (.type "list") := by decide +kernel
theorem bt_set : bootBuiltins "set" = some (.type "set") := by decide +kernel

/-- a def as its callers know it -/
structure Cl (P : Program) (w : World) (K : PySem.W.Frag) (mg : Str → Option Value) (base : Heap) (k : Nat) (x : Str) (ps : List Str) (sp : Sp) : Prop where
  ex : ∃ (f : Addr) (fd : FuncData), FnOk P w K mg base CX0 k f fd ps sp ∧ mg x = some (.ref f) ∧ PySem.W.keepIn K (.ref f) = true ∧ Binds K fd ps []
section
variable {X : Cx} {k j : Nat} {ps : List Str} {sp : Sp} {x : Str} {p pos : Pos} {e : Expr} {es : List Expr} {t : TA}
theorem pe_cl (c : Cl X.prog X.w X.K X.mg X.base k x ps sp) (hr : Room j X.A) (ha : PA X (e :: es) t) (hk : k ≤ j := by decide) (hg : Gl X x := by rfl) (hdb : (x == ("__debug__" : Str)) = false := by decide)
    (he : starEach (e :: es) X.env = (false, eval e X.env) :: starEach es X.env := by rfl) (hpl : (backTo pos (starEach es X.env)).any (·.1) = false := by rfl) : PE X (.Call (.Name x p) (e :: es) [] pos) (tCall sp [] E0 t) := by
  obtain ⟨f, fd, F, hm, kp, hb⟩ := c.ex
  exact pe_call F (hr.mono hk) hg hm kp hb .nil pass0 ha hdb he hpl
end
section
variable {K : PySem.W.Frag} {σ : L2.St} {H : Hp} {te : TE} {D : Ends}
theorem s_unp2 {i j : Nat} {a : Addr} {x y : V} (h : Ev te σ H (.ref a)) (hs : SqT K H a [x, y]) (k : ∀ H1, Ex H H1 → D.nx ((σ.set i (some x)).set j (some y)) H1) : tAsg te (gTup K 2 (gCons (gName i) (gCons (gName j) gNil))) D σ H :=
  h H (Ex.refl H) _ fun H1 e => ⟨a, [x, y], rfl, ex_t e hs, rfl, x, [y], rfl, y, [], rfl, rfl, k H1 e⟩
theorem q_unp2 {tz : TS} {i j : Nat} {a : Addr} {x y : V} (h : Ev te σ H (.ref a)) (hs : SqT K H a [x, y]) (k : ∀ H1, Ex H H1 → tz D ((σ.set i (some x)).set j (some y)) H1) : tSeq (tAsg te (gTup K 2 (gCons (gName i) (gCons (gName j) gNil)))) tz D σ H :=
  s_unp2 (D := { D with nx := tz D }) h hs k
/-- a call of a def whose promise has the plain form -/
theorem ev_fn {sp : Sp} {vs : List V} {z : V} {ta : TA} (h : EvA ta σ H vs) (hs : ∀ H1, Ex H H1 → ∀ Q : VK, RetV z H1 Q → sp vs H1 Q E0) : Ev (tCall sp [] E0 ta) σ H z := fun H1 e Q q =>
  h H1 e _ fun H2 e2 => by
    rw [List.append_nil]
    exact hs H2 (e.trans e2) Q fun H3 e3 => q H3 (e2.trans e3)
theorem el_fn {sp : Sp} {vs xs : List V} {ta : TA} (h : EvA ta σ H vs) (hs : ∀ H1, Ex H H1 → ∀ Q : VK, RetL xs H1 Q → sp vs H1 Q E0) : EvL (tCall sp [] E0 ta) σ H xs := fun H1 e Q q =>
  h H1 e _ fun H2 e2 => by
    rw [List.append_nil]
    exact hs H2 (e.trans e2) Q fun p H3 hp e3 h3 => q p H3 (fresh_back e2 hp) (e2.trans e3) h3
end
theorem lets_eq : ("abcdefghijklmnopqrstuvwxyz" : Str).cps.toList = LETS := rfl
theorem page_bits (x : Str) : (given x.cps.size (fun _ => true) fun i => V.bl (decide (x.cps.getD i 0 ∈ LETS))) = (x.cps.toList.map fun c => decide (c ∈ LETS)).map V.bl := by
  rw [given_all, List.map_map]
  apply List.ext_getElem
  · simp
  · intro i h1 h2
    have hi : i < x.cps.size := by simpa using h1
    simp [Array.getD, hi]
theorem all_true (n : Nat) : (given n (fun _ => true) fun _ => V.bl true) = (List.replicate n true).map V.bl := by
  rw [given_all]
  apply List.ext_getElem <;> simp
theorem rep_all (n : Nat) : (List.replicate n true).all id = true := by
  rw [List.all_eq_true]
  intro b hb
  exact List.eq_of_mem_replicate hb
theorem dec_int (a b : Nat) : decide (V.int (a : Int) = V.int (b : Int)) = decide (a = b) := by
  by_cases h : a = b
  · rw [decide_eq_true h, h, decide_eq_true rfl]
  · rw [decide_eq_false h, decide_eq_false fun z => h (by injection z with z; omega)]
/-! ### values of any kind -/
mutual
inductive DV (K : PySem.W.Frag) (H : Hp) : V → PyData → Prop
  | non : DV K H .non .none
  | bl (b : Bool) : DV K H (.bl b) (.bool b)
  | int (i : Int) : DV K H (.int i) (.int i)
  | str (x : Str) : DV K H (.str x) (.str x)
  | lst {a : Addr} {xs : List V} {ds : List PyData} : H a = some (.lst xs) → DVs K H xs ds → DV K H (.ref a) (.list ds)
  | tup {a : Addr} {xs : List V} {ds : List PyData} : SqT K H a xs → DVs K H xs ds → DV K H (.ref a) (.tuple ds)
  | dct {a : Addr} {kvs : List (Str × Str)} : H a = some (.dK (kvs.map fun p => (.inr p.1, V.str p.2))) → DV K H (.ref a) (.dict (kvs.map fun p => (.str p.1, .str p.2)))
inductive DVs (K : PySem.W.Frag) (H : Hp) : List V → List PyData → Prop
  | nil : DVs K H [] []
  | cons {v : V} {vs : List V} {d : PyData} {ds : List PyData} : DV K H v d → DVs K H vs ds → DVs K H (v :: vs) (d :: ds)
end
mutual
theorem DV.mono {K : PySem.W.Frag} {H H' : Hp} (e : Ex H H') : ∀ (d : PyData) (v : V), DV K H v d → DV K H' v d
  | .none, _, h => by cases h; exact .non
  | .bool b, _, h => by cases h; exact .bl b
  | .int b, _, h => by cases h; exact .int b
  | .str b, _, h => by cases h; exact .str b
  | .list ds, _, h => by
    cases h with
    | lst h1 h2 => exact .lst (e _ _ h1) (DVs.mono e ds _ h2)
  | .tuple ds, _, h => by
    cases h with
    | tup h1 h2 => exact .tup (ex_t e h1) (DVs.mono e ds _ h2)
  | .dict _, _, h => by
    cases h with
    | dct h1 => exact .dct (e _ _ h1)
theorem DVs.mono {K : PySem.W.Frag} {H H' : Hp} (e : Ex H H') : ∀ (ds : List PyData) (vs : List V), DVs K H vs ds → DVs K H' vs ds
  | [], _, h => by cases h; exact .nil
  | d :: ds, _, h => by
    cases h with
    | cons h1 h2 => exact .cons (DV.mono e d _ h1) (DVs.mono e ds _ h2)
end
theorem dvs_len {K : PySem.W.Frag} {H : Hp} : ∀ {ds : List PyData} {vs : List V}, DVs K H vs ds → vs.length = ds.length
  | [], _, h => by cases h; rfl
  | d :: ds, _, h => by
    cases h with
    | cons h1 h2 => rw [List.length_cons, List.length_cons, dvs_len h2]
theorem dvs_at {K : PySem.W.Frag} {H : Hp} : ∀ {ds : List PyData} {vs : List V} {i : Nat} {v : V}, DVs K H vs ds → vs[i]? = some v → ∃ d, ds[i]? = some d ∧ DV K H v d
  | [], _, i, v, h, e => by cases h; simp at e
  | d :: ds, _, i, v, h, e => by
    cases h with
    | cons h1 h2 =>
      cases i with
      | zero =>
        injection e with e
        subst e
        exact ⟨d, rfl, h1⟩
      | succ i => exact dvs_at (i := i) h2 (by simpa using e)
theorem dvs_at' {K : PySem.W.Frag} {H : Hp} : ∀ {ds : List PyData} {vs : List V} {i : Nat} {d : PyData}, DVs K H vs ds → ds[i]? = some d → ∃ v, vs[i]? = some v ∧ DV K H v d
  | [], _, i, d, h, e => by simp at e
  | d0 :: ds, _, i, d, h, e => by
    cases h with
    | cons h1 h2 =>
      cases i with
      | zero =>
        injection e with e
        subst e
        exact ⟨_, rfl, h1⟩
      | succ i => exact dvs_at' (i := i) h2 (by simpa using e)
def tyD : PyData → String
  | .none => "NoneType"
  | .bool _ => "bool"
  | .int _ => "int"
  | .str _ => "str"
  | .list _ => "list"
  | .tuple _ => "tuple"
  | .dict _ => "dict"
theorem DV.ty {K : PySem.W.Frag} {H : Hp} {v : V} {d : PyData} (h : DV K H v d) : TyX K H v (.type (tyD d)) := by
  cases h with
  | non => exact .base .non
  | bl b => exact .base (.bl b)
  | int i => exact .base (.int i)
  | str x => exact .base (.str x)
  | lst h1 _ => exact .base (.lst h1)
  | tup h1 _ => exact ex_tyT h1
  | dct h1 => exact .base (.dK h1)
def isStrD : PyData → Bool | .str _ => true | _ => false
def isTupD : PyData → Bool | .tuple _ => true | _ => false
def isLstD : PyData → Bool | .list _ => true | _ => false
theorem kit_str (d : PyData) : kitB (tyD d) "str" = some (isStrD d) := by cases d <;> simp only [tyD, isStrD] <;> decide +kernel
theorem kit_tup (d : PyData) : kitB (tyD d) "tuple" = some (isTupD d) := by cases d <;> simp only [tyD, isTupD] <;> decide +kernel
theorem kit_lst (d : PyData) : kitB (tyD d) "list" = some (isLstD d) := by cases d <;> simp only [tyD, isLstD] <;> decide +kernel
/-! sizes that the machine holds -/
mutual
def smallD : PyData → Bool
  | .none | .bool _ | .int _ => true
  | .str x => decide (x.length ≤ 1000) && PyData.strOk x
  | .list ds | .tuple ds => decide (ds.length ≤ 1000) && smallAll ds
  | .dict _ => true
def smallAll : List PyData → Bool
  | [] => true
  | d :: ds => smallD d && smallAll ds
end
theorem small_at : ∀ {ds : List PyData} {i : Nat} {d : PyData}, smallAll ds = true → ds[i]? = some d → smallD d = true
  | [], _, _, _, e => by simp at e
  | d0 :: ds, i, d, h, e => by
    rw [smallAll, Bool.and_eq_true] at h
    cases i with
    | zero =>
      injection e with e
      subst e
      exact h.1
    | succ i => exact small_at (i := i) h.2 (by simpa using e)
/-! ### what the document asks of them -/
def pageD : PyData → Bool
  | .str x => pageB x
  | _ => false
def markD : PyData → Bool
  | .str x => decide (x = hitS) || decide (x = missS)
  | _ => false
def eventD : PyData → Bool
  | .tuple [m, p] => markD m && pageD p
  | _ => false
def textD : PyData → Str
  | .str x => x
  | _ => ""
def shelfD : PyData → Bool
  | .tuple ds => ds.all pageD && decide ((ds.map textD).Nodup)
  | _ => false
def logB : PyData → Bool
  | .list ds => ds.all eventD
  | _ => false
section
variable {K : PySem.W.Frag} {σ : L2.St} {H H' : Hp} {ta tb : TE} {x y z v : V} {d : PyData}
/-- isinstance(e, T) at any value -/
theorem ev_isiD {T : String} {b : Bool} (ha : Ev ta σ H x) (hx : DV K H x d) (hk : kitB (tyD d) T = some b) : Ev (tCB (rIsi K) (tCons ta (tCons (tC (.ty T)) tNil))) σ H (.bl b) := ev_isi ha (fun H1 e => (DV.mono e d x hx).ty) hk
end
theorem bits_given (f : PyData → Bool) (ds : List PyData) : (given ds.length (fun _ => true) fun i => V.bl (f (ds.getD i .none))) = (ds.map f).map V.bl := by
  rw [given_all, List.map_map]
  apply List.ext_getElem
  · simp
  · intro i h1 h2
    have hi : i < ds.length := by simpa using h1
    simp [List.getD_eq_getElem?_getD, List.getElem?_eq_getElem hi]
theorem all_id (f : PyData → Bool) (ds : List PyData) : (ds.map f).all id = ds.all f := by
  rw [List.all_map]
  rfl
end KB

set_option Elab.async false
set_option linter.all false
set_option maxRecDepth 100000
set_option maxHeartbeats 4000000
/-! KL1: the law's source of numbers and its draws. -/
namespace KB
open PySem L2 Evl
/-- the abstract heap without a -/
def hid (H : Hp) (a : Addr) : Hp := fun b => if b = a then none else H b
theorem hid_self {H : Hp} {a : Addr} : hid H a a = none := if_pos rfl
theorem hid_ne {H : Hp} {a b : Addr} (h : b ≠ a) : hid H a b = H b := if_neg h
theorem hid_none {H : Hp} {a b : Addr} (h : H b = none) : hid H a b = none := by
  by_cases e : b = a
  · exact if_pos e
  · rw [hid_ne e]; exact h
theorem hid_some {H : Hp} {a b : Addr} {o : HO} (h : hid H a b = some o) : b ≠ a ∧ H b = some o := by
  by_cases e : b = a
  · rw [e, hid_self] at h
    cases h
  · rw [hid_ne e] at h
    exact ⟨e, h⟩
theorem ex_hid (H : Hp) (a : Addr) : Ex (hid H a) H := fun b o h => (hid_some h).2
theorem hidE {H H' : Hp} (e : Ex H H') (a : Addr) : Ex (hid H a) H' := (ex_hid H a).trans e
theorem ex_hid2 {H H1 H2 : Hp} {a : Addr} (e : Ex (hid H a) H1) (e2 : Ex (hid H1 a) H2) : Ex (hid H a) H2 := fun b o h => e2 b o (by rw [hid_ne (hid_some h).1]; exact e b o h)
/-- a fresh place was fresh all along -/
theorem fresh_hid {H H' : Hp} {a p : Addr} {o : HO} (e : Ex (hid H a) H') (ha : H' a = some o) (h : H' p = none) : H p = none := by
  have n : p ≠ a := fun z => by rw [z, ha] at h; cases h
  have q := fresh_back e h
  rw [hid_ne n] at q
  exact q
theorem sqt_hid {K : PySem.W.Frag} {H : Hp} {a t : Addr} {xs ys : List V} (h : SqT K H t xs) (ha : H a = some (.lst ys)) : SqT K (hid H a) t xs := by
  rcases h with (h | ⟨o, h⟩) | h
  · exact .inl (.inl (by rw [hid_ne (ne_of h ha (by intro z; cases z))]; exact h))
  · exact .inl (.inr ⟨o, by rw [hid_ne (ne_of h ha (by intro z; cases z))]; exact h⟩)
  · exact .inr h
theorem sql_hid {K : PySem.W.Frag} {H : Hp} {a t : Addr} {xs : List V} (h : SqL K H t xs) (ha : t ≠ a) : SqL K (hid H a) t xs := by
  rcases h with (h | ⟨o, h⟩) | h
  · exact .inl (.inl (by rw [hid_ne ha]; exact h))
  · exact .inl (.inr ⟨o, by rw [hid_ne ha]; exact h⟩)
  · exact .inr h
/-- the source at a, that has given at most B mixed numbers -/
def SrcAt (H : Hp) (a : Addr) (B : Int) : Prop := ∃ x y z : Int, H a = some (.lst [.int x, .int y, .int z]) ∧ 0 ≤ x ∧ 0 ≤ y ∧ y < 2 ^ 200 ∧ 0 ≤ z ∧ z ≤ B
theorem SrcAt.mono {H H' : Hp} {a : Addr} {B : Int} (e : Ex H H') (h : SrcAt H a B) : SrcAt H' a B := by
  obtain ⟨x, y, z, h, r⟩ := h
  exact ⟨x, y, z, e a _ h, r⟩
theorem SrcAt.le {H : Hp} {a : Addr} {B C : Int} (h : SrcAt H a B) (hb : B ≤ C) : SrcAt H a C := by
  obtain ⟨x, y, z, h, r1, r2, r3, r4, r5⟩ := h
  exact ⟨x, y, z, h, r1, r2, r3, r4, Int.le_trans r5 hb⟩
theorem SrcAt.is {H : Hp} {a : Addr} {B : Int} (h : SrcAt H a B) : ∃ xs, H a = some (.lst xs) := by
  obtain ⟨x, y, z, h, _⟩ := h
  exact ⟨_, h⟩
structure Bl (mg : Str → Option Value) : Prop where
  max : mg "max" = none
  abs : mg "abs" = none
  repr : mg "repr" = none
theorem bt_max : bootBuiltins "max" = some (.builtin "max") := by decide +kernel
theorem bt_abs : bootBuiltins "abs" = some (.builtin "abs") := by decide +kernel
theorem bt_repr : bootBuiltins "repr" = some (.builtin "repr") := by decide +kernel
section
variable {P : Program} {w : World} {K : PySem.W.Frag} {mg : Str → Option Value} {base : Heap}
theorem scSource : FnScope ["script", "k", "cell"] ["script", "k"] (defScope sSource) := ⟨rfl, rfl, rfl, by decide +kernel, rfl, by decide +kernel, by decide +kernel⟩
def spSource (K : PySem.W.Frag) : Sp := fun vs H Q _ => ∃ (a : Addr) (k : Nat) (ns : List Int), vs = [.ref a, .int (k : Int)] ∧ SqL K H a (ns.map V.int) ∧ k ≤ 100 ∧ ∀ p H2, H p = none → Ex H H2 → SrcAt H2 p 0 → Q (.ref p) H2
theorem cell_le {ns : List Int} {k : Nat} (h : k < ns.length) : atI (ns.map V.int) ((k : Nat) : Int) = some (V.int (ns.getD k 0)) := by
  refine atI_nat ?_
  rw [List.getElem?_map, List.getElem?_eq_getElem h, List.getD_eq_getElem?_getD, List.getElem?_eq_getElem h]
  rfl
theorem ok_source {f : Addr} {fd : FuncData} (F : Fun K "_law_source" "_law_source" sSource f fd) (B : Bn mg) (B2 : Bl mg) : FnOk P w K mg base CX0 1 f fd ["script", "k"] (spSource K) := by
  refine F.ok scSource (fun vs H Q E h => ?_) (fun cdv A outer s H vs Q E hr h => ?_)
  · obtain ⟨a, k, ns, rfl, _⟩ := h
    rfl
  · obtain ⟨a, k, ns, rfl, hs, hk, q⟩ := h
    refine ⟨_, pss_cons (ps_set (i := 2) scSource.nd rfl (Or.inl rfl) (pe_ifExp (pt_cmpR op_lt (pv 1) (pe_callB call_len_seq (by rfl) B.len bt_len (pa_cons (pv 0) pa_nil)) (nomark _)) (pe_ix ix_list (pv 0) (pv 1) (fun _ _ => rfl)) pe_int))
      (pss_one (ps_ret (pe_lst (pa_cons (pe_callB (call_max2 rfl) (by rfl) B2.max bt_max (pa_cons pe_int (pa_cons (pe_op op_sub (pe_callB call_abs (by rfl) B2.abs bt_abs (pa_cons (pv 2) pa_nil)) (pe_op op_pow pe_int pe_int)) pa_nil)))
        (pa_cons (pe_op op_add (pe_op op_mod (pv 2) (pe_op op_add (pe_op op_pow pe_int pe_int) pe_int)) (pe_op op_mul pe_int (pv 1))) (pa_cons pe_int pa_nil)))))), ?_⟩
    have hm : (ns.map V.int).length = ns.length := List.length_map ..
    refine q_asg (v := .int (ns.getD k 0)) (ev_if (b := decide ((k : Int) < ((ns.map V.int).length : Int))) (et_test (ev_op (ev_var rfl) (ev_len (ev_var rfl) hs) rv_I0)) (fun hb => ?_) (fun hb => ?_)) fun H1 e1 => ?_
    · rw [decide_eq_true_eq, hm] at hb
      exact ev_op (ev_var rfl) (ev_var rfl) (rv_ixL hs (cell_le (by omega)))
    · rw [decide_eq_false_iff_not, hm] at hb
      have e0 : ns.getD k 0 = 0 := by
        rw [List.getD_eq_getElem?_getD, List.getElem?_eq_none (by omega)]
        rfl
      rw [e0]
      exact ev_c
    · generalize ns.getD k 0 = c
      refine s_retL (xs := [.int (if (if c < 0 then -c else c) - 10 ^ (18 : Int).toNat > 0 then (if c < 0 then -c else c) - 10 ^ (18 : Int).toNat else 0), .int (c % (10 ^ (39 : Int).toNat + 7) + 27644437 * (k : Int)), .int 0]) (el_lst (ea_cons ?_ (ea_cons ?_ (ea_cons ev_c ea_nil))) (show 3 ≤ 100000 by decide)) fun p H2 hp e2 h2 => q p H2 (fresh_back e1 hp) (e1.trans e2) ⟨_, _, _, h2, ?_, ?_, ?_, by decide, by decide⟩
      · exact ev_cb (ea_cons ev_c (ea_cons (ev_op (ev_cb (ea_cons (ev_var rfl) ea_nil) fun H7 e7 Q' k => ⟨_, rfl, k H7 (Ex.refl H7)⟩) (ev_op ev_c ev_c (rv_I ⟨by decide, by decide, by decide⟩)) rv_I0) ea_nil)) fun H7 e7 Q' k => ⟨_, _, rfl, k H7 (Ex.refl H7)⟩
      · refine ev_op (ev_op (ev_var rfl) (ev_op (ev_op ev_c ev_c (rv_I ⟨by decide, by decide, by decide⟩)) ev_c rv_I0) (rv_I (show (0 : Int) < 10 ^ (39 : Int).toNat + 7 by decide))) (ev_op ev_c (ev_var rfl) (rv_I (.inl ⟨by decide, by decide⟩))) rv_I0
      · split <;> omega
      · have h1 : 0 ≤ c % (10 ^ (39 : Int).toNat + 7) := Int.emod_nonneg _ (by decide)
        omega
      · have h1 : c % (10 ^ (39 : Int).toNat + 7) < 10 ^ (39 : Int).toNat + 7 := Int.emod_lt_of_pos _ (by decide)
        have h2 : ((10 : Int) ^ (39 : Int).toNat + 7) + 27644437 * 100 < 2 ^ 200 := by decide
        have h3 : 27644437 * (k : Int) ≤ 27644437 * 100 := by omega
        generalize (10 : Int) ^ (39 : Int).toNat + 7 = m at h1 h2 ⊢
        generalize (2 : Int) ^ 200 = b at h2 ⊢
        omega

/-! _law_draw -/
theorem scDraw : FnScope ["source", "bound", "found", "mixed"] ["source", "bound"] (defScope sDraw) := ⟨rfl, rfl, rfl, by decide +kernel, rfl, by decide +kernel, by decide +kernel⟩
def spDraw : Sp := fun vs H Q _ => ∃ (a : Addr) (b B : Int), vs = [.ref a, .int b] ∧ 0 < b ∧ b ≤ 100000 ∧ SrcAt H a B ∧ B ≤ 1000000 ∧ ∀ d H2, 0 ≤ d → d < b → Ex (hid H a) H2 → SrcAt H2 a (B + 1) → Q (.int d) H2
theorem mix_fit {y z : Int} (h1 : 0 ≤ y) (h2 : y < 2 ^ 200) (h3 : 0 ≤ z) (h4 : z ≤ 1000002) : PowFit (y + 86028121 * z) 3 := by
  refine ⟨by decide, by decide, ?_⟩
  have h5 : y + 86028121 * z < 2 ^ 201 := by
    have : (2 : Int) ^ 201 = 2 ^ 200 + 2 ^ 200 := by decide
    have h6 : (86028121 * 1000002 : Int) < 2 ^ 200 := by decide
    rw [this]
    generalize (2 : Int) ^ 200 = b at *
    omega
  have h7 : (2 : Int) ^ 201 < 2 ^ 250 := by decide
  have h8 : (y + 86028121 * z).natAbs < 2 ^ 250 := by
    have h9 : ((y + 86028121 * z).natAbs : Int) < ((2 ^ 250 : Nat) : Int) := by
      rw [Int.natAbs_of_nonneg (by omega)]
      exact Int.lt_trans h5 h7
    exact Int.ofNat_lt.mp h9
  exact h8
theorem mix_fit2 {m z : Int} (h1 : 0 ≤ m) (h2 : m < 10 ^ (38 : Int).toNat + 133) (h3 : 0 ≤ z) (h4 : z ≤ 1000002) : PowFit (m + 32452843 * z) 3 := by
  refine ⟨by decide, by decide, ?_⟩
  have h5 : m + 32452843 * z < 2 ^ 250 := by
    have h6 : (10 : Int) ^ (38 : Int).toNat + 133 + 32452843 * 1000002 < 2 ^ 250 := by decide
    generalize (10 : Int) ^ (38 : Int).toNat + 133 = c at *
    generalize (2 : Int) ^ 300 = b at *
    omega
  have h9 : ((m + 32452843 * z).natAbs : Int) < ((2 ^ 250 : Nat) : Int) := by
    rw [Int.natAbs_of_nonneg (by omega)]
    exact h5
  exact Int.ofNat_lt.mp h9
theorem ok_draw {f : Addr} {fd : FuncData} (F : Fun K "_law_draw" "_law_draw" sDraw f fd) : FnOk P w K mg base CX0 1 f fd ["source", "bound"] spDraw := by
  refine F.ok scDraw (fun vs H Q E h => ?_) (fun cdv A outer s H vs Q E hr h => ?_)
  · obtain ⟨a, b, B, rfl, _⟩ := h
    rfl
  · obtain ⟨a, b, B, rfl, hb0, hb1, hS, hB, q⟩ := h
    obtain ⟨x, y, z, ha, hx, hy, hy2, hz, hz2⟩ := hS
    refine ⟨_, pss_cons (ps_if (pt_cmpR op_gt (pe_ix ix_list (pv 0) pe_int (fun _ _ => rfl)) pe_int (nomark _))
        (pss_cons (ps_set (i := 2) scDraw.nd rfl (Or.inl rfl) (pe_op op_mod (pe_ix ix_list (pv 0) pe_int (fun _ _ => rfl)) (pv 1)))
        (pss_cons (ps_asg (pe_op op_fdiv (pe_ix ix_list (pv 0) pe_int (fun _ _ => rfl)) (pv 1)) (pg_sub (pv 0) pe_int set_list))
        (pss_one (ps_ret (pv 2))))) pss_nil)
      (pss_cons (ps_asg (pe_op op_add (pe_ix ix_list (pv 0) pe_int (fun _ _ => rfl)) pe_int) (pg_sub (pv 0) pe_int set_list))
      (pss_cons (ps_set (i := 3) scDraw.nd rfl (Or.inl rfl) (pe_op op_mod (pe_op op_powF (pe_op op_add (pe_ix ix_list (pv 0) pe_int (fun _ _ => rfl)) (pe_op op_mul pe_int (pe_ix ix_list (pv 0) pe_int (fun _ _ => rfl)))) pe_int) (pe_op op_add (pe_op op_pow pe_int pe_int) pe_int)))
      (pss_cons (ps_set (i := 3) scDraw.nd rfl (Or.inl rfl) (pe_op op_mod (pe_op op_powF (pe_op op_add (pv 3) (pe_op op_mul pe_int (pe_ix ix_list (pv 0) pe_int (fun _ _ => rfl)))) pe_int) (pe_op op_add (pe_op op_pow pe_int pe_int) pe_int)))
      (pss_one (ps_ret (pe_op op_mod (pe_op op_fdiv (pv 3) pe_int) (pv 1))))))), ?_⟩
    have ix : ∀ {H' : Hp} {σ : L2.St} {xs : List V} (j : Nat) {v : V}, σ[0]? = some (some (.ref a)) → H' a = some (.lst xs) → xs[j]? = some v → Ev (tOp (rIxL K) (tVar 0) (tC (.int (j : Int)))) σ H' v := fun {_ _ _} j {_} hv hh hj => ev_op (ev_var hv) ev_c (rv_ixL (sq_of hh) (atI_nat hj))
    refine q_when (b := decide (0 < x)) (et_test (ev_op (ix 0 rfl ha rfl) ev_c rv_I0)) (fun hc H1 e1 => ?_) (fun hc H1 e1 => ?_)
    · have a1 := e1 a _ ha
      refine q_asg (ev_op (ix 0 rfl a1 rfl) (ev_var rfl) (rv_I hb0)) fun H2 e2 => ?_
      have a2 := e2 a _ a1
      refine q_setL (j := 0) a2 (ev_op (ix 0 rfl a2 rfl) (ev_var rfl) (rv_I ⟨hb0, by omega⟩)) (ev_var rfl) ev_c (show 0 < 3 by decide) fun H3 e3 => ?_
      refine s_ret (ev_var rfl) fun H4 e4 => q _ H4 (Int.emod_nonneg _ (by omega)) (Int.emod_lt_of_pos _ hb0) ?_ ⟨_, y, z, e4 a _ upd_same, Int.ediv_nonneg hx (by omega), hy, hy2, hz, by omega⟩
      exact (Ex.mut (hidE ((e1.trans e2).trans e3) a) hid_self).trans e4
    · have a1 := e1 a _ ha
      refine q_setL (j := 2) a1 (ev_op (ix 2 rfl a1 rfl) ev_c rv_I0) (ev_var rfl) ev_c (show 2 < 3 by decide) fun H2 e2 => ?_
      have a2 : (upd H2 a (.lst [.int x, .int y, .int (z + 1)])) a = _ := upd_same
      have ex2 := Ex.mut (hidE (e1.trans e2) a) (p := a) (o := .lst [.int x, .int y, .int (z + 1)]) hid_self
      show _
      refine q_asg (ev_op (ev_op (ev_op (ix 1 rfl a2 rfl) (ev_op ev_c (ix 2 rfl a2 rfl) (rv_I (.inl ⟨by decide, by decide⟩))) rv_I0) ev_c (rv_I (mix_fit hy hy2 (by omega) (by omega)))) (ev_op (ev_op ev_c ev_c (rv_I ⟨by decide, by decide, by decide⟩)) ev_c rv_I0) (rv_I (show (0 : Int) < 10 ^ (38 : Int).toNat + 133 by decide))) fun H3 e3 => ?_
      have a3 := e3 a _ a2
      have m0 : 0 ≤ (y + 86028121 * (z + 1)) ^ (3 : Int).toNat % (10 ^ (38 : Int).toNat + 133) := Int.emod_nonneg _ (by decide)
      have m1 : (y + 86028121 * (z + 1)) ^ (3 : Int).toNat % (10 ^ (38 : Int).toNat + 133) < 10 ^ (38 : Int).toNat + 133 := Int.emod_lt_of_pos _ (by decide)
      generalize (y + 86028121 * (z + 1)) ^ (3 : Int).toNat % (10 ^ (38 : Int).toNat + 133) = m at m0 m1 ⊢
      refine q_asg (ev_op (ev_op (ev_op (ev_var rfl) (ev_op ev_c (ix 2 rfl a3 rfl) (rv_I (.inl ⟨by decide, by decide⟩))) rv_I0) ev_c (rv_I (mix_fit2 m0 m1 (by omega) (by omega)))) (ev_op (ev_op ev_c ev_c (rv_I ⟨by decide, by decide, by decide⟩)) ev_c rv_I0) (rv_I (show (0 : Int) < 10 ^ (37 : Int).toNat + 43 by decide))) fun H4 e4 => ?_
      refine s_ret (ev_op (ev_op (ev_var rfl) ev_c (rv_I ⟨by decide, by decide⟩)) (ev_var rfl) (rv_I hb0)) fun H5 e5 => q _ H5 (Int.emod_nonneg _ (by omega)) (Int.emod_lt_of_pos _ hb0) ?_ ?_
      · exact ((ex2.trans e3).trans e4).trans e5
      · exact ⟨x, y, z + 1, e5 a _ (e4 a _ a3), hx, hy, hy2, by omega, by omega⟩
end
end KB

set_option Elab.async false
set_option linter.all false
set_option maxRecDepth 100000
set_option maxHeartbeats 4000000
/-! KL2: the law's pages. -/
namespace KB
open PySem L2 Evl

/-! ### names -/
def nameAt (k : Nat) : Str := ⟨#[97 + k / 26, 97 + k % 26]⟩
def styled (s k : Nat) : Str := match s with
  | 0 => nameAt k ++ "zy"
  | 1 => nameAt k
  | 2 => nameAt k ++ "q"
  | _ => "zy" ++ nameAt k
def specials : List Str := ["a", "b", "aa", "ab", "aaaa", "aaab", "zzzz", "hit", "miss", "z"]
def plainNames (s n : Nat) : List Str := (List.range n).map (styled s)
def allNames (s : Nat) : List Str := if s = 2 then specials ++ plainNames 2 160 else plainNames s 160
def drawnNames (s n : Nat) : List Str := if s = 2 then (specials ++ plainNames 2 n).take n else plainNames s n
theorem plain_take (s : Nat) {n : Nat} (h : n ≤ 160) : (plainNames s 160).take n = plainNames s n := by
  unfold plainNames
  rw [← List.map_take, List.take_range, Nat.min_eq_left h]
theorem drawn_take {s n : Nat} (h : n ≤ 160) : drawnNames s n = (allNames s).take n := by
  unfold drawnNames allNames
  by_cases e : s = 2
  · subst e
    rw [if_pos rfl, if_pos rfl, List.take_append, List.take_append]
    congr 1
    rw [plain_take 2 (show n - specials.length ≤ 160 by omega)]
    have := plain_take 2 h
    unfold plainNames
    rw [← List.map_take, List.take_range]
    congr 1
    congr 1
    omega
  · rw [if_neg e, if_neg e, plain_take s h]
def styledL (s k : Nat) : List Nat := match s with
  | 0 => [97 + k / 26, 97 + k % 26, 122, 121]
  | 1 => [97 + k / 26, 97 + k % 26]
  | 2 => [97 + k / 26, 97 + k % 26, 113]
  | _ => [122, 121, 97 + k / 26, 97 + k % 26]
theorem styled_cps : ∀ s k, (styled s k).cps.toList = styledL s k
  | 0, _ => rfl
  | 1, _ => rfl
  | 2, _ => rfl
  | _ + 3, _ => rfl
theorem styledL_inj : ∀ s a b, styledL s a = styledL s b → a = b
  | 0, a, b, h => by
    simp only [styledL, List.cons.injEq] at h
    omega
  | 1, a, b, h => by
    simp only [styledL, List.cons.injEq] at h
    omega
  | 2, a, b, h => by
    simp only [styledL, List.cons.injEq] at h
    omega
  | _ + 3, a, b, h => by
    simp only [styledL, List.cons.injEq] at h
    omega
theorem styled_inj {s a b : Nat} (h : styled s a = styled s b) : a = b := styledL_inj s a b (by rw [← styled_cps, ← styled_cps, h])
theorem plain_nodup (s n : Nat) : (plainNames s n).Nodup := List.Pairwise.map _ (fun a b hab e => hab (styled_inj e)) List.nodup_range
theorem lets_at : ∀ j, j < 26 → LETS[j]? = some (97 + j) := by decide
theorem lets_mem {j : Nat} (h : j < 26) : 97 + j ∈ LETS := List.mem_of_getElem? (lets_at j h)
theorem styled_page : ∀ (s k : Nat), k < 676 → pageB (styled s k) = true := by
  intro s k hk
  have m1 : 97 + k / 26 ∈ LETS := lets_mem (by omega)
  have m2 : 97 + k % 26 ∈ LETS := lets_mem (by omega)
  have m3 : 122 ∈ LETS := by decide
  have m4 : 121 ∈ LETS := by decide
  have m5 : 113 ∈ LETS := by decide
  have hl : (styled s k).length = (styledL s k).length := by
    rw [← styled_cps, Array.length_toList]
    rfl
  unfold pageB
  rw [hl, styled_cps]
  match s with
  | 0 => simp [styledL, m1, m2, m3, m4, m5]
  | 1 => simp [styledL, m1, m2, m3, m4, m5]
  | 2 => simp [styledL, m1, m2, m3, m4, m5]
  | _ + 3 => simp [styledL, m1, m2, m3, m4, m5]
theorem specials_good : (∀ p ∈ specials, pageB p = true ∧ p.cps.toList.getLast? ≠ some 113) ∧ specials.Nodup := by decide +kernel
theorem all_good (s : Nat) : (∀ p ∈ allNames s, pageB p = true) ∧ (allNames s).Nodup := by
  have plain : ∀ p ∈ plainNames s 160, pageB p = true := fun p hp => by
    obtain ⟨k, hk, rfl⟩ := List.mem_map.mp hp
    have := List.mem_range.mp hk
    exact styled_page s k (by omega)
  unfold allNames
  by_cases e : s = 2
  · subst e
    rw [if_pos rfl]
    refine ⟨fun p hp => ?_, List.nodup_append.mpr ⟨specials_good.2, plain_nodup 2 160, fun a ha b hb z => ?_⟩⟩
    · rcases List.mem_append.mp hp with h | h
      · exact (specials_good.1 p h).1
      · exact plain p h
    · obtain ⟨k, hk, rfl⟩ := List.mem_map.mp hb
      refine (specials_good.1 a ha).2 ?_
      rw [z, styled_cps]
      rfl
  · rw [if_neg e]
    exact ⟨plain, plain_nodup s 160⟩
theorem all_len (s : Nat) : 160 ≤ (allNames s).length := by
  unfold allNames plainNames
  split <;> simp [specials]
theorem drawn_good {s n : Nat} (hn : n ≤ 160) : Pages (drawnNames s n) ∧ (drawnNames s n).length = n := by
  rw [drawn_take hn]
  obtain ⟨h1, h2⟩ := all_good s
  have hl := all_len s
  refine ⟨⟨fun p hp => h1 p (List.mem_of_mem_take hp), h2.sublist (List.take_sublist _ _), ?_⟩, ?_⟩
  · rw [List.length_take]
    omega
  · rw [List.length_take]
    omega
theorem Pages.perm {ps qs : List Str} (h : Pages ps) (p : qs.Perm ps) : Pages qs := ⟨fun x hx => h.all x (p.mem_iff.mp hx), p.nodup_iff.mpr h.nd, by rw [p.length_eq]; exact h.len⟩
end KB

set_option Elab.async false
set_option linter.all false
set_option maxRecDepth 100000
set_option maxHeartbeats 4000000
/-! KL3: the law's pages, walked. -/
namespace KB
open PySem L2 Evl
section
variable {K : PySem.W.Frag} {σ : L2.St} {H H' : Hp} {ta tb tc te tx : TE} {x y z v : V} {D : Ends}
theorem ev_catS {a b : Str} (ha : Ev ta σ H (.str a)) (hb : Ev tb σ H (.str b)) (hl : a.length + b.length ≤ 1000) :
    Ev (tOp (fun x y H Q => ∃ i j, x = .str i ∧ y = .str j ∧ i.length + j.length ≤ sizeLine ∧ Q (.str (i ++ j)) H) ta tb) σ H (.str (a ++ b)) := ev_op ha hb fun H1 _ Q q => ⟨a, b, rfl, rfl, Nat.le_trans hl (by decide), q H1 (Ex.refl H1)⟩
/-- a draw, wherever it stands -/
theorem w_draw {i : Nat} {a : Addr} {b B : Int} {Q : VK} (hs : σ[i]? = some (some (.ref a))) (hb : Ev tb σ H (.int b)) (h1 : 0 < b) (h2 : b ≤ 100000) (S : SrcAt H a B) (hB : B ≤ 1000000) (k : ∀ d H', 0 ≤ d → d < b → Ex (hid H a) H' → SrcAt H' a (B + 1) → Q (.int d) H') :
    tCall spDraw [] E0 (tCons (tVar i) (tCons tb tNil)) σ H Q :=
  ⟨.ref a, hs, hb H (Ex.refl H) _ fun H1 e1 => ⟨a, b, B, rfl, h1, h2, S.mono e1, hB, fun d H2 d0 d1 e2 S2 => k d H2 d0 d1 (ex_hid2 (hidE e1 a) e2) S2⟩⟩
/-- a comprehension over range(n) whose element may change what is told -/
theorem w_lcR {ta : TA} {j n : Nat} {vs : List Nat} {Q : VK} (h : EvA ta σ H [.int (n : Int)]) (hn : n ≤ 40000) (Pv : Addr → Nat → Hp → Prop) (h0 : ∀ Dl H1, H1 Dl = none → Ex H H1 → Pv Dl 0 (upd H1 Dl (.lst [])))
    (hw : ∀ x, wipe ((wipe σ vs).set j (some x)) vs = wipe σ vs)
    (hs : ∀ Dl i H1, i < n → Pv Dl i H1 → te ((wipe σ vs).set j (some (.int (i : Int)))) H1 fun y H4 => ∃ acc, H4 Dl = some (.lst acc) ∧ acc.length < sizeLine ∧ Pv Dl (i + 1) (upd H4 Dl (.lst (acc ++ [y]))))
    (hd : ∀ Dl H1, Pv Dl n H1 → Q (.ref Dl) H1) : tLc (iRng1 ta) (gName j) tYes te vs σ H Q :=
  h H (Ex.refl H) _ fun H1 e1 => ⟨(n : Int), rfl, by omega, by omega, fun Dl hD => lc_range (lo := 0) (n := n) (Pv Dl) (h0 Dl H1 hD e1) (fun i H' hi p => by
    have e0 : (0 : Int) + (i : Int) = (i : Int) := Int.zero_add _
    show wipe ((wipe σ vs).set j (some (.int ((0 : Int) + (i : Int))))) vs = wipe σ vs ∧ (if true = true then te ((wipe σ vs).set j (some (.int ((0 : Int) + (i : Int))))) H' fun y H4 => ∃ acc, H4 Dl = some (.lst acc) ∧ acc.length < sizeLine ∧ Pv Dl (i + 1) (upd H4 Dl (.lst (acc ++ [y]))) else Pv Dl (i + 1) H')
    rw [e0, if_pos rfl]
    exact ⟨hw _, hs Dl i H' hi p⟩) (fun H' p => hd Dl H' p)⟩
/-- a for over range(n), in the midst of a block -/
theorem q_forN {ta : TA} {tu tz : TS} {j n : Nat} (h : EvA ta σ H [.int (n : Int)]) (hn : n ≤ 100000) (Pv : Nat → L2.St → Hp → Prop) (h0 : ∀ H1, Ex H H1 → Pv 0 σ H1)
    (hs : ∀ (i : Nat) σ' H', i < n → Pv i σ' H' → tu { D with nx := Pv (i + 1), ct := Pv (i + 1), bk := tz D } (σ'.set j (some (.int (i : Int)))) H') (hd : ∀ σ' H', Pv n σ' H' → tz D σ' H') : tSeq (tFor (iRng1 ta) (gName j) tu) tz D σ H :=
  q_forR1 (n := (n : Int)) h (by omega) Pv h0 (fun i σ' H' hi p => hs i σ' H' (by omega) p) fun σ' H' p => hd σ' H' p
end
section
variable {P : Program} {w : World} {K : PySem.W.Frag} {mg : Str → Option Value} {base : Heap}
theorem scPages : FnScope ["source", "count", "letters", "style", "names", "k", "name"] ["source", "count"] (defScope sPages) := ⟨rfl, rfl, rfl, by decide +kernel, rfl, by decide +kernel, by decide +kernel⟩
def spPages : Sp := fun vs H Q _ => ∃ (a : Addr) (n : Nat) (B : Int), vs = [.ref a, .int (n : Int)] ∧ 1 ≤ n ∧ n ≤ 160 ∧ SrcAt H a B ∧ B ≤ 900000 ∧
  ∀ p ps H2, H p = none → Ex (hid H a) H2 → SrcAt H2 a (B + 161) → Pages ps → ps.length = n → H2 p = some (.lst (ps.map V.str)) → Q (.ref p) H2
abbrev ALPHA : Str := "abcdefghijklmnopqrstuvwxyz"
theorem alpha_at {H : Hp} {σ : L2.St} {ta tb : TE} {j : Nat} (ha : Ev ta σ H (.str ALPHA)) (hb : Ev tb σ H (.int (j : Int))) (hj : j < 26) : Ev (tOp rIxS ta tb) σ H (.str ⟨#[97 + j]⟩) :=
  ev_op ha hb (rv_ixS (by decide) (atI_nat (lets_at j hj)))
theorem styled_ix (k : Nat) {d : Int} (h0 : 0 ≤ d) (h1 : d < 4) : atI [V.str (nameAt k ++ "zy"), V.str (nameAt k), V.str (nameAt k ++ "q"), V.str ("zy" ++ nameAt k)] d = some (V.str (styled d.toNat k)) := by
  have : d = 0 ∨ d = 1 ∨ d = 2 ∨ d = 3 := by omega
  rcases this with rfl | rfl | rfl | rfl <;> rfl
theorem take_cut (xs : List V) (n : Nat) : cutV xs none (some (n : Int)) = xs.take n := by
  unfold cutV
  rw [HT.sIx_none, HT.sIx_nat, List.drop_zero, Nat.sub_zero]
  by_cases h : n ≤ xs.length
  · rw [Nat.min_eq_left h]
  · rw [Nat.min_eq_right (by omega), List.take_length, List.take_of_length_le (by omega)]
theorem seq_nat {g : Int} {n : Nat} (h0 : 0 ≤ g) (h : g < n) : seqIndex? g n = some g.toNat := by
  unfold seqIndex?
  simp only [show ¬ g < 0 by omega, if_false]
  rw [if_pos]
  simp [h0, h]
theorem erase_map {α β : Type} (f : α → β) : ∀ (l : List α) (k : Nat), (l.map f).eraseIdx k = (l.eraseIdx k).map f
  | [], k => by simp
  | a :: l, 0 => rfl
  | a :: l, k + 1 => by
    have ih := erase_map f l k
    simp [ih]
theorem erase_len {α : Type} : ∀ (l : List α) (k : Nat), k < l.length → (l.eraseIdx k).length + 1 = l.length
  | [], k, h => absurd h (Nat.not_lt_zero _)
  | a :: l, 0, _ => rfl
  | a :: l, k + 1, h => by
    have ih := erase_len l k (by simpa using h)
    simp [ih]
theorem perm_pop {α : Type} : ∀ (l : List α) (k : Nat) (x : α), l[k]? = some x → l.Perm (x :: l.eraseIdx k)
  | [], k, x, h => by simp at h
  | a :: l, 0, x, h => by
    have e : a = x := by simpa using h
    subst e
    exact List.Perm.refl _
  | a :: l, k + 1, x, h => by
    have ih := perm_pop l k x (by simpa using h)
    exact (ih.cons a).trans (List.Perm.swap x a _)
theorem ok_pages {f : Addr} {fd : FuncData} (F : Fun K "_law_pages" "_law_pages" sPages f fd) (B0 : Bn mg) (cD : Cl P w K mg base 1 "_law_draw" ["source", "bound"] spDraw) : FnOk P w K mg base CX0 2 f fd ["source", "count"] spPages := by
  refine F.ok scPages (fun vs H Q E h => ?_) (fun cdv A outer s H vs Q E hr h => ?_)
  · obtain ⟨a, n, B, rfl, _⟩ := h
    rfl
  · obtain ⟨a, n, B, rfl, hn1, hn2, hS, hB, q⟩ := h
    refine ⟨_, pss_cons (ps_set (i := 2) scPages.nd rfl (Or.inl rfl) pe_str)
      (pss_cons (ps_asg (pe_tup (pa_cons (pe_cl cD hr (pa_cons (pv 0) (pa_cons pe_int pa_nil))) (pa_cons (pe_lst pa_nil) pa_nil))) (pg_tup rfl (pgs_cons (pg_name (i := 3) scPages.nd rfl (Or.inl rfl)) (pgs_cons (pg_name (i := 4) scPages.nd rfl (Or.inr rfl)) pgs_nil))))
      (pss_cons (ps_for PassesOwn.never rfl (pi_range1 (by rfl) B0.range (pa_cons (pv 1) pa_nil)) (pg_name (i := 5) scPages.nd rfl (Or.inl rfl))
        (pss_cons (ps_set (i := 6) scPages.nd rfl (Or.inl rfl) (pe_op op_add_str (pe_ix ix_str (pv 2) (pe_op op_fdiv (pv 5) pe_int) (fun _ _ => rfl)) (pe_ix ix_str (pv 2) (pe_op op_mod (pv 5) pe_int) (fun _ _ => rfl))))
        (pss_one (ps_expr (pe_bm PySem.F.plainAttrs_list PySem.F.slot_list_append PySem.F.type_list_append mt_append (pv 4) (pa_cons (pe_ix ix_list (pe_lst (pa_cons (pe_op op_add_str (pv 6) pe_str) (pa_cons (pv 6) (pa_cons (pe_op op_add_str (pv 6) pe_str) (pa_cons (pe_op op_add_str pe_str (pv 6)) pa_nil))))) (pv 3) (fun _ _ => rfl)) pa_nil))))))
      (pss_cut (ps_if (pt_cmpR op_eq (pv 3) pe_int (nomark _)) (pss_one (ps_set (i := 4) scPages.nd rfl (Or.inr rfl) (pe_slice sl_list (pe_op op_cat (pe_lst (pa_cons pe_str (pa_cons pe_str (pa_cons pe_str (pa_cons pe_str (pa_cons pe_str (pa_cons pe_str (pa_cons pe_str (pa_cons pe_str (pa_cons pe_str (pa_cons pe_str pa_nil))))))))))) (pv 4)) po_none (po_some (pv 1))))) pss_nil)
      (pss_one (ps_ret (pe_lc (own := [("k", 5)]) (g := gName 5) (tt := tYes) (te := tBM K "list" rPopAt (tVar 4) (tCons (tCall spDraw [] E0 (tCons (tVar 0) (tCons (tCB (rLenS K) (tCons (tVar 4) tNil)) tNil))) tNil)) rfl scPages.nd (pi_range1 (by rfl) B0.range (pa_cons (pv 1) pa_nil)) (blkOk_by (N := ["source", "count", "letters", "style", "names", "k", "name"]) (sc := defScope sPages) (by decide +kernel))
        (fun _ _ _ _ _ => pg_name (i := 5) scPages.nd rfl (Or.inl rfl)) (fun _ _ _ _ _ => pts_nil)
        (fun _ _ _ _ _ => pe_bm PySem.F.plainAttrs_list PySem.F.slot_list_pop PySem.F.type_list_pop mt_popAt (pv 4) (pa_cons (pe_cl cD hr (pa_cons (pv 0) (pa_cons (pe_callB call_len_seq (by rfl) B0.len bt_len (pa_cons (pv 4) pa_nil)) pa_nil))) pa_nil)))))))), ?_⟩
    refine q_asg ev_c fun H1 e1 => ?_
    -- style, names
    show tCall spDraw [] E0 (tCons (tVar 0) (tCons (tC (.int 4)) tNil)) _ H1 _
    refine w_draw rfl ev_c (by decide) (by decide) (hS.mono e1) (by omega) fun d H2 d0 d1 e2 S2 => ?_
    have k2 : Ex (hid H a) H2 := ex_hid2 (hidE e1 a) e2
    obtain ⟨xs2, a2⟩ := S2.is
    refine ⟨Nat.zero_le _, fun nm hnm => ⟨by show 2 ≤ sizeLine; decide, fun T hT => ?_⟩⟩
    have nmT : nm ≠ T := fun z => by rw [z, upd_same] at hT; cases hT
    have anm : a ≠ nm := fun z => by rw [z, hnm] at a2; cases a2
    have k3 : Ex H2 (upd (upd H2 nm (.lst [])) T (.tup [.int d, .ref nm])) := (Ex.new hnm).trans (Ex.new hT)
    have nm3 : (upd (upd H2 nm (.lst [])) T (.tup [.int d, .ref nm])) nm = some (.lst []) := by rw [upd_ne nmT, upd_same]
    refine ⟨T, _, rfl, .inl (.inl upd_same), rfl, .int d, [.ref nm], rfl, .ref nm, [], rfl, rfl, ?_⟩
    generalize upd (upd H2 nm (.lst [])) T (.tup [.int d, .ref nm]) = H3 at k3 nm3
    have fnm : H nm = none := fresh_hid k2 a2 hnm
    have k3' : Ex (hid H a) H3 := k2.trans k3
    -- the names, one by one
    refine q_forN (n := n) (ea_cons (ev_var rfl) ea_nil) (by omega) (fun i σ H' => ∃ y5 y6, σ = [some (.ref a), some (.int (n : Int)), some (.str ALPHA), some (.int d), some (.ref nm), y5, y6] ∧ Ex (hid H a) H' ∧ SrcAt H' a (B + 1) ∧ H' nm = some (.lst ((plainNames d.toNat i).map V.str)))
      (fun H4 e4 => ⟨none, none, rfl, k3'.trans e4, S2.mono (k3.trans e4), e4 nm _ nm3⟩) (fun i σ H' hi hP => ?_) (fun σ H' hP => ?_)
    · obtain ⟨y5, y6, rfl, e, S, hn⟩ := hP
      have ix : ∀ {H5 : Hp} {σ : L2.St}, σ[2]? = some (some (.str ALPHA)) → σ[5]? = some (some (.int (i : Int))) → Ev (tOp (fun x y H Q => ∃ i j, x = .str i ∧ y = .str j ∧ i.length + j.length ≤ sizeLine ∧ Q (.str (i ++ j)) H) (tOp rIxS (tVar 2) (tOp (rI CDiv fun i j => .int (i / j)) (tVar 5) (tC (.int 26)))) (tOp rIxS (tVar 2) (tOp (rI (fun _ j => 0 < j) fun i j => .int (i % j)) (tVar 5) (tC (.int 26))))) σ H5 (.str (nameAt i)) := fun hA h5 => by
        refine ev_is (ev_catS (alpha_at (j := i / 26) (ev_var hA) (ev_op (ev_var h5) ev_c (rv_I ⟨by decide, by decide⟩)) (by omega)) (alpha_at (j := i % 26) (ev_var hA) (ev_op (ev_var h5) ev_c (rv_I (by decide))) (by omega)) (show 1 + 1 ≤ 1000 by decide)) ?_
        rfl
      refine q_asg (ix rfl rfl) fun H5 e5 => ?_
      have two : (nameAt i).length = 2 := rfl
      have small : ((plainNames d.toNat i).map V.str).length < 100000 := by
        unfold plainNames
        rw [List.length_map, List.length_map, List.length_range]
        omega
      refine s_app (l := nm) (xs := (plainNames d.toNat i).map V.str) (v := .str (styled d.toNat i)) (e5 nm _ hn) (ev_var rfl) ?_ small fun H6 e6 => ?_
      · exact ev_opL1 (el_lst (ea_cons (ev_catS (ev_var rfl) ev_c (show 2 + 2 ≤ 1000 by decide)) (ea_cons (ev_var rfl) (ea_cons (ev_catS (ev_var rfl) ev_c (show 2 + 1 ≤ 1000 by decide)) (ea_cons (ev_catS ev_c (ev_var rfl) (show 2 + 2 ≤ 1000 by decide)) ea_nil)))) (show 4 ≤ 100000 by decide))
          (fun _ _ => ev_var rfl) (fun p H7 h7 _ => rv_ixL (sq_of h7) (styled_ix i d0 d1))
      · refine ⟨_, _, rfl, Ex.mut ((e.trans e5).trans e6) (hid_none fnm), ?_, ?_⟩
        · obtain ⟨x, y, z, ha, r⟩ := S.mono (e5.trans e6)
          exact ⟨x, y, z, by rw [upd_ne anm]; exact ha, r⟩
        · rw [upd_same]
          unfold plainNames
          rw [List.range_succ, List.map_append, List.map_append]
          rfl
    · obtain ⟨y5, y6, rfl, e, S, hn⟩ := hP
      -- if style == 2
      refine ⟨fun σ H' => ∃ nm2, σ = [some (.ref a), some (.int (n : Int)), some (.str ALPHA), some (.int d), some (.ref nm2), y5, y6] ∧ nm2 ≠ a ∧ H nm2 = none ∧ Ex (hid H a) H' ∧ SrcAt H' a (B + 1) ∧ H' nm2 = some (.lst ((drawnNames d.toNat n).map V.str)), ?_, fun σ' H'' hM => ?_⟩
      · refine s_when (b := decide (V.int d = V.int 2)) (et_test (ev_op (ev_var rfl) ev_c (rv_eq rfl))) (fun hb H5 e5 => ?_) (fun hb H5 e5 => ?_)
        · have hd : d = 2 := by
            have := of_decide_eq_true hb
            injection this
          subst hd
          refine s_asgL (xs := (specials.map V.str ++ (plainNames 2 n).map V.str).take n) ?_ fun p H6 hp e6 h6 => ?_
          · rw [← take_cut]
            intro H0 e0 Q' k0
            have n0 := e0 nm _ (e5 nm _ hn)
            refine ⟨by show 10 ≤ sizeLine; decide, fun p1 hp1 => ?_⟩
            have n1 := Ex.new (o := .lst (specials.map V.str)) hp1 nm _ n0
            have x1 : Ex H0 (upd H0 p1 (.lst (specials.map V.str))) := Ex.new hp1
            refine ⟨.ref nm, rfl, p1, nm, specials.map V.str, (plainNames (2 : Int).toNat n).map V.str, rfl, rfl, upd_same, n1, ?_, fun p2 hp2 => ⟨.int (n : Int), rfl, (n : Int), rfl, p2, _, rfl, sq_of upd_same, fun p3 hp3 => ?_⟩⟩
            · have : ((plainNames (2 : Int).toNat n).map V.str).length = n := by
                unfold plainNames
                rw [List.length_map, List.length_map, List.length_range]
              rw [this]
              refine Nat.le_trans ?_ (show 1000 ≤ sizeLine by decide)
              show 10 + n ≤ 1000
              omega
            · have x2 := Ex.new (o := .lst (specials.map V.str ++ (plainNames (2 : Int).toNat n).map V.str)) hp2
              have x3 := Ex.new (o := .lst (cutV (specials.map V.str ++ (plainNames (2 : Int).toNat n).map V.str) none (some (n : Int)))) hp3
              exact k0 p3 _ (fresh_back (x1.trans x2) hp3) ((x1.trans x2).trans x3) upd_same
          · obtain ⟨xs5, a5⟩ := (S.mono e5).is
            have fp : H p = none := fresh_hid (e.trans e5) a5 hp
            have pa : p ≠ a := fun z => by rw [z, a5] at hp; cases hp
            refine ⟨p, rfl, pa, fp, (e.trans e5).trans e6, S.mono (e5.trans e6), ?_⟩
            rw [h6]
            show _ = some (HO.lst ((drawnNames 2 n).map V.str))
            unfold drawnNames
            rw [if_pos rfl, List.map_take, List.map_append]
        · have hd : d.toNat ≠ 2 := by
            intro z
            have z2 : d = 2 := by omega
            rw [z2] at hb
            simp at hb
          refine ⟨nm, rfl, anm.symm, fnm, e.trans e5, S.mono e5, ?_⟩
          rw [e5 nm _ hn]
          unfold drawnNames
          rw [if_neg hd]
      · -- the names drawn out, one by one
        obtain ⟨nm2, rfl, an2, fn2, ee, SS, hn2'⟩ := hM
        obtain ⟨gp, gl⟩ := drawn_good (s := d.toNat) hn2
        obtain ⟨xs5, a5⟩ := SS.is
        generalize drawnNames d.toNat n = N0 at hn2' gp gl
        show tLc _ _ _ _ _ _ _ _
        refine w_lcR (n := n) (ea_cons (ev_var rfl) ea_nil) (by omega) (fun Dl i H' => Dl ≠ a ∧ Dl ≠ nm2 ∧ H Dl = none ∧ ∃ rest out : List Str, rest.length + i = n ∧ (out ++ rest).Perm N0 ∧ H' nm2 = some (.lst (rest.map V.str)) ∧ H' Dl = some (.lst (out.map V.str)) ∧ out.length = i ∧ Ex (hid H a) H' ∧ SrcAt H' a (B + 1 + i)) (fun Dl H1 hD e1 => ?_) (fun _ => rfl) (fun Dl i H1 hi hP => ?_) (fun Dl H1 hP => ?_)
        · obtain ⟨x, y, z, ha, r⟩ := SS.mono e1
          have n1 : Dl ≠ a := fun z => by rw [z, ha] at hD; cases hD
          have n2 : Dl ≠ nm2 := fun z => by rw [z, e1 nm2 _ hn2'] at hD; cases hD
          have n3 := fresh_hid (ee.trans e1) ha hD
          refine ⟨n1, n2, n3, N0, [], by rw [gl]; rfl, List.Perm.refl _, ?_, upd_same, rfl, Ex.mut (ee.trans e1) (hid_none n3), ⟨x, y, z, ?_, r.1, r.2.1, r.2.2.1, r.2.2.2.1, ?_⟩⟩
          · rw [upd_ne n2.symm]
            exact e1 nm2 _ hn2'
          · rw [upd_ne n1.symm]
            exact ha
          · have := r.2.2.2.2
            show z ≤ B + 1 + ((0 : Nat) : Int)
            omega
        · obtain ⟨n1, n2, n3, rest, out, hl, hp, hr1, ho, hol, e, S⟩ := hP
          have rl : 0 < rest.length := by omega
          refine ⟨.ref nm2, rfl, .inl ⟨rfl, _, sq_of hr1⟩, ?_⟩
          refine w_draw rfl (b := (rest.length : Int)) (ev_is (ev_len (ev_var rfl) (sq_of hr1)) (by rw [List.length_map])) (by omega) (by omega) S (by omega) fun g H2 g0 g1 e2 S2 => ?_
          have k2 : Ex (hid H a) H2 := ex_hid2 e e2
          have c1 : H2 nm2 = some (.lst (rest.map V.str)) := e2 nm2 _ (by rw [hid_ne an2]; exact hr1)
          have c2 : H2 Dl = some (.lst (out.map V.str)) := e2 Dl _ (by rw [hid_ne n1]; exact ho)
          have gi : g.toNat < rest.length := by omega
          have gat : rest[g.toNat]? = some rest[g.toNat] := List.getElem?_eq_getElem gi
          refine ⟨nm2, rest.map V.str, g, g.toNat, .str rest[g.toNat], rfl, rfl, c1, by omega, ?_, ?_, ?_, out.map V.str, ?_, ?_, n1, n2, n3, rest.eraseIdx g.toNat, out ++ [rest[g.toNat]], ?_, ?_, ?_, ?_, ?_, ?_, ?_⟩
          · omega
          · rw [List.length_map]
            exact seq_nat g0 g1
          · rw [List.getElem?_map, gat]
            rfl
          · rw [upd_ne n2]
            exact c2
          · rw [List.length_map, hol]
            exact Nat.lt_of_le_of_lt (show i ≤ 200 by omega) (by decide)
          · have := erase_len rest g.toNat gi
            omega
          · have pp := perm_pop rest g.toNat _ gat
            rw [List.append_assoc]
            exact (List.Perm.append_left out pp.symm).trans hp
          · rw [upd_ne n2.symm, upd_same, erase_map]
          · rw [upd_same, List.map_append]
            rfl
          · rw [List.length_append, hol]
            rfl
          · exact Ex.mut (Ex.mut k2 (hid_none fn2)) (hid_none n3)
          · obtain ⟨x, y, z, ha, r⟩ := S2
            refine ⟨x, y, z, ?_, r.1, r.2.1, r.2.2.1, r.2.2.2.1, ?_⟩
            · rw [upd_ne n1.symm, upd_ne an2.symm]
              exact ha
            · have := r.2.2.2.2
              omega
        · obtain ⟨n1, n2, n3, rest, out, hl, hp, hr1, ho, hol, e, S⟩ := hP
          have rl : rest = [] := List.length_eq_zero_iff.mp (by omega)
          subst rl
          rw [List.append_nil] at hp
          exact q Dl out H1 n3 e (S.le (by omega)) (gp.perm hp) hol ho
end
end KB

set_option Elab.async false
set_option linter.all false
set_option maxRecDepth 100000
set_option maxHeartbeats 4000000
/-! KD: data of texts and of ints; what a run of a shelf is. -/
namespace KB
open PySem L2 Evl

theorem dp_strs {K : PySem.W.Frag} {H : Hp} : ∀ xs : List Str, DpAll K H (xs.map V.str) (xs.map PyData.str)
  | [] => .nil
  | x :: xs => .cons (.str x) (dp_strs xs)
theorem dp_ints {K : PySem.W.Frag} {H : Hp} : ∀ xs : List Nat, DpAll K H (xs.map natV) (xs.map fun (n : Nat) => PyData.int (n : Int))
  | [] => .nil
  | x :: xs => .cons (.int (x : Int)) (dp_ints xs)
theorem lay_strs : ∀ {xs : List Str}, (∀ x ∈ xs, pageB x = true) → PyData.canLayAll0 (xs.map PyData.str) = true
  | [], _ => rfl
  | x :: xs, h => by
    have ih := lay_strs (xs := xs) fun y hy => h y (List.mem_cons_of_mem _ hy)
    have hx := h x List.mem_cons_self
    rw [List.map_cons, PyData.canLayAll0, ih, Bool.and_true]
    show PyData.strOk x = true
    unfold pageB at hx
    simp only [Bool.and_eq_true, decide_eq_true_eq, List.all_eq_true] at hx
    have small : ∀ c ∈ LETS, c < 1114112 := by decide
    unfold PyData.strOk
    rw [← Array.all_toList, List.all_eq_true]
    intro c hc
    exact decide_eq_true (small c (hx.2 c hc))
theorem lay_ints : ∀ xs : List Nat, PyData.canLayAll0 (xs.map fun (n : Nat) => PyData.int (n : Int)) = true
  | [] => rfl
  | x :: xs => by
    rw [List.map_cons, PyData.canLayAll0, lay_ints xs]
    rfl
theorem depth_strs : ∀ xs : List Str, PyData.depthAll (xs.map PyData.str) = 0
  | [] => rfl
  | x :: xs => by
    rw [List.map_cons, PyData.depthAll, depth_strs xs]
    rfl
theorem depth_ints : ∀ xs : List Nat, PyData.depthAll (xs.map fun (n : Nat) => PyData.int (n : Int)) = 0
  | [] => rfl
  | x :: xs => by
    rw [List.map_cons, PyData.depthAll, depth_ints xs]
    rfl
theorem shaped_strs {xs : List Str} (h : ∀ x ∈ xs, pageB x = true) : SeqAt.shaped (.list (xs.map PyData.str)) = true := by
  unfold SeqAt.shaped
  rw [show PyData.canLay0 (.list (xs.map PyData.str)) = PyData.canLayAll0 (xs.map PyData.str) from rfl, lay_strs h, show PyData.depth (.list (xs.map PyData.str)) = PyData.depthAll (xs.map PyData.str) + 1 from rfl, depth_strs]
  rfl
theorem shaped_ints (xs : List Nat) : SeqAt.shaped (.list (xs.map fun (n : Nat) => PyData.int (n : Int))) = true := by
  unfold SeqAt.shaped
  rw [show PyData.canLay0 (.list (xs.map fun (n : Nat) => PyData.int (n : Int))) = PyData.canLayAll0 (xs.map fun (n : Nat) => PyData.int (n : Int)) from rfl, lay_ints, show PyData.depth (.list (xs.map fun (n : Nat) => PyData.int (n : Int))) = PyData.depthAll (xs.map fun (n : Nat) => PyData.int (n : Int)) + 1 from rfl, depth_ints]
  rfl
theorem eqv_nil (xs : List Str) : PyData.eqv (.list (xs.map PyData.str)) (.list []) = xs.isEmpty := by
  cases xs <;> rfl
theorem in_strs (x : Str) : ∀ cs : List Str, inV (.str x) (cs.map V.str) = decide (x ∈ cs)
  | [] => rfl
  | c :: cs => by
    have ih := in_strs x cs
    unfold inV at ih ⊢
    rw [List.map_cons, List.any_cons, ih]
    show (c == x || decide (x ∈ cs)) = decide (x ∈ c :: cs)
    by_cases e : c = x
    · subst e
      simp
    · have e2 : ¬ x = c := fun z => e z.symm
      simp [e, e2, List.mem_cons]
theorem flat_all (cs : List Str) : (cs.map V.str).all flatV = true := by
  rw [List.all_map, List.all_eq_true]
  intro _ _
  rfl
theorem range_get (ps : List Str) (d : Str) : (List.range ps.length).map (fun i => ps.getD i d) = ps := by
  apply List.ext_getElem
  · simp
  · intro i h1 h2
    simp [List.getD_eq_getElem?_getD, List.getElem?_eq_getElem h2]
theorem given_filter (ps : List Str) (f : Str → Bool) (d : Str) : given ps.length (fun i => f (ps.getD i d)) (fun i => V.str (ps.getD i d)) = (ps.filter f).map V.str := by
  have h := range_get ps d
  unfold given
  rw [← h, List.filter_map, List.map_map]
  simp only [List.length_map, List.length_range]
  rw [h]
  rfl

/-! ### a run: the events, the evicted pages, the contents at all moments, the contents now -/
inductive RunTo (room : Nat) (c0 : List Str) : List Ev1 → List Str → List (List Str) → List Str → Prop where
  | nil : RunTo room c0 [] [] [c0] c0
  | hit {es gs css cs} {p : Str} (r : RunTo room c0 es gs css cs) (h : p ∈ cs) : RunTo room c0 (es ++ [(hitS, p)]) gs (css ++ [cs]) cs
  | add {es gs css cs} {p : Str} (r : RunTo room c0 es gs css cs) (h : p ∉ cs) (hp : pageB p = true) (hl : cs.length ≠ room) : RunTo room c0 (es ++ [(missS, p)]) gs (css ++ [cs ++ [p]]) (cs ++ [p])
  | evict {es gs css cs} {p g : Str} {j : Nat} (r : RunTo room c0 es gs css cs) (h : p ∉ cs) (hp : pageB p = true) (hl : cs.length = room) (hj : cs[j]? = some g) : RunTo room c0 (es ++ [(missS, p)]) (gs ++ [g]) (css ++ [cs.eraseIdx j ++ [p]]) (cs.eraseIdx j ++ [p])
section
variable {room : Nat} {c0 : List Str} {es : List Ev1} {gs : List Str} {css : List (List Str)} {cs : List Str}
theorem szAt_snoc {n : Nat} {e : Ev1} {t : Nat} (h : t ≤ es.length) : szAt room n (es ++ [e]) t = szAt room n es t := by
  unfold szAt
  rw [List.take_append_of_le_length h]
theorem szAt_end {n : Nat} {e : Ev1} : szAt room n (es ++ [e]) (es.length + 1) = min room (n + misses es + (if isMiss e = true then 1 else 0)) := by
  unfold szAt misses
  rw [List.take_of_length_le (by simp), List.countP_append]
  simp only [List.countP_cons, List.countP_nil]
  rw [Nat.add_assoc]
  simp
theorem szs_snoc {n : Nat} {e : Ev1} : szs room n (es ++ [e]) = szs room n es ++ [szAt room n (es ++ [e]) (es.length + 1)] := by
  unfold szs
  rw [List.length_append]
  show (List.range (es.length + 1 + 1)).map _ = _
  rw [List.range_succ, List.map_append]
  congr 1
  refine List.map_congr_left fun t ht => szAt_snoc ?_
  have := List.mem_range.mp ht
  omega
theorem late_snoc {n : Nat} {e : Ev1} : lates room n (es ++ [e]) = lates room n es ++ (if (isMiss e && decide (szAt room n es es.length = room)) = true then [es.length] else []) := by
  unfold lates
  rw [List.length_append]
  show (List.range (es.length + 1)).filter _ = _
  rw [List.range_succ, List.filter_append]
  congr 1
  · refine List.filter_congr fun t ht => ?_
    have ht' := List.mem_range.mp ht
    unfold lateB
    rw [List.getElem?_append_left ht', szAt_snoc (Nat.le_of_lt ht')]
  · have e1 : lateB room n (es ++ [e]) es.length = (isMiss e && decide (szAt room n es es.length = room)) := by
      unfold lateB
      rw [List.getElem?_append_right (Nat.le_refl _), Nat.sub_self, szAt_snoc (Nat.le_refl _)]
      rfl
    rw [List.filter_cons, e1]
    split <;> rfl
theorem miss_isMiss (p : Str) : isMiss (missS, p) = true := by
  show decide (missS = missS) = true
  decide
theorem hit_isMiss (p : Str) : isMiss (hitS, p) = false := by
  show decide (hitS = missS) = false
  decide
/-- what the sizes of a run are -/
theorem RunTo.facts (h0 : c0.length ≤ room) (n0 : c0.Nodup) (p0 : ∀ p ∈ c0, pageB p = true) (r : RunTo room c0 es gs css cs) :
    cs.length = szAt room c0.length es es.length ∧ css.map List.length = szs room c0.length es ∧ gs.length = (lates room c0.length es).length ∧ cs.Nodup ∧ (∀ p ∈ cs, pageB p = true) ∧ (∀ e ∈ es, okE e) ∧ szAt room c0.length es es.length = min room (c0.length + misses es) := by
  have top : ∀ es : List Ev1, szAt room c0.length es es.length = min room (c0.length + misses es) := fun es => by
    unfold szAt
    rw [List.take_length]
  induction r with
  | nil =>
    have e0 : szAt room c0.length [] 0 = c0.length := by
      show min room (c0.length + 0) = c0.length
      omega
    refine ⟨e0.symm, ?_, rfl, n0, p0, (fun e he => nomatch he), top _⟩
    show [c0.length] = [szAt room c0.length [] 0]
    rw [e0]
  | @hit es gs css cs p r h ih =>
    obtain ⟨i1, i2, i3, i4, i5, i6, i7⟩ := ih
    have e1 : szAt room c0.length (es ++ [(hitS, p)]) (es.length + 1) = cs.length := by
      rw [szAt_end, hit_isMiss, i1, i7]
      rfl
    refine ⟨by rw [List.length_append]; exact e1.symm, ?_, ?_, i4, i5, fun e he => ?_, top _⟩
    · rw [List.map_append, i2, szs_snoc, e1]
      rfl
    · rw [late_snoc, hit_isMiss, i3]
      simp
    · rcases List.mem_append.mp he with q | q
      · exact i6 e q
      · rw [List.mem_singleton.mp q]
        exact ⟨.inl rfl, i5 p h⟩
  | @add es gs css cs p r h hp hl ih =>
    obtain ⟨i1, i2, i3, i4, i5, i6, i7⟩ := ih
    have e1 : szAt room c0.length (es ++ [(missS, p)]) (es.length + 1) = (cs ++ [p]).length := by
      rw [szAt_end, miss_isMiss, List.length_append, i1, i7]
      rw [i1, i7] at hl
      show _ = _ + 1
      simp only [if_true]
      omega
    refine ⟨by rw [show (es ++ [(missS, p)]).length = es.length + 1 by simp]; exact e1.symm, ?_, ?_, ?_, fun q hq => ?_, fun e he => ?_, top _⟩
    · rw [List.map_append, i2, szs_snoc, e1]
      rfl
    · rw [late_snoc, i3]
      have : ¬ (isMiss (missS, p) && decide (szAt room c0.length es es.length = room)) = true := by
        rw [← i1]
        simp [hl]
      rw [if_neg this, List.append_nil]
    · exact List.nodup_append.mpr ⟨i4, by simp, fun a ha b hb z => h (by rw [← List.mem_singleton.mp hb, ← z]; exact ha)⟩
    · rcases List.mem_append.mp hq with q2 | q2
      · exact i5 q q2
      · rw [List.mem_singleton.mp q2]
        exact hp
    · rcases List.mem_append.mp he with q | q
      · exact i6 e q
      · rw [List.mem_singleton.mp q]
        exact ⟨.inr rfl, hp⟩
  | @evict es gs css cs p g j r h hp hl hj ih =>
    obtain ⟨i1, i2, i3, i4, i5, i6, i7⟩ := ih
    have jl : j < cs.length := (List.getElem?_eq_some_iff.mp hj).1
    have el := erase_len cs j jl
    have e1 : szAt room c0.length (es ++ [(missS, p)]) (es.length + 1) = (cs.eraseIdx j ++ [p]).length := by
      rw [szAt_end, miss_isMiss, List.length_append]
      rw [hl] at el
      rw [i1, i7] at hl
      show _ = _ + 1
      simp only [if_true]
      omega
    have sub : ∀ q ∈ cs.eraseIdx j, q ∈ cs := fun q hq => List.mem_of_mem_eraseIdx hq
    refine ⟨by rw [show (es ++ [(missS, p)]).length = es.length + 1 by simp]; exact e1.symm, ?_, ?_, ?_, fun q hq => ?_, fun e he => ?_, top _⟩
    · rw [List.map_append, i2, szs_snoc, e1]
      rfl
    · rw [late_snoc, List.length_append, i3]
      have : (isMiss (missS, p) && decide (szAt room c0.length es es.length = room)) = true := by
        rw [← i1]
        simp [hl, miss_isMiss]
      rw [if_pos this, List.length_append]
      rfl
    · exact List.nodup_append.mpr ⟨i4.sublist (List.eraseIdx_sublist _ _), by simp, fun a ha b hb z => h (by rw [← List.mem_singleton.mp hb, ← z]; exact sub a ha)⟩
    · rcases List.mem_append.mp hq with q2 | q2
      · exact i5 q (sub q q2)
      · rw [List.mem_singleton.mp q2]
        exact hp
    · rcases List.mem_append.mp he with q | q
      · exact i6 e q
      · rw [List.mem_singleton.mp q]
        exact ⟨.inr rfl, hp⟩
end
end KB

set_option Elab.async false
set_option linter.all false
set_option maxRecDepth 100000
set_option maxHeartbeats 4000000
/-! KR: the law's run of a shelf: its state. -/
namespace KB
open PySem L2 Evl
abbrev TupAt (H : Hp) (t : Addr) (e : Ev1) : Prop := H t = some (.tup [.str e.1, .str e.2])
abbrev LstAt (H : Hp) (q : Addr) (c : List Str) : Prop := H q = some (.lst (c.map V.str))
/-- what a run holds in memory; H: the memory at its entry -/
structure RS (H H' : Hp) (a : Addr) (B : Int) (cp hp gp cq : Addr) (ts qs : List Addr) (es : List Ev1) (gs : List Str) (css : List (List Str)) (cs : List Str) : Prop where
  ex : Ex (hid H a) H'
  src : SrcAt H' a B
  hcp : H' cp = some (.lst (cs.map V.str))
  hhp : H' hp = some (.lst (ts.map V.ref))
  hts : Paired (TupAt H') ts es
  hgp : H' gp = some (.lst (gs.map V.str))
  hcq : H' cq = some (.lst (qs.map V.ref))
  hqs : Paired (LstAt H') qs css
  f1 : H cp = none
  f2 : H hp = none
  f3 : H gp = none
  f4 : H cq = none
  d1 : cp ≠ hp
  d2 : cp ≠ gp
  d3 : cp ≠ cq
  d4 : hp ≠ gp
  d5 : hp ≠ cq
  d6 : gp ≠ cq
  a1 : a ≠ cp
  a2 : a ≠ hp
  a3 : a ≠ gp
  a4 : a ≠ cq
  dq : ∀ q ∈ qs, q ≠ cp ∧ q ≠ hp ∧ q ≠ gp ∧ q ≠ cq ∧ q ≠ a ∧ H q = none
theorem SrcAt.upd {H : Hp} {a l : Addr} {B : Int} {o : HO} (h : SrcAt H a B) (n : a ≠ l) : SrcAt (L2.upd H l o) a B := by
  obtain ⟨x, y, z, e, r⟩ := h
  exact ⟨x, y, z, by rw [upd_ne n]; exact e, r⟩
theorem Paired.impM {α β : Type} {R S : α → β → Prop} : ∀ {as : List α} {bs : List β}, Paired R as bs → (∀ a b, a ∈ as → R a b → S a b) → Paired S as bs
  | _, _, .nil, _ => .nil
  | _, _, .cons h t, k => .cons (k _ _ List.mem_cons_self h) (Paired.impM t fun a b ha => k a b (List.mem_cons_of_mem _ ha))
theorem tup_upd {H : Hp} {l : Addr} {xs : List V} {o : HO} {ts : List Addr} {es : List Ev1} (hl : H l = some (.lst xs)) (h : Paired (TupAt H) ts es) : Paired (TupAt (L2.upd H l o)) ts es :=
  Paired.imp h fun t e z => by
    show L2.upd H l o t = _
    rw [upd_ne (ne_of z hl (by intro q; cases q))]
    exact z
section
variable {H H' H1 : Hp} {a cp hp gp cq : Addr} {B : Int} {ts qs : List Addr} {es : List Ev1} {gs : List Str} {css : List (List Str)} {cs : List Str}
theorem RS.mono (s : RS H H' a B cp hp gp cq ts qs es gs css cs) (e : Ex H' H1) : RS H H1 a B cp hp gp cq ts qs es gs css cs :=
  { s with ex := s.ex.trans e, src := s.src.mono e, hcp := e _ _ s.hcp, hhp := e _ _ s.hhp, hts := Paired.imp s.hts fun _ _ z => e _ _ z, hgp := e _ _ s.hgp, hcq := e _ _ s.hcq, hqs := Paired.imp s.hqs fun _ _ z => e _ _ z }
theorem RS.draw {B' : Int} (s : RS H H' a B cp hp gp cq ts qs es gs css cs) (e : Ex (hid H' a) H1) (S : SrcAt H1 a B') : RS H H1 a B' cp hp gp cq ts qs es gs css cs := by
  have k : ∀ {b o}, b ≠ a → H' b = some o → H1 b = some o := fun n h => e _ _ (by rw [hid_ne n]; exact h)
  obtain ⟨xs, ha⟩ := s.src.is
  exact { s with ex := ex_hid2 s.ex e, src := S, hcp := k s.a1.symm s.hcp, hhp := k s.a2.symm s.hhp, hts := Paired.imp s.hts (fun t v z => k (ne_of z ha (fun q => by cases q)) z), hgp := k s.a3.symm s.hgp, hcq := k s.a4.symm s.hcq, hqs := Paired.impM s.hqs fun q c hq z => k (s.dq q hq).2.2.2.2.1 z }
theorem RS.le {B' : Int} (s : RS H H' a B cp hp gp cq ts qs es gs css cs) (h : B ≤ B') : RS H H' a B' cp hp gp cq ts qs es gs css cs := { s with src := s.src.le h }
/-- happened.append((mark, page)) -/
theorem RS.event {t : Addr} {e : Ev1} (s : RS H H' a B cp hp gp cq ts qs es gs css cs) (ht : H' t = some (.tup [.str e.1, .str e.2])) : RS H (L2.upd H' hp (.lst ((ts ++ [t]).map V.ref))) a B cp hp gp cq (ts ++ [t]) qs (es ++ [e]) gs css cs := by
  have nt : t ≠ hp := ne_of ht s.hhp (by intro q; cases q)
  exact { s with
    ex := Ex.mut s.ex (hid_none s.f2), src := s.src.upd s.a2, hcp := by rw [upd_ne s.d1]; exact s.hcp, hhp := upd_same
    hts := paired_snoc (by show L2.upd H' hp _ t = _; rw [upd_ne nt]; exact ht) (tup_upd s.hhp s.hts)
    hgp := by rw [upd_ne s.d4.symm]; exact s.hgp
    hcq := by rw [upd_ne s.d5.symm]; exact s.hcq
    hqs := Paired.impM s.hqs fun q c hq z => by show L2.upd H' hp _ q = _; rw [upd_ne (s.dq q hq).2.1]; exact z }
/-- gone.append(page) -/
theorem RS.left {g : Str} (s : RS H H' a B cp hp gp cq ts qs es gs css cs) : RS H (L2.upd H' gp (.lst ((gs ++ [g]).map V.str))) a B cp hp gp cq ts qs es (gs ++ [g]) css cs :=
  { s with
    ex := Ex.mut s.ex (hid_none s.f3), src := s.src.upd s.a3, hcp := by rw [upd_ne s.d2]; exact s.hcp, hgp := upd_same
    hts := tup_upd s.hgp s.hts
    hhp := by rw [upd_ne s.d4]; exact s.hhp
    hcq := by rw [upd_ne s.d6.symm]; exact s.hcq
    hqs := Paired.impM s.hqs fun q c hq z => by show L2.upd H' gp _ q = _; rw [upd_ne (s.dq q hq).2.2.1]; exact z }
/-- content.pop(j) -/
theorem RS.popped {j : Nat} (s : RS H H' a B cp hp gp cq ts qs es gs css cs) : RS H (L2.upd H' cp (.lst ((cs.map V.str).eraseIdx j))) a B cp hp gp cq ts qs es gs css (cs.eraseIdx j) :=
  { s with
    ex := Ex.mut s.ex (hid_none s.f1), src := s.src.upd s.a1, hcp := by rw [upd_same, erase_map]
    hts := tup_upd s.hcp s.hts
    hhp := by rw [upd_ne s.d1.symm]; exact s.hhp
    hgp := by rw [upd_ne s.d2.symm]; exact s.hgp
    hcq := by rw [upd_ne s.d3.symm]; exact s.hcq
    hqs := Paired.impM s.hqs fun q c hq z => by show L2.upd H' cp _ q = _; rw [upd_ne (s.dq q hq).1]; exact z }
/-- content = .. : another list -/
theorem RS.anew {c2 : Addr} {cs2 : List Str} (s : RS H H' a B cp hp gp cq ts qs es gs css cs) (e : Ex H' H1) (hn : H' c2 = none) (h2 : H1 c2 = some (.lst (cs2.map V.str))) : RS H H1 a B c2 hp gp cq ts qs es gs css cs2 := by
  have s' := s.mono e
  obtain ⟨xs, ha⟩ := s.src.is
  have nq : ∀ {b o}, H' b = some o → c2 ≠ b := fun h z => by rw [z, h] at hn; cases hn
  refine { s' with hcp := h2, f1 := fresh_hid s.ex ha hn, d1 := nq s.hhp, d2 := nq s.hgp, d3 := nq s.hcq, a1 := (nq ha).symm, dq := fun q hq => ⟨?_, (s.dq q hq).2⟩ }
  obtain ⟨i, hi⟩ := List.mem_iff_getElem?.mp hq
  obtain ⟨c, _, hc⟩ := paired_at' s.hqs hi
  exact (nq hc).symm
/-- contents.append(list(content)) -/
theorem RS.noted {q : Addr} (s : RS H H' a B cp hp gp cq ts qs es gs css cs) (e : Ex H' H1) (hn : H' q = none) (h2 : H1 q = some (.lst (cs.map V.str))) : RS H (L2.upd H1 cq (.lst ((qs ++ [q]).map V.ref))) a B cp hp gp cq ts (qs ++ [q]) es gs (css ++ [cs]) cs := by
  have s' := s.mono e
  obtain ⟨xs, ha⟩ := s.src.is
  have nq : ∀ {b o}, H' b = some o → q ≠ b := fun h z => by rw [z, h] at hn; cases hn
  exact { s' with
    ex := Ex.mut s'.ex (hid_none s.f4), src := s'.src.upd s.a4, hcp := by rw [upd_ne s.d3]; exact s'.hcp, hcq := upd_same
    hts := tup_upd s'.hcq s'.hts
    hhp := by rw [upd_ne s.d5]; exact s'.hhp
    hgp := by rw [upd_ne s.d6]; exact s'.hgp
    hqs := paired_snoc (by show L2.upd H1 cq _ q = _; rw [upd_ne (nq s.hcq)]; exact h2) (Paired.impM s'.hqs fun r c hr z => by show L2.upd H1 cq _ r = _; rw [upd_ne (s.dq r hr).2.2.2.1]; exact z)
    dq := fun r hr => by
      rcases List.mem_append.mp hr with z | z
      · exact s.dq r z
      · rw [List.mem_singleton.mp z]
        exact ⟨nq s.hcp, nq s.hhp, nq s.hgp, nq s.hcq, nq ha, fresh_hid s.ex ha hn⟩ }
end
/-- the test of a turn -/
theorem w_cond {K : PySem.W.Frag} {σ : L2.St} {H : Hp} {cs ab : List Str} {cp ap a : Addr} {B : Int} {busy : Int} {Q : Bool → Hp → Prop} (h5 : σ[5]? = some (some (.ref cp))) (h12 : σ[12]? = some (some (.ref ap))) (h0 : σ[0]? = some (some (.ref a))) (h9 : σ[9]? = some (some (.int busy)))
    (hc : H cp = some (.lst (cs.map V.str))) (ha : H ap = some (.lst (ab.map V.str))) (pc : ∀ x ∈ cs, pageB x = true) (pa : ∀ x ∈ ab, pageB x = true) (na : cs = [] → ab ≠ []) (S : SrcAt H a B) (hB : B ≤ 1000000)
    (k : ∀ b H', Ex (hid H a) H' → SrcAt H' a (B + 1) → (b = true → cs ≠ []) → (b = false → ab ≠ []) → Q b H') :
    tAnd (tTest (tOp (rNeD K) (tVar 5) (tLst tNil))) (tOr (tTest (tOp (rEqD K) (tVar 12) (tLst tNil))) (tTest (tOp (rI0 fun i j => .bl (decide (i < j))) (tCall spDraw [] E0 (tCons (tVar 0) (tCons (tC (.int 6)) tNil))) (tVar 9)))) σ H Q := by
  have t1 : EvT (tTest (tOp (rNeD K) (tVar 5) (tLst tNil))) σ H (!cs.isEmpty) := et_test (ev_opL (ev_var h5) (el_lst ea_nil (Nat.zero_le _)) fun p H1 hp e1 H2 e2 Q' k' => ⟨.list (cs.map PyData.str), .list [], .lst (sq_of (e2 _ _ (e1 _ _ hc))) (dp_strs cs), .lst (sq_of (e2 _ _ hp)) .nil, shaped_strs pc, by decide, by
    rw [eqv_nil]
    exact k' H2 (Ex.refl H2)⟩)
  have t2 : EvT (tTest (tOp (rEqD K) (tVar 12) (tLst tNil))) σ H ab.isEmpty := et_test (ev_opL (ev_var h12) (el_lst ea_nil (Nat.zero_le _)) fun p H1 hp e1 H2 e2 Q' k' => ⟨.list (ab.map PyData.str), .list [], .lst (sq_of (e2 _ _ (e1 _ _ ha))) (dp_strs ab), .lst (sq_of (e2 _ _ hp)) .nil, shaped_strs pa, by decide, by
    rw [eqv_nil]
    exact k' H2 (Ex.refl H2)⟩)
  refine t1 H (Ex.refl H) _ fun H1 e1 => ?_
  have S1 := S.mono e1
  cases hcs : cs with
  | nil =>
    show Q false H1
    exact k false H1 (hidE e1 a) (S1.le (by omega)) (fun z => nomatch z) fun _ => na hcs
  | cons c r =>
    refine t2 H1 e1 _ fun H2 e2 => ?_
    cases hab : ab with
    | nil =>
      show Q true H2
      exact k true H2 (hidE (e1.trans e2) a) ((S1.mono e2).le (by omega)) (fun _ => by rw [hcs]; exact List.cons_ne_nil _ _) fun z => nomatch z
    | cons x y =>
      show tTest (tOp _ (tCall spDraw [] E0 (tCons (tVar 0) (tCons (tC (.int 6)) tNil))) (tVar 9)) σ H2 Q
      refine w_draw h0 ev_c (by decide) (by decide) (S1.mono e2) hB fun d H3 d0 d1 e3 S3 => ⟨.int busy, h9, d, busy, rfl, rfl, _, rfl, ?_⟩
      refine k _ H3 (ex_hid2 (hidE (e1.trans e2) a) e3) S3 (fun _ => by rw [hcs]; exact List.cons_ne_nil _ _) fun _ => by rw [hab]; exact List.cons_ne_nil _ _
end KB

set_option Elab.async false
set_option linter.all false
set_option maxRecDepth 100000
set_option maxHeartbeats 8000000
/-! KR2: the law's run of a shelf, walked. -/
namespace KB
open PySem L2 Evl
section
variable {K : PySem.W.Frag} {σ : L2.St} {H : Hp} {te ta : TE} {D : Ends}
/-- list(e) of a list or tuple -/
theorem el_listT {p : Addr} {xs : List V} (ha : Ev ta σ H (.ref p)) (h : SqT K H p xs) : EvL (tCB (rListS K) (tCons ta tNil)) σ H xs := fun H1 e Q q =>
  ha H1 e _ fun H2 e2 => ⟨p, xs, rfl, Or.inr (ex_t (e.trans e2) h), fun l hl => q l _ (fresh_back e2 hl) (e2.trans (Ex.new hl)) upd_same⟩
end
section
variable {P : Program} {w : World} {K : PySem.W.Frag} {mg : Str → Option Value} {base : Heap}
abbrev NRun : List Str := ["source", "room", "initial", "pages", "size", "content", "happened", "gone", "contents", "busy", "k", "page", "absent"]
theorem scRun : FnScope NRun ["source", "room", "initial", "pages", "size"] (defScope sRun) := ⟨rfl, rfl, rfl, by decide +kernel, rfl, by decide +kernel, by decide +kernel⟩
def spRun (K : PySem.W.Frag) : Sp := fun vs H Q _ => ∃ (a t pg : Addr) (room n : Nat) (c0 pages : List Str) (B : Int), vs = [.ref a, .int (room : Int), .ref t, .ref pg, .int (n : Int)] ∧ SrcAt H a B ∧ B ≤ 800000 ∧ 1 ≤ room ∧ room ≤ 1000 ∧
  SqT K H t (c0.map V.str) ∧ Pages c0 ∧ c0.length ≤ room ∧ SqL K H pg (pages.map V.str) ∧ pg ≠ a ∧ Pages pages ∧ pages ≠ [] ∧ n ≤ 200 ∧
  ∀ T cp hp gp cq ts qs es gs css cs H2, H T = none → H2 T = some (.tup [.ref hp, .ref gp, .ref cq]) → RS H H2 a (B + 700) cp hp gp cq ts qs es gs css cs → RunTo room c0 es gs css cs → es.length = n → Q (.ref T) H2
theorem ok_run {f : Addr} {fd : FuncData} (F : Fun K "_law_run" "_law_run" sRun f fd) (B0 : Bn mg) (cD : Cl P w K mg base 1 "_law_draw" ["source", "bound"] spDraw) : FnOk P w K mg base CX0 2 f fd ["source", "room", "initial", "pages", "size"] (spRun K) := by
  refine F.ok scRun (fun vs H Q E h => ?_) (fun cdv A outer s H vs Q E hr h => ?_)
  · obtain ⟨a, t, pg, room, n, c0, pages, B, rfl, _⟩ := h
    rfl
  · obtain ⟨a, t, pg, room, n, c0, pages, B, rfl, hS, hB, hr1, hr2, ht, pc0, hc0, hpg, npg, ppg, nepg, hn, q⟩ := h
    have nd := scRun.nd
    refine ⟨_, pss_cons (ps_asg (pe_tup (pa_cons (pe_callTy call_list_of (by rfl) B0.list bt_list (pa_cons (pv 2) pa_nil)) (pa_cons (pe_lst pa_nil) (pa_cons (pe_lst pa_nil) (pa_cons (pe_lst (pa_cons (pe_callTy call_list_of (by rfl) B0.list bt_list (pa_cons (pv 2) pa_nil)) pa_nil)) pa_nil)))))
        (pg_tup rfl (pgs_cons (pg_name (i := 5) nd rfl (Or.inr rfl)) (pgs_cons (pg_name (i := 6) nd rfl (Or.inl rfl)) (pgs_cons (pg_name (i := 7) nd rfl (Or.inl rfl)) (pgs_cons (pg_name (i := 8) nd rfl (Or.inl rfl)) pgs_nil))))))
      (pss_cons (ps_set (i := 9) nd rfl (Or.inl rfl) (pe_op op_add pe_int (pe_cl cD hr (pa_cons (pv 0) (pa_cons pe_int pa_nil)))))
      (pss_cons (ps_for PassesOwn.never rfl (pi_range1 (by rfl) B0.range (pa_cons (pv 4) pa_nil)) (pg_name (i := 10) nd rfl (Or.inl rfl))
        (pss_cons (ps_setLc (i := 12) (own := [("page", 11)]) (g := gName 11) (tt := tTest (tOp (rIn K true) (tVar 11) (tVar 5))) (te := tVar 11) (by rfl) nd rfl rfl (sw_true rfl rfl rfl (by decide +kernel)) (pi_list (pv 3)) (blkOk_by (N := NRun) (sc := defScope sRun) (by decide +kernel))
            (fun _ _ _ _ _ => pg_name (i := 11) nd rfl (Or.inl rfl)) (fun _ _ _ _ _ => pts_one (pt_cmpR (r := rIn K true) op_notIn_seq (pv 11) (pv 5) (by with_unfolding_all rfl))) (fun _ _ _ _ _ => pv 11))
        (pss_cut (ps_if (PW.pt (pw_and (pt_cmpR (op_neD hr.units) (pv 5) (pe_lst pa_nil) (nomark _)) (pw_and1 (PW.pt (pw_or (pt_cmpR (op_eqD hr.units) (pv 12) (pe_lst pa_nil) (nomark _)) (pw_or1 (pt_cmpR op_lt (pe_cl cD hr (pa_cons (pv 0) (pa_cons pe_int pa_nil))) (pv 9) (nomark _))))))))
          (pss_one (ps_expr (pe_bm PySem.F.plainAttrs_list PySem.F.slot_list_append PySem.F.type_list_append mt_append (pv 6) (pa_cons (pe_tup (pa_cons pe_str (pa_cons (pe_ix ix_list (pv 5) (pe_cl cD hr (pa_cons (pv 0) (pa_cons (pe_callB call_len_seq (by rfl) B0.len bt_len (pa_cons (pv 5) pa_nil)) pa_nil))) (fun _ _ => rfl)) pa_nil))) pa_nil))))
          (pss_cons (ps_set (i := 11) nd rfl (Or.inl rfl) (pe_ix ix_list (pv 12) (pe_cl cD hr (pa_cons (pv 0) (pa_cons (pe_callB call_len_seq (by rfl) B0.len bt_len (pa_cons (pv 12) pa_nil)) pa_nil))) (fun _ _ => rfl)))
          (pss_cons (ps_expr (pe_bm PySem.F.plainAttrs_list PySem.F.slot_list_append PySem.F.type_list_append mt_append (pv 6) (pa_cons (pe_tup (pa_cons pe_str (pa_cons (pv 11) pa_nil))) pa_nil)))
          (pss_cut (ps_if (pt_cmpR op_eq (pe_callB call_len_seq (by rfl) B0.len bt_len (pa_cons (pv 5) pa_nil)) (pv 1) (nomark _))
            (pss_one (ps_expr (pe_bm PySem.F.plainAttrs_list PySem.F.slot_list_append PySem.F.type_list_append mt_append (pv 7) (pa_cons (pe_bm PySem.F.plainAttrs_list PySem.F.slot_list_pop PySem.F.type_list_pop mt_popAt (pv 5) (pa_cons (pe_cl cD hr (pa_cons (pv 0) (pa_cons (pv 1) pa_nil))) pa_nil)) pa_nil)))) pss_nil)
          (pss_one (ps_set (i := 5) nd rfl (Or.inr rfl) (pe_op op_cat (pv 5) (pe_lst (pa_cons (pv 11) pa_nil)))))))))
        (pss_one (ps_expr (pe_bm PySem.F.plainAttrs_list PySem.F.slot_list_append PySem.F.type_list_append mt_append (pv 8) (pa_cons (pe_callTy call_list_of (by rfl) B0.list bt_list (pa_cons (pv 5) pa_nil)) pa_nil)))))))
      (pss_one (ps_ret (pe_tup (pa_cons (pv 6) (pa_cons (pv 7) (pa_cons (pv 8) pa_nil)))))))), ?_⟩
    have hcl : c0.length ≤ 200 := pc0.len
    have hpl : pages.length ≤ 200 := ppg.len
    -- the four lists
    refine ⟨.ref t, rfl, t, c0.map V.str, rfl, .inr ht, fun cp n1 => ?_⟩
    refine ⟨Nat.zero_le _, fun hp n2 => ⟨Nat.zero_le _, fun gp n3 => ?_⟩⟩
    have x1 := Ex.new (o := .lst (c0.map V.str)) n1
    have x2 := Ex.new (o := .lst []) n2
    have x3 := Ex.new (o := .lst []) n3
    refine ⟨.ref t, rfl, t, c0.map V.str, rfl, .inr (ex_t ((x1.trans x2).trans x3) ht), fun q0 n4 => ?_⟩
    have x4 := Ex.new (o := .lst (c0.map V.str)) n4
    refine ⟨by show 1 ≤ sizeLine; decide, fun cq n5 => ⟨by show 4 ≤ sizeLine; decide, fun T0 n6 => ?_⟩⟩
    have x5 := Ex.new (o := .lst [.ref q0]) n5
    have x6 := Ex.new (o := .tup [.ref cp, .ref hp, .ref gp, .ref cq]) n6
    obtain ⟨xsa, ha⟩ := hS.is
    have y12 := x1.trans x2
    have y13 := y12.trans x3
    have y14 := y13.trans x4
    have y15 := y14.trans x5
    have w0 : RS H _ a B cp hp gp cq [] [q0] [] [] [c0] c0 := {
      ex := hidE (y15.trans x6) a, src := hS.mono (y15.trans x6), hcp := x6 _ _ (x5 _ _ (x4 _ _ (x3 _ _ (x2 _ _ upd_same)))), hhp := x6 _ _ (x5 _ _ (x4 _ _ (x3 _ _ upd_same))), hts := .nil, hgp := x6 _ _ (x5 _ _ (x4 _ _ upd_same)), hcq := x6 _ _ upd_same
      hqs := .cons (x6 _ _ (x5 _ _ upd_same)) .nil
      f1 := n1, f2 := fresh_back x1 n2, f3 := fresh_back y12 n3, f4 := fresh_back y14 n5
      d1 := ne_of_none upd_same n2, d2 := ne_of_none (x2 _ _ upd_same) n3, d3 := ne_of_none (x4 _ _ (x3 _ _ (x2 _ _ upd_same))) n5, d4 := ne_of_none upd_same n3, d5 := ne_of_none (x4 _ _ (x3 _ _ upd_same)) n5, d6 := ne_of_none (x4 _ _ upd_same) n5
      a1 := ne_of_none ha n1, a2 := ne_of_none (x1 _ _ ha) n2, a3 := ne_of_none (y12 _ _ ha) n3, a4 := ne_of_none (y14 _ _ ha) n5
      dq := fun z hz => by
        rw [List.mem_singleton.mp hz]
        exact ⟨(ne_of_none (x3 _ _ (x2 _ _ upd_same)) n4).symm, (ne_of_none (x3 _ _ upd_same) n4).symm, (ne_of_none upd_same n4).symm, ne_of_none upd_same n5, (ne_of_none (y13 _ _ ha) n4).symm, fresh_back y13 n4⟩ }
    refine ⟨T0, _, rfl, .inl (.inl upd_same), rfl, .ref cp, _, rfl, .ref hp, _, rfl, .ref gp, _, rfl, .ref cq, _, rfl, rfl, ?_⟩
    generalize upd _ T0 _ = H1 at w0 ⊢
    -- busy
    show tCall spDraw [] E0 (tCons (tVar 0) (tCons (tC (.int 4)) tNil)) _ H1 _
    refine w_draw rfl ev_c (by decide) (by decide) w0.src (by omega) fun bz H2 _ _ e2 S2 => ⟨1, bz, rfl, rfl, ?_⟩
    have w1 := w0.draw e2 S2
    have hpgK : ∀ {H' : Hp}, Ex (hid H a) H' → SqL K H' pg (pages.map V.str) := fun e => ex_l e (sql_hid hpg npg)
    refine q_forN (n := n) (ea_cons (ev_var rfl) ea_nil) (by omega) (fun i σ H' => ∃ cp cs ts qs es gs css z10 z11 z12, σ = [some (.ref a), some (.int (room : Int)), some (.ref t), some (.ref pg), some (.int (n : Int)), some (.ref cp), some (.ref hp), some (.ref gp), some (.ref cq), some (.int (1 + bz)), z10, z11, z12] ∧
      RS H H' a (B + 1 + 3 * (i : Int)) cp hp gp cq ts qs es gs css cs ∧ RunTo room c0 es gs css cs ∧ es.length = i ∧ qs.length = i + 1)
      (fun H3 e3 => ⟨cp, c0, [], [q0], [], [], [c0], none, none, none, rfl, (w1.mono e3).le (by omega), .nil, rfl, rfl⟩) (fun i σ H' hi hP => ?_) (fun σ H' hP => ?_)
    · obtain ⟨cp, cs, ts, qs, es, gs, css, z10, z11, z12, rfl, w, r, hes, hqs⟩ := hP
      obtain ⟨i1, i2, i3, i4, i5, i6, i7⟩ := r.facts hc0 pc0.nd pc0.all
      have hts := paired_len w.hts
      have hgs : gs.length ≤ i := by
        rw [i3]
        unfold lates
        have := List.length_filter_le (lateB room c0.length es) (List.range es.length)
        rw [List.length_range] at this
        omega
      have hcs : cs.length ≤ room := by
        rw [i1, i7]
        omega
      -- absent
      refine q_asgL (xs := (pages.filter fun x => !decide (x ∈ cs)).map V.str) ?_ fun ap H3 hap e3 h3 => ?_
      · rw [← given_filter pages (fun x => !decide (x ∈ cs)) ""]
        have hm : (pages.map V.str).length = pages.length := List.length_map ..
        rw [← hm]
        refine el_lcL _ _ (ev_var rfl) (hpgK w.ex) (by omega) (fun _ => rfl) (fun j x H4 e4 hx => ?_) (fun j x H4 e4 hx _ => ?_)
        all_goals
          rw [List.getElem?_map] at hx
          obtain ⟨y, hy, rfl⟩ := Option.map_eq_some_iff.mp hx
          have ey : pages.getD j "" = y := by rw [List.getD_eq_getElem?_getD, hy]; rfl
          rw [ey]
        · exact et_is (et_test (ev_op (ev_var rfl) (ev_var rfl) (rv_niL (sq_of (e4 _ _ w.hcp)) rfl (flat_all cs)))) (by rw [in_strs])
        · exact ev_var rfl
      · have habs : ∀ x ∈ pages.filter (fun x => !decide (x ∈ cs)), x ∈ pages ∧ x ∉ cs := fun x hx => by
          obtain ⟨q1, q2⟩ := List.mem_filter.mp hx
          exact ⟨q1, by simpa using q2⟩
        have hne : cs = [] → pages.filter (fun x => !decide (x ∈ cs)) ≠ [] := fun z => by
          subst z
          rw [List.filter_eq_self.mpr (fun _ _ => by simp)]
          exact nepg
        have hab : (pages.filter fun x => !decide (x ∈ cs)).length ≤ 200 := Nat.le_trans (List.length_filter_le _ _) hpl
        generalize (pages.filter fun x => !decide (x ∈ cs)) = ab at h3 habs hne hab
        have w3 := w.mono e3
        obtain ⟨xs3, ha3⟩ := w.src.is
        have nap : ap ≠ a := (ne_of_none ha3 hap).symm
        refine ⟨fun σ' H'' => ∃ cp cs ts es gs z10 z11 z12, σ' = [some (.ref a), some (.int (room : Int)), some (.ref t), some (.ref pg), some (.int (n : Int)), some (.ref cp), some (.ref hp), some (.ref gp), some (.ref cq), some (.int (1 + bz)), z10, z11, z12] ∧
          RS H H'' a (B + 1 + 3 * ((i + 1 : Nat) : Int)) cp hp gp cq ts qs es gs css cs ∧ RunTo room c0 es gs (css ++ [cs]) cs ∧ es.length = i + 1, ?_, fun σ' H'' hM => ?_⟩
        · refine w_cond (cs := cs) (ab := ab) (cp := cp) (ap := ap) (a := a) (busy := 1 + bz) rfl rfl rfl rfl w3.hcp h3 i5 (fun x hx => ppg.all x (habs x hx).1) hne w3.src (by omega) fun b H4 e4 S4 kt kf => ite2 (fun hb => ?_) (fun hb => ?_)
          · -- a hit
            have w4 := w3.draw e4 S4
            have cpos : 0 < cs.length := List.length_pos_iff.mpr (kt hb)
            refine ⟨.ref hp, rfl, .inl ⟨rfl, _, sq_of w4.hhp⟩, .ref cp, rfl, ?_⟩
            refine w_draw rfl (b := (cs.length : Int)) (ev_is (ev_len (ev_var rfl) (sq_of w4.hcp)) (by rw [List.length_map])) (by omega) (by omega) w4.src (by omega) fun g H5 g0 g1 e5 S5 => ?_
            have w5 := w4.draw e5 S5
            have gi : g.toNat < cs.length := by omega
            have gat : cs[g.toNat]? = some cs[g.toNat] := List.getElem?_eq_getElem gi
            refine ⟨cp, cs.map V.str, g, .str cs[g.toNat], rfl, rfl, sq_of w5.hcp, at_of (j := g.toNat) (by omega) (by rw [List.getElem?_map, gat]; rfl), ?_⟩
            refine ⟨by show 2 ≤ sizeLine; decide, fun tp ntp => ⟨hp, ts.map V.ref, .ref tp, rfl, rfl, Ex.new ntp _ _ w5.hhp, ?_, ?_⟩⟩
            · rw [List.length_map, hts, hes]
              exact Nat.lt_of_le_of_lt (show i ≤ 200 by omega) (by decide)
            · have w6 := (w5.mono (Ex.new ntp)).event (e := (hitS, cs[g.toNat])) upd_same
              have em : (ts ++ [tp]).map V.ref = ts.map V.ref ++ [V.ref tp] := by rw [List.map_append]; rfl
              rw [em] at w6
              exact ⟨cp, cs, ts ++ [tp], _, gs, _, _, _, rfl, w6.le (by omega), r.hit (List.mem_of_getElem? gat), by rw [List.length_append, hes]; rfl⟩
          · -- a miss
            have w4 := w3.draw e4 S4
            have hb' : b = false := by simpa using hb
            have apos : 0 < ab.length := List.length_pos_iff.mpr (kf hb')
            have h4 : H4 ap = some (.lst (ab.map V.str)) := e4 _ _ (by rw [hid_ne nap]; exact h3)
            refine ⟨.ref ap, rfl, ?_⟩
            refine w_draw rfl (b := (ab.length : Int)) (ev_is (ev_len (ev_var rfl) (sq_of h4)) (by rw [List.length_map])) (by omega) (by omega) w4.src (by omega) fun g H5 g0 g1 e5 S5 => ?_
            have w5 := w4.draw e5 S5
            have h5 : H5 ap = some (.lst (ab.map V.str)) := e5 _ _ (by rw [hid_ne nap]; exact h4)
            have gi : g.toNat < ab.length := by omega
            have gat : ab[g.toNat]? = some ab[g.toNat] := List.getElem?_eq_getElem gi
            obtain ⟨g_in, g_out⟩ := habs _ (List.mem_of_getElem? gat)
            have g_page := ppg.all _ g_in
            refine ⟨ap, ab.map V.str, g, .str ab[g.toNat], rfl, rfl, sq_of h5, at_of (j := g.toNat) (by omega) (by rw [List.getElem?_map, gat]; rfl), ?_⟩
            generalize ab[g.toNat] = p at g_in g_out g_page
            refine q_appU (l := hp) (xs := ts.map V.ref) (ys := [.str "miss", .str p]) w5.hhp (ev_var rfl) (eu_tup (ea_cons ev_c (ea_cons (ev_var rfl) ea_nil)) (show 2 ≤ 100000 by decide)) (by rw [List.length_map, hts, hes]; omega) fun tp H6 htp e6 h6 => ?_
            have w6 := (w5.mono e6).event (e := (missS, p)) h6
            have em : (ts ++ [tp]).map V.ref = ts.map V.ref ++ [V.ref tp] := by rw [List.map_append]; rfl
            rw [em] at w6
            generalize upd H6 hp (.lst (ts.map V.ref ++ [V.ref tp])) = H7 at w6 ⊢
            refine ⟨fun σ' H'' => ∃ cs2 gs2 z10 z12, σ' = [some (.ref a), some (.int (room : Int)), some (.ref t), some (.ref pg), some (.int (n : Int)), some (.ref cp), some (.ref hp), some (.ref gp), some (.ref cq), some (.int (1 + bz)), z10, some (.str p), z12] ∧
              RS H H'' a (B + 1 + 3 * ((i + 1 : Nat) : Int)) cp hp gp cq (ts ++ [tp]) qs (es ++ [(missS, p)]) gs2 css cs2 ∧ RunTo room c0 (es ++ [(missS, p)]) gs2 (css ++ [cs2 ++ [p]]) (cs2 ++ [p]) ∧ cs2.length ≤ room, ?_, fun σ' H'' hM => ?_⟩
            · refine s_when (b := decide (V.int (((cs.map V.str).length : Nat) : Int) = V.int (room : Int))) (et_test (ev_op (ev_len (ev_var rfl) (sq_of w6.hcp)) (ev_var rfl) (rv_eq rfl))) (fun hb2 H8 e8 => ?_) (fun hb2 H8 e8 => ?_)
              · have full : cs.length = room := by
                  rw [dec_int, List.length_map] at hb2
                  exact of_decide_eq_true hb2
                have w8 := w6.mono e8
                refine ⟨.ref gp, rfl, .inl ⟨rfl, _, sq_of w8.hgp⟩, .ref cp, rfl, .inl ⟨rfl, _, sq_of w8.hcp⟩, ?_⟩
                refine w_draw rfl (b := (room : Int)) (ev_var rfl) (by omega) (by omega) w8.src (by omega) fun k2 H9 k0 k1 e9 S9 => ?_
                have w9 := w8.draw e9 S9
                have ki : k2.toNat < cs.length := by omega
                have kat : cs[k2.toNat]? = some cs[k2.toNat] := List.getElem?_eq_getElem ki
                refine ⟨cp, cs.map V.str, k2, k2.toNat, .str cs[k2.toNat], rfl, rfl, w9.hcp, by omega, by omega, by rw [List.length_map]; exact seq_nat k0 (by omega), by rw [List.getElem?_map, kat]; rfl, ?_⟩
                have wa := w9.popped (j := k2.toNat)
                refine ⟨gp, gs.map V.str, .str cs[k2.toNat], rfl, rfl, wa.hgp, ?_, ?_⟩
                · rw [List.length_map]
                  exact Nat.lt_of_le_of_lt (show gs.length ≤ 200 by omega) (by decide)
                · have wb := wa.left (g := cs[k2.toNat])
                  have eg : (gs ++ [cs[k2.toNat]]).map V.str = gs.map V.str ++ [V.str cs[k2.toNat]] := by rw [List.map_append]; rfl
                  rw [eg] at wb
                  have el := erase_len cs k2.toNat ki
                  exact ⟨cs.eraseIdx k2.toNat, gs ++ [cs[k2.toNat]], _, _, rfl, wb.le (by omega), r.evict g_out g_page full kat, by omega⟩
              · have notfull : cs.length ≠ room := by
                  rw [dec_int, List.length_map] at hb2
                  exact of_decide_eq_false hb2
                exact ⟨cs, gs, _, _, rfl, (w6.mono e8).le (by omega), r.add g_out g_page notfull, hcs⟩
            · obtain ⟨cs2, gs2, z10', z12', rfl, w7, r7, hcs2⟩ := hM
              refine ⟨.ref cp, rfl, .str p, rfl, by show 1 ≤ sizeLine; decide, fun p1 np1 => ?_⟩
              have xa := Ex.new (o := .lst [V.str p]) np1
              refine ⟨cp, p1, cs2.map V.str, [.str p], rfl, rfl, xa _ _ w7.hcp, upd_same, ?_, fun c2 nc2 => ?_⟩
              · rw [List.length_map]
                exact Nat.le_trans (show cs2.length + 1 ≤ 1001 by omega) (by decide)
              · have xb := Ex.new (o := .lst (cs2.map V.str ++ [V.str p])) nc2
                have w8 := w7.anew (cs2 := cs2 ++ [p]) (xa.trans xb) (fresh_back xa nc2) (by rw [upd_same, List.map_append]; rfl)
                exact ⟨c2, cs2 ++ [p], ts ++ [tp], es ++ [(missS, p)], gs2, _, _, _, rfl, w8, r7, by rw [List.length_append, hes]; rfl⟩
        · obtain ⟨cp, cs, ts, es, gs, z10, z11, z12, rfl, w, r, hes⟩ := hM
          refine s_appL (l := cq) (xs := qs.map V.ref) (ys := cs.map V.str) w.hcq (ev_var rfl) (el_list (ev_var rfl) (sq_of w.hcp)) (by rw [List.length_map, hqs]; omega) fun q1 H5 hq e5 h5 => ?_
          have w5 := w.noted e5 hq h5
          have em : (qs ++ [q1]).map V.ref = qs.map V.ref ++ [V.ref q1] := by rw [List.map_append]; rfl
          rw [em] at w5
          exact ⟨cp, cs, ts, qs ++ [q1], es, gs, css ++ [cs], _, _, _, rfl, w5, r, hes, by rw [List.length_append, hqs]; rfl⟩
    · obtain ⟨cp, cs, ts, qs, es, gs, css, z10, z11, z12, rfl, w, r, hes, hqs⟩ := hP
      refine s_retU (eu_tup (ea_cons (ev_var rfl) (ea_cons (ev_var rfl) (ea_cons (ev_var rfl) ea_nil))) (show 3 ≤ 100000 by decide)) fun T H3 hT e3 h3 => ?_
      obtain ⟨xs3, ha3⟩ := w.src.is
      exact q T cp hp gp cq ts qs es gs css cs H3 (fresh_hid w.ex ha3 hT) h3 ((w.mono e3).le (by omega)) r hes
end
end KB

set_option Elab.async false
set_option linter.all false
set_option maxRecDepth 100000
set_option maxHeartbeats 4000000
/-! A2: is_page, is_event, is_shelf, is_log at values of any kind. -/
namespace KB
open PySem L2 Evl
section
variable {P : Program} {w : World} {K : PySem.W.Frag} {mg : Str → Option Value} {base : Heap}
def spAny (K : PySem.W.Frag) (f : PyData → Bool) : Sp := fun vs H Q _ => ∃ (v : V) (d : PyData), vs = [v] ∧ DV K H v d ∧ smallD d = true ∧ RetV (.bl (f d)) H Q
theorem any_len {f : PyData → Bool} : ∀ vs H Q E, spAny K f vs H Q E → vs.length = 1 := fun _ _ _ _ ⟨_, _, e, _⟩ => by rw [e]; rfl
theorem scPage : FnScope ["value", "letter"] ["value"] (defScope sIsPage) := ⟨rfl, rfl, rfl, by decide +kernel, rfl, by decide +kernel, by decide +kernel⟩
theorem ok_isPage {f : Addr} {fd : FuncData} {k : Nat} (F : Fun K "is_page" "is_page" sIsPage f fd) (B : Bn mg) : FnOk P w K mg base CX0 (k + 1) f fd ["value"] (spAny K pageD) := by
  refine F.ok scPage any_len (fun cdv A outer s H vs Q E hr h => ?_)
  obtain ⟨v, d, rfl, hd, hs, q⟩ := h
  obtain ⟨t4, m4⟩ := B.LONGEST
  obtain ⟨tl, ml⟩ := B.LETTERS
  refine ⟨_, pss_cons (ps_if (PW.pt (pw_or (pt_not (pt_val (pe_callB call_isi (by rfl) B.isinstance bt_isinstance (pa_cons (pv 0) (pa_cons (pe_bltn (v := .ty "str") (by rfl) B.str bt_str rfl) pa_nil)))))
        (pw_or1 (pt_not (pt_chain op_le op_le pe_int (pe_callB call_len_str (by rfl) B.len bt_len (pa_cons (pv 0) pa_nil)) (pe_glob (v := .int 4) (by rfl) m4 ⟨_, rfl⟩))))))
        (pss_one (ps_ret pe_bl)) pss_nil)
      (pss_one (ps_ret (pe_callB (cr_all rfl) (by rfl) B.all bt_all (pa_cons (pe_lc (own := [("letter", 1)]) (g := gName 1) (tt := tYes) rfl scPage.nd (pi_str (pv 0)) (blkOk_by (N := ["value", "letter"]) (sc := defScope sIsPage) (by decide +kernel))
        (fun _ _ _ _ _ => pg_name (i := 1) scPage.nd rfl (Or.inl rfl)) (fun _ _ _ _ _ => pts_nil) (fun _ _ _ _ _ => pe_cmpR op_in_sign (pv 1) (pe_glob (v := .str "abcdefghijklmnopqrstuvwxyz") (by rfl) ml ⟨_, rfl⟩) rfl)) pa_nil)))), ?_⟩
  by_cases hstr : isStrD d = true
  · cases d with
    | str x =>
      cases hd
      rw [smallD, Bool.and_eq_true, decide_eq_true_eq] at hs
      have hlen : x.length ≤ 100000 := by omega
      have hD : DV K H (.str x) (.str x) := .str x
      refine q_when (b := !true || !(decide ((1 : Int) ≤ x.length) && decide ((x.length : Int) ≤ 4))) ?_ (fun hb H1 e => ?_) (fun hb H1 e => ?_)
      · refine et_or (et_not (et_B (ev_isiD (ev_var rfl) hD (kit_str _)))) fun _ => et_not (et_test ?_)
        exact ev_chain ev_c (ev_lenStr (ev_var rfl) hlen) rv_I0 (fun _ => ev_c) fun _ => rv_I0
      · have e0 : pageD (.str x) = false := by
          show pageB x = false
          unfold pageB
          rw [Bool.not_true, Bool.false_or, Bool.not_eq_true'] at hb
          rw [hb, Bool.false_and]
        refine s_ret ev_c fun H2 e2 => ?_
        have g := q H2 (e.trans e2)
        rw [e0] at g
        exact g
      · have e0 : pageD (.str x) = ((x.cps.toList.map fun c => decide (c ∈ LETS)).all id) := by
          show pageB x = _
          unfold pageB
          rw [Bool.not_true, Bool.false_or, Bool.not_eq_false'] at hb
          rw [hb, Bool.true_and, List.all_map]
          rfl
        rw [e0] at q
        refine s_ret (ev_all ?_) fun H2 e2 => q H2 (e.trans e2)
        rw [← page_bits]
        refine el_lcS _ _ (ev_var rfl) (by show x.length ≤ 40000; omega) (fun _ => rfl) (fun i c H3 e3 hc => et_yes) fun i c H3 e3 hc _ => ?_
        have ec : x.cps.getD i 0 = c := by
          obtain ⟨h1, h2⟩ := Array.getElem?_eq_some_iff.mp hc
          rw [Array.getD, dif_pos h1]
          exact h2
        rw [ec]
        exact ev_op (ev_var rfl) ev_c rv_inSign
    | _ => cases hstr
  · have hf : isStrD d = false := by simpa using hstr
    have e0 : pageD d = false := by cases d <;> first | rfl | (exact (hstr rfl).elim)
    rw [e0] at q
    refine q_when (b := !false || false) (et_or (et_not (et_B (ev_isiD (ev_var rfl) hd (by rw [kit_str, hf])))) fun hb => by cases hb) (fun _ H1 e => ?_) (fun hb => by cases hb)
    exact s_ret ev_c fun H2 e2 => q H2 (e.trans e2)
/-! is_event -/
theorem scEvent : FnScope ["value", "mark", "page"] ["value"] (defScope sIsEvent) := ⟨rfl, rfl, rfl, by decide +kernel, rfl, by decide +kernel, by decide +kernel⟩
theorem mark_in (x : Str) : inV (.str x) [.str "hit", .str "miss"] = markD (.str x) := by
  show (("hit" : Str) == x || (("miss" : Str) == x || false)) = (decide (x = hitS) || decide (x = missS))
  rw [Bool.or_false]
  have c : ∀ y : Str, (y == x) = decide (x = y) := fun y => by
    by_cases h : x = y
    · subst h; simp
    · have : ¬ y = x := fun z => h z.symm
      simp [h, this]
  rw [c, c]
  rfl
theorem scMark : FnScope ["value"] ["value"] (defScope sIsMark) := ⟨rfl, rfl, rfl, by decide +kernel, rfl, by decide +kernel, by decide +kernel⟩
theorem ok_isMark {f : Addr} {fd : FuncData} (F : Fun K "is_mark" "is_mark" sIsMark f fd) (B : Bn mg) : FnOk P w K mg base CX0 1 f fd ["value"] (spAny K markD) := by
  refine F.ok scMark any_len (fun cdv A outer s H vs Q E hr h => ?_)
  obtain ⟨v, d, rfl, hd, hs, q⟩ := h
  obtain ⟨th, mh⟩ := B.HIT
  obtain ⟨tm, mm⟩ := B.MISS
  refine ⟨_, pss_one (ps_ret (pe_and (pe_callB call_isi (by rfl) B.isinstance bt_isinstance (pa_cons (pv 0) (pa_cons (pe_bltn (v := .ty "str") (by rfl) B.str bt_str rfl) pa_nil)))
        (pe_one (pe_cmpR op_in_seq (pv 0) (pe_tup (pa_cons (pe_glob (v := .str "hit") (by rfl) mh ⟨_, rfl⟩) (pa_cons (pe_glob (v := .str "miss") (by rfl) mm ⟨_, rfl⟩) pa_nil))) (by with_unfolding_all rfl))))), ?_⟩
  by_cases hstr : isStrD d = true
  · cases d with
    | str x =>
      cases hd
      refine s_ret (v := .bl (true && markD (.str x))) ?_ fun H3 e3 => q H3 e3
      refine ev_andV (ev_isiD (ev_var rfl) (.str x) (kit_str _)) fun _ => ?_
      exact ev_is (ev_inU (ev_var rfl) (eu_tup (ea_cons ev_c (ea_cons ev_c ea_nil)) (show 2 ≤ 100000 by decide)) rfl rfl) (by rw [mark_in])
    | _ => cases hstr
  · have hf : isStrD d = false := by simpa using hstr
    have e0 : markD d = false := by cases d <;> first | rfl | (exact (hstr rfl).elim)
    rw [e0] at q
    refine s_ret (v := .bl (false && false)) (ev_andV (b := false) (ev_isiD (ev_var rfl) hd (by rw [kit_str, hf])) fun z => by cases z) fun H3 e3 => q H3 e3
theorem ok_isEvent {f : Addr} {fd : FuncData} (F : Fun K "is_event" "is_event" sIsEvent f fd) (B : Bn mg) (cM : Cl P w K mg base 1 "is_mark" ["value"] (spAny K markD)) (cP : Cl P w K mg base 1 "is_page" ["value"] (spAny K pageD)) : FnOk P w K mg base CX0 2 f fd ["value"] (spAny K eventD) := by
  refine F.ok scEvent any_len (fun cdv A outer s H vs Q E hr h => ?_)
  obtain ⟨v, d, rfl, hd, hs, q⟩ := h
  refine ⟨_, pss_cons (ps_if (PW.pt (pw_or (pt_not (pt_val (pe_callB call_isi (by rfl) B.isinstance bt_isinstance (pa_cons (pv 0) (pa_cons (pe_bltn (v := .ty "tuple") (by rfl) B.tuple bt_tuple rfl) pa_nil)))))
        (pw_or1 (pt_cmpR op_ne (pe_callB call_len_seq (by rfl) B.len bt_len (pa_cons (pv 0) pa_nil)) pe_int (nomark _))))) (pss_one (ps_ret pe_bl)) pss_nil)
      (pss_cons (ps_asg (pv 0) (pg_tup rfl (pgs_cons (pg_name (i := 1) scEvent.nd rfl (Or.inl rfl)) (pgs_cons (pg_name (i := 2) scEvent.nd rfl (Or.inl rfl)) pgs_nil))))
      (pss_one (ps_ret (pe_and (pe_cl cM hr (pa_cons (pv 1) pa_nil)) (pe_one (pe_cl cP hr (pa_cons (pv 2) pa_nil))))))), ?_⟩
  by_cases htup : isTupD d = true
  · cases d with
    | tuple ds =>
      cases hd with
      | tup h1 h2 =>
      rename_i a xs
      have hl := dvs_len h2
      have hD : DV K H (.ref a) (.tuple ds) := .tup h1 h2
      rw [smallD, Bool.and_eq_true, decide_eq_true_eq] at hs
      refine q_when (b := !true || !decide (V.int (xs.length : Int) = V.int 2)) ?_ (fun hb H1 e1 => ?_) (fun hb H1 e1 => ?_)
      · exact et_or (et_not (et_B (ev_isiD (ev_var rfl) hD (kit_tup _)))) fun _ => et_test (ev_op (ev_lenTup (ev_var rfl) h1) ev_c (rv_ne rfl))
      · have e0 : eventD (.tuple ds) = false := by
          match ds, hl with
          | [], _ => rfl
          | [_], _ => rfl
          | [a, b], hl => rw [hl] at hb; simp at hb
          | _ :: _ :: _ :: _, _ => rfl
        rw [e0] at q
        exact s_ret ev_c fun H2 e2 => q H2 (e1.trans e2)
      · have l2 : ds.length = 2 := by
          rw [Bool.not_true, Bool.false_or, Bool.not_eq_false', decide_eq_true_eq] at hb
          injection hb with hb
          omega
        match ds, l2, h2, hs with
        | [m, p], _, h2, hs =>
        cases h2 with
        | cons hm h3 =>
        cases h3 with
        | cons hp h4 =>
        cases h4
        rename_i vm vp
        have sm : smallD m = true ∧ smallD p = true := by
          have := hs.2
          rw [smallAll, smallAll, smallAll, Bool.and_true, Bool.and_eq_true] at this
          exact this
        refine q_unp2 (x := vm) (y := vp) (ev_var rfl) (ex_t e1 h1) fun H2 e2 => ?_
        have e12 := e1.trans e2
        have hm2 := DV.mono e12 _ _ hm
        refine s_ret (v := .bl (markD m && pageD p)) ?_ fun H3 e3 => q H3 (e12.trans e3)
        refine ev_andV (ev_fn (ea_cons (ev_var rfl) ea_nil) fun H4 e4 Q' k => ⟨vm, m, rfl, DV.mono (e12.trans e4) _ _ hm, sm.1, k⟩) fun _ => ?_
        exact ev_fn (ea_cons (ev_var rfl) ea_nil) fun H4 e4 Q' k => ⟨vp, p, rfl, DV.mono (e12.trans e4) _ _ hp, sm.2, k⟩
    | _ => cases htup
  · have hf : isTupD d = false := by simpa using htup
    have e0 : eventD d = false := by cases d <;> first | rfl | (exact (htup rfl).elim)
    rw [e0] at q
    refine q_when (b := !false || false) (et_or (et_not (et_B (ev_isiD (ev_var rfl) hd (by rw [kit_tup, hf])))) fun hb => by cases hb) (fun _ H1 e => ?_) (fun hb => by cases hb)
    exact s_ret ev_c fun H2 e2 => q H2 (e.trans e2)
end
end KB

set_option Elab.async false
set_option linter.all false
set_option maxRecDepth 100000
set_option maxHeartbeats 4000000
/-! A3: is_shelf, is_log at values of any kind. -/
namespace KB
open PySem L2 Evl
theorem met_nodup (ps : List Str) : decide (V.int ((metS ps).length : Int) = V.int (ps.length : Int)) = decide ps.Nodup := by
  by_cases h : ps.Nodup
  · rw [metS_nodup _ ps rfl h, decide_eq_true rfl, decide_eq_true h]
  · rw [decide_eq_false h]
    refine decide_eq_false fun z => h (metS_eq _ ps rfl ?_)
    injection z with z
    omega
theorem dvs_text {K : PySem.W.Frag} {H : Hp} : ∀ {ds : List PyData} {vs : List V}, DVs K H vs ds → ds.all pageD = true → vs = (ds.map textD).map V.str
  | [], _, h, _ => by cases h; rfl
  | d :: ds, _, h, a => by
    rw [List.all_cons, Bool.and_eq_true] at a
    cases h with
    | cons h1 h2 =>
      rw [List.map_cons, List.map_cons, dvs_text h2 a.2]
      cases d with
      | str x => cases h1; rfl
      | _ => exact absurd a.1 (by simp [pageD])
section
variable {P : Program} {w : World} {K : PySem.W.Frag} {mg : Str → Option Value} {base : Heap}
theorem scShelf : FnScope ["value", "page"] ["value"] (defScope sIsShelf) := ⟨rfl, rfl, rfl, by decide +kernel, rfl, by decide +kernel, by decide +kernel⟩
theorem ok_isShelf {f : Addr} {fd : FuncData} (F : Fun K "is_shelf" "is_shelf" sIsShelf f fd) (B : Bn mg) (cP : Cl P w K mg base 1 "is_page" ["value"] (spAny K pageD)) : FnOk P w K mg base CX0 3 f fd ["value"] (spAny K shelfD) := by
  refine F.ok scShelf any_len (fun cdv A outer s H vs Q E hr h => ?_)
  obtain ⟨v, d, rfl, hd, hs, q⟩ := h
  refine ⟨_, pss_cons (ps_if (PW.pt (pw_or (pt_not (pt_val (pe_callB call_isi (by rfl) B.isinstance bt_isinstance (pa_cons (pv 0) (pa_cons (pe_bltn (v := .ty "tuple") (by rfl) B.tuple bt_tuple rfl) pa_nil)))))
        (pw_or1 (pt_not (pt_val (pe_callB (cr_all rfl) (by rfl) B.all bt_all (pa_cons (pe_lc (own := [("page", 1)]) (g := gName 1) (tt := tYes) rfl scShelf.nd (pi_tup (pv 0)) (blkOk_by (N := ["value", "page"]) (sc := defScope sIsShelf) (by decide +kernel))
          (fun _ _ _ _ _ => pg_name (i := 1) scShelf.nd rfl (Or.inl rfl)) (fun _ _ _ _ _ => pts_nil) (fun _ _ _ _ _ => pe_cl cP hr (pa_cons (pv 1) pa_nil))) pa_nil)))))))
        (pss_one (ps_ret pe_bl)) pss_nil)
      (pss_one (ps_ret (pe_cmpR op_eq (pe_callB call_lenSetS (by rfl) B.len bt_len (pa_cons (pe_callTy (call_setT rfl) (by rfl) B.set bt_set (pa_cons (pv 0) pa_nil)) pa_nil)) (pe_callB call_len_seq (by rfl) B.len bt_len (pa_cons (pv 0) pa_nil)) (nomark _)))), ?_⟩
  by_cases htup : isTupD d = true
  · cases d with
    | tuple ds =>
      cases hd with
      | tup h1 h2 =>
      rename_i a xs
      have hl := dvs_len h2
      have hD : DV K H (.ref a) (.tuple ds) := .tup h1 h2
      rw [smallD, Bool.and_eq_true, decide_eq_true_eq] at hs
      refine q_when (b := !true || !((ds.map pageD).all id)) ?_ (fun hb H1 e1 => ?_) (fun hb H1 e1 => ?_)
      · refine et_or (et_not (et_B (ev_isiD (ev_var rfl) hD (kit_tup _)))) fun _ => et_not (et_B (ev_all ?_))
        rw [← bits_given, ← hl]
        refine el_lcT _ _ (ev_var rfl) h1 (by omega) (fun _ => rfl) (fun i x H3 e3 hx => et_yes) fun i x H3 e3 hx _ => ?_
        obtain ⟨d, hd1, hd2⟩ := dvs_at h2 hx
        have ed : ds.getD i .none = d := by rw [List.getD_eq_getElem?_getD, hd1]; rfl
        rw [ed]
        exact ev_fn (ea_cons (ev_var rfl) ea_nil) fun H4 e4 Q' k => ⟨x, d, rfl, DV.mono (e3.trans e4) _ _ hd2, small_at hs.2 hd1, k⟩
      · have e0 : shelfD (.tuple ds) = false := by
          show (ds.all pageD && _) = false
          rw [Bool.not_true, Bool.false_or, Bool.not_eq_true', all_id] at hb
          rw [hb]
          rfl
        rw [e0] at q
        exact s_ret ev_c fun H2 e2 => q H2 (e1.trans e2)
      · have ha : ds.all pageD = true := by
          rw [Bool.not_true, Bool.false_or, Bool.not_eq_false', all_id] at hb
          exact hb
        have ex := dvs_text h2 ha
        have e0 : shelfD (.tuple ds) = decide ((ds.map textD).Nodup) := by
          show (ds.all pageD && _) = _
          rw [ha]
          rfl
        rw [e0] at q
        have hl2 : (ds.map textD).length = ds.length := List.length_map ..
        generalize ds.map textD = ps at ex q hl2
        subst ex
        refine ⟨.ref a, rfl, a, ps, rfl, ex_t e1 h1, by omega, fun p np => ?_⟩
        refine ⟨p, ps, rfl, upd_same, by omega, .ref a, rfl, a, ps.map V.str, rfl, .inr (ex_t (e1.trans (Ex.new np)) h1), ?_⟩
        refine ⟨rfl, ?_⟩
        rw [List.length_map, met_nodup]
        exact q _ (e1.trans (Ex.new np))
    | _ => cases htup
  · have hf : isTupD d = false := by simpa using htup
    have e0 : shelfD d = false := by cases d <;> first | rfl | (exact (htup rfl).elim)
    rw [e0] at q
    refine q_when (b := !false || false) (et_or (et_not (et_B (ev_isiD (ev_var rfl) hd (by rw [kit_tup, hf])))) fun hb => by cases hb) (fun _ H1 e => ?_) (fun hb => by cases hb)
    exact s_ret ev_c fun H2 e2 => q H2 (e.trans e2)
/-! is_log -/
theorem scLog : FnScope ["value", "event"] ["value"] (defScope sIsLog) := ⟨rfl, rfl, rfl, by decide +kernel, rfl, by decide +kernel, by decide +kernel⟩
theorem ok_isLog {f : Addr} {fd : FuncData} (F : Fun K "is_log" "is_log" sIsLog f fd) (B : Bn mg) (cE : Cl P w K mg base 2 "is_event" ["value"] (spAny K eventD)) : FnOk P w K mg base CX0 3 f fd ["value"] (spAny K logB) := by
  refine F.ok scLog any_len (fun cdv A outer s H vs Q E hr h => ?_)
  obtain ⟨v, d, rfl, hd, hs, q⟩ := h
  refine ⟨_, pss_one (ps_ret (pe_and (pe_callB call_isi (by rfl) B.isinstance bt_isinstance (pa_cons (pv 0) (pa_cons (pe_bltn (v := .ty "list") (by rfl) B.list bt_list rfl) pa_nil)))
      (pe_one (pe_callB (cr_all rfl) (by rfl) B.all bt_all (pa_cons (pe_lc (own := [("event", 1)]) (g := gName 1) (tt := tYes) rfl scLog.nd (pi_list (pv 0)) (blkOk_by (N := ["value", "event"]) (sc := defScope sIsLog) (by decide +kernel))
          (fun _ _ _ _ _ => pg_name (i := 1) scLog.nd rfl (Or.inl rfl)) (fun _ _ _ _ _ => pts_nil) (fun _ _ _ _ _ => pe_cl cE hr (pa_cons (pv 1) pa_nil))) pa_nil))))), ?_⟩
  by_cases hlst : isLstD d = true
  · cases d with
    | list ds =>
      cases hd with
      | lst h1 h2 =>
      rename_i a xs
      have hl := dvs_len h2
      have hD : DV K H (.ref a) (.list ds) := .lst h1 h2
      rw [smallD, Bool.and_eq_true, decide_eq_true_eq] at hs
      refine s_ret (v := .bl (true && (ds.map eventD).all id)) ?_ fun H1 e1 => ?_
      · refine ev_andV (ev_isiD (ev_var rfl) hD (kit_lst _)) fun _ => ev_all ?_
        rw [← bits_given, ← hl]
        refine el_lcL _ _ (ev_var rfl) (sq_of h1) (by omega) (fun _ => rfl) (fun i x H3 e3 hx => et_yes) fun i x H3 e3 hx _ => ?_
        obtain ⟨d, hd1, hd2⟩ := dvs_at h2 hx
        have ed : ds.getD i .none = d := by rw [List.getD_eq_getElem?_getD, hd1]; rfl
        rw [ed]
        exact ev_fn (ea_cons (ev_var rfl) ea_nil) fun H4 e4 Q' k => ⟨x, d, rfl, DV.mono (e3.trans e4) _ _ hd2, small_at hs.2 hd1, k⟩
      · rw [all_id]
        exact q H1 e1
    | _ => cases hlst
  · have hf : isLstD d = false := by simpa using hlst
    have e0 : logB d = false := by cases d <;> first | rfl | (exact (hlst rfl).elim)
    rw [e0] at q
    exact s_ret (v := .bl (false && false)) (ev_andV (b := false) (ev_isiD (ev_var rfl) hd (by rw [kit_lst, hf])) fun z => by cases z) fun H1 e1 => q H1 e1
end
end KB

set_option Elab.async false
set_option linter.all false
set_option maxRecDepth 100000
set_option maxHeartbeats 4000000
/-! A4: the law's judgement of a page. -/
namespace KB
open PySem L2 Evl
theorem lay_ok : ∀ {xs : List Str}, (∀ x ∈ xs, PyData.strOk x = true) → PyData.canLayAll0 (xs.map PyData.str) = true
  | [], _ => rfl
  | x :: xs, h => by
    rw [List.map_cons, PyData.canLayAll0, lay_ok fun y hy => h y (List.mem_cons_of_mem _ hy), Bool.and_true]
    exact h x List.mem_cons_self
theorem shaped_ok {xs : List Str} (h : ∀ x ∈ xs, PyData.strOk x = true) : SeqAt.shaped (.list (xs.map PyData.str)) = true := by
  unfold SeqAt.shaped
  rw [show PyData.canLay0 (.list (xs.map PyData.str)) = PyData.canLayAll0 (xs.map PyData.str) from rfl, lay_ok h, show PyData.depth (.list (xs.map PyData.str)) = PyData.depthAll (xs.map PyData.str) + 1 from rfl, depth_strs]
  rfl
theorem sign_ok {x : Str} {i c : Nat} (h : PyData.strOk x = true) (hc : x.cps[i]? = some c) : PyData.strOk (⟨#[c]⟩ : Str) = true := by
  unfold PyData.strOk at h ⊢
  have := Array.all_eq_true'.mp h c (Array.mem_of_getElem? hc)
  simpa using this
/-- the signs that are no letters -/
def oddB (x : Str) (i : Nat) : Bool := !decide (x.cps.getD i 0 ∈ LETS)
def oddS (x : Str) : List Str := ((List.range x.cps.size).filter (oddB x)).map fun i => ⟨#[x.cps.getD i 0]⟩
theorem odd_given (x : Str) : given x.cps.size (oddB x) (fun i => V.str ⟨#[x.cps.getD i 0]⟩) = (oddS x).map V.str := by
  unfold given oddS
  rw [List.map_map]
  rfl
theorem odd_all (x : Str) : (oddS x).isEmpty = x.cps.toList.all fun c => decide (c ∈ LETS) := by
  unfold oddS
  rw [List.isEmpty_map]
  have h : x.cps.toList = (List.range x.cps.size).map fun i => x.cps.getD i 0 := by
    apply List.ext_getElem
    · simp
    · intro i h1 h2
      have hi : i < x.cps.size := by simpa using h1
      simp [Array.getD, hi]
  rw [h, List.all_map]
  generalize List.range x.cps.size = l
  induction l with
  | nil => rfl
  | cons a t ih =>
    rw [List.all_cons, List.filter_cons]
    unfold oddB
    cases hq : decide (x.cps.getD a 0 ∈ LETS) with
    | true =>
      simp only [hq, Function.comp, Bool.not_true, Bool.true_and]
      rw [if_neg Bool.false_ne_true]
      exact ih
    | false =>
      simp only [hq, Function.comp, Bool.not_false, Bool.false_and, if_true]
      rfl
section
variable {K : PySem.W.Frag} {σ : L2.St} {H H' : Hp} {ta tb : TE} {x y z v : V}
theorem rv_notSign {c : Nat} {z : Str} : RV (fun x y H Q => ∃ (c : Nat) (z : Str), x = .str ⟨#[c]⟩ ∧ y = .str z ∧ Q (.bl (!decide (c ∈ z.cps.toList))) H) (.str ⟨#[c]⟩) (.str z) H (.bl (!decide (c ∈ z.cps.toList))) := fun H1 _ _ q => ⟨c, z, rfl, rfl, q H1 (Ex.refl H1)⟩
end
section
variable {P : Program} {w : World} {K : PySem.W.Frag} {mg : Str → Option Value} {base : Heap}
theorem scGoodPage : FnScope ["thing", "sign"] ["thing"] (defScope sGoodPage) := ⟨rfl, rfl, rfl, by decide +kernel, rfl, by decide +kernel, by decide +kernel⟩
theorem ok_goodPage {f : Addr} {fd : FuncData} (F : Fun K "_law_good_page" "_law_good_page" sGoodPage f fd) (B : Bn mg) : FnOk P w K mg base CX0 1 f fd ["thing"] (spAny K pageD) := by
  refine F.ok scGoodPage any_len (fun cdv A outer s H vs Q E hr h => ?_)
  obtain ⟨v, d, rfl, hd, hs, q⟩ := h
  have nd := scGoodPage.nd
  refine ⟨_, pss_cons (ps_if (PW.pt (pw_or (pt_not (pt_val (pe_callB call_isi (by rfl) B.isinstance bt_isinstance (pa_cons (pv 0) (pa_cons (pe_bltn (v := .ty "str") (by rfl) B.str bt_str rfl) pa_nil)))))
        (pw_or (pt_cmpR op_lt (pe_callB call_len_str (by rfl) B.len bt_len (pa_cons (pv 0) pa_nil)) pe_int (nomark _)) (pw_or1 (pt_cmpR op_gt (pe_callB call_len_str (by rfl) B.len bt_len (pa_cons (pv 0) pa_nil)) pe_int (nomark _))))))
        (pss_one (ps_ret pe_bl)) pss_nil)
      (pss_one (ps_ret (pe_cmpR (op_eqD hr.units) (pe_lc (own := [("sign", 1)]) (g := gName 1) (te := tVar 1) (tt := tTest (tOp (fun x y H Q => ∃ (c : Nat) (z : Str), x = .str ⟨#[c]⟩ ∧ y = .str z ∧ Q (.bl (!decide (c ∈ z.cps.toList))) H) (tVar 1) (tC (.str "abcdefghijklmnopqrstuvwxyz")))) rfl nd (pi_str (pv 0)) (blkOk_by (N := ["thing", "sign"]) (sc := defScope sGoodPage) (by decide +kernel))
        (fun _ _ _ _ _ => pg_name (i := 1) nd rfl (Or.inl rfl)) (fun _ _ _ _ _ => pts_one (pt_cmpR op_notIn_sign (pv 1) pe_str rfl)) (fun _ _ _ _ _ => pv 1)) (pe_lst pa_nil) (nomark _)))), ?_⟩
  by_cases hstr : isStrD d = true
  · cases d with
    | str x =>
      cases hd
      rw [smallD, Bool.and_eq_true, decide_eq_true_eq] at hs
      have hlen : x.length ≤ 100000 := by omega
      have hD : DV K H (.str x) (.str x) := .str x
      refine q_when (b := !true || (decide ((x.length : Int) < 1) || decide ((4 : Int) < (x.length : Int)))) ?_ (fun hb H1 e => ?_) (fun hb H1 e => ?_)
      · refine et_or (et_not (et_B (ev_isiD (ev_var rfl) hD (kit_str _)))) fun _ => et_or (et_test (ev_op (ev_lenStr (ev_var rfl) hlen) ev_c rv_I0)) fun _ => et_test (ev_op (ev_lenStr (ev_var rfl) hlen) ev_c rv_I0)
      · have e0 : pageD (.str x) = false := by
          show pageB x = false
          unfold pageB
          simp only [Bool.not_true, Bool.false_or, Bool.or_eq_true, decide_eq_true_eq] at hb
          rcases hb with hb | hb
          · rw [decide_eq_false (show ¬ (1 : Int) ≤ x.length by omega)]
            rfl
          · rw [decide_eq_false (show ¬ (x.length : Int) ≤ 4 by omega), Bool.and_false]
            rfl
        rw [e0] at q
        exact s_ret ev_c fun H2 e2 => q H2 (e.trans e2)
      · have e0 : pageD (.str x) = (oddS x).isEmpty := by
          show pageB x = _
          unfold pageB
          simp only [Bool.not_true, Bool.false_or, Bool.or_eq_false_iff, decide_eq_false_iff_not] at hb
          rw [decide_eq_true (show (1 : Int) ≤ x.length by omega), decide_eq_true (show (x.length : Int) ≤ 4 by omega), odd_all]
          rfl
        rw [e0] at q
        refine s_ret (v := .bl (oddS x).isEmpty) (ev_opLL (xs := (oddS x).map V.str) ?_ (el_lst ea_nil (Nat.zero_le _)) fun p p2 H3 hp hp2 e3 H4 e4 Q' k' => ⟨.list ((oddS x).map PyData.str), .list [], .lst (sq_of (e4 _ _ hp)) (dp_strs _), .lst (sq_of (e4 _ _ hp2)) .nil, shaped_ok fun y hy => ?_, by decide, by
          rw [eqv_nil]
          exact k' H4 (Ex.refl H4)⟩) fun H2 e2 => q H2 (e.trans e2)
        · rw [← odd_given]
          refine el_lcS _ _ (ev_var rfl) (by show x.length ≤ 40000; omega) (fun _ => rfl) (fun i c H3 e3 hc => ?_) fun i c H3 e3 hc _ => ?_
          all_goals
            have ec : x.cps.getD i 0 = c := by
              obtain ⟨h1, h2⟩ := Array.getElem?_eq_some_iff.mp hc
              rw [Array.getD, dif_pos h1]
              exact h2
          · unfold oddB
            rw [ec]
            exact et_test (ev_op (ev_var rfl) ev_c rv_notSign)
          · rw [ec]
            exact ev_var rfl
        · obtain ⟨i, hi, rfl⟩ := List.mem_map.mp hy
          have hlt : i < x.cps.size := List.mem_range.mp (List.mem_filter.mp hi).1
          have hc : x.cps[i]? = some (x.cps.getD i 0) := by
            rw [Array.getElem?_eq_getElem hlt, Array.getD, dif_pos hlt]
            rfl
          exact sign_ok hs.2 hc
    | _ => cases hstr
  · have hf : isStrD d = false := by simpa using hstr
    have e0 : pageD d = false := by cases d <;> first | rfl | (exact (hstr rfl).elim)
    rw [e0] at q
    refine q_when (b := !false || false) (et_or (et_not (et_B (ev_isiD (ev_var rfl) hd (by rw [kit_str, hf])))) fun hb => by cases hb) (fun _ H1 e => ?_) (fun hb => by cases hb)
    exact s_ret ev_c fun H2 e2 => q H2 (e.trans e2)
end
end KB

set_option Elab.async false
set_option linter.all false
set_option maxRecDepth 100000
set_option maxHeartbeats 4000000
/-! A5: the law's judgements of shelves and logs. -/
namespace KB
open PySem L2 Evl
section
variable {K : PySem.W.Frag} {σ : L2.St} {H H' : Hp} {ta tb te : TE} {tu tz : TS} {x y z v : V} {D : Ends}
theorem eu_cut {a : Addr} {xs : List V} {k : Nat} (h : Ev te σ H (.ref a)) (hs : SqT K H a xs) (hb : Ev tb σ H (.int (k : Int))) (hk : k < xs.length) : EvU (tSl (rSlT K) te tNoPart (tPart tb)) σ H (xs.take k) := fun H1 e Q q =>
  h H1 e _ fun H2 e2 => hb H2 (e.trans e2) _ fun H3 e3 => ⟨(k : Int), rfl, a, xs, rfl, ex_t ((e.trans e2).trans e3) hs, by
    rw [HT.sIx_nat]
    omega, fun p hp => q p _ (fresh_back (e2.trans e3) hp) ((e2.trans e3).trans (Ex.new hp)) (by rw [upd_same, take_cut])⟩
end
theorem dvs_take {K : PySem.W.Frag} {H : Hp} : ∀ (n : Nat) {ds : List PyData} {vs : List V}, DVs K H vs ds → DVs K H (vs.take n) (ds.take n)
  | 0, _, _, _ => .nil
  | _ + 1, [], _, h => by cases h; exact .nil
  | n + 1, _ :: _, _, h => by
    cases h with
    | cons h1 h2 => exact .cons h1 (dvs_take n h2)
theorem nodup_snoc {l : List Str} {x : Str} : (l ++ [x]).Nodup ↔ l.Nodup ∧ x ∉ l := by
  rw [List.nodup_append]
  constructor
  · intro ⟨h1, _, h3⟩
    exact ⟨h1, fun m => h3 x m x (List.mem_singleton.mpr rfl) rfl⟩
  · intro ⟨h1, h2⟩
    refine ⟨h1, by simp, fun a ha b hb z => ?_⟩
    rw [List.mem_singleton.mp hb] at z
    subst z
    exact h2 ha
def evShape : PyData → Bool
  | .tuple [m, _] => isStrD m
  | _ => false
theorem shape_eq (d : PyData) (h : evShape d = false) : eventD d = false := by
  cases d with
  | tuple ds =>
    match ds, h with
    | [], _ => rfl
    | [_], _ => rfl
    | [m, p], h =>
      show (markD m && pageD p) = false
      have : markD m = false := by
        cases m <;> first | rfl | (exact absurd h (by simp [evShape, isStrD]))
      rw [this]
      rfl
    | _ :: _ :: _ :: _, _ => rfl
  | _ => rfl
section
variable {P : Program} {w : World} {K : PySem.W.Frag} {mg : Str → Option Value} {base : Heap}
theorem scGoodShelf : FnScope ["thing", "k"] ["thing"] (defScope sGoodShelf) := ⟨rfl, rfl, rfl, by decide +kernel, rfl, by decide +kernel, by decide +kernel⟩
theorem ok_goodShelf {f : Addr} {fd : FuncData} (F : Fun K "_law_good_shelf" "_law_good_shelf" sGoodShelf f fd) (B : Bn mg) (cP : Cl P w K mg base 1 "_law_good_page" ["thing"] (spAny K pageD)) : FnOk P w K mg base CX0 2 f fd ["thing"] (spAny K shelfD) := by
  refine F.ok scGoodShelf any_len (fun cdv A outer s H vs Q E hr h => ?_)
  obtain ⟨v, d, rfl, hd, hs, q⟩ := h
  have nd := scGoodShelf.nd
  refine ⟨_, pss_cons (ps_if (pt_not (pt_val (pe_callB call_isi (by rfl) B.isinstance bt_isinstance (pa_cons (pv 0) (pa_cons (pe_bltn (v := .ty "tuple") (by rfl) B.tuple bt_tuple rfl) pa_nil))))) (pss_one (ps_ret pe_bl)) pss_nil)
      (pss_cons (ps_for PassesOwn.never rfl (pi_range1 (by rfl) B.range (pa_cons (pe_callB call_len_seq (by rfl) B.len bt_len (pa_cons (pv 0) pa_nil)) pa_nil)) (pg_name (i := 1) nd rfl (Or.inl rfl))
        (pss_one (ps_if (PW.pt (pw_or (pt_not (pt_val (pe_cl cP hr (pa_cons (pe_ix (r := rIxT K) ix_tup (pv 0) (pv 1) (fun _ _ => rfl)) pa_nil)))) (pw_or1 (pt_cmpR (r := rIn K false) op_in_seq (pe_ix (r := rIxT K) ix_tup (pv 0) (pv 1) (fun _ _ => rfl)) (pe_slice sl_tup (pv 0) po_none (po_some (pv 1))) (by with_unfolding_all rfl))))) (pss_one (ps_ret pe_bl)) pss_nil)))
      (pss_one (ps_ret pe_bl))), ?_⟩
  by_cases htup : isTupD d = true
  · cases d with
    | tuple ds =>
      cases hd with
      | tup h1 h2 =>
      rename_i a xs
      have hl := dvs_len h2
      have hD : DV K H (.ref a) (.tuple ds) := .tup h1 h2
      rw [smallD, Bool.and_eq_true, decide_eq_true_eq] at hs
      refine q_when (b := !true) (et_not (et_B (ev_isiD (ev_var rfl) hD (kit_tup _)))) (fun hb => by cases hb) (fun _ H1 e1 => ?_)
      refine q_forN (n := ds.length) (ea_cons (ev_is (ev_lenTup (ev_var rfl) (ex_t e1 h1)) (by rw [hl])) ea_nil) (by omega) (fun i σ H' => ∃ y1, σ = [some (.ref a), y1] ∧ Ex H H' ∧ (ds.take i).all pageD = true ∧ ((ds.take i).map textD).Nodup) (fun H2 e2 => ⟨_, rfl, e1.trans e2, rfl, List.nodup_nil⟩) (fun i σ H2 hi hP => ?_) (fun σ H2 hP => ?_)
      · obtain ⟨y1, rfl, e2, ha, hnd⟩ := hP
        have hdi : ds[i]? = some ds[i] := List.getElem?_eq_getElem hi
        obtain ⟨v, hv, hdv⟩ := dvs_at' h2 hdi
        have hsm := small_at hs.2 hdi
        have etk : ds.take (i + 1) = ds.take i ++ [ds[i]] := by rw [List.take_add_one, hdi]; rfl
        have split_ : ds = ds.take i ++ ds[i] :: ds.drop (i + 1) := by
          rw [← List.drop_eq_getElem_cons hi, List.take_append_drop]
        generalize ds[i] = dk at hdi hdv hsm etk split_
        have hat : ∀ {H3 : Hp}, Ex H2 H3 → Ev (tOp (rIxT K) (tVar 0) (tVar 1)) [some (.ref a), some (.int (i : Int))] H3 v := fun e3 => ev_op (ev_var rfl) (ev_var rfl) (rv_ixT (ex_t (e2.trans e3) h1) (atI_nat hv))
        have hxt : xs.take i = ((ds.take i).map textD).map V.str := dvs_text (dvs_take i h2) ha
        refine s_when (b := !pageD dk || decide (textD dk ∈ (ds.take i).map textD)) (et_or (et_not (et_B (ev_fn (ea_cons (hat (Ex.refl _)) ea_nil) fun H4 e4 Q' k => ⟨v, dk, rfl, DV.mono (e2.trans e4) _ _ hdv, hsm, k⟩))) fun hb => ?_) (fun hb H3 e3 => ?_) (fun hb H3 e3 => ?_)
        · have hp : pageD dk = true := by simpa using hb
          cases dk with
          | str x =>
            cases hdv
            exact et_test (ev_opU (hat (Ex.refl _)) (eu_cut (ev_var rfl) (ex_t e2 h1) (ev_var rfl) (by omega)) fun p H3 hp3 e3 => by
              rw [hxt] at hp3
              have := rv_isT (K := K) (H := H3) (x := .str x) (st_of hp3) rfl (flat_all _)
              rw [in_strs] at this
              exact this)
          | _ => exact absurd hp (by simp [pageD])
        · have e0 : shelfD (.tuple ds) = false := by
            show (ds.all pageD && decide ((ds.map textD).Nodup)) = false
            rw [split_, List.all_append, List.all_cons, List.map_append, List.map_cons]
            rw [Bool.or_eq_true, Bool.not_eq_true', decide_eq_true_eq] at hb
            rcases hb with hb | hb
            · rw [hb]
              simp
            · have : ¬ ((ds.take i).map textD ++ textD dk :: (ds.drop (i + 1)).map textD).Nodup := fun z => by
                have := List.nodup_append.mp z
                exact this.2.2 _ hb _ List.mem_cons_self rfl
              rw [decide_eq_false this, Bool.and_false]
          rw [e0] at q
          exact s_ret ev_c fun H4 e4 => q H4 (e2.trans (e3.trans e4))
        · rw [Bool.or_eq_false_iff, Bool.not_eq_false', decide_eq_false_iff_not] at hb
          refine ⟨_, rfl, e2.trans e3, ?_, ?_⟩
          · rw [etk, List.all_append, ha]
            simp [hb.1]
          · rw [etk, List.map_append]
            exact nodup_snoc.mpr ⟨hnd, hb.2⟩
      · obtain ⟨y1, rfl, e2, ha, hnd⟩ := hP
        rw [List.take_length] at ha hnd
        have e0 : shelfD (.tuple ds) = true := by
          show (ds.all pageD && decide ((ds.map textD).Nodup)) = true
          rw [ha, decide_eq_true hnd]
          rfl
        rw [e0] at q
        exact s_ret ev_c fun H4 e4 => q H4 (e2.trans e4)
    | _ => cases htup
  · have hf : isTupD d = false := by simpa using htup
    have e0 : shelfD d = false := by cases d <;> first | rfl | (exact (htup rfl).elim)
    rw [e0] at q
    refine q_when (b := !false) (et_not (et_B (ev_isiD (ev_var rfl) hd (by rw [kit_tup, hf])))) (fun _ H1 e => ?_) (fun hb => by cases hb)
    exact s_ret ev_c fun H2 e2 => q H2 (e.trans e2)
theorem shape_of {d : PyData} (h : evShape d = true) : ∃ (m : Str) (p : PyData), d = .tuple [.str m, p] := by
  cases d with
  | tuple ds =>
    match ds, h with
    | [], h => cases h
    | [_], h => cases h
    | [m, p], h =>
      cases m with
      | str m => exact ⟨m, p, rfl⟩
      | _ => cases h
    | _ :: _ :: _ :: _, h => cases h
  | _ => cases h
/-! _law_good_log -/
theorem ev_shape {σ : L2.St} {H : Hp} {v : V} {d : PyData} (hv : σ[1]? = some (some v)) (hd : DV K H v d) : EvT (tOr (tNot (tB (tCB (rIsi K) (tCons (tVar 1) (tCons (tC (.ty "tuple")) tNil))))) (tOr (tTest (tOp rNe (tCB (rLenS K) (tCons (tVar 1) tNil)) (tC (.int 2)))) (tNot (tB (tCB (rIsi K) (tCons (tOp (rIxT K) (tVar 1) (tC (.int 0))) (tCons (tC (.ty "str")) tNil)))))) ) σ H (!evShape d) := by
  by_cases htup : isTupD d = true
  · cases d with
    | tuple ds =>
      cases hd with
      | tup h1 h2 =>
      rename_i a xs
      have hl := dvs_len h2
      have hD : DV K H (.ref a) (.tuple ds) := .tup h1 h2
      by_cases l2 : ds.length = 2
      · match ds, l2, h2 with
        | [m, p], _, h2 =>
        cases h2 with
        | cons hm h3 =>
        cases h3 with
        | cons hp h4 =>
        cases h4
        refine et_is (et_or (et_not (et_B (ev_isiD (ev_var hv) hD (kit_tup _)))) fun _ => et_or (et_test (ev_op (ev_lenTup (ev_var hv) h1) ev_c (rv_ne rfl))) fun _ => et_not (et_B (ev_isiD (ev_op (ev_var hv) ev_c (rv_ixT h1 (atI_nat (j := 0) rfl))) hm (kit_str _)))) ?_
        show (!true || (!decide (V.int (2 : Int) = V.int 2) || !isStrD m)) = !isStrD m
        simp
      · have es : evShape (.tuple ds) = false := by
          match ds, l2 with
          | [], _ => rfl
          | [_], _ => rfl
          | [a, b], l2 => exact (l2 rfl).elim
          | _ :: _ :: _ :: _, _ => rfl
        rw [es]
        refine et_is (et_or (a := !true) (b := true || false) (et_not (et_B (ev_isiD (ev_var hv) hD (kit_tup _)))) fun _ => et_or (a := true) (et_is (et_test (ev_op (ev_lenTup (ev_var hv) h1) ev_c (rv_ne rfl))) ?_) fun z => by cases z) rfl
        rw [decide_eq_false fun z => l2 (by injection z with z; omega)]
        rfl
    | _ => cases htup
  · have hf : isTupD d = false := by simpa using htup
    have es : evShape d = false := by cases d <;> first | rfl | (exact (htup rfl).elim)
    rw [es]
    exact et_is (et_or (a := !false) (b := false) (et_not (et_B (ev_isiD (ev_var hv) hd (by rw [kit_tup, hf])))) fun z => by cases z) rfl
theorem scGoodLog : FnScope ["thing", "event"] ["thing"] (defScope sGoodLog) := ⟨rfl, rfl, rfl, by decide +kernel, rfl, by decide +kernel, by decide +kernel⟩
theorem ok_goodLog {f : Addr} {fd : FuncData} (F : Fun K "_law_good_log" "_law_good_log" sGoodLog f fd) (B : Bn mg) (cP : Cl P w K mg base 1 "_law_good_page" ["thing"] (spAny K pageD)) : FnOk P w K mg base CX0 2 f fd ["thing"] (spAny K logB) := by
  refine F.ok scGoodLog any_len (fun cdv A outer s H vs Q E hr h => ?_)
  obtain ⟨v, d, rfl, hd, hs, q⟩ := h
  have nd := scGoodLog.nd
  refine ⟨_, pss_cons (ps_if (pt_not (pt_val (pe_callB call_isi (by rfl) B.isinstance bt_isinstance (pa_cons (pv 0) (pa_cons (pe_bltn (v := .ty "list") (by rfl) B.list bt_list rfl) pa_nil))))) (pss_one (ps_ret pe_bl)) pss_nil)
      (pss_cons (ps_for PassesOwn.never rfl (pi_list (pv 0)) (pg_name (i := 1) nd rfl (Or.inl rfl))
        (pss_cons (ps_if (PW.pt (pw_or (pt_not (pt_val (pe_callB call_isi (by rfl) B.isinstance bt_isinstance (pa_cons (pv 1) (pa_cons (pe_bltn (v := .ty "tuple") (by rfl) B.tuple bt_tuple rfl) pa_nil)))))
            (pw_or (pt_cmpR op_ne (pe_callB call_len_seq (by rfl) B.len bt_len (pa_cons (pv 1) pa_nil)) pe_int (nomark _)) (pw_or1 (pt_not (pt_val (pe_callB call_isi (by rfl) B.isinstance bt_isinstance (pa_cons (pe_ix (r := rIxT K) ix_tup (pv 1) pe_int (fun _ _ => rfl)) (pa_cons (pe_bltn (v := .ty "str") (by rfl) B.str bt_str rfl) pa_nil))))))))) (pss_one (ps_ret pe_bl)) pss_nil)
        (pss_one (ps_if (PW.pt (pw_or (pt_cmpR (r := rIn K true) op_notIn_seq (pe_ix (r := rIxT K) ix_tup (pv 1) pe_int (fun _ _ => rfl)) (pe_lst (pa_cons pe_str (pa_cons pe_str pa_nil))) (by with_unfolding_all rfl)) (pw_or1 (pt_not (pt_val (pe_cl cP hr (pa_cons (pe_ix (r := rIxT K) ix_tup (pv 1) pe_int (fun _ _ => rfl)) pa_nil))))))) (pss_one (ps_ret pe_bl)) pss_nil))))
      (pss_one (ps_ret pe_bl))), ?_⟩
  by_cases hlst : isLstD d = true
  · cases d with
    | list ds =>
      cases hd with
      | lst h1 h2 =>
      rename_i a xs
      have hl := dvs_len h2
      have hD : DV K H (.ref a) (.list ds) := .lst h1 h2
      rw [smallD, Bool.and_eq_true, decide_eq_true_eq] at hs
      refine q_when (b := !true) (et_not (et_B (ev_isiD (ev_var rfl) hD (kit_lst _)))) (fun hb => by cases hb) (fun _ H1 e1 => ?_)
      refine q_forLn (a := a) (xs := xs) (ev_var rfl) (ex_l e1 (sq_of h1)) (fun i σ H' => ∃ y1, σ = [some (.ref a), y1] ∧ Ex H H' ∧ (ds.take i).all eventD = true) (fun H2 e2 => ⟨_, rfl, e1.trans e2, rfl⟩) (fun i σ H' _ hP => ?_) (fun i x σ H2 hx hP => ?_) (fun σ H2 hP => ?_)
      · obtain ⟨_, _, e, _⟩ := hP
        exact ex_l e (sq_of h1)
      · obtain ⟨y1, rfl, e2, ha⟩ := hP
        obtain ⟨dk, hdi, hdv⟩ := dvs_at h2 hx
        have hi := (List.getElem?_eq_some_iff.mp hdi).1
        have hsm := small_at hs.2 hdi
        have etk : ds.take (i + 1) = ds.take i ++ [dk] := by rw [List.take_add_one, hdi]; rfl
        have bad : eventD dk = false → logB (.list ds) = false := fun hb => by
          show ds.all eventD = false
          rw [List.all_eq_false]
          exact ⟨dk, List.mem_of_getElem? hdi, by rw [hb]; exact Bool.false_ne_true⟩
        refine q_when (b := !evShape dk) (ev_shape rfl (DV.mono e2 _ _ hdv)) (fun hb H3 e3 => ?_) (fun hb H3 e3 => ?_)
        · have e0 := bad (shape_eq dk (by simpa using hb))
          rw [e0] at q
          exact s_ret ev_c fun H4 e4 => q H4 (e2.trans (e3.trans e4))
        · have hsh : evShape dk = true := by simpa using hb
          obtain ⟨m, p, rfl⟩ := shape_of hsh
          cases hdv with
          | tup g1 g2 =>
          cases g2 with
          | cons hm g3 =>
          cases hm
          cases g3 with
          | cons hp g4 =>
          cases g4
          rename_i b vp
          have sp : smallD p = true := by
            rw [smallD, smallAll, smallAll, smallAll, Bool.and_true, Bool.and_eq_true, Bool.and_eq_true] at hsm
            exact hsm.2.2
          have g1' := ex_t (e2.trans e3) g1
          refine s_when (b := !markD (.str m) || !pageD p) (et_or (et_test (ev_opL (ev_op (ev_var rfl) ev_c (rv_ixT g1' (atI_nat (j := 0) rfl))) (el_lst (ea_cons ev_c (ea_cons ev_c ea_nil)) (show 2 ≤ 100000 by decide)) fun p2 H4 hp2 e4 => by
            have := rv_niL (K := K) (H := H4) (x := .str m) (sq_of hp2) rfl rfl
            rw [mark_in] at this
            exact this)) fun _ => et_not (et_B (ev_fn (ea_cons (ev_op (ev_var rfl) ev_c (rv_ixT g1' (atI_nat (j := 1) rfl))) ea_nil) fun H5 e5 Q' k => ⟨vp, p, rfl, DV.mono ((e2.trans e3).trans e5) _ _ hp, sp, k⟩))) (fun hb H4 e4 => ?_) (fun hb H4 e4 => ⟨_, rfl, e2.trans (e3.trans e4), ?_⟩)
          · have e0 := bad (by
              show (markD (.str m) && pageD p) = false
              rw [← Bool.not_and, Bool.not_eq_true'] at hb
              exact hb)
            rw [e0] at q
            exact s_ret ev_c fun H5 e5 => q H5 (e2.trans (e3.trans (e4.trans e5)))
          · rw [etk, List.all_append, ha]
            have : eventD (.tuple [.str m, p]) = true := by
              show (markD (.str m) && pageD p) = true
              rw [← Bool.not_and, Bool.not_eq_false'] at hb
              exact hb
            simp [this]
      · obtain ⟨y1, rfl, e2, ha⟩ := hP
        rw [hl, List.take_length] at ha
        have e0 : logB (.list ds) = true := ha
        rw [e0] at q
        exact s_ret ev_c fun H4 e4 => q H4 (e2.trans e4)
    | _ => cases hlst
  · have hf : isLstD d = false := by simpa using hlst
    have e0 : logB d = false := by cases d <;> first | rfl | (exact (hlst rfl).elim)
    rw [e0] at q
    refine q_when (b := !false) (et_not (et_B (ev_isiD (ev_var rfl) hd (by rw [kit_lst, hf])))) (fun _ H1 e => ?_) (fun hb => by cases hb)
    exact s_ret ev_c fun H2 e2 => q H2 (e.trans e2)
end
end KB

set_option Elab.async false
set_option linter.all false
set_option maxRecDepth 100000
set_option maxHeartbeats 4000000
/-! A6: displays of values of any kind, with some places hidden. -/
namespace KB
open PySem L2 Evl
open Classical in
/-- the abstract heap without the places of L -/
noncomputable def hidS (H : Hp) (L : Addr → Prop) : Hp := fun b => if L b then none else H b
theorem hidS_some {H : Hp} {L : Addr → Prop} {b : Addr} {o : HO} (h : hidS H L b = some o) : ¬ L b ∧ H b = some o := by
  unfold hidS at h
  by_cases e : L b
  · rw [if_pos e] at h
    cases h
  · rw [if_neg e] at h
    exact ⟨e, h⟩
theorem hidS_at {H : Hp} {L : Addr → Prop} {b : Addr} {o : HO} (n : ¬ L b) (h : H b = some o) : hidS H L b = some o := by
  unfold hidS
  rw [if_neg n]
  exact h
theorem exS {H H' : Hp} {L : Addr → Prop} (e : Ex H H') : Ex (hidS H L) (hidS H' L) := fun b o h => let ⟨n, z⟩ := hidS_some h; hidS_at n (e b o z)
theorem exS_hid {H H' : Hp} {L : Addr → Prop} {a : Addr} (ha : L a) (e : Ex (hid H a) H') : Ex (hidS H L) (hidS H' L) := fun b o h => by
  obtain ⟨n, z⟩ := hidS_some h
  exact hidS_at n (e b o (by rw [hid_ne fun q => n (by rw [q]; exact ha)]; exact z))
theorem exS_sub {H : Hp} {L L' : Addr → Prop} (h : ∀ b, L b → L' b) : Ex (hidS H L') (hidS H L) := fun b o q => let ⟨n, z⟩ := hidS_some q; hidS_at (fun y => n (h b y)) z
theorem exS_mut {H : Hp} {L : Addr → Prop} {p : Addr} {o : HO} (hp : L p) : Ex (hidS H L) (hidS (upd H p o) L) := fun b u q => by
  obtain ⟨n, z⟩ := hidS_some q
  exact hidS_at n (by rw [upd_ne fun y => n (by rw [y]; exact hp)]; exact z)
def addL (L : Addr → Prop) (l : Addr) : Addr → Prop := fun b => L b ∨ b = l
def KnownL (L : Addr → Prop) (H : Hp) : Prop := ∀ b, L b → ∃ o, H b = some o
theorem KnownL.mono {L : Addr → Prop} {H H' : Hp} (e : Ex H H') (h : KnownL L H) : KnownL L H' := fun b hb => let ⟨o, z⟩ := h b hb; ⟨o, e b o z⟩
theorem KnownL.fresh {L : Addr → Prop} {H : Hp} {p : Addr} (h : KnownL L H) (hp : H p = none) : ¬ L p := fun z => by
  obtain ⟨o, q⟩ := h p z
  rw [hp] at q
  cases q
theorem KnownL.add {L : Addr → Prop} {H : Hp} {l : Addr} {o : HO} (h : KnownL L H) (hl : H l = some o) : KnownL (addL L l) H := fun b hb => by
  rcases hb with hb | hb
  · exact h b hb
  · rw [hb]
    exact ⟨o, hl⟩
/-- a place that is new need not be hidden from what was there -/
theorem exS_new {H H' : Hp} {L : Addr → Prop} {l : Addr} (e : Ex H H') (hl : H l = none) : Ex (hidS H L) (hidS H' (addL L l)) := fun b o q => by
  obtain ⟨n, z⟩ := hidS_some q
  refine hidS_at (fun y => ?_) (e b o z)
  rcases y with y | y
  · exact n y
  · rw [y, hl] at z
    cases z
section
variable {K : PySem.W.Frag} {σ : L2.St} {H H' : Hp} {L : Addr → Prop} {ta tb te : TE} {as : TA} {x v : V} {d : PyData} {ds ds2 : List PyData} {D : Ends}
/-- the value of te is d, apart from the places of L -/
def EvD (K : PySem.W.Frag) (te : TE) (σ : L2.St) (H : Hp) (L : Addr → Prop) (d : PyData) : Prop := ∀ H1, Ex H H1 → ∀ Q : VK, (∀ v H2, Ex H1 H2 → DV K (hidS H2 L) v d → Q v H2) → te σ H1 Q
def EvDs (K : PySem.W.Frag) (ta : TA) (σ : L2.St) (H : Hp) (L : Addr → Prop) (ds : List PyData) : Prop := ∀ H1, Ex H H1 → ∀ Q : List V → Hp → Prop, (∀ vs H2, Ex H1 H2 → DVs K (hidS H2 L) vs ds → Q vs H2) → ta σ H1 Q
/-- the value of te is a new list of this def's own -/
def EvO (K : PySem.W.Frag) (te : TE) (σ : L2.St) (H : Hp) (L : Addr → Prop) (ds : List PyData) : Prop := ∀ H1, Ex H H1 → ∀ Q : VK, (∀ l xs H2, H1 l = none → Ex H1 H2 → H2 l = some (.lst xs) → DVs K (hidS H2 (addL L l)) xs ds → Q (.ref l) H2) → te σ H1 Q
theorem ed_c (h : ∀ H, DV K H v d) : EvD K (tC v) σ H L d := fun H1 _ Q q => q v H1 (Ex.refl H1) (h _)
theorem ed_var {i : Nat} (hv : σ[i]? = some (some v)) (h : DV K (hidS H L) v d) : EvD K (tVar i) σ H L d := fun H1 e Q q => ⟨v, hv, q v H1 (Ex.refl H1) (DV.mono (exS e) _ _ h)⟩
theorem eds_nil : EvDs K tNil σ H L [] := fun H1 _ Q q => q [] H1 (Ex.refl H1) .nil
theorem eds_cons (h : EvD K te σ H L d) (hr : EvDs K as σ H L ds) : EvDs K (tCons te as) σ H L (d :: ds) := fun H1 e Q q =>
  h H1 e _ fun v H2 e2 hv => hr H2 (e.trans e2) _ fun vs H3 e3 hvs => q (v :: vs) H3 (e2.trans e3) (.cons (DV.mono (exS e3) _ _ hv) hvs)
theorem ed_tup (hL : KnownL L H) (h : EvDs K as σ H L ds) (hl : ds.length ≤ 100000) : EvD K (tTup as) σ H L (.tuple ds) := fun H1 e Q q =>
  h H1 e _ fun vs H2 e2 hv => ⟨sz_of (by rw [dvs_len hv]; exact hl), fun p hp => q (.ref p) _ (e2.trans (Ex.new hp))
    (.tup (.inl (.inl (hidS_at ((hL.mono (e.trans e2)).fresh hp) upd_same))) (DVs.mono (exS (Ex.new hp)) _ _ hv))⟩
theorem ed_lst (hL : KnownL L H) (h : EvDs K as σ H L ds) (hl : ds.length ≤ 100000) : EvD K (tLst as) σ H L (.list ds) := fun H1 e Q q =>
  h H1 e _ fun vs H2 e2 hv => ⟨sz_of (by rw [dvs_len hv]; exact hl), fun p hp => q (.ref p) _ (e2.trans (Ex.new hp))
    (.lst (hidS_at ((hL.mono (e.trans e2)).fresh hp) upd_same) (DVs.mono (exS (Ex.new hp)) _ _ hv))⟩
theorem ed_dnew (hL : KnownL L H) : EvD K tDNewK σ H L (.dict []) := fun H1 e Q q => fun p hp => q (.ref p) _ (Ex.new hp) (.dct (kvs := []) (hidS_at ((hL.mono e).fresh hp) upd_same))
theorem eo_lst (h : EvDs K as σ H L ds) (hl : ds.length ≤ 100000) : EvO K (tLst as) σ H L ds := fun H1 e Q q =>
  h H1 e _ fun vs H2 e2 hv => ⟨sz_of (by rw [dvs_len hv]; exact hl), fun p hp => q p vs _ (fresh_back e2 hp) (e2.trans (Ex.new hp)) upd_same (DVs.mono (exS_new (Ex.new hp) hp) _ _ hv)⟩
theorem dvs_app : ∀ {ds ds2 : List PyData} {vs ws : List V}, DVs K H vs ds → DVs K H ws ds2 → DVs K H (vs ++ ws) (ds ++ ds2)
  | [], _, _, _, h, h2 => by cases h; exact h2
  | d :: ds, _, _, _, h, h2 => by
    cases h with
    | cons a b => exact .cons a (dvs_app b h2)
theorem dvs_drop : ∀ (n : Nat) {ds : List PyData} {vs : List V}, DVs K H vs ds → DVs K H (vs.drop n) (ds.drop n)
  | 0, _, _, h => h
  | _ + 1, [], _, h => by cases h; exact .nil
  | n + 1, _ :: _, _, h => by
    cases h with
    | cons h1 h2 => exact dvs_drop n h2
theorem dvs_set : ∀ (j : Nat) {ds : List PyData} {vs : List V}, DVs K H vs ds → DV K H v d → DVs K H (vs.set j v) (ds.set j d)
  | _, [], _, h, _ => by cases h; exact .nil
  | 0, _ :: _, _, h, hv => by
    cases h with
    | cons h1 h2 => exact .cons hv h2
  | j + 1, _ :: _, _, h, hv => by
    cases h with
    | cons h1 h2 => exact .cons h1 (dvs_set j h2 hv)
theorem dvs_erase : ∀ (j : Nat) {ds : List PyData} {vs : List V}, DVs K H vs ds → DVs K H (vs.eraseIdx j) (ds.eraseIdx j)
  | _, [], _, h => by cases h; exact .nil
  | 0, _ :: _, _, h => by
    cases h with
    | cons h1 h2 => exact h2
  | j + 1, _ :: _, _, h => by
    cases h with
    | cons h1 h2 => exact .cons h1 (dvs_erase j h2)
/-- own list + new list -/
theorem eo_catV {a : Addr} {xs : List V} (ha : Ev ta σ H (.ref a)) (hx : H a = some (.lst xs)) (hd : DVs K (hidS H (addL L a)) xs ds) (hb : EvO K tb σ H L ds2) (hz : ds.length + ds2.length ≤ 100000) : EvO K (tOp rCat ta tb) σ H L (ds ++ ds2) := fun H1 e Q q =>
  ha H1 e _ fun H2 e2 => hb H2 (e.trans e2) _ fun b ys H3 hbn e3 hy hd2 => ⟨a, b, xs, ys, rfl, rfl, ((e.trans e2).trans e3) _ _ hx, hy, sz_of (by rw [dvs_len hd, dvs_len hd2]; exact hz), fun p hp => by
    have x1 := Ex.new (o := .lst (xs ++ ys)) hp
    refine q p (xs ++ ys) _ (fresh_back (e2.trans e3) hp) ((e2.trans e3).trans x1) upd_same (dvs_app (DVs.mono ?_ _ _ hd) (DVs.mono ?_ _ _ hd2))
    · exact (exS_sub (L' := addL L a) fun _ h => .inl h).trans ((exS ((e.trans e2).trans e3)).trans (exS_new x1 hp))
    · exact (exS_sub (L' := addL L b) fun _ h => .inl h).trans (exS_new x1 hp)⟩
end
end KB

set_option Elab.async false
set_option linter.all false
set_option maxRecDepth 100000
set_option maxHeartbeats 16000000
/-! A7: the law's change at some depth, walked. -/
namespace KB
open PySem L2 Evl
/-! sizes of values, so that each may be judged and told -/
def shortS : PyData → Bool
  | .str x => decide (x.length ≤ 10) && PyData.strOk x
  | _ => false
mutual
def okM (m : Nat) : PyData → Bool
  | .none | .bool _ => true
  | .int i => decide (i.natAbs < 100)
  | .str x => decide (x.length ≤ 10) && PyData.strOk x
  | .list ds | .tuple ds => decide (ds.length ≤ m) && okAllM m ds
  | .dict kvs => decide (kvs.length ≤ 1) && kvs.all fun p => shortS p.1 && shortS p.2
def okAllM (m : Nat) : List PyData → Bool
  | [] => true
  | d :: ds => okM m d && okAllM m ds
end
def oddD : List PyData := [.none, .int 0, .int 1, .bool true, .str "", .str "a", .str "A", .str "abcde", .str "hit", .str "Miss", .str "a b", .tuple [], .list [], .dict [], .tuple [.str "hit"], .tuple [.str "hit", .str "a", .str "b"],
  .list [.str "miss", .str "a"], .tuple [.str "miss", .int 1], .tuple [.str "out", .str "a"], .tuple [.str "hit", .str "`"], .tuple [.str "miss", .str "{"], .str "a1", .tuple [.str "miss", .str ""], .tuple [.str "hit", .list [.str "a"]]]
theorem okAllM_iff (m : Nat) : ∀ ds : List PyData, okAllM m ds = true ↔ ∀ d ∈ ds, okM m d = true
  | [] => by simp [okAllM]
  | d :: ds => by
    rw [okAllM, Bool.and_eq_true, okAllM_iff m ds]
    simp
/-- the sum of the weights, one more for each -/
theorem weight_at : ∀ {ds : List PyData} {i : Nat} {d : PyData}, ds[i]? = some d → PyData.weight d + 1 + PyData.weightAll (ds.eraseIdx i) = PyData.weightAll ds
  | [], _, _, h => by simp at h
  | a :: t, 0, d, h => by
    have : a = d := by simpa using h
    subst this
    rfl
  | a :: t, i + 1, d, h => by
    have ih := weight_at (ds := t) (i := i) (d := d) (by simpa using h)
    rw [List.eraseIdx_cons_succ, PyData.weightAll, PyData.weightAll]
    omega
theorem weight_set : ∀ {ds : List PyData} {i : Nat} {d e : PyData}, ds[i]? = some d → PyData.weightAll (ds.set i e) + PyData.weight d = PyData.weightAll ds + PyData.weight e
  | [], _, _, _, h => by simp at h
  | a :: t, 0, d, e, h => by
    have : a = d := by simpa using h
    subst this
    rw [List.set_cons_zero, PyData.weightAll, PyData.weightAll]
    omega
  | a :: t, i + 1, d, e, h => by
    have ih := weight_set (ds := t) (i := i) (d := d) (e := e) (by simpa using h)
    rw [List.set_cons_succ, PyData.weightAll, PyData.weightAll]
    omega
theorem weight_app : ∀ (as bs : List PyData), PyData.weightAll (as ++ bs) = PyData.weightAll as + PyData.weightAll bs
  | [], bs => by
    show _ = 0 + _
    rw [List.nil_append]
    omega
  | a :: t, bs => by
    rw [List.cons_append, PyData.weightAll, PyData.weightAll, weight_app t bs]
    omega
theorem depth_le : ∀ {ds : List PyData} {n : Nat}, (∀ d ∈ ds, PyData.depth d ≤ n) → PyData.depthAll ds ≤ n
  | [], _, _ => Nat.zero_le _
  | d :: t, n, h => by
    have h1 := h d List.mem_cons_self
    have h2 := depth_le (ds := t) (n := n) fun e he => h e (List.mem_cons_of_mem _ he)
    rw [PyData.depthAll]
    omega
theorem depth_of : ∀ {ds : List PyData} {d : PyData}, d ∈ ds → PyData.depth d ≤ PyData.depthAll ds
  | a :: t, d, h => by
    rw [PyData.depthAll]
    rcases List.mem_cons.mp h with h | h
    · subst h
      omega
    · have := depth_of h
      omega
theorem odd_good : (oddD.all fun d => okM 3 d && (decide (PyData.weight d ≤ 20) && decide (PyData.depth d ≤ 2))) = true := by decide +kernel
theorem odd_len : oddD.length = 24 := rfl
mutual
theorem okM_mono {m m' : Nat} (h : m ≤ m') : ∀ d : PyData, okM m d = true → okM m' d = true
  | .none, _ => rfl
  | .bool _, _ => rfl
  | .int i, q => q
  | .str x, q => q
  | .list ds, q => by
    rw [okM, Bool.and_eq_true, decide_eq_true_eq] at q ⊢
    exact ⟨by omega, okAllM_mono h ds q.2⟩
  | .tuple ds, q => by
    rw [okM, Bool.and_eq_true, decide_eq_true_eq] at q ⊢
    exact ⟨by omega, okAllM_mono h ds q.2⟩
  | .dict kvs, q => q
theorem okAllM_mono {m m' : Nat} (h : m ≤ m') : ∀ ds : List PyData, okAllM m ds = true → okAllM m' ds = true
  | [], _ => rfl
  | d :: ds, q => by
    rw [okAllM, Bool.and_eq_true] at q ⊢
    exact ⟨okM_mono h d q.1, okAllM_mono h ds q.2⟩
end
/-- what a value after n more changes below is held to -/
structure Fit (m w n : Nat) (d : PyData) : Prop where
  ok : okM m d = true
  wt : PyData.weight d ≤ w
  dp : PyData.depth d ≤ n
theorem odd_fit {i : Nat} {d : PyData} (h : oddD[i]? = some d) {m w n : Nat} (hm : 3 ≤ m) (hw : 20 ≤ w) (hn : 2 ≤ n) : Fit m w n d := by
  have := List.all_eq_true.mp odd_good d (List.mem_of_getElem? h)
  rw [Bool.and_eq_true, Bool.and_eq_true, decide_eq_true_eq, decide_eq_true_eq] at this
  exact ⟨okM_mono hm d this.1, by omega, by omega⟩
def seqD (b : Bool) (ds : List PyData) : PyData := if b = true then .list ds else .tuple ds
theorem fit_seq {m w n : Nat} {b : Bool} {ds : List PyData} (hl : ds.length ≤ m) (ho : ∀ d ∈ ds, okM m d = true) (hw : PyData.weightAll ds ≤ w) (hd : ∀ d ∈ ds, PyData.depth d + 1 ≤ n) (hn : 1 ≤ n) : Fit m w n (seqD b ds) := by
  have ha := (okAllM_iff m ds).mpr ho
  have hdp : PyData.depthAll ds + 1 ≤ n := by
    have := depth_le (ds := ds) (n := n - 1) fun d hd' => by have := hd d hd'; omega
    omega
  cases b with
  | true => exact ⟨by show (decide (ds.length ≤ m) && okAllM m ds) = true; rw [decide_eq_true hl, ha]; rfl, hw, hdp⟩
  | false => exact ⟨by show (decide (ds.length ≤ m) && okAllM m ds) = true; rw [decide_eq_true hl, ha]; rfl, hw, hdp⟩
section
variable {K : PySem.W.Frag} {σ : L2.St} {H H1 H' : Hp} {ta tb tc te tx tl : TE} {x y z v : V} {D : Ends} {Q : VK}
theorem ev_isiLTD {d : PyData} (ha : Ev ta σ H x) (hx : DV K H x d) : Ev (tCB (rIsiT K) (tCons ta (tCons (tTup (tCons (tC (.ty "list")) (tCons (tC (.ty "tuple")) tNil))) tNil))) σ H (.bl (isLstD d || isTupD d)) := fun H1 e Q q =>
  ha H1 e _ fun H2 e2 => ⟨by show 2 ≤ sizeLine; decide, fun p hp => ⟨x, p, [.ty "list", .ty "tuple"], .type (tyD d), [.type "list", .type "tuple"], isLstD d || isTupD d, rfl, upd_same, .cons (.ty "list") (.cons (.ty "tuple") .nil), (DV.mono ((e.trans e2).trans (Ex.new hp)) _ _ hx).ty,
    kitAny_cons (kit_ty (kit_lst d)) (fun z => by rw [z]; exact kitAny_cons (kit_ty (kit_tup d)) (fun z => by rw [z]; rfl) (fun z => by rw [z]; rfl)) (fun z => by rw [z]; rfl), q _ (e2.trans (Ex.new hp))⟩⟩
theorem ex_hidS {L : Addr → Prop} : Ex (hidS H L) H := fun b o h => (hidS_some h).2
theorem ev_lenE {p : Addr} {xs : List V} (ha : Ev ta σ H (.ref p)) (h : SqL K H p xs ∨ SqT K H p xs) : Ev (tCB (rLenS K) (tCons ta tNil)) σ H (.int (xs.length : Int)) := fun H1 e Q q =>
  ha H1 e _ fun H2 e2 => ⟨p, xs, rfl, h.imp (ex_l (e.trans e2)) (ex_t (e.trans e2)), q H2 e2⟩
end
/-- what the change holds in memory beside its parts -/
structure BG (K : PySem.W.Frag) (H H' : Hp) (a od : Addr) (L : Addr → Prop) (B : Int) (xs : List V) (v : V) (d : PyData) : Prop where
  ex : Ex (hid H a) H'
  src : SrcAt H' a B
  hod : H' od = some (.lst xs)
  hds : DVs K (hidS H' L) xs oddD
  kn : KnownL L H'
  hv : DV K (hidS H' L) v d
  la : L a
  n : od ≠ a
section
variable {K : PySem.W.Frag} {H H' H1 : Hp} {a od l : Addr} {L : Addr → Prop} {B B' : Int} {xs : List V} {v : V} {d : PyData}
theorem BG.mono (g : BG K H H' a od L B xs v d) (e : Ex H' H1) : BG K H H1 a od L B xs v d := { g with ex := g.ex.trans e, src := g.src.mono e, hod := e _ _ g.hod, hds := DVs.mono (exS e) _ _ g.hds, kn := g.kn.mono e, hv := DV.mono (exS e) _ _ g.hv }
theorem KnownL.draw (h : KnownL L H) (e : Ex (hid H a) H') (S : SrcAt H' a B) : KnownL L H' := fun b hb => by
  by_cases z : b = a
  · obtain ⟨xs, hx⟩ := S.is
    rw [z]
    exact ⟨_, hx⟩
  · obtain ⟨o, ho⟩ := h b hb
    exact ⟨o, e _ _ (by rw [hid_ne z]; exact ho)⟩
theorem BG.draw (g : BG K H H' a od L B xs v d) (e : Ex (hid H' a) H1) (S : SrcAt H1 a B') : BG K H H1 a od L B' xs v d :=
  { g with ex := ex_hid2 g.ex e, src := S, hod := e _ _ (by rw [hid_ne g.n]; exact g.hod), hds := DVs.mono (exS_hid g.la e) _ _ g.hds, kn := g.kn.draw e S, hv := DV.mono (exS_hid g.la e) _ _ g.hv }
theorem BG.le (g : BG K H H' a od L B xs v d) (h : B ≤ B') : BG K H H' a od L B' xs v d := { g with src := g.src.le h }
end
theorem go_cons {te : TE} {tr : TA} {σ : L2.St} {H : Hp} {Q : List V → Hp → Prop} (h : te σ H fun x H1 => tr σ H1 fun xs H2 => Q (x :: xs) H2) : tCons te tr σ H Q := h
theorem q_asgW {te : TE} {i : Nat} {tz : TS} {D : Ends} {σ : L2.St} {H : Hp} (h : te σ H fun x H1 => tz D (σ.set i (some x)) H1) : tSeq (tAsg te (gName i)) tz D σ H := h
theorem nat_of {i : Int} (h : 0 ≤ i) : ∃ n : Nat, i = (n : Int) := ⟨i.toNat, (Int.toNat_of_nonneg h).symm⟩
theorem KnownL.upd {L : Addr → Prop} {H : Hp} {l : Addr} {o : HO} (h : KnownL L H) : KnownL L (L2.upd H l o) := fun b hb => by
  by_cases z : b = l
  · rw [z]
    exact ⟨o, upd_same⟩
  · obtain ⟨u, hu⟩ := h b hb
    exact ⟨u, by rw [upd_ne z]; exact hu⟩
theorem or_go {t u : TT} {σ : L2.St} {H : Hp} {Q : Bool → Hp → Prop} {b : Bool} (h : EvT t σ H b) (k1 : b = true → ∀ H1, Ex H H1 → Q true H1) (k2 : b = false → ∀ H1, Ex H H1 → u σ H1 Q) : tOr t u σ H Q := h H (Ex.refl H) _ fun H1 e1 => by
  cases b with
  | true => exact k1 rfl H1 e1
  | false => exact k2 rfl H1 e1
section
variable {P : Program} {w : World} {K : PySem.W.Frag} {mg : Str → Option Value} {base : Heap}
abbrev NBent : List Str := ["source", "thing", "odd", "at", "way", "parts"]
theorem scBent : FnScope NBent ["source", "thing"] (defScope sBent) := ⟨rfl, rfl, rfl, by decide +kernel, rfl, by decide +kernel, by decide +kernel⟩
def spNever : Sp := fun _ _ _ _ => False
def spBent (K : PySem.W.Frag) (n : Nat) : Sp := fun vs H Q _ => ∃ (a : Addr) (v : V) (d : PyData) (B : Int) (L : Addr → Prop) (m w : Nat), vs = [.ref a, v] ∧ SrcAt H a B ∧ B + 10 * n ≤ 900000 ∧ L a ∧ KnownL L H ∧ DV K (hidS H L) v d ∧ Fit m w n d ∧ 3 ≤ m ∧ m ≤ 900 ∧
  ∀ v2 d2 H2, Ex (hid H a) H2 → SrcAt H2 a (B + 10 * n + 5) → DV K (hidS H2 L) v2 d2 → Fit (m + 1) (2 * w + 100) (n + 2) d2 → Q v2 H2
theorem ok_never {f : Addr} {fd : FuncData} : FnOk P w K mg base CX0 1 f fd ["source", "thing"] spNever := ⟨fun _ _ _ _ h => h.elim, fun _ _ _ _ _ _ _ _ _ _ _ _ _ h => h.elim⟩
theorem ok_bent {f : Addr} {fd : FuncData} {k n : Nat} {sp0 : Sp} (F : Fun K "_law_bent" "_law_bent" sBent f fd) (B : Bn mg) (cD : Cl P w K mg base 1 "_law_draw" ["source", "bound"] spDraw) (c0 : Cl P w K mg base (k + 1) "_law_bent" ["source", "thing"] sp0) (hsp : n = 0 ∨ ∃ n', n = n' + 1 ∧ sp0 = spBent K n') : FnOk P w K mg base CX0 (k + 2) f fd ["source", "thing"] (spBent K n) := by
  refine F.ok scBent (fun vs H Q E h => ?_) (fun cdv A outer s H vs Q E hr h => ?_)
  · obtain ⟨a, v, d, B, L, m, w, rfl, _⟩ := h
    rfl
  · obtain ⟨a, v, d, B0, L, m, wt, rfl, hS, hB, hLa, hL, hd, hf, hm3, hm, q⟩ := h
    have nd := scBent.nd
    refine ⟨_, pss_cons (ps_set (i := 2) nd rfl (Or.inl rfl) (pe_lst (pa_cons pe_non (pa_cons pe_int (pa_cons pe_int (pa_cons pe_bl (pa_cons pe_str (pa_cons pe_str (pa_cons pe_str (pa_cons pe_str (pa_cons pe_str (pa_cons pe_str (pa_cons pe_str (pa_cons (pe_tup pa_nil) (pa_cons (pe_lst pa_nil) (pa_cons pe_dnewK (pa_cons (pe_tup (pa_cons pe_str pa_nil)) (pa_cons (pe_tup (pa_cons pe_str (pa_cons pe_str (pa_cons pe_str pa_nil)))) pa_nil))))))))))))))))))
      (pss_cons (ps_set (i := 2) nd rfl (Or.inl rfl) (pe_op op_cat (pv 2) (pe_lst (pa_cons (pe_lst (pa_cons pe_str (pa_cons pe_str pa_nil))) (pa_cons (pe_tup (pa_cons pe_str (pa_cons pe_int pa_nil))) (pa_cons (pe_tup (pa_cons pe_str (pa_cons pe_str pa_nil))) (pa_cons (pe_tup (pa_cons pe_str (pa_cons pe_str pa_nil))) (pa_cons (pe_tup (pa_cons pe_str (pa_cons pe_str pa_nil))) (pa_cons pe_str (pa_cons (pe_tup (pa_cons pe_str (pa_cons pe_str pa_nil))) pa_nil))))))))))
      (pss_cons (ps_expr (pe_bm PySem.F.plainAttrs_list PySem.F.slot_list_append PySem.F.type_list_append mt_append (pv 2) (pa_cons (pe_tup (pa_cons pe_str (pa_cons (pe_lst (pa_cons pe_str pa_nil)) pa_nil))) pa_nil)))
      (pss_cons (ps_if (PW.pt (pw_or (pt_not (pt_val (pe_callB call_isiT (by rfl) B.isinstance bt_isinstance (pa_cons (pv 1) (pa_cons (pe_tup (pa_cons (pe_bltn (v := .ty "list") (by rfl) B.list bt_list rfl) (pa_cons (pe_bltn (v := .ty "tuple") (by rfl) B.tuple bt_tuple rfl) pa_nil))) pa_nil)))))
          (pw_or (pt_cmpR op_eq (pe_callB call_len_seq (by rfl) B.len bt_len (pa_cons (pv 1) pa_nil)) pe_int (nomark _)) (pw_or1 (pt_cmpR op_eq (pe_cl cD hr (pa_cons (pv 0) (pa_cons pe_int pa_nil)) (by omega)) pe_int (nomark _))))))
        (pss_one (ps_ret (pe_ix ix_list (pv 2) (pe_cl cD hr (pa_cons (pv 0) (pa_cons pe_int pa_nil)) (by omega)) (fun _ _ => rfl)))) pss_nil)
      (pss_cons (ps_par (i := 3) (j := 4) (by rfl) nd rfl rfl (by decide) rfl rfl (pa_cons (pe_cl cD hr (pa_cons (pv 0) (pa_cons (pe_callB call_len_seq (by rfl) B.len bt_len (pa_cons (pv 1) pa_nil)) pa_nil)) (by omega)) (pa_cons (pe_cl cD hr (pa_cons (pv 0) (pa_cons pe_int pa_nil)) (by omega)) pa_nil)) (by rfl))
      (pss_cons (ps_set (i := 5) nd rfl (Or.inl rfl) (pe_callTy call_list_of (by rfl) B.list bt_list (pa_cons (pv 1) pa_nil)))
      (pss_cut (ps_if (pt_cmpR op_lt (pv 4) pe_int (nomark _)) (pss_one (ps_asg (pe_cl c0 hr (pa_cons (pv 0) (pa_cons (pe_ix (r := rIxL K) ix_list (pv 5) (pv 3) (fun _ _ => rfl)) pa_nil)) (Nat.le_refl _)) (pg_sub (pv 5) (pv 3) set_list)))
        (pss_one (ps_if (pt_cmpR op_eq (pv 4) pe_int (nomark _)) (pss_one (ps_expr (pe_bm PySem.F.plainAttrs_list PySem.F.slot_list_pop PySem.F.type_list_pop mt_popAt (pv 5) (pa_cons (pv 3) pa_nil))))
        (pss_one (ps_if (pt_cmpR op_eq (pv 4) pe_int (nomark _)) (pss_one (ps_expr (pe_bm PySem.F.plainAttrs_list PySem.F.slot_list_insert PySem.F.type_list_insert mt_insert (pv 5) (pa_cons (pv 3) (pa_cons (pe_ix ix_list (pv 2) (pe_cl cD hr (pa_cons (pv 0) (pa_cons pe_int pa_nil)) (by omega)) (fun _ _ => rfl)) pa_nil)))))
          (pss_one (ps_expr (pe_bm PySem.F.plainAttrs_list PySem.F.slot_list_append PySem.F.type_list_append mt_append (pv 5) (pa_cons (pe_ix (r := rIxL K) ix_list (pv 5) (pv 3) (fun _ _ => rfl)) pa_nil)))))))))
      (pss_one (ps_ret (pe_ifExp (pt_val (pe_callB call_isi (by rfl) B.isinstance bt_isinstance (pa_cons (pv 1) (pa_cons (pe_bltn (v := .ty "tuple") (by rfl) B.tuple bt_tuple rfl) pa_nil)))) (pe_callTy call_tuple_of (by rfl) B.tuple bt_tuple (pa_cons (pv 5) pa_nil)) (pv 5)))))))))), ?_⟩
    obtain ⟨xsa, ha⟩ := hS.is
    -- odd
    refine q_asgW (eo_lst (K := K) (L := L) (ds := oddD.take 16) (eds_cons (ed_c fun _ => .non) (eds_cons (ed_c fun _ => .int 0) (eds_cons (ed_c fun _ => .int 1) (eds_cons (ed_c fun _ => .bl true) (eds_cons (ed_c fun _ => .str "") (eds_cons (ed_c fun _ => .str "a") (eds_cons (ed_c fun _ => .str "A") (eds_cons (ed_c fun _ => .str "abcde") (eds_cons (ed_c fun _ => .str "hit") (eds_cons (ed_c fun _ => .str "Miss") (eds_cons (ed_c fun _ => .str "a b")
      (eds_cons (ed_tup hL eds_nil (by decide)) (eds_cons (ed_lst hL eds_nil (by decide)) (eds_cons (ed_dnew hL) (eds_cons (ed_tup hL (eds_cons (ed_c fun _ => .str "hit") eds_nil) (by decide)) (eds_cons (ed_tup hL (eds_cons (ed_c fun _ => .str "hit") (eds_cons (ed_c fun _ => .str "a") (eds_cons (ed_c fun _ => .str "b") eds_nil))) (by decide)) eds_nil)))))))))))))))) (by decide) H (Ex.refl H) _ fun o1 xs1 H1 ho1 e1 hx1 hd1 => ?_)
    have hL1 := hL.mono e1
    refine q_asgW (eo_catV (K := K) (L := L) (ev_var rfl) hx1 hd1 (eo_lst (K := K) (ds := (oddD.drop 16).take 7) (eds_cons (ed_lst hL1 (eds_cons (ed_c fun _ => .str "miss") (eds_cons (ed_c fun _ => .str "a") eds_nil)) (by decide)) (eds_cons (ed_tup hL1 (eds_cons (ed_c fun _ => .str "miss") (eds_cons (ed_c fun _ => .int 1) eds_nil)) (by decide)) (eds_cons (ed_tup hL1 (eds_cons (ed_c fun _ => .str "out") (eds_cons (ed_c fun _ => .str "a") eds_nil)) (by decide))
      (eds_cons (ed_tup hL1 (eds_cons (ed_c fun _ => .str "hit") (eds_cons (ed_c fun _ => .str "`") eds_nil)) (by decide)) (eds_cons (ed_tup hL1 (eds_cons (ed_c fun _ => .str "miss") (eds_cons (ed_c fun _ => .str "{") eds_nil)) (by decide)) (eds_cons (ed_c fun _ => .str "a1") (eds_cons (ed_tup hL1 (eds_cons (ed_c fun _ => .str "miss") (eds_cons (ed_c fun _ => .str "") eds_nil)) (by decide)) eds_nil))))))) (by decide)) (by decide) H1 (Ex.refl H1) _ fun od xs2 H2 hod e2 hx2 hd2 => ?_)
    have hL2 := hL1.mono e2
    have hL2' := hL2.add hx2
    refine ⟨.ref od, rfl, .inl ⟨rfl, _, sq_of hx2⟩, ?_⟩
    refine go_cons (ed_tup (K := K) (L := addL L od) (ds := [.str "hit", .list [.str "a"]]) hL2' (eds_cons (ed_c fun _ => .str "hit") (eds_cons (ed_lst hL2' (eds_cons (ed_c fun _ => .str "a") eds_nil) (by decide)) eds_nil)) (by decide) H2 (Ex.refl H2) _ fun v3 H3 e3 hv3 => ?_)
    have fod : H od = none := fresh_back e1 hod
    have nod : od ≠ a := (ne_of_none ha fod).symm
    have l2 := dvs_len hd2
    refine ⟨od, xs2, v3, rfl, rfl, e3 _ _ hx2, sz_lt (by rw [l2]; decide), ?_⟩
    have hLo : addL L od od := .inr rfl
    have k4 : Ex H (upd H3 od (.lst (xs2 ++ [v3]))) := Ex.mut ((e1.trans e2).trans e3) fod
    have g0 : BG K H (upd H3 od (.lst (xs2 ++ [v3]))) a od (addL L od) B0 (xs2 ++ [v3]) v d := {
      ex := hidE k4 a, src := hS.mono k4, hod := upd_same, hds := DVs.mono (exS_mut hLo) _ _ (dvs_app (DVs.mono (exS e3) _ _ hd2) (.cons hv3 .nil))
      kn := (hL.mono k4).add upd_same, hv := DV.mono (exS_new k4 fod) _ _ hd, la := .inl hLa, n := nod }
    have hxl : (xs2 ++ [v3]).length = 24 := dvs_len g0.hds
    generalize upd H3 od _ = H4 at g0 ⊢
    generalize xs2 ++ [v3] = xo at g0 hxl
    have Lsub : ∀ b, L b → addL L od b := fun _ h => .inl h
    -- an odd thing
    have ret : ∀ (D' : Ends) (H' : Hp), D'.rt = Q → BG K H H' a od (addL L od) (B0 + 1) xo v d → ∀ s3 s4 s5 : Option V, tRet (tOp (rIxL K) (tVar 2) (tCall spDraw [] E0 (tCons (tVar 0) (tCons (tC (.int 24)) tNil)))) D' [some (.ref a), some v, some (.ref od), s3, s4, s5] H' := fun D' H' hD g s3 s4 s5 => by
      refine ⟨.ref od, rfl, ?_⟩
      refine w_draw rfl ev_c (by decide) (by decide) g.src (by omega) fun i H5 i0 i1 e5 S5 => ?_
      have g5 := g.draw e5 S5
      have hi : i.toNat < xo.length := by omega
      have hat : xo[i.toNat]? = some xo[i.toNat] := List.getElem?_eq_getElem hi
      obtain ⟨dd, hd1, hd2⟩ := dvs_at g5.hds hat
      refine ⟨od, xo, i, xo[i.toNat], rfl, rfl, sq_of g5.hod, at_of (j := i.toNat) (by omega) hat, ?_⟩
      rw [hD]
      exact q _ dd H5 g5.ex (g5.src.le (by omega)) (DV.mono (exS_sub Lsub) _ _ hd2) (odd_fit hd1 (by omega) (by omega) (by omega))
    refine or_go (et_not (et_B (ev_isiLTD (ev_var rfl) (DV.mono ex_hidS _ _ g0.hv)))) (fun _ H5 e5 => ret _ H5 rfl ((g0.mono e5).le (by omega)) _ _ _) (fun hb H5 e5 => ?_)
    have g5 := g0.mono e5
    have hseq : ∃ (b : Bool) (ds : List PyData), d = seqD b ds := by
      rw [Bool.not_eq_false'] at hb
      cases d with
      | list ds => exact ⟨true, ds, rfl⟩
      | tuple ds => exact ⟨false, ds, rfl⟩
      | _ => cases hb
    obtain ⟨bq, ds, rfl⟩ := hseq
    obtain ⟨t, xs, rfl, hsqS, hdx⟩ : ∃ (t : Addr) (xs : List V), v = .ref t ∧ (SqL K (hidS H5 (addL L od)) t xs ∨ SqT K (hidS H5 (addL L od)) t xs) ∧ DVs K (hidS H5 (addL L od)) xs ds := by
      have h := g5.hv
      cases bq with
      | true =>
        cases (show DV K _ v (.list ds) from h) with
        | lst h1 h2 => exact ⟨_, _, rfl, .inl (sq_of h1), h2⟩
      | false =>
        cases (show DV K _ v (.tuple ds) from h) with
        | tup h1 h2 => exact ⟨_, _, rfl, .inr h1, h2⟩
    have hsq : SqL K H5 t xs ∨ SqT K H5 t xs := hsqS.imp (ex_l ex_hidS) (ex_t ex_hidS)
    have hxs := dvs_len hdx
    obtain ⟨fds, fall, fwt, fdp⟩ : ds.length ≤ m ∧ (∀ d ∈ ds, okM m d = true) ∧ PyData.weightAll ds ≤ wt ∧ PyData.depthAll ds + 1 ≤ n := by
      obtain ⟨f1, f2, f3⟩ := hf
      cases bq with
      | true =>
        rw [show seqD true ds = .list ds from rfl, okM, Bool.and_eq_true, decide_eq_true_eq] at f1
        exact ⟨f1.1, (okAllM_iff m ds).mp f1.2, f2, f3⟩
      | false =>
        rw [show seqD false ds = .tuple ds from rfl, okM, Bool.and_eq_true, decide_eq_true_eq] at f1
        exact ⟨f1.1, (okAllM_iff m ds).mp f1.2, f2, f3⟩
    refine or_go (et_test (ev_op (ev_lenE (ev_var rfl) hsq) ev_c (rv_eq rfl))) (fun _ H6 e6 => ret _ H6 rfl ((g5.mono e6).le (by omega)) _ _ _) (fun hb2 H6 e6 => ?_)
    have dpos : 0 < ds.length := by
      rw [decide_eq_false_iff_not] at hb2
      rcases Nat.eq_zero_or_pos ds.length with z | z
      · exact (hb2 (by rw [hxs, z]; rfl)).elim
      · exact z
    have g6 := g5.mono e6
    refine w_draw rfl ev_c (by decide) (by decide) g6.src (by omega) fun r H7 r0 r1 e7 S7 => ⟨rfl, _, rfl, ite2 (fun _ => ret _ H7 rfl (g6.draw e7 S7) _ _ _) (fun _ => ?_)⟩
    have g7 := g6.draw e7 S7
    have x57 := (exS (L := addL L od) e6).trans (exS_hid g6.la e7)
    refine w_draw rfl (b := (ds.length : Int)) (ev_is (ev_lenE (ev_var rfl) (hsqS.imp (ex_l (x57.trans ex_hidS)) (ex_t (x57.trans ex_hidS)))) (by rw [hxs])) (by omega) (by omega) g7.src (by omega) fun j0 H8 j1 j2 e8 S8 => ?_
    have g8 := g7.draw e8 S8
    refine w_draw rfl (b := 6) ev_c (by decide) (by decide) g8.src (by omega) fun way H9 w0 w1 e9 S9 => ⟨_, _, rfl, ?_⟩
    have g9 := g8.draw e9 S9
    have x59 := (x57.trans (exS_hid g7.la e8)).trans (exS_hid g8.la e9)
    obtain ⟨j, rfl⟩ := nat_of j1
    have hj : j < ds.length := by omega
    -- parts
    refine ⟨.ref t, rfl, t, xs, rfl, hsqS.imp (ex_l (x59.trans ex_hidS)) (ex_t (x59.trans ex_hidS)), fun l hl => ?_⟩
    have xl := Ex.new (o := .lst xs) hl
    have xL := exS_new (L := addL L od) xl hl
    have gA : BG K H (upd H9 l (.lst xs)) a od (addL (addL L od) l) (B0 + 1 + 1 + 1) xo (.ref t) (seqD bq ds) := {
      ex := g9.ex.trans xl, src := g9.src.mono xl, hod := xl _ _ g9.hod, hds := DVs.mono xL _ _ g9.hds, kn := (g9.kn.mono xl).add upd_same, hv := DV.mono xL _ _ g9.hv, la := .inl g9.la, n := g9.n }
    have hdA : DVs K (hidS (upd H9 l (.lst xs)) (addL (addL L od) l)) xs ds := DVs.mono (x59.trans xL) _ _ hdx
    have hlA : upd H9 l (.lst xs) l = some (.lst xs) := upd_same
    obtain ⟨xs9, ha9⟩ := g9.src.is
    have nla : l ≠ a := (ne_of_none ha9 hl).symm
    have nlo : l ≠ od := (ne_of_none g9.hod hl).symm
    have fl : H l = none := fresh_hid g9.ex ha9 hl
    have nLl : ¬ L l := g9.kn.fresh hl ∘ .inl
    have Lsub2 : ∀ b, L b → addL (addL L od) l b := fun _ h => .inl (.inl h)
    have hLl : addL (addL L od) l l := .inr rfl
    generalize upd H9 l _ = HA at gA hdA hlA ⊢
    have hdj : ds[j]? = some ds[j] := List.getElem?_eq_getElem hj
    obtain ⟨vj, hvj, hDj⟩ := dvs_at' hdA hdj
    have okj := fall _ (List.mem_of_getElem? hdj)
    have dpj := depth_of (List.mem_of_getElem? hdj)
    have wtj := weight_at hdj
    generalize hdv : ds[j] = dj at hdj hDj okj dpj wtj
    have hxj : j < xs.length := by omega
    have alldp : ∀ d ∈ ds, PyData.depth d + 1 ≤ n := fun d h => by have := depth_of h; omega
    have allok : ∀ d ∈ ds, okM (m + 1) d = true := fun d h => okM_mono (by omega) d (fall d h)
    refine ⟨fun σ' H'' => σ' = [some (.ref a), some (.ref t), some (.ref od), some (.int (j : Int)), some (.int way), some (.ref l)] ∧ ∃ (ys : List V) (es : List PyData), H'' l = some (.lst ys) ∧ DVs K (hidS H'' (addL (addL L od) l)) ys es ∧ es.length ≤ m + 1 ∧ (∀ d ∈ es, okM (m + 1) d = true) ∧ PyData.weightAll es ≤ 2 * wt + 100 ∧ (∀ d ∈ es, PyData.depth d + 1 ≤ n + 2) ∧ Ex (hid H a) H'' ∧ SrcAt H'' a (B0 + 10 * n + 5) ∧ DV K (hidS H'' (addL (addL L od) l)) (.ref t) (seqD bq ds) ∧ KnownL (addL (addL L od) l) H'', ?_, fun σ' H'' hM => ?_⟩
    · refine s_if (b := decide (way < 3)) (et_test (ev_op (ev_var rfl) ev_c rv_I0)) (fun hb H1 e1 => ?_) (fun hb H1 e1 => ?_)
      · -- a change below
        rcases hsp with z | ⟨n', hn, z⟩
        · omega
        subst z
        have g1 := gA.mono e1
        refine ⟨.ref a, rfl, .ref l, rfl, .int (j : Int), rfl, l, xs, (j : Int), vj, rfl, rfl, sq_of (e1 _ _ hlA), atI_nat hvj, a, vj, dj, _, addL (addL L od) l, m, PyData.weight dj, rfl, g1.src, by omega, g1.la, g1.kn, DV.mono (exS e1) _ _ hDj, ⟨okj, Nat.le_refl _, by omega⟩, hm3, hm, fun v2 d2 H2 e2 S2 D2 F2 => ?_⟩
        have g2 := g1.draw e2 S2
        have hl2 : H2 l = some (.lst xs) := e2 _ _ (by rw [hid_ne nla]; exact e1 _ _ hlA)
        have hd2 : DVs K (hidS H2 (addL (addL L od) l)) xs ds := DVs.mono ((exS e1).trans (exS_hid g1.la e2)) _ _ hdA
        refine ⟨.ref l, rfl, .int (j : Int), rfl, l, xs, (j : Int), j, rfl, rfl, hl2, ixN_nat hxj, rfl, xs.set j v2, ds.set j d2, upd_same, DVs.mono (exS_mut hLl) _ _ (dvs_set j hd2 D2), by rw [List.length_set]; omega, fun d hd => ?_, ?_, fun d hd => ?_, Ex.mut g2.ex (hid_none fl), (g2.src.upd nla.symm).le (by omega), DV.mono (exS_mut hLl) _ _ g2.hv, g2.kn.upd⟩
        · rcases List.mem_or_eq_of_mem_set hd with z | z
          · exact allok d z
          · rw [z]; exact F2.ok
        · have h1 := weight_set (e := d2) hdj
          have h2 := F2.wt
          omega
        · rcases List.mem_or_eq_of_mem_set hd with z | z
          · have := alldp d z
            omega
          · rw [z]
            have := F2.dp
            omega
      · have g1 := gA.mono e1
        have hl1 := e1 _ _ hlA
        have hd1 : DVs K (hidS H1 (addL (addL L od) l)) xs ds := DVs.mono (exS e1) _ _ hdA
        have sj : seqIndex? (j : Int) xs.length = some j := by
          have z := seq_nat (g := (j : Int)) (n := xs.length) (by omega) (by omega)
          rw [z, Int.toNat_natCast]
        refine s_if (b := decide (V.int way = V.int 3)) (et_test (ev_op (ev_var rfl) ev_c (rv_eq rfl))) (fun _ H2 e2 => ?_) (fun _ H2 e2 => ?_)
        · have g2 := g1.mono e2
          refine ⟨.ref l, rfl, .inl ⟨rfl, _, sq_of (e2 _ _ hl1)⟩, .int (j : Int), rfl, l, xs, (j : Int), j, vj, rfl, rfl, e2 _ _ hl1, by omega, by omega, sj, hvj, rfl, xs.eraseIdx j, ds.eraseIdx j, upd_same, DVs.mono (exS_mut hLl) _ _ (dvs_erase j (DVs.mono (exS e2) _ _ hd1)), ?_, fun d hd => allok d (List.mem_of_mem_eraseIdx hd), by omega, fun d hd => by have := alldp d (List.mem_of_mem_eraseIdx hd); omega, Ex.mut g2.ex (hid_none fl), (g2.src.upd nla.symm).le (by omega), DV.mono (exS_mut hLl) _ _ g2.hv, g2.kn.upd⟩
          have := erase_len ds j hj
          omega
        · refine s_if (b := decide (V.int way = V.int 4)) (et_test (ev_op (ev_var rfl) ev_c (rv_eq rfl))) (fun _ H3 e3 => ?_) (fun _ H3 e3 => ?_)
          · have g3 := g1.mono (e2.trans e3)
            have hl3 := (e2.trans e3) _ _ hl1
            refine ⟨.ref l, rfl, .inl ⟨rfl, _, sq_of hl3⟩, .int (j : Int), rfl, .ref od, rfl, ?_⟩
            refine w_draw rfl ev_c (by decide) (by decide) g3.src (by omega) fun i H4 i0 i1 e4 S4 => ?_
            have g4 := g3.draw e4 S4
            have hi : i.toNat < xo.length := by omega
            have hat : xo[i.toNat]? = some xo[i.toNat] := List.getElem?_eq_getElem hi
            obtain ⟨dd, hdd, hDd⟩ := dvs_at g4.hds hat
            have fo := odd_fit hdd (m := m + 1) (w := 20) (n := 2) (by omega) (by omega) (by omega)
            have hd4 : DVs K (hidS H4 (addL (addL L od) l)) xs ds := DVs.mono ((exS (e2.trans e3)).trans (exS_hid g3.la e4)) _ _ hd1
            have hl4 : H4 l = some (.lst xs) := e4 _ _ (by rw [hid_ne nla]; exact hl3)
            refine ⟨od, xo, i, xo[i.toNat], rfl, rfl, sq_of g4.hod, at_of (j := i.toNat) (by omega) hat, l, xs, (j : Int), xo[i.toNat], rfl, rfl, hl4, sz_lt (by omega), by omega, by omega, rfl, xs.take j ++ [xo[i.toNat]] ++ xs.drop j, ds.take j ++ [dd] ++ ds.drop j, upd_same, DVs.mono (exS_mut hLl) _ _ (dvs_app (dvs_app (dvs_take j hd4) (.cons hDd .nil)) (dvs_drop j hd4)), ?_, fun d hd => ?_, ?_, fun d hd => ?_, Ex.mut g4.ex (hid_none fl), (g4.src.upd nla.symm).le (by omega), DV.mono (exS_mut hLl) _ _ g4.hv, g4.kn.upd⟩
            · rw [List.length_append, List.length_append, List.length_take, List.length_drop]
              show min j ds.length + 1 + (ds.length - j) ≤ m + 1
              omega
            · rcases List.mem_append.mp hd with z | z
              · rcases List.mem_append.mp z with z | z
                · exact allok d (List.mem_of_mem_take z)
                · rw [List.mem_singleton.mp z]; exact fo.ok
              · exact allok d (List.mem_of_mem_drop z)
            · have h1 : PyData.weightAll (ds.take j) + PyData.weightAll (ds.drop j) = PyData.weightAll ds := by rw [← weight_app, List.take_append_drop]
              have h2 := fo.wt
              have h3 : PyData.weightAll [dd] = PyData.weight dd + 1 + 0 := rfl
              rw [weight_app, weight_app]
              omega
            · rcases List.mem_append.mp hd with z | z
              · rcases List.mem_append.mp z with z | z
                · have := alldp d (List.mem_of_mem_take z)
                  omega
                · rw [List.mem_singleton.mp z]
                  have := fo.dp
                  omega
              · have := alldp d (List.mem_of_mem_drop z)
                omega
          · have g3 := g1.mono (e2.trans e3)
            have hl3 := (e2.trans e3) _ _ hl1
            refine ⟨.ref l, rfl, .inl ⟨rfl, _, sq_of hl3⟩, .ref l, rfl, .int (j : Int), rfl, l, xs, (j : Int), vj, rfl, rfl, sq_of hl3, atI_nat hvj, l, xs, vj, rfl, rfl, hl3, sz_lt (by omega), rfl, xs ++ [vj], ds ++ [dj], upd_same, DVs.mono (exS_mut hLl) _ _ (dvs_app (DVs.mono (exS (e2.trans e3)) _ _ hd1) (.cons (DV.mono (exS (e1.trans (e2.trans e3))) _ _ hDj) .nil)), ?_, fun d hd => ?_, ?_, fun d hd => ?_, Ex.mut g3.ex (hid_none fl), (g3.src.upd nla.symm).le (by omega), DV.mono (exS_mut hLl) _ _ g3.hv, g3.kn.upd⟩
            · rw [List.length_append]
              show ds.length + 1 ≤ m + 1
              omega
            · rcases List.mem_append.mp hd with z | z
              · exact allok d z
              · rw [List.mem_singleton.mp z]; exact okM_mono (by omega) _ okj
            · have h3 : PyData.weightAll [dj] = PyData.weight dj + 1 + 0 := rfl
              rw [weight_app]
              omega
            · rcases List.mem_append.mp hd with z | z
              · have := alldp d z
                omega
              · rw [List.mem_singleton.mp z]
                omega
    · obtain ⟨rfl, ys, es, h1, h2, h3, h4, h5, h6, h7, h8, h9, hk⟩ := hM
      have hfit : Fit (m + 1) (2 * wt + 100) (n + 2) (seqD bq es) := fit_seq h3 h4 h5 h6 (by omega)
      refine (et_B (ev_isiD (ev_var rfl) (DV.mono ex_hidS _ _ h9) (kit_tup _))) H'' (Ex.refl _) _ fun H1 e1 => ?_
      cases bq with
      | true =>
        exact ⟨.ref l, rfl, q (.ref l) (.list es) H1 (h7.trans e1) (h8.mono e1) (.lst (hidS_at nLl (e1 _ _ h1)) (DVs.mono ((exS_sub Lsub2).trans (exS e1)) _ _ h2)) hfit⟩
      | false =>
        refine ⟨.ref l, rfl, l, ys, rfl, .inl ⟨sq_of (e1 _ _ h1), fun p hp => ?_⟩⟩
        have xp := Ex.new (o := .tup ys) hp
        have nLp : ¬ L p := fun z => (hk.mono e1).fresh hp (Lsub2 _ z)
        exact q (.ref p) (.tuple es) _ (h7.trans (e1.trans xp)) (h8.mono (e1.trans xp)) (.tup (.inl (.inl (hidS_at nLp upd_same))) (DVs.mono ((exS_sub Lsub2).trans (exS (e1.trans xp))) _ _ h2)) hfit
end
end KB

set_option Elab.async false
set_option linter.all false
set_option maxRecDepth 100000
set_option maxHeartbeats 8000000
/-! A8: repr at values of any kind. -/
namespace KB
open PySem PySem.Spec PyProof.Rows L2 Evl
/-- the module table's place is written out, or told of as a thing that nobody writes: so no list of one's own stands there -/
def Sys (K : PySem.W.Frag) (H : Hp) : Prop := (∃ o u, H sysModules = some (.frz o u)) ∨ ∃ o, K.lookup sysModules = some o
theorem Sys.mono {K : PySem.W.Frag} {H H' : Hp} (e : Ex H H') (h : Sys K H) : Sys K H' := h.imp (fun ⟨o, u, z⟩ => ⟨o, u, e _ _ z⟩) id
section
variable {X : Cx} {pins : List (Addr × Obj)} {σ : L2.St} {H : Hp} {s : Shared}
theorem Sys.ne {a : Addr} {xs : List V} (h : Sys X.K H) (I : Inv X pins σ H s) (hl : H a = some (.lst xs)) : a ≠ sysModules := fun z => by
  rcases h with ⟨o, u, q⟩ | ⟨o, q⟩
  · rw [z, q] at hl
    cases hl
  · have := (I.bs _ _ (I.mod.kin _ _ q)).2
    rw [z, this] at hl
    cases hl
theorem reads_pairs {P : Program} {w : World} {h : Heap} : ∀ (kvs : List (Str × Str)) (es : List DictEntry) (vs : List (Key × Value)), KV (kvs.map fun p => (Sum.inr p.1, V.str p.2)) vs → Pairs (mixKind P w) es vs → ReadsAll h (es.map (·.key)) (kvs.map fun p => PyData.str p.1) [] ∧ ReadsAll h (es.map (·.val)) (kvs.map fun p => PyData.str p.2) []
  | [], _, _, r, p => by
    cases r
    cases p
    exact ⟨.nil, .nil⟩
  | k :: kvs, _, _, r, p => by
    cases r with
    | cons r1 r2 =>
      cases p with
      | @cons e kv es2 kvs2 p1 p2 p3 =>
        obtain ⟨q1, q2⟩ := reads_pairs kvs _ _ r2 p3
        obtain ⟨e1, e2⟩ := r1
        rw [← e1] at p1
        have hk : ∃ t, e.key = .str k.1 t := by
          rcases keyIs_shape (show keyIs (Sum.inr k.1) e.key = true from p1) with ⟨i, t, z, _⟩ | ⟨x, t, z, z2⟩
          · cases z
          · injection z with z
            rw [z]
            exact ⟨t, z2⟩
        obtain ⟨t, hk⟩ := hk
        obtain ⟨t2, hv⟩ := e2
        refine ⟨?_, ?_⟩
        · rw [List.map_cons, List.map_cons, hk]
          exact ReadsAll.cons (Reads.str _ _) q1
        · rw [List.map_cons, List.map_cons, p2, hv]
          exact ReadsAll.cons (Reads.str _ _) q2
mutual
theorem DV.reads (hm : Sys X.K H) (I : Inv X pins σ H s) : ∀ (d : PyData) (v : V) (u : Value), DV X.K H v d → RelV v u → ∃ as, Reads s.heap u d as ∧ sysModules ∉ as
  | .none, _, _, h, r => by
    cases h
    cases r
    exact ⟨_, Reads.none, by simp⟩
  | .bool b, _, _, h, r => by
    cases h
    cases r
    exact ⟨_, Reads.bool b, by simp⟩
  | .int i, _, _, h, r => by
    cases h
    obtain ⟨t, rfl⟩ := r
    exact ⟨_, Reads.int i t, by simp⟩
  | .str x, _, _, h, r => by
    cases h
    obtain ⟨t, rfl⟩ := r
    exact ⟨_, Reads.str x t, by simp⟩
  | .list ds, _, _, h, r => by
    cases h with
    | lst hs ha =>
      cases r
      obtain ⟨its, rv, ⟨o, n, ho, hc, _, hd⟩, _⟩ := I.list (sq_of hs)
      obtain ⟨as, hr, hn⟩ := DVs.reads hm I ds _ its ha rv
      refine ⟨_, Reads.list ho hc hd hr, fun z => ?_⟩
      rcases List.mem_cons.mp z with z | z
      · exact hm.ne I hs z.symm
      · exact hn z
  | .tuple ds, _, _, h, r => by
    cases h with
    | tup hs ha =>
      cases r
      obtain ⟨its, rv, ⟨o, ho, hc, n, hd⟩, _⟩ := I.tuple hs
      obtain ⟨as, hr, hn⟩ := DVs.reads hm I ds _ its ha rv
      exact ⟨_, Reads.tuple ho hc hd hr, hn⟩
  | .dict _, _, _, h, r => by
    cases h with
    | dct h1 =>
      rename_i a kvs
      cases r
      obtain ⟨_, hsys, vs, rel, o, es, ep, ho, hx, hd, _, hp, _⟩ := (show ObjOk X.prog X.w H s.heap a (.dK (kvs.map fun p => (.inr p.1, V.str p.2))) from I.hok a _ h1)
      obtain ⟨q1, q2⟩ := reads_pairs (h := s.heap) kvs es.toList vs rel hp
      refine ⟨_, Reads.dict (kvs := kvs.map fun p => (PyData.str p.1, PyData.str p.2)) ho hx.1 hd (by rw [List.map_map]; exact q1) (by rw [List.map_map]; exact q2), fun z => ?_⟩
      have z' : sysModules = a := by simpa using z
      rw [← z'] at hsys
      simp at hsys
theorem DVs.reads (hm : Sys X.K H) (I : Inv X pins σ H s) : ∀ (ds : List PyData) (vs : List V) (us : List Value), DVs X.K H vs ds → Vals vs us → ∃ as, ReadsAll s.heap us ds as ∧ sysModules ∉ as
  | [], _, _, h, r => by
    cases h
    cases r
    exact ⟨_, ReadsAll.nil, by simp⟩
  | d :: ds, _, _, h, r => by
    cases h with
    | cons h1 h2 =>
      cases r with
      | cons r1 r2 =>
        obtain ⟨as, q1, n1⟩ := DV.reads hm I d _ _ h1 r1
        obtain ⟨bs, q2, n2⟩ := DVs.reads hm I ds _ _ h2 r2
        exact ⟨_, ReadsAll.cons q1 q2, fun z => (List.mem_append.mp z).elim n1 n2⟩
end
/-- any value told -/
def rReprV (K : PySem.W.Frag) : List V → Hp → VK → Prop := fun xs H Q => ∃ (v : V) (d : PyData), xs = [v] ∧ Sys K H ∧ DV K H v d ∧ d.showable = true ∧ d.depth ≤ 40 ∧ d.shown.length ≤ sizeLine ∧ Q (.str d.shown) H
theorem call_reprV {X : Cx} {k : Nat} (hr : Room k X.A) (hG : X.A.guards = some []) : CallR X (.builtin "repr") (rReprV X.K) := by
  intro pins s σ H xs us Q I r h
  obtain ⟨v, d, rfl, hm, hd, hs, hdep, hz, q⟩ := h
  have hu := hr.units
  have ref : ∀ a : Addr, us = [.ref a] → v = .ref a → wpAny (model X.prog X.w) X.A (call (.builtin "repr") us) (EP X pins σ Q) X.xe s := fun a e1 e2 => by
    subst e1 e2
    obtain ⟨as, hR, hn⟩ := DV.reads hm I d _ _ hd rfl
    refine PySem.repr_of_reads' (h₀ := s.heap) hR hs (fun _ => hn) hG (by omega) (fun _ _ z => z) (fun h' u tk hk => ?_) hz
    exact ⟨.str d.shown, H, I.kept hk, ⟨u, rfl⟩, q⟩
  cases hd with
  | non =>
    cases r with
    | cons r1 r2 =>
      cases r2
      cases r1
      exact PySem.P.repr_of_none ⟨.str _, H, I.tok _, ⟨_, rfl⟩, q⟩
  | bl b =>
    cases r with
    | cons r1 r2 =>
      cases r2
      cases r1
      refine PySem.P.repr_of_bool ⟨.str _, H, I.tok _, ⟨_, rfl⟩, ?_⟩
      cases b <;> exact q
  | int i =>
    cases r with
    | cons r1 r2 =>
      cases r2
      obtain ⟨t, rfl⟩ := r1
      exact PySem.P.repr_of_int (by simpa [PyData.showable] using hs) ⟨.str _, H, I.tok _, ⟨_, rfl⟩, q⟩
  | str x =>
    cases r with
    | cons r1 r2 =>
      cases r2
      obtain ⟨t, rfl⟩ := r1
      exact PySem.P.repr_of_str ⟨.str _, H, I.tok _, ⟨_, rfl⟩, q⟩ hz
  | lst h1 h2 => exact ref _ (Vals.ref1 r) rfl
  | tup h1 h2 => exact ref _ (Vals.ref1 r) rfl
  | dct h1 => exact ref _ (Vals.ref1 r) rfl
end
end KB

set_option Elab.async false
set_option linter.all false
set_option maxRecDepth 100000
set_option maxHeartbeats 8000000
/-! A9: what fits may be judged and told. -/
namespace KB
open PySem L2 Evl
theorem short_leaf {x : Str} (h : PyData.strOk x = true) : PyData.leavesShort 13 (.str x) = true := by
  unfold PyData.strOk at h
  rw [← Array.all_toList, List.all_eq_true] at h
  show (x.cps.toList.all fun c => decide (c < 16 ^ 8)) = true
  rw [List.all_eq_true]
  intro c hc
  have h1 := of_decide_eq_true (h c hc)
  have e : (16 : Nat) ^ 8 = 4294967296 := by decide
  exact decide_eq_true (by omega)
theorem short_kv : ∀ kvs : List (PyData × PyData), (kvs.all fun p => shortS p.1 && shortS p.2) = true → PyData.showableKv kvs = true ∧ PyData.leavesShortKv 13 kvs = true
  | [], _ => ⟨rfl, rfl⟩
  | (a, b) :: r, h => by
    rw [List.all_cons, Bool.and_eq_true, Bool.and_eq_true] at h
    obtain ⟨⟨h1, h2⟩, h3⟩ := h
    obtain ⟨i1, i2⟩ := short_kv r h3
    cases a with
    | str x =>
      cases b with
      | str y =>
        have x1 : PyData.strOk x = true := by
          have : (decide (x.length ≤ 10) && PyData.strOk x) = true := h1
          rw [Bool.and_eq_true] at this
          exact this.2
        have y1 : PyData.strOk y = true := by
          have : (decide (y.length ≤ 10) && PyData.strOk y) = true := h2
          rw [Bool.and_eq_true] at this
          exact this.2
        refine ⟨?_, ?_⟩
        · rw [PyData.showableKv, i1]
          rfl
        · rw [PyData.leavesShortKv, i2, short_leaf x1, short_leaf y1]
          rfl
      | _ => cases h2
    | _ => cases h1
mutual
theorem ok_tell {m : Nat} (hm : m ≤ 1000) : ∀ d : PyData, okM m d = true → smallD d = true ∧ PyData.showable d = true ∧ PyData.leavesShort 13 d = true
  | .none, _ => ⟨rfl, rfl, rfl⟩
  | .bool _, _ => ⟨rfl, rfl, rfl⟩
  | .int i, h => by
    rw [okM, decide_eq_true_eq] at h
    refine ⟨rfl, ?_, ?_⟩
    · show decide (i.natAbs.log2 < 1920) = true
      have := PySem.Flt.log2_lt_of (n := i.natAbs) (k := 1920) (by decide) (Nat.lt_of_lt_of_le h (by decide +kernel))
      exact decide_eq_true this
    · show decide ((PyData.shown (.int i)).length ≤ 13) = true
      exact decide_eq_true (PyData.shown_int_le (by omega))
  | .str x, h => by
    rw [okM, Bool.and_eq_true, decide_eq_true_eq] at h
    refine ⟨?_, rfl, short_leaf h.2⟩
    rw [smallD, Bool.and_eq_true, decide_eq_true_eq]
    exact ⟨by omega, h.2⟩
  | .list ds, h => by
    rw [okM, Bool.and_eq_true, decide_eq_true_eq] at h
    obtain ⟨h1, h2, h3⟩ := ok_tells hm ds h.2
    refine ⟨?_, h2, h3⟩
    rw [smallD, Bool.and_eq_true, decide_eq_true_eq]
    exact ⟨by omega, h1⟩
  | .tuple ds, h => by
    rw [okM, Bool.and_eq_true, decide_eq_true_eq] at h
    obtain ⟨h1, h2, h3⟩ := ok_tells hm ds h.2
    refine ⟨?_, h2, h3⟩
    rw [smallD, Bool.and_eq_true, decide_eq_true_eq]
    exact ⟨by omega, h1⟩
  | .dict kvs, h => by
    rw [okM, Bool.and_eq_true] at h
    obtain ⟨h1, h2⟩ := short_kv kvs h.2
    exact ⟨rfl, h1, h2⟩
theorem ok_tells {m : Nat} (hm : m ≤ 1000) : ∀ ds : List PyData, okAllM m ds = true → smallAll ds = true ∧ PyData.showableAll ds = true ∧ PyData.leavesShortAll 13 ds = true
  | [], _ => ⟨rfl, rfl, rfl⟩
  | d :: ds, h => by
    rw [okAllM, Bool.and_eq_true] at h
    obtain ⟨a1, a2, a3⟩ := ok_tell hm d h.1
    obtain ⟨b1, b2, b3⟩ := ok_tells hm ds h.2
    refine ⟨?_, ?_, ?_⟩
    · rw [smallAll, a1, b1]; rfl
    · rw [PyData.showableAll, a2, b2]; rfl
    · rw [PyData.leavesShortAll, a3, b3]; rfl
end
theorem Fit.tell {m w n : Nat} {d : PyData} (h : Fit m w n d) (hm : m ≤ 1000) (hw : w ≤ 100000) (hn : n ≤ 40) : smallD d = true ∧ d.showable = true ∧ d.depth ≤ 40 ∧ d.shown.length ≤ sizeLine := by
  obtain ⟨h1, h2, h3⟩ := ok_tell hm d h.ok
  refine ⟨h1, h2, by have := h.dp; omega, PyData.shown_fits (B := 13) (by decide) (by decide) h3 ?_⟩
  have := h.wt
  have e : (2 : Nat) ^ 20 = 1048576 := by decide
  omega
section
variable {K : PySem.W.Frag} {σ : L2.St} {H H1 H' : Hp} {ta tb : TE} {v : V} {d : PyData} {D : Ends} {Q : VK}
theorem ev_reprV {m w n : Nat} (hm0 : Sys K H) (ha : Ev ta σ H v) (hd : DV K H v d) (hf : Fit m w n d) (hm : m ≤ 1000) (hw : w ≤ 100000) (hn : n ≤ 40) : Ev (tCB (rReprV K) (tCons ta tNil)) σ H (.str d.shown) := fun H1 e Q q => ha H1 e _ fun H2 e2 => by
  obtain ⟨h1, h2, h3, h4⟩ := hf.tell hm hw hn
  exact ⟨v, d, rfl, hm0.mono (e.trans e2), DV.mono (e.trans e2) _ _ hd, h2, h3, h4, q H2 e2⟩
end
end KB

set_option Elab.async false
set_option linter.all false
set_option maxRecDepth 100000
set_option maxHeartbeats 8000000
/-! A9b: what the law does again and again. -/
namespace KB
open PySem L2 Evl
theorem pick_at {x y : Nat} {d : Int} (h0 : 0 ≤ d) (h1 : d < 2) : ∃ v : Nat, atI [V.int (x : Int), V.int (y : Int)] d = some (V.int (v : Int)) ∧ (v = x ∨ v = y) := by
  have : d = 0 ∨ d = 1 := by omega
  rcases this with rfl | rfl
  · exact ⟨x, rfl, .inl rfl⟩
  · exact ⟨y, rfl, .inr rfl⟩
section
variable {K : PySem.W.Frag} {σ : L2.St} {H H1 : Hp} {te tl : TE} {Q : VK}
/-- draw(source, [x, y][draw(source, 4) // 3]) -/
theorem w_pick2 {i : Nat} {p : Addr} {B : Int} {x y : Nat} (hs : σ[i]? = some (some (.ref p))) (S : SrcAt H p B) (hB : B ≤ 900000) (hx : 1 ≤ x ∧ x ≤ 1000) (hy : 1 ≤ y ∧ y ≤ 1000) (k : ∀ (n : Nat) H', (n < x ∨ n < y) → Ex (hid H p) H' → SrcAt H' p (B + 2) → Q (.int (n : Int)) H') :
    tCall spDraw [] E0 (tCons (tVar i) (tCons (tOp (rIxL K) (tLst (tCons (tC (.int (x : Int))) (tCons (tC (.int (y : Int))) tNil))) (tOp (rI CDiv fun i j => .int (i / j)) (tCall spDraw [] E0 (tCons (tVar i) (tCons (tC (.int 4)) tNil))) (tC (.int 3)))) tNil)) σ H Q := by
  refine ⟨.ref p, hs, by show 2 ≤ sizeLine; decide, fun la nla => ?_⟩
  have xa := Ex.new (o := .lst [V.int (x : Int), V.int (y : Int)]) nla
  obtain ⟨xs, hp⟩ := S.is
  have nla' : la ≠ p := (ne_of_none hp nla).symm
  refine w_draw hs ev_c (by decide) (by decide) (S.mono xa) (by omega) fun d Ha d0 d1 ea Sa => ⟨d, 3, rfl, rfl, ⟨by decide, by decide⟩, ?_⟩
  obtain ⟨v, hv, v1⟩ := pick_at (x := x) (y := y) (d := d / 3) (by omega) (by omega)
  refine ⟨la, [V.int (x : Int), V.int (y : Int)], d / 3, .int (v : Int), rfl, rfl, sq_of (ea _ _ (by rw [hid_ne nla']; exact upd_same)), hv, ?_⟩
  refine ⟨p, (v : Int), _, rfl, by omega, by omega, Sa, by omega, fun d2 H3 f0 f1 e3 S3 => ?_⟩
  obtain ⟨n, rfl⟩ := nat_of f0
  exact k n H3 (by omega) (ex_hid2 (ex_hid2 (hidE xa p) ea) e3) (S3.le (by omega))
/-- a comprehension over a list whose element may change what is told -/
theorem w_lcL {a : Addr} {xs : List V} {j : Nat} {vs : List Nat} (h : Ev tl σ H (.ref a)) (hq : SqL K H a xs) (Pv : Addr → Nat → Hp → Prop) (h0 : ∀ Dl H1, H1 Dl = none → Ex H H1 → Pv Dl 0 (upd H1 Dl (.lst [])))
    (hl : ∀ Dl i H1, Pv Dl i H1 → SqL K H1 a xs) (hw : ∀ x, wipe ((wipe σ vs).set j (some x)) vs = wipe σ vs)
    (hs : ∀ Dl i x H1, xs[i]? = some x → Pv Dl i H1 → te ((wipe σ vs).set j (some x)) H1 fun y H4 => ∃ acc, H4 Dl = some (.lst acc) ∧ acc.length < sizeLine ∧ Pv Dl (i + 1) (upd H4 Dl (.lst (acc ++ [y]))))
    (hd : ∀ Dl H1, Pv Dl xs.length H1 → Q (.ref Dl) H1) : tLc (iList K tl) (gName j) tYes te vs σ H Q :=
  h H (Ex.refl H) _ fun H1 e1 => ⟨a, rfl, ⟨xs, ex_l e1 hq⟩, fun Dl hD => lc_list (xs := xs) (Pv Dl) (h0 Dl H1 hD e1) (fun i H' _ p => hl Dl i H' p) (fun i x H' hx p => by
    show wipe ((wipe σ vs).set j (some x)) vs = wipe σ vs ∧ (if true = true then te ((wipe σ vs).set j (some x)) H' fun y H4 => ∃ acc, H4 Dl = some (.lst acc) ∧ acc.length < sizeLine ∧ Pv Dl (i + 1) (upd H4 Dl (.lst (acc ++ [y]))) else Pv Dl (i + 1) H')
    rw [if_pos rfl]
    exact ⟨hw _, hs Dl i x H' hx p⟩) (fun H' p => hd Dl H' p)⟩
abbrev onlyL (p : Addr) : Addr → Prop := fun b => b = p
/-- [bent(source, one) for one in whole] -/
theorem w_bents {p wl : Addr} {ws : List V} {ds : List PyData} {B : Int} {m w : Nat} (h3 : ∀ x, ((wipe σ [12]).set 12 (some x))[3]? = some (some (.ref p))) (h12 : ∀ x, ((wipe σ [12]).set 12 (some x))[12]? = some (some x)) (hw : ∀ x, wipe ((wipe σ [12]).set 12 (some x)) [12] = wipe σ [12])
    (hl : Ev tl σ H (.ref wl)) (hq : H wl = some (.lst ws)) (hwp : wl ≠ p) (hd : DVs K (hidS H (onlyL p)) ws ds) (hn : ds.length ≤ 20) (hf : ∀ d ∈ ds, Fit m w 2 d) (hm3 : 3 ≤ m) (hm : m ≤ 900) (S : SrcAt H p B) (hB : B ≤ 700000)
    (k : ∀ l vs es H', H l = none → Ex (hid H p) H' → SrcAt H' p (B + 25 * ds.length) → H' l = some (.lst vs) → DVs K (hidS H' (addL (onlyL p) l)) vs es → es.length = ds.length → (∀ e ∈ es, Fit (m + 1) (2 * w + 100) 4 e) → Q (.ref l) H') :
    tLc (iList K tl) (gName 12) tYes (tCall (spBent K 2) [] E0 (tCons (tVar 3) (tCons (tVar 12) tNil))) [12] σ H Q := by
  obtain ⟨xsp, hp⟩ := S.is
  have hxs := dvs_len hd
  refine w_lcL hl (sq_of hq) (fun Dl i H' => Dl ≠ p ∧ H Dl = none ∧ Ex (hid H p) H' ∧ SrcAt H' p (B + 25 * (i : Int)) ∧ Ex (hidS H (onlyL p)) (hidS H' (addL (onlyL p) Dl)) ∧ ∃ vs es, H' Dl = some (.lst vs) ∧ DVs K (hidS H' (addL (onlyL p) Dl)) vs es ∧ es.length = i ∧ ∀ e ∈ es, Fit (m + 1) (2 * w + 100) 4 e) (fun Dl H1 hD e1 => ?_) (fun Dl i H1 hP => ?_) hw (fun Dl i x H1 hx hP => ?_) (fun Dl H1 hP => ?_)
  · have n1 : Dl ≠ p := (ne_of_none (e1 _ _ hp) hD).symm
    have x1 := Ex.new (o := .lst []) hD
    exact ⟨n1, fresh_back e1 hD, hidE (e1.trans x1) p, (S.mono (e1.trans x1)).le (by omega), (exS e1).trans (exS_new x1 hD), [], [], upd_same, .nil, rfl, fun _ h => nomatch h⟩
  · obtain ⟨_, _, e, _⟩ := hP
    exact sq_of (e _ _ (by rw [hid_ne hwp]; exact hq))
  · obtain ⟨n1, fD, e, S1, eS, vs, es, hD, hds, hes, hfs⟩ := hP
    obtain ⟨d, hdi, hDV⟩ := dvs_at hd hx
    have hi := (List.getElem?_eq_some_iff.mp hdi).1
    have fd := hf d (List.mem_of_getElem? hdi)
    obtain ⟨xs1, hp1⟩ := S1.is
    have kn : KnownL (addL (onlyL p) Dl) H1 := fun b hb => by
      rcases hb with hb | hb
      · rw [show b = p from hb]; exact ⟨_, hp1⟩
      · rw [hb]; exact ⟨_, hD⟩
    have hla : addL (onlyL p) Dl p := .inl rfl
    have hlD : addL (onlyL p) Dl Dl := .inr rfl
    refine ⟨.ref p, h3 x, x, h12 x, p, x, d, _, addL (onlyL p) Dl, m, w, rfl, S1, by omega, hla, kn, DV.mono eS _ _ hDV, fd, hm3, hm, fun v2 d2 H2 e2 S2 D2 F2 => ?_⟩
    refine ⟨vs, e2 _ _ (by rw [hid_ne n1]; exact hD), sz_lt (by rw [dvs_len hds, hes]; omega), n1, fD, Ex.mut (ex_hid2 e e2) (hid_none fD), (S2.upd n1.symm).le (by omega), (eS.trans (exS_hid hla e2)).trans (exS_mut hlD), vs ++ [v2], es ++ [d2], upd_same, DVs.mono (exS_mut hlD) _ _ (dvs_app (DVs.mono (exS_hid hla e2) _ _ hds) (.cons D2 .nil)), by rw [List.length_append, hes]; rfl, fun e he => ?_⟩
    rcases List.mem_append.mp he with z | z
    · exact hfs e z
    · rw [List.mem_singleton.mp z]; exact F2
  · obtain ⟨n1, fD, e, S1, eS, vs, es, hD, hds, hes, hfs⟩ := hP
    exact k Dl vs es H1 fD e (S1.le (by omega)) hD hds (by omega) hfs
end
end KB

set_option Elab.async false
set_option linter.all false
set_option maxRecDepth 100000
set_option maxHeartbeats 16000000
/-! A10: the law. -/
namespace KB
open PySem L2 Evl
/-- a def as callers by keywords know it -/
structure ClK (P : Program) (w : World) (K : PySem.W.Frag) (mg : Str → Option Value) (base : Heap) (k : Nat) (x : Str) (ps ks : List Str) (gV : List V → List V → List V) (sp : Sp) : Prop where
  ex : ∃ (f : Addr) (fd : FuncData) (g : List Value → List Value → List Value), FnOk P w K mg base CX0 k f fd ps sp ∧ mg x = some (.ref f) ∧ PySem.W.keepIn K (.ref f) = true ∧ KBinds K fd ps ks g gV
theorem pe_clk {X : Cx} {k j : Nat} {ps ks : List Str} {sp : Sp} {x : Str} {p pos : Pos} {kws : List Keyword} {tk : TA} {gV : List V → List V → List V} (c : ClK X.prog X.w X.K X.mg X.base k x ps ks gV sp) (hr : Room j X.A) (hkw : PK X kws tk) (hk : k ≤ j := by decide) (hg : Gl X x := by rfl)
    (hall : (backToKw pos (keywordEach kws X.env)).all (·.1.isSome) = true := by rfl) (hks : (backToKw pos (keywordEach kws X.env)).filterMap (·.1) = ks := by rfl)
    (hdb : (x == ("__debug__" : Str)) = false := by decide) (hpl : ((backTo pos (starEach [] X.env)).any (·.1) || (backToKw pos (keywordEach kws X.env)).any (·.1.isNone)) = false := by rfl) : PE X (.Call (.Name x p) [] kws pos) (tCallK0 sp gV E0 tk) := by
  obtain ⟨f, fd, g, F, hm, kp, hb⟩ := c.ex
  exact pe_callK0 F (hr.mono hk) hg hm kp hb pass0 hkw hall hks hdb hpl
def kwSame (vs zs : List V) : List V := if vs = [] then zs else []
def evD (e : Ev1) : PyData := .tuple [.str e.1, .str e.2]
def logD (es : List Ev1) : PyData := .list (es.map evD)
theorem dvs_strs {K : PySem.W.Frag} {H : Hp} : ∀ xs : List Str, DVs K H (xs.map V.str) (xs.map PyData.str)
  | [] => .nil
  | x :: xs => .cons (.str x) (dvs_strs xs)
theorem dvs_evs {K : PySem.W.Frag} {H : Hp} {L : Addr → Prop} : ∀ {ts : List Addr} {es : List Ev1}, Paired (TupAt H) ts es → (∀ t ∈ ts, ¬ L t) → DVs K (hidS H L) (ts.map V.ref) (es.map evD)
  | _, _, .nil, _ => .nil
  | _, _, .cons h t, n => .cons (.tup (.inl (.inl (hidS_at (n _ List.mem_cons_self) h))) (.cons (.str _) (.cons (.str _) .nil))) (dvs_evs t fun x hx => n x (List.mem_cons_of_mem _ hx))
theorem page_okM {x : Str} (h : pageB x = true) : okM 130 (.str x) = true ∧ PyData.weight (.str x) ≤ 4 ∧ PyData.depth (.str x) = 0 := by
  have hl := pageB_len h
  have hs : PyData.strOk x = true := by
    have := lay_strs (xs := [x]) fun y hy => by rw [List.mem_singleton.mp hy]; exact h
    have e : (PyData.canLay0 (.str x) && PyData.canLayAll0 []) = true := this
    rw [Bool.and_eq_true] at e
    exact e.1
  refine ⟨?_, hl, rfl⟩
  rw [okM, hs, decide_eq_true (show x.length ≤ 10 by omega)]
  rfl
theorem ev_okM {e : Ev1} (h : okE e) : okM 130 (evD e) = true ∧ PyData.weight (evD e) ≤ 12 ∧ PyData.depth (evD e) = 1 := by
  obtain ⟨h1, h2⟩ := h
  obtain ⟨p1, p2, _⟩ := page_okM h2
  have p2 : e.2.cps.size ≤ 4 := p2
  have m1 : okM 130 (.str e.1) = true ∧ e.1.cps.size ≤ 4 := by
    rcases h1 with h | h
    · rw [h]; decide +kernel
    · rw [h]; decide +kernel
  refine ⟨?_, ?_, rfl⟩
  · show (decide (2 ≤ 130) && (okM 130 (.str e.1) && (okM 130 (.str e.2) && true))) = true
    rw [m1.1, p1]
    rfl
  · show e.1.cps.size + 1 + (e.2.cps.size + 1 + 0) ≤ 12
    have := m1.2
    omega
theorem strs_w : ∀ {ps : List Str}, (∀ p ∈ ps, pageB p = true) → PyData.weightAll (ps.map PyData.str) ≤ 5 * ps.length
  | [], _ => Nat.zero_le _
  | p :: ps, h => by
    have ih := strs_w (ps := ps) fun y hy => h y (List.mem_cons_of_mem _ hy)
    have hp := (page_okM (h p List.mem_cons_self)).2.1
    rw [List.map_cons, PyData.weightAll, List.length_cons]
    omega
theorem evs_w : ∀ {es : List Ev1}, (∀ e ∈ es, okE e) → PyData.weightAll (es.map evD) ≤ 13 * es.length
  | [], _ => Nat.zero_le _
  | e :: es, h => by
    have ih := evs_w (es := es) fun y hy => h y (List.mem_cons_of_mem _ hy)
    have hp := (ev_okM (h e List.mem_cons_self)).2.1
    rw [List.map_cons, PyData.weightAll, List.length_cons]
    omega
theorem whole_fit {ps : List Str} {es : List Ev1} {n : Nat} (hp : Pages ps) (hl : ps.length = n + 1) (hn : n < 125) (he : ∀ e ∈ es, okE e) (hel : es.length ≤ 126) : ∀ d ∈ [PyData.tuple (ps.map PyData.str), logD es, PyData.list (ps.map PyData.str)], Fit 130 2000 2 d := fun d hd => by
  have a1 : (ps.map PyData.str).length ≤ 130 := by rw [List.length_map]; omega
  have a2 : ∀ d ∈ ps.map PyData.str, okM 130 d = true := fun d h => by
    obtain ⟨x, hx, rfl⟩ := List.mem_map.mp h
    exact (page_okM (hp.all x hx)).1
  have a3 : ∀ d ∈ ps.map PyData.str, PyData.depth d + 1 ≤ 2 := fun d h => by
    obtain ⟨x, hx, rfl⟩ := List.mem_map.mp h
    show 0 + 1 ≤ 2
    omega
  have a4 := strs_w hp.all
  have b2 : ∀ d ∈ es.map evD, okM 130 d = true := fun d h => by
    obtain ⟨x, hx, rfl⟩ := List.mem_map.mp h
    exact (ev_okM (he x hx)).1
  have b3 : ∀ d ∈ es.map evD, PyData.depth d + 1 ≤ 2 := fun d h => by
    obtain ⟨x, hx, rfl⟩ := List.mem_map.mp h
    rw [(ev_okM (he x hx)).2.2]
    omega
  have b4 := evs_w he
  simp only [List.mem_cons, List.not_mem_nil, or_false] at hd
  rcases hd with h | h | h
  · subst h
    exact fit_seq (b := false) a1 a2 (by omega) a3 (by omega)
  · subst h
    exact fit_seq (b := true) (by rw [List.length_map]; omega) b2 (by omega) b3 (by omega)
  · subst h
    exact fit_seq (b := true) a1 a2 (by omega) a3 (by omega)
theorem exP {H H' H'' : Hp} {p : Addr} (e0 : Ex H H') (fp : H p = none) (e : Ex (hid H' p) H'') : Ex H H'' := fun b o h => e b o (by rw [hid_ne (ne_of_none h fp)]; exact e0 b o h)
section
variable {K : PySem.W.Frag} {σ : L2.St} {H H1 : Hp} {ta tb te tl : TE} {Q : VK} {L : Addr → Prop} {x v z : V}
theorem el_catL {xs ys : List V} (ha : EvL ta σ H xs) (hb : EvL tb σ H ys) (hz : xs.length + ys.length ≤ 100000) : EvL (tOp rCat ta tb) σ H (xs ++ ys) := fun H1 e Q q =>
  ha H1 e _ fun a H2 ha2 e2 h2 => hb H2 (e.trans e2) _ fun p H3 hp e3 h3 => ⟨a, p, xs, ys, rfl, rfl, e3 _ _ h2, h3, sz_of hz, fun p2 hp2 => q p2 _ (fresh_back (e2.trans e3) hp2) ((e2.trans e3).trans (Ex.new hp2)) upd_same⟩
theorem el_catVV {a b : Addr} {xs ys : List V} (ha : Ev ta σ H (.ref a)) (hx : H a = some (.lst xs)) (hb : Ev tb σ H (.ref b)) (hy : H b = some (.lst ys)) (hz : xs.length + ys.length ≤ 100000) : EvL (tOp rCat ta tb) σ H (xs ++ ys) := fun H1 e Q q =>
  ha H1 e _ fun H2 e2 => hb H2 (e.trans e2) _ fun H3 e3 => ⟨a, b, xs, ys, rfl, rfl, e3 _ _ (e2 _ _ (e _ _ hx)), e3 _ _ (e2 _ _ (e _ _ hy)), sz_of hz, fun p hp => q p _ (fresh_back (e2.trans e3) hp) ((e2.trans e3).trans (Ex.new hp)) upd_same⟩
theorem el_rep2 (ha : EvL ta σ H [x]) : EvL (tOp rRep ta (tC (.int 2))) σ H [x, x] := fun H1 e Q q =>
  ha H1 e _ fun p H2 hp e2 h2 => ⟨p, 2, [x], rfl, rfl, h2, by decide, by decide, by show 1 * 2 ≤ sizeLine; decide, fun p2 hp2 => q p2 _ (fresh_back e2 hp2) (e2.trans (Ex.new hp2)) upd_same⟩
theorem ev_k0 {sp : Sp} {gV : List V → List V → List V} {zs : List V} {tk : TA} (h : EvA tk σ H zs) (hs : ∀ H1, Ex H H1 → ∀ Q : VK, RetV z H1 Q → sp (gV [] zs) H1 Q E0) : Ev (tCallK0 sp gV E0 tk) σ H z := fun H1 e Q q =>
  h H1 e _ fun H2 e2 => hs H2 (e.trans e2) Q fun H3 e3 => q H3 (e2.trans e3)
theorem ed_disp1 {a b : Str} (hL : KnownL L H) : EvD K (tDisp [(tC (.str a), tC (.str b))]) σ H L (.dict [(.str a, .str b)]) := fun H1 e Q q => fun p hp =>
  ⟨upd_same, [(.inr a, .str b)], rfl, (show 1 ≤ 15 by decide), q (.ref p) _ (Ex.mut (Ex.new hp) hp) (.dct (kvs := [(a, b)]) (hidS_at ((hL.mono e).fresh hp) (by rw [upd_same]; rfl)))⟩
end
def evD2 (m p : Str) : PyData := .tuple [.str m, .str p]
def fixedD : List PyData := [.none, .int 0, .str "", .str "a", .tuple [], .list [], .dict [], .tuple [.str "a"], .list [.str "a"], .tuple [.str "a", .str "a"], .tuple [.str "a", .str "A"], .list [evD2 "hit" "a"], .tuple [evD2 "hit" "a"], .list [.list []],
  .list [evD2 "hit" "a", evD2 "hit" "a"], .list [.tuple [.str "miss"]], .list [.tuple [.str "hit", .none]], .list [.none], .list [evD2 "HIT" "a"], .dict [(.str "a", .str "hit")]]
theorem fixed_good : (fixedD.all fun d => okM 131 d && (decide (PyData.weight d ≤ 4100) && decide (PyData.depth d ≤ 4))) = true := by decide +kernel
theorem fixed_fit {d : PyData} (h : d ∈ fixedD) : Fit 131 4100 4 d := by
  have := List.all_eq_true.mp fixed_good d h
  rw [Bool.and_eq_true, Bool.and_eq_true, decide_eq_true_eq, decide_eq_true_eq] at this
  exact ⟨this.1, this.2.1, this.2.2⟩
section
variable {P : Program} {w : World} {K : PySem.W.Frag} {mg : Str → Option Value} {base : Heap}
abbrev NLaw : List Str := ["script", "fixed", "k", "source", "turn", "pages", "happened", "whole", "thing", "before", "found", "due", "one"]
theorem scLaw : FnScope NLaw ["script"] (defScope sLaw) := ⟨rfl, rfl, rfl, by decide +kernel, rfl, by decide +kernel, by decide +kernel⟩
def spLaw (K : PySem.W.Frag) : Sp := fun vs H Q _ => ∃ (a : Addr) (ns : List Int), vs = [.ref a] ∧ SqL K H a (ns.map V.int) ∧ Sys K H ∧ ∀ H', Q (.bl true) H'
theorem ok_law {f : Addr} {fd : FuncData} {kb : Nat} (hkb : kb ≤ 8) (F : Fun K "law" "law" sLaw f fd) (B0 : Bn mg) (B2 : Bl mg) (cD : Cl P w K mg base 1 "_law_draw" ["source", "bound"] spDraw) (cSrc : Cl P w K mg base 1 "_law_source" ["script", "k"] (spSource K)) (cP : Cl P w K mg base 2 "_law_pages" ["source", "count"] spPages)
    (cRun : Cl P w K mg base 2 "_law_run" ["source", "room", "initial", "pages", "size"] (spRun K)) (cB : Cl P w K mg base kb "_law_bent" ["source", "thing"] (spBent K 2)) (cSh : Cl P w K mg base 3 "is_shelf" ["value"] (spAny K shelfD)) (cLo : Cl P w K mg base 3 "is_log" ["value"] (spAny K logB))
    (kSh : ClK P w K mg base 3 "is_shelf" ["value"] ["value"] kwSame (spAny K shelfD)) (kLo : ClK P w K mg base 3 "is_log" ["value"] ["value"] kwSame (spAny K logB)) (cGS : Cl P w K mg base 2 "_law_good_shelf" ["thing"] (spAny K shelfD)) (cGL : Cl P w K mg base 2 "_law_good_log" ["thing"] (spAny K logB)) : FnG P w K mg base CX0 9 f fd ["script"] (spLaw K) := by
  refine okG F scLaw (fun vs H Q E h => ?_) (fun cdv A outer s H vs Q E hG hr h => ?_)
  · obtain ⟨a, ns, rfl, _⟩ := h
    rfl
  · obtain ⟨a, ns, rfl, hns, hsys, q⟩ := h
    have nd := scLaw.nd
    refine ⟨_, (pss_cons (ps_set (i := 1) nd rfl (Or.inl rfl) (pe_lst (pa_cons pe_non (pa_cons pe_int (pa_cons pe_str (pa_cons pe_str (pa_cons (pe_tup pa_nil) (pa_cons (pe_lst pa_nil) (pa_cons pe_dnewK (pa_cons (pe_tup (pa_cons pe_str pa_nil)) (pa_cons (pe_lst (pa_cons pe_str pa_nil)) (pa_cons (pe_tup (pa_cons pe_str (pa_cons pe_str pa_nil))) (pa_cons (pe_tup (pa_cons pe_str (pa_cons pe_str pa_nil)))
          (pa_cons (pe_lst (pa_cons (pe_tup (pa_cons pe_str (pa_cons pe_str pa_nil))) pa_nil)) (pa_cons (pe_tup (pa_cons (pe_tup (pa_cons pe_str (pa_cons pe_str pa_nil))) pa_nil)) (pa_cons (pe_lst (pa_cons (pe_lst pa_nil) pa_nil)) pa_nil))))))))))))))))
      (pss_cons (ps_set (i := 1) nd rfl (Or.inl rfl) (pe_op op_cat (pv 1) (pe_lst (pa_cons (pe_lst (pa_cons (pe_tup (pa_cons pe_str (pa_cons pe_str pa_nil))) (pa_cons (pe_tup (pa_cons pe_str (pa_cons pe_str pa_nil))) pa_nil))) (pa_cons (pe_lst (pa_cons (pe_tup (pa_cons pe_str pa_nil)) pa_nil)) (pa_cons (pe_lst (pa_cons (pe_tup (pa_cons pe_str (pa_cons pe_non pa_nil))) pa_nil)) (pa_cons (pe_lst (pa_cons pe_non pa_nil))
          (pa_cons (pe_lst (pa_cons (pe_tup (pa_cons pe_str (pa_cons pe_str pa_nil))) pa_nil)) (pa_cons (pe_disp (pps_cons pe_str pe_str pps_nil) rfl rfl (by simp) (by decide)) pa_nil)))))))))
      (pss_cons (ps_for PassesOwn.never rfl (pi_range1 (by rfl) B0.range (pa_cons (pe_callB (call_max2 rfl) (by rfl) B2.max bt_max (pa_cons pe_int (pa_cons (pe_callB (call_min2 rfl) (by rfl) B0.min bt_min (pa_cons pe_int (pa_cons (pe_callB call_len_seq (by rfl) B0.len bt_len (pa_cons (pv 0) pa_nil)) pa_nil))) pa_nil))) pa_nil)) (pg_name (i := 2) nd rfl (Or.inl rfl))
        (pss_cons (ps_set (i := 3) nd rfl (Or.inr rfl) (pe_cl cSrc hr (pa_cons (pv 0) (pa_cons (pv 2) pa_nil))))
        (pss_one (ps_for PassesOwn.never rfl (pi_range1 (by rfl) B0.range (pa_cons pe_int pa_nil)) (pg_name (i := 4) nd rfl (Or.inl rfl))
          (pss_cons (ps_set (i := 5) nd rfl (Or.inl rfl) (pe_cl cP hr (pa_cons (pv 3) (pa_cons (pe_op op_add pe_int (pe_cl cD hr (pa_cons (pv 3) (pa_cons (pe_ix ix_list (pe_lst (pa_cons pe_int (pa_cons pe_int pa_nil))) (pe_op op_fdiv (pe_cl cD hr (pa_cons (pv 3) (pa_cons pe_int pa_nil))) pe_int) (fun _ _ => rfl)) pa_nil)))) pa_nil))))
          (pss_cons (ps_set (i := 6) nd rfl (Or.inl rfl) (pe_ix (r := rIxT K) ix_tup (pe_cl cRun hr (pa_cons (pv 3) (pa_cons pe_int (pa_cons (pe_tup pa_nil) (pa_cons (pv 5) (pa_cons (pe_cl cD hr (pa_cons (pv 3) (pa_cons (pe_ix ix_list (pe_lst (pa_cons pe_int (pa_cons pe_int pa_nil))) (pe_op op_fdiv (pe_cl cD hr (pa_cons (pv 3) (pa_cons pe_int pa_nil))) pe_int) (fun _ _ => rfl)) pa_nil))) pa_nil)))))) pe_int (fun _ _ => rfl)))
          (pss_cons (ps_set (i := 7) nd rfl (Or.inl rfl) (pe_lst (pa_cons (pe_callTy call_tuple_of (by rfl) B0.tuple bt_tuple (pa_cons (pv 5) pa_nil)) (pa_cons (pv 6) (pa_cons (pv 5) pa_nil)))))
          (pss_cons (ps_set (i := 7) nd rfl (Or.inl rfl) (pe_op op_cat (pe_op op_cat (pv 7) (pe_lc (own := [("one", 12)]) (g := gName 12) (tt := tYes) (te := tCall (spBent K 2) [] E0 (tCons (tVar 3) (tCons (tVar 12) tNil))) rfl nd (pi_list (pv 7)) (blkOk_by (N := NLaw) (sc := defScope sLaw) (by decide +kernel)) (fun _ _ _ _ _ => pg_name (i := 12) nd rfl (Or.inl rfl)) (fun _ _ _ _ _ => pts_nil) (fun _ _ _ _ _ => pe_cl cB hr (pa_cons (pv 3) (pa_cons (pv 12) pa_nil)) (by omega))))
              (pe_lc (own := [("one", 12)]) (g := gName 12) (tt := tYes) (te := tCall (spBent K 2) [] E0 (tCons (tVar 3) (tCons (tVar 12) tNil))) rfl nd (pi_list (pv 7)) (blkOk_by (N := NLaw) (sc := defScope sLaw) (by decide +kernel)) (fun _ _ _ _ _ => pg_name (i := 12) nd rfl (Or.inl rfl)) (fun _ _ _ _ _ => pts_nil) (fun _ _ _ _ _ => pe_cl cB hr (pa_cons (pv 3) (pa_cons (pv 12) pa_nil)) (by omega)))))
          (pss_one (ps_for PassesOwn.never rfl (pi_list (pe_op op_cat (pv 7) (pv 1))) (pg_name (i := 8) nd rfl (Or.inl rfl))
            (pss_cons (ps_set (i := 9) nd rfl (Or.inl rfl) (pe_callB (call_reprV hr hG) (by rfl) B2.repr bt_repr (pa_cons (pv 8) pa_nil)))
            (pss_cons (ps_set (i := 10) nd rfl (Or.inl rfl) (pe_lst (pa_cons (pe_cl cSh hr (pa_cons (pv 8) pa_nil)) (pa_cons (pe_clk kSh hr (pk_cons (pv 8) pk_nil)) (pa_cons (pe_cl cLo hr (pa_cons (pv 8) pa_nil)) (pa_cons (pe_clk kLo hr (pk_cons (pv 8) pk_nil)) pa_nil))))))
            (pss_cons (ps_set (i := 11) nd rfl (Or.inl rfl) (pe_op op_cat (pe_op op_rep (pe_lst (pa_cons (pe_cl cGS hr (pa_cons (pv 8) pa_nil)) pa_nil)) pe_int) (pe_op op_rep (pe_lst (pa_cons (pe_cl cGL hr (pa_cons (pv 8) pa_nil)) pa_nil)) pe_int)))
            (pss_one (ps_if (PW.pt (pw_or (pt_cmpR op_ne (pe_callB (call_reprV hr hG) (by rfl) B2.repr bt_repr (pa_cons (pv 10) pa_nil)) (pe_callB (call_reprV hr hG) (by rfl) B2.repr bt_repr (pa_cons (pv 11) pa_nil)) (nomark _)) (pw_or1 (pt_cmpR op_ne (pe_callB (call_reprV hr hG) (by rfl) B2.repr bt_repr (pa_cons (pv 8) pa_nil)) (pv 9) (nomark _))))) (pss_one (ps_ret pe_bl)) pss_nil)))))))))))))))
      (pss_one (ps_ret pe_bl))))).nox, ?_⟩
    have hL0 : ∀ H' : Hp, KnownL (fun _ => False) H' := fun _ _ h => h.elim
    -- fixed
    refine q_asgW (eo_lst (K := K) (L := fun _ => False) (ds := fixedD.take 14) (eds_cons (ed_c fun _ => .non) (eds_cons (ed_c fun _ => .int 0) (eds_cons (ed_c fun _ => .str "") (eds_cons (ed_c fun _ => .str "a") (eds_cons (ed_tup (hL0 _) eds_nil (by decide)) (eds_cons (ed_lst (hL0 _) eds_nil (by decide)) (eds_cons (ed_dnew (hL0 _)) (eds_cons (ed_tup (hL0 _) (eds_cons (ed_c fun _ => .str "a") eds_nil) (by decide)) (eds_cons (ed_lst (hL0 _) (eds_cons (ed_c fun _ => .str "a") eds_nil) (by decide))
      (eds_cons (ed_tup (hL0 _) (eds_cons (ed_c fun _ => .str "a") (eds_cons (ed_c fun _ => .str "a") eds_nil)) (by decide)) (eds_cons (ed_tup (hL0 _) (eds_cons (ed_c fun _ => .str "a") (eds_cons (ed_c fun _ => .str "A") eds_nil)) (by decide)) (eds_cons (ed_lst (hL0 _) (eds_cons (ed_tup (hL0 _) (eds_cons (ed_c fun _ => .str "hit") (eds_cons (ed_c fun _ => .str "a") eds_nil)) (by decide)) eds_nil) (by decide))
      (eds_cons (ed_tup (hL0 _) (eds_cons (ed_tup (hL0 _) (eds_cons (ed_c fun _ => .str "hit") (eds_cons (ed_c fun _ => .str "a") eds_nil)) (by decide)) eds_nil) (by decide)) (eds_cons (ed_lst (hL0 _) (eds_cons (ed_lst (hL0 _) eds_nil (by decide)) eds_nil) (by decide)) eds_nil)))))))))))))) (by decide) H (Ex.refl H) _ fun f1 xs1 Hx hf1 ex1 hx1 hd1 => ?_)
    refine q_asgW (eo_catV (K := K) (L := fun _ => False) (ev_var rfl) hx1 hd1 (eo_lst (K := K) (ds := fixedD.drop 14) (eds_cons (ed_lst (hL0 _) (eds_cons (ed_tup (hL0 _) (eds_cons (ed_c fun _ => .str "hit") (eds_cons (ed_c fun _ => .str "a") eds_nil)) (by decide)) (eds_cons (ed_tup (hL0 _) (eds_cons (ed_c fun _ => .str "hit") (eds_cons (ed_c fun _ => .str "a") eds_nil)) (by decide)) eds_nil)) (by decide))
      (eds_cons (ed_lst (hL0 _) (eds_cons (ed_tup (hL0 _) (eds_cons (ed_c fun _ => .str "miss") eds_nil) (by decide)) eds_nil) (by decide)) (eds_cons (ed_lst (hL0 _) (eds_cons (ed_tup (hL0 _) (eds_cons (ed_c fun _ => .str "hit") (eds_cons (ed_c fun _ => .non) eds_nil)) (by decide)) eds_nil) (by decide)) (eds_cons (ed_lst (hL0 _) (eds_cons (ed_c fun _ => .non) eds_nil) (by decide))
      (eds_cons (ed_lst (hL0 _) (eds_cons (ed_tup (hL0 _) (eds_cons (ed_c fun _ => .str "HIT") (eds_cons (ed_c fun _ => .str "a") eds_nil)) (by decide)) eds_nil) (by decide)) (eds_cons (ed_disp1 (hL0 _)) eds_nil)))))) (by decide)) (by decide) Hx (Ex.refl Hx) _ fun fx xsF Hb hfx exb hxF hdF0 => ?_)
    have eHb := ex1.trans exb
    have hdF : DVs K Hb xsF fixedD := DVs.mono ex_hidS _ _ hdF0
    have hsb := hsys.mono eHb
    have hnsb := ex_l eHb hns
    clear hdF0 hd1 hx1
    have hsc : (ns.map V.int).length = ns.length := List.length_map ..
    obtain ⟨rounds, hro, hr6⟩ : ∃ n : Nat, (if (if ((ns.map V.int).length : Int) < 6 then ((ns.map V.int).length : Int) else 6) > 1 then (if ((ns.map V.int).length : Int) < 6 then ((ns.map V.int).length : Int) else 6) else 1) = (n : Int) ∧ n ≤ 6 := by
      obtain ⟨n, hn⟩ := nat_of (show 0 ≤ (if (if ((ns.map V.int).length : Int) < 6 then ((ns.map V.int).length : Int) else 6) > 1 then (if ((ns.map V.int).length : Int) < 6 then ((ns.map V.int).length : Int) else 6) else 1) by split <;> (try split) <;> omega)
      refine ⟨n, hn, ?_⟩
      split at hn <;> (try split at hn) <;> omega
    refine q_forN (n := rounds) (ea_cons (ev_is (ev_cb (vs := [.int 1, .int (if ((ns.map V.int).length : Int) < 6 then ((ns.map V.int).length : Int) else 6)]) (ea_cons ev_c (ea_cons (ev_cb (ea_cons ev_c (ea_cons (ev_len (ev_var rfl) hnsb) ea_nil)) fun H7 e7 Q' k => ⟨_, _, rfl, k H7 (Ex.refl H7)⟩) ea_nil)) fun H7 e7 Q' k => ⟨_, _, rfl, k H7 (Ex.refl H7)⟩) (by rw [hro])) ea_nil) (by omega)
      (fun i σ H' => ∃ y2 y3 y4 y5 y6 y7 y8 y9 y10 y11, σ = [some (.ref a), some (.ref fx), y2, y3, y4, y5, y6, y7, y8, y9, y10, y11, none] ∧ Ex Hb H') (fun H1 e1 => ⟨_, _, _, _, _, _, _, _, _, _, rfl, e1⟩) (fun i σ H0 hi hP => ?_) (fun σ H0 hP => ?_)
    · obtain ⟨y2, y3, y4, y5, y6, y7, y8, y9, y10, y11, rfl, e0⟩ := hP
      -- source
      refine ⟨.ref a, rfl, .int (i : Int), rfl, a, i, ns, rfl, ex_l e0 hnsb, by omega, fun p H2 hp2 e2 S2 => ?_⟩
      have k2 := e0.trans e2
      have fp : Hb p = none := fresh_back e0 hp2
      refine s_forR1 (n := 2) (ea_cons ev_c ea_nil) (by decide) (fun u σ H' => ∃ y4 y5 y6 y7 y8 y9 y10 y11, σ = [some (.ref a), some (.ref fx), some (.int (i : Int)), some (.ref p), y4, y5, y6, y7, y8, y9, y10, y11, none] ∧ Ex Hb H' ∧ SrcAt H' p (3000 * (u : Int)))
        (fun H3 e3 => ⟨_, _, _, _, _, _, _, _, rfl, k2.trans e3, (S2.mono e3).le (by omega)⟩) (fun u σ H3 hu hP => ?_) (fun σ H3 hP => ?_)
      · obtain ⟨y4, y5, y6, y7, y8, y9, y10, y11, rfl, k3, S3⟩ := hP
        -- pages
        refine ⟨.ref p, rfl, ?_⟩
        refine w_pick2 (x := 4) (y := 125) rfl S3 (by omega) (by decide) (by decide) fun n H4 hn e4 S4 => ⟨1, (n : Int), rfl, rfl, ?_⟩
        have k4 : Ex Hb H4 := exP k3 fp e4
        refine ⟨p, n + 1, _, by show [V.ref p, V.int (1 + (n : Int))] = _; rw [show (1 : Int) + (n : Int) = ((n + 1 : Nat) : Int) by omega], by omega, by omega, S4, by omega, fun pg ps H5 hpg e5 S5 pps lps hpg5 => ?_⟩
        have k5 : Ex Hb H5 := exP k4 fp e5
        obtain ⟨xs4, hp4⟩ := S4.is
        have npg : pg ≠ p := (ne_of_none hp4 hpg).symm
        have fpg : Hb pg = none := fresh_back k4 hpg
        -- happened
        refine ⟨.ref p, rfl, Nat.zero_le _, fun t0 nt0 => ⟨.ref pg, rfl, ?_⟩⟩
        have x0 := Ex.new (o := .tup []) nt0
        refine w_pick2 (x := 12) (y := 126) rfl (S5.mono x0) (by omega) (by decide) (by decide) fun n2 H6 hn2 e6 S6 => ?_
        have k6 : Ex Hb H6 := exP (k5.trans x0) fp e6
        obtain ⟨xs5, hp5⟩ := S5.is
        have ht0 : H6 t0 = some (.tup []) := e6 _ _ (by rw [hid_ne (ne_of_none hp5 nt0).symm]; exact upd_same)
        have hpg6 : H6 pg = some (.lst (ps.map V.str)) := e6 _ _ (by rw [hid_ne npg]; exact x0 _ _ hpg5)
        have nps : ps ≠ [] := fun z => by rw [z] at lps; simp at lps
        refine ⟨p, t0, pg, 3, n2, [], ps, _, rfl, S6, by omega, by decide, by decide, .inl (.inl ht0), ⟨fun _ h => (nomatch h), List.nodup_nil, by decide⟩, by decide, sq_of hpg6, npg, pps, nps, by omega, fun T cp hp gp cq ts qs es gs css cs H7 _ hT ww r hes => ?_⟩
        refine ⟨T, [.ref hp, .ref gp, .ref cq], 0, .ref hp, rfl, rfl, .inl (.inl hT), rfl, ?_⟩
        obtain ⟨i1, i2, i3, i4, i5, i6, i7⟩ := r.facts (by decide) List.nodup_nil (fun _ h => (nomatch h))
        have k7 : Ex Hb H7 := exP k6 fp ww.ex
        have hpg7 : H7 pg = some (.lst (ps.map V.str)) := ww.ex _ _ (by rw [hid_ne npg]; exact hpg6)
        -- whole
        have dpg : ∀ {H' : Hp} {L : Addr → Prop}, H' pg = some (.lst (ps.map V.str)) → ¬ L pg → DV K (hidS H' L) (.ref pg) (.list (ps.map PyData.str)) := fun h n => .lst (hidS_at n h) (dvs_strs ps)
        refine ⟨.ref pg, rfl, pg, _, rfl, .inl ⟨sq_of hpg7, fun tp ntp => ?_⟩⟩
        have x8 := Ex.new (o := .tup (ps.map V.str)) ntp
        refine ⟨.ref hp, rfl, .ref pg, rfl, by show 3 ≤ sizeLine; decide, fun wl nwl => ?_⟩
        have x9 := Ex.new (o := .lst [V.ref tp, .ref hp, .ref pg]) nwl
        have x89 := x8.trans x9
        have w9 := ww.mono x89
        have htp : upd (upd H7 tp (.tup (ps.map V.str))) wl (.lst [V.ref tp, .ref hp, .ref pg]) tp = some (.tup (ps.map V.str)) := x9 _ _ upd_same
        have hpg9 := x89 _ _ hpg7
        have hwl : upd (upd H7 tp (.tup (ps.map V.str))) wl (.lst [V.ref tp, .ref hp, .ref pg]) wl = some (.lst [V.ref tp, .ref hp, .ref pg]) := upd_same
        have k9 := k7.trans x89
        obtain ⟨xs7, hp7⟩ := ww.src.is
        have nwl' : wl ≠ p := (ne_of_none (x8 _ _ hp7) nwl).symm
        have ntp' : tp ≠ p := (ne_of_none hp7 ntp).symm
        generalize upd (upd H7 tp _) wl _ = H9 at w9 htp hpg9 hwl k9 ⊢
        have hds : DVs K (hidS H9 (onlyL p)) [V.ref tp, .ref hp, .ref pg] [.tuple (ps.map PyData.str), logD es, .list (ps.map PyData.str)] := by
          refine .cons (.tup (.inl (.inl (hidS_at ntp' htp))) (dvs_strs ps)) (.cons (.lst (hidS_at w9.a2.symm w9.hhp) (dvs_evs w9.hts fun t ht => ?_)) (.cons (dpg hpg9 npg) .nil))
          obtain ⟨xs9, hp9⟩ := w9.src.is
          intro z
          obtain ⟨i0, hi0⟩ := List.mem_iff_getElem?.mp ht
          obtain ⟨v0, _, hv0⟩ := paired_at' w9.hts hi0
          exact ne_of (show H9 t = _ from hv0) hp9 (by intro q; cases q) z
        have hfs := whole_fit pps lps (by omega) i6 (by omega)
        generalize [V.ref tp, V.ref hp, V.ref pg] = ws at hwl hds
        generalize hdsE : [PyData.tuple (ps.map PyData.str), logD es, PyData.list (ps.map PyData.str)] = ds at hds hfs
        have hdl : ds.length = 3 := by rw [← hdsE]; rfl
        have hwsl := dvs_len hds
        -- changed
        refine ⟨.ref wl, rfl, ?_⟩
        refine w_bents (K := K) (p := p) (wl := wl) (m := 130) (w := 2000) (fun _ => rfl) (fun _ => rfl) (fun _ => rfl) (ev_var rfl) hwl nwl' hds (by omega) hfs (by decide) (by decide) w9.src (by omega) fun l1 vs1 es1 Ha hl1n ea Sa hl1 hd1 he1 hf1 => ?_
        have ka : Ex Hb Ha := exP k9 fp ea
        have hwla : Ha wl = some (.lst ws) := ea _ _ (by rw [hid_ne nwl']; exact hwl)
        have hdsa : DVs K (hidS Ha (onlyL p)) ws ds := DVs.mono (exS_hid (L := onlyL p) rfl ea) _ _ hds
        have l1s := dvs_len hd1
        refine ⟨wl, l1, ws, vs1, rfl, rfl, hwla, hl1, sz_of (by omega), fun c1 nc1 => ?_⟩
        have xc1 := Ex.new (o := .lst (ws ++ vs1)) nc1
        obtain ⟨xsa, hpa⟩ := Sa.is
        have nc1p : c1 ≠ p := (ne_of_none hpa nc1).symm
        refine w_bents (K := K) (p := p) (wl := wl) (m := 130) (w := 2000) (fun _ => rfl) (fun _ => rfl) (fun _ => rfl) (ev_var rfl) (xc1 _ _ hwla) nwl' (DVs.mono (exS xc1) _ _ hdsa) (by omega) hfs (by decide) (by decide) (Sa.mono xc1) (by omega) fun l2 vs2 es2 Hc hl2n ec Sc hl2 hd2 he2 hf2 => ?_
        have kc : Ex Hb Hc := exP (ka.trans xc1) fp ec
        have hc1 : Hc c1 = some (.lst (ws ++ vs1)) := ec _ _ (by rw [hid_ne nc1p]; exact upd_same)
        have l2s := dvs_len hd2
        have hdsc : DVs K Hc ws ds := DVs.mono (((exS xc1).trans (exS_hid (L := onlyL p) rfl ec)).trans ex_hidS) _ _ hdsa
        have hd1c : DVs K Hc vs1 es1 := DVs.mono (((exS xc1).trans (exS_hid (L := addL (onlyL p) l1) (.inl rfl) ec)).trans ex_hidS) _ _ hd1
        have hd2c : DVs K Hc vs2 es2 := DVs.mono ex_hidS _ _ hd2
        refine ⟨c1, l2, ws ++ vs1, vs2, rfl, rfl, hc1, hl2, sz_of (by rw [List.length_append]; omega), fun c2 nc2 => ?_⟩
        have xc2 := Ex.new (o := .lst (ws ++ vs1 ++ vs2)) nc2
        have hc2 : upd Hc c2 (.lst (ws ++ vs1 ++ vs2)) c2 = some (.lst (ws ++ vs1 ++ vs2)) := upd_same
        have kd := kc.trans xc2
        have Sd := Sc.mono xc2
        have hall : DVs K (upd Hc c2 (.lst (ws ++ vs1 ++ vs2))) (ws ++ vs1 ++ vs2 ++ xsF) (ds ++ es1 ++ es2 ++ fixedD) := DVs.mono xc2 _ _ (dvs_app (dvs_app (dvs_app hdsc hd1c) hd2c) (DVs.mono kc _ _ hdF))
        have hfall : ∀ d ∈ ds ++ es1 ++ es2 ++ fixedD, Fit 131 4100 4 d := fun d hd => by
          rcases List.mem_append.mp hd with h | h
          · rcases List.mem_append.mp h with h | h
            · rcases List.mem_append.mp h with h | h
              · obtain ⟨q1, q2, q3⟩ := hfs d h
                exact ⟨okM_mono (by omega) d q1, by omega, by omega⟩
              · exact hf1 d h
            · exact hf2 d h
          · exact fixed_fit h
        have hlF := dvs_len hdF
        have hlF2 : xsF.length = 20 := hlF
        generalize upd Hc c2 _ = Hd at hc2 kd Sd hall ⊢
        have hsd := hsb.mono kd
        -- each thing
        refine s_forNL (el_catVV (ev_var rfl) hc2 (ev_var rfl) (kd _ _ hxF) (by rw [List.length_append, List.length_append]; omega)) (fun th i σ H' => ∃ y8 y9 y10 y11, σ = [some (.ref a), some (.ref fx), some (.int _), some (.ref p), some (.int (u : Int)), some (.ref pg), some (.ref hp), some (.ref c2), y8, y9, y10, y11, none] ∧ Ex Hd H' ∧ H' th = some (.lst (ws ++ vs1 ++ vs2 ++ xsF)))
          (fun th He hth ee hthe => ⟨_, _, _, _, rfl, ee, hthe⟩) (fun th i σ H' _ hP => ?_) (fun th i x σ H' hx hP => ?_) (fun th σ H' hP => ?_)
        · obtain ⟨_, _, _, _, _, _, h⟩ := hP
          exact sq_of h
        · obtain ⟨z8, z9, z10, z11, rfl, eH, hth⟩ := hP
          obtain ⟨d, hdi, hDV0⟩ := dvs_at hall hx
          have hDV := DV.mono eH _ _ hDV0
          have fd := hfall d (List.mem_of_getElem? hdi)
          have hsm := (fd.tell (by decide) (by decide) (by decide)).1
          have hsH := hsd.mono eH
          show tSeq _ _ _ _ _
          refine q_asg (ev_reprV hsH (ev_var rfl) hDV fd (by decide) (by decide) (by decide)) fun Ha ea => ?_
          -- found
          refine q_asgL (xs := [.bl (shelfD d), .bl (shelfD d), .bl (logB d), .bl (logB d)]) (el_lst (ea_cons (ev_fn (ea_cons (ev_var rfl) ea_nil) fun H1 e Q' k => ⟨x, d, rfl, DV.mono (ea.trans e) _ _ hDV, hsm, k⟩) (ea_cons (ev_k0 (ea_cons (ev_var rfl) ea_nil) fun H1 e Q' k => ⟨x, d, rfl, DV.mono (ea.trans e) _ _ hDV, hsm, k⟩)
            (ea_cons (ev_fn (ea_cons (ev_var rfl) ea_nil) fun H1 e Q' k => ⟨x, d, rfl, DV.mono (ea.trans e) _ _ hDV, hsm, k⟩) (ea_cons (ev_k0 (ea_cons (ev_var rfl) ea_nil) fun H1 e Q' k => ⟨x, d, rfl, DV.mono (ea.trans e) _ _ hDV, hsm, k⟩) ea_nil)))) (show 4 ≤ 100000 by decide)) fun fo Hb2 hfo eb hfo2 => ?_
          -- due
          refine q_asgL (xs := [.bl (shelfD d), .bl (shelfD d)] ++ [.bl (logB d), .bl (logB d)]) (el_catL (el_rep2 (el_lst (ea_cons (ev_fn (ea_cons (ev_var rfl) ea_nil) fun H1 e Q' k => ⟨x, d, rfl, DV.mono (ea.trans (eb.trans e)) _ _ hDV, hsm, k⟩) ea_nil) (show 1 ≤ 100000 by decide)))
            (el_rep2 (el_lst (ea_cons (ev_fn (ea_cons (ev_var rfl) ea_nil) fun H1 e Q' k => ⟨x, d, rfl, DV.mono (ea.trans (eb.trans e)) _ _ hDV, hsm, k⟩) ea_nil) (show 1 ≤ 100000 by decide))) (show 2 + 2 ≤ 100000 by decide)) fun du Hc2 hdu ec2 hdu2 => ?_
          have bits : ∀ {Hz : Hp} {l : Addr}, Hz l = some (.lst [.bl (shelfD d), .bl (shelfD d), .bl (logB d), .bl (logB d)]) → DV K Hz (.ref l) (.list [.bool (shelfD d), .bool (shelfD d), .bool (logB d), .bool (logB d)]) := fun h => .lst h (.cons (.bl _) (.cons (.bl _) (.cons (.bl _) (.cons (.bl _) .nil))))
          have bfit : Fit 131 4100 4 (.list [.bool (shelfD d), .bool (shelfD d), .bool (logB d), .bool (logB d)]) := ⟨rfl, by show 0 + 1 + (0 + 1 + (0 + 1 + (0 + 1 + 0))) ≤ 4100; decide, by show max 0 (max 0 (max 0 (max 0 0))) + 1 ≤ 4; decide⟩
          have hsc2 := hsH.mono (ea.trans (eb.trans ec2))
          refine s_when (b := (!decide (V.str (PyData.shown (.list [.bool (shelfD d), .bool (shelfD d), .bool (logB d), .bool (logB d)])) = V.str (PyData.shown (.list [.bool (shelfD d), .bool (shelfD d), .bool (logB d), .bool (logB d)])))) || !decide (V.str d.shown = V.str d.shown))
            (et_or (et_test (ev_op (ev_reprV hsc2 (ev_var rfl) (bits (ec2 _ _ hfo2)) bfit (by decide) (by decide) (by decide)) (ev_reprV hsc2 (ev_var rfl) (bits hdu2) bfit (by decide) (by decide) (by decide)) (rv_ne rfl))) fun _ => et_test (ev_op (ev_reprV hsc2 (ev_var rfl) (DV.mono (ea.trans (eb.trans ec2)) _ _ hDV) fd (by decide) (by decide) (by decide)) (ev_var rfl) (rv_ne rfl))) (fun hb => by simp at hb) (fun _ Hd2 ed => ⟨_, _, _, _, rfl, eH.trans (ea.trans (eb.trans (ec2.trans ed))), (ea.trans (eb.trans (ec2.trans ed))) _ _ hth⟩)
        · obtain ⟨z8, z9, z10, z11, rfl, eH, _⟩ := hP
          exact ⟨_, _, _, _, _, _, _, _, rfl, kd.trans eH, (Sd.mono eH).le (by omega)⟩
      · obtain ⟨y4, y5, y6, y7, y8, y9, y10, y11, rfl, k3, _⟩ := hP
        exact ⟨_, _, _, _, _, _, _, _, _, _, rfl, k3⟩
    · exact s_ret ev_c fun H1 _ => q H1
end
end KB

set_option Elab.async false
set_option linter.all false
set_option maxRecDepth 100000
set_option maxHeartbeats 8000000
/-! A11: the end of a law that must know of the module table's place. -/
namespace KB
open PySem PySem.Spec PyProof.Rows L2
open Classical in
/-- the first abstract heap: the script, and the module table's place -/
noncomputable def twoHp (K : PySem.W.Frag) (a : Addr) (o : Obj) (u : HO) (o1 : Obj) : Hp := fun b => if b = a ∧ K.lookup a = none then some (.frz o u) else if b = sysModules ∧ K.lookup sysModules = none then some (.frz o1 (.ext fun _ => True)) else none
theorem law_callS {P : Program} {w : World} {K : PySem.W.Frag} {mg mb : Str → Option Value} {CX : CXT} {k : Nat} {fa a : Addr} {fd : FuncData} {x : Str} {sp : Sp} {s₁ : Shared} {vs : List Value} {ns : List Int}
    (KX : K.In s₁.heap) (hns : s₁.heap.Ns mainGlobals mg) (hb : s₁.heap.Ns builtinsNs mb) (hbb : ∀ x : Str, x ≠ "__name__" → mb x = bootBuiltins x) (hlim : s₁.heap.NoLimit) (hg : s₁.gens = #[]) (hsee : ∃ mm, s₁.heap.Ns sysModules mm ∧ mm "_pylong" = none)
    (ha : s₁.heap.get? a = some { cls := .type "list", data := .seq vs.toArray }) (hi : IntsAre vs ns) (hl : ns.length ≤ sizeLine) (hr : Room k callerA)
    (F : ∀ base : Heap, K.In base → base.Ns mainGlobals mg → FnG P w K mg base CX k fa fd [x] sp) (hbind : ∀ (s : Shared) (u : Value), BindsTo s fd ⟨[u], []⟩ [(x, u)])
    (hsp : ∀ H : Hp, SqL K H a (ns.map V.int) → Sys K H → sp [.ref a] H (fun v _ => v = .bl true) fun _ _ _ => False) (hCX : ∀ H e s', CX [] H s₁ (fun _ _ _ => False) e s' → False) :
    codeAny (model P w) callerA (.call (.ref fa) ⟨[.ref a], []⟩) (fun r s' => r = .ok (.ret (.bool true)) ∧ OldK s₁.heap s'.heap ∧ s'.os = s₁.os ∧ AllBare s'.gens) s₁ := by
  have hv := vals_ints hi
  have hlen := hi.length
  obtain ⟨o1, ho1⟩ : ∃ o1, s₁.heap.get? sysModules = some o1 := ⟨_, hsee.choose_spec.1.choose_spec.choose_spec.choose_spec.1⟩
  generalize hH : twoHp K a { cls := .type "list", data := .seq vs.toArray } (.lst (ns.map V.int)) o1 = H
  have hcase : ∀ b, (H b = none) ∨ (b = a ∧ K.lookup a = none ∧ H b = some (.frz { cls := .type "list", data := .seq vs.toArray } (.lst (ns.map V.int)))) ∨ (b = sysModules ∧ K.lookup sysModules = none ∧ H b = some (.frz o1 (.ext fun _ => True))) := fun b => by
    rw [← hH]
    unfold twoHp
    by_cases e1 : b = a ∧ K.lookup a = none
    · rw [if_pos e1]
      exact .inr (.inl ⟨e1.1, e1.2, rfl⟩)
    · rw [if_neg e1]
      by_cases e2 : b = sysModules ∧ K.lookup sysModules = none
      · rw [if_pos e2]
        exact .inr (.inr ⟨e2.1, e2.2, rfl⟩)
      · rw [if_neg e2]
        exact .inl rfl
  have hsys : Sys K H := by
    by_cases hk : K.lookup sysModules = none
    · refine .inl ?_
      rw [← hH]
      unfold twoHp
      by_cases e1 : sysModules = a ∧ K.lookup a = none
      · rw [if_pos e1]
        exact ⟨_, _, rfl⟩
      · rw [if_neg e1, if_pos ⟨rfl, hk⟩]
        exact ⟨_, _, rfl⟩
    · obtain ⟨o, ho⟩ := Option.ne_none_iff_exists'.mp hk
      exact .inr ⟨o, ho⟩
  have hS : SqL K H a (ns.map V.int) := by
    by_cases hk : K.lookup a = none
    · refine .inl (.inr ⟨{ cls := .type "list", data := .seq vs.toArray }, ?_⟩)
      rw [← hH]
      unfold twoHp
      rw [if_pos ⟨rfl, hk⟩]
    · obtain ⟨o, ho⟩ := Option.ne_none_iff_exists'.mp hk
      have e := KX a o ho
      rw [ha] at e
      cases e
      exact .inr ⟨_, vs.toArray, _, ho, rfl, rfl, rfl, by rw [List.size_toArray, hlen]; exact hl, by simpa using hv⟩
  have hok : HOk P w H s₁.heap := fun b u z => by
    rcases hcase b with q | ⟨e, _, q⟩ | ⟨e, _, q⟩
    · rw [q] at z
      cases z
    · rw [q] at z
      cases z
      subst e
      exact ⟨ha, by rw [List.length_map]; exact hl, vs, _, hv, ha⟩
    · rw [q] at z
      cases z
      subst e
      exact ⟨ho1, True.intro, ⟨o1, ho1⟩, fun _ _ _ _ => True.intro⟩
  have ns_ : ∀ {b : Addr} {m : Str → Option Value}, b ≠ sysModules → s₁.heap.Ns b m → (hidT s₁.heap H).Ns b m := fun {b m} nb ⟨o, es, ep, e, d, r⟩ => ⟨o, es, ep, hidT_get e (by
    rcases hcase b with q | ⟨e2, _, _⟩ | ⟨e2, _, _⟩
    · exact q
    · subst e2
      rw [ha] at e
      cases e
      have d' : Data.seq vs.toArray _ = Data.dict es ep := d
      cases d'
    · exact (nb e2).elim), d, r⟩
  have kin : K.In (hidT s₁.heap H) := fun b o e => hidT_get (KX b o e) (by
    rcases hcase b with q | ⟨e2, e3, _⟩ | ⟨e2, e3, _⟩
    · exact q
    · rw [e2, e3] at e
      cases e
    · rw [e2, e3] at e
      cases e)
  obtain ⟨mc, l1, l2⟩ := hlim
  have e0 : Env0 P w K mg (hidT s₁.heap H) callerA [] s₁ H := ⟨rfl, ⟨kin, ns_ (by decide) hns, ⟨mb, ns_ (by decide) hb, hbb⟩, mc, ns_ (by decide) l1, l2⟩, fun b o e => of_hidT e, Nat.le_of_eq (hidT_size _ _), trivial, fun b z => absurd (show b ∈ ([] : List Addr) from z) (by simp), hok, .of_eq hg⟩
  refine codeAny_mono ((F _ kin (ns_ (by decide) hns)).go callerA [] s₁ H ⟨[.ref a], []⟩ [.ref a] [.ref a] _ _ rfl hr e0 (hbind s₁ (.ref a)) (.cons rfl .nil) (hsp H hS hsys)) fun r s' h => ?_
  match r, h with
  | .error e, h => exact (hCX H e s' h).elim
  | .ok .next, h => exact h.elim
  | .ok .brk, h => exact h.elim
  | .ok .cont, h => exact h.elim
  | .ok (.ret u), ⟨v, H', os, bare, un, hok', r', q⟩ =>
    have q' : v = .bl true := q
    subst q'
    have r'' : u = Value.bool true := r'
    subst r''
    refine ⟨rfl, OldK.of_keep fun b o e => ?_, os, bare⟩
    have fz : ∀ ob xs, H b = some (.frz ob xs) → s'.heap.get? b = some o := fun ob xs z => by
      have k1 := (hok b _ z).1
      have k2 := (hok' b _ (un.frzs b ob _ z)).1
      rw [k1] at e
      rw [← e]
      exact k2
    rcases hcase b with z | ⟨_, _, z⟩ | ⟨_, _, z⟩
    · exact un.keep b o e z (fun z => absurd (show b ∈ ([] : List Addr) from z) (by simp)) (by simp)
    · exact fz _ _ z
    · exact fz _ _ z
theorem walk_ofS {l : PySem.W.OpenLaw} {n k : Nat} {q : Program} {loose : List Str} {XP : (Str → Option Value) → Heap → Prop} {YP : World → Heap → Prop} {d : DefRec} {K : Params → PySem.W.Frag} {CX : World → CXT} {sp : World → Sp} {x : Str}
    (hn : l.most = some n) (hn2 : n ≤ sizeLine) (hdf : d.params.defaults = []) (hr : Room k callerA) (hq : importsNone q = true) (hY : ∀ (w : World) (h : Heap), YP w h → (K w.params).In h)
    (F : ∀ (w : World) (mg : Str → Option Value) (fa : Addr) (h : Heap), (K w.params).In h → h.Ns mainGlobals mg → mg d.name = some (.ref fa) →
      ∃ fd : FuncData, (∀ (s : Shared) (u : Value), BindsTo s fd ⟨[u], []⟩ [(x, u)]) ∧ ∀ base : Heap, (K w.params).In base → base.Ns mainGlobals mg → FnG l.prog w (K w.params) mg base (CX w) k fa fd [x] (sp w))
    (hsp : ∀ (w : World) (H : Hp) (a : Addr) (ns : List Int), SqL (K w.params) H a (ns.map V.int) → Sys (K w.params) H → sp w [.ref a] H (fun v _ => v = .bl true) fun _ _ _ => False)
    (hCX : ∀ (w : World) (H : Hp) (s : Shared) (e : Value) (s' : Shared), CX w [] H s (fun _ _ _ => False) e s' → False) :
    PySem.W.WalkO q loose XP YP l.row.toRowW d [] (fun f vs => PySem.call f vs) :=
  Att.attach_call hn hdf fun w s₀ s₁ mg mb fa o pm cd doc a vs ns G Y ho hd hcd hmg hobj hints hlen hg => by
    have kx := hY w _ Y
    obtain ⟨fd, hb, hF⟩ := F w mg fa _ kx G.T.g hmg
    exact law_callS kx G.T.g G.T.b G.T.builtins G.T.nolimit hg (G.T.seer hq).mods hobj hints (Nat.le_trans hlen hn2) hr hF hb (fun H hS hs => hsp w H a ns hS hs) fun H e s' => hCX w H s₁ e s'
end KB

set_option Elab.async false
set_option linter.all false
set_option maxRecDepth 100000
set_option maxHeartbeats 8000000
/-! EndK1: the defs put together; what the top has left. -/
namespace KB
open PySem L2 Evl
/-- a def as it stands behind the top -/
def Known (K : PySem.W.Frag) (x : Str) (st : Stmt) : Prop := ∃ (f : Addr) (oc : Value) (od an : Option Addr) (sl : Array (Option Value)) (kV dc pm cd ct : Value), PySem.W.nsIn K mainGlobals x = some (some (.ref f)) ∧
  K.lookup f = some ⟨oc, od, .func (PySem.W.fnOf x x (defArgs st) (defBody st) (defScope st) .none kV dc pm an cd ct), sl⟩ ∧ PySem.W.codeIn K cd x = true ∧ PySem.W.keepIn K (.ref f) = true
theorem known {K : PySem.W.Frag} {x : Str} {st : Stmt} {f : Addr} {oc : Value} {od an : Option Addr} {sl : Array (Option Value)} {kV dc pm cd ct : Value} (a : PySem.W.nsIn K mainGlobals x = some (some (.ref f)))
    (l : K.lookup f = some ⟨oc, od, .func (PySem.W.fnOf x x (defArgs st) (defBody st) (defScope st) .none kV dc pm an cd ct), sl⟩) (c : PySem.W.codeIn K cd x = true) (k : PySem.W.keepIn K (.ref f) = true) : Known K x st := ⟨f, oc, od, an, sl, kV, dc, pm, cd, ct, a, l, c, k⟩
theorem hasS {K : PySem.W.Frag} {x y : Str} {t : Tok} (h : PySem.W.nsIn K mainGlobals x = some (some (.str y t))) : ∃ t, PySem.W.nsIn K mainGlobals x = some (some (.str y t)) := ⟨t, h⟩
theorem hasI {K : PySem.W.Frag} {x : Str} {y : Int} {t : Tok} (h : PySem.W.nsIn K mainGlobals x = some (some (.int y t))) : ∃ t, PySem.W.nsIn K mainGlobals x = some (some (.int y t)) := ⟨t, h⟩
theorem Known.fn {K : PySem.W.Frag} {x : Str} {st : Stmt} {h : Heap} {mg : Str → Option Value} (k : Known K x st) (X : K.In h) (G : h.Ns mainGlobals mg) : ∃ f fd, Fun K x x st f fd ∧ mg x = some (.ref f) := by
  obtain ⟨f, oc, od, an, sl, kV, dc, pm, cd, ct, a, l, c, kp⟩ := k
  exact ⟨f, _, fun_mk l c kp, PySem.W.mg_of X G a⟩
def gSame : List Value → List Value → List Value
  | [], ws => ws
  | _ :: _, _ => []
theorem kb_same {K : PySem.W.Frag} {x : Str} {st : Stmt} {f : Addr} {fd : FuncData} (F : Fun K x x st f fd) (hb : ∀ (oc kV doc pm cdv ct : Value) (an : Option Addr) (s : Shared) (a : Value), BindsTo s (PySem.W.fnOf x x (defArgs st) (defBody st) (defScope st) .none kV doc pm an cdv ct) ⟨[], [("value", a)]⟩ [("value", a)]) : KBinds K fd ["value"] ["value"] gSame kwSame := by
  obtain ⟨oc, od, kV, doc, pm, an, cdv, ct, osl, rfl, lk, hcd⟩ := F.ex
  refine ⟨fun s us ws _ hl => ?_, fun {vs us zs ws} r rz => ?_⟩
  · match us, hl with
    | [], hl =>
      match ws, hl with
      | [a], _ => exact hb oc kV doc pm cdv ct an s a
    | _ :: us', hl =>
      match ws with
      | [] => exact absurd hl (by show ¬ 0 = 1; decide)
      | _ :: _ => exact absurd hl (by show ¬ 0 = 1; decide)
  · cases r with
    | nil =>
      rw [show kwSame [] zs = zs from if_pos rfl]
      exact rz
    | cons h t =>
      rw [show kwSame (_ :: _) zs = [] from if_neg (List.cons_ne_nil _ _)]
      exact .nil
section
variable {P : Program} {w : World} {K : PySem.W.Frag} {mg : Str → Option Value} {base : Heap}
theorem mkCl {k : Nat} {x : Str} {st : Stmt} {f : Addr} {fd : FuncData} {ps : List Str} {sp : Sp} (F : Fun K x x st f fd) (ok : FnOk P w K mg base CX0 k f fd ps sp) (hm : mg x = some (.ref f)) (hb : Binds K fd ps []) : Cl P w K mg base k x ps sp := ⟨f, fd, ok, hm, F.kp, hb⟩
structure Left (K : PySem.W.Frag) : Prop where
  d0 : Known K "is_page" sIsPage
  d1 : Known K "is_event" sIsEvent
  d2 : Known K "is_shelf" sIsShelf
  d3 : Known K "is_log" sIsLog
  d4 : Known K "_law_source" sSource
  d5 : Known K "_law_draw" sDraw
  d6 : Known K "_law_pages" sPages
  d7 : Known K "_law_run" sRun
  d8 : Known K "_law_good_page" sGoodPage
  d9 : Known K "_law_good_shelf" sGoodShelf
  d10 : Known K "_law_good_log" sGoodLog
  d11 : Known K "_law_bent" sBent
  d12 : Known K "law" sLaw
  d13 : Known K "is_mark" sIsMark
  n_isinstance : PySem.W.nsIn K mainGlobals "isinstance" = some none
  n_str : PySem.W.nsIn K mainGlobals "str" = some none
  n_len : PySem.W.nsIn K mainGlobals "len" = some none
  n_all : PySem.W.nsIn K mainGlobals "all" = some none
  n_tuple : PySem.W.nsIn K mainGlobals "tuple" = some none
  n_set : PySem.W.nsIn K mainGlobals "set" = some none
  n_list : PySem.W.nsIn K mainGlobals "list" = some none
  n_range : PySem.W.nsIn K mainGlobals "range" = some none
  n_min : PySem.W.nsIn K mainGlobals "min" = some none
  n_max : PySem.W.nsIn K mainGlobals "max" = some none
  n_abs : PySem.W.nsIn K mainGlobals "abs" = some none
  n_repr : PySem.W.nsIn K mainGlobals "repr" = some none
  c_hit : ∃ t, PySem.W.nsIn K mainGlobals "HIT" = some (some (.str "hit" t))
  c_miss : ∃ t, PySem.W.nsIn K mainGlobals "MISS" = some (some (.str "miss" t))
  c_letters : ∃ t, PySem.W.nsIn K mainGlobals "LETTERS" = some (some (.str "abcdefghijklmnopqrstuvwxyz" t))
  longest : ∃ t, PySem.W.nsIn K mainGlobals "LONGEST_PAGE" = some (some (.int 4 t))
theorem all_ok {h : Heap} (T : Left K) (X : K.In h) (G : h.Ns mainGlobals mg) {fa : Addr} (hfa : mg "law" = some (.ref fa)) :
    ∃ fd : FuncData, (∀ (s : Shared) (v : Value), BindsTo s fd ⟨[v], []⟩ [("script", v)]) ∧ ∀ base : Heap, K.In base → base.Ns mainGlobals mg → FnG P w K mg base CX0 9 fa fd ["script"] (spLaw K) := by
  obtain ⟨f0, fd0, F0, m0⟩ := T.d0.fn X G
  obtain ⟨f1, fd1, F1, m1⟩ := T.d1.fn X G
  obtain ⟨f2, fd2, F2, m2⟩ := T.d2.fn X G
  obtain ⟨f3, fd3, F3, m3⟩ := T.d3.fn X G
  obtain ⟨f4, fd4, F4, m4⟩ := T.d4.fn X G
  obtain ⟨f5, fd5, F5, m5⟩ := T.d5.fn X G
  obtain ⟨f6, fd6, F6, m6⟩ := T.d6.fn X G
  obtain ⟨f7, fd7, F7, m7⟩ := T.d7.fn X G
  obtain ⟨f8, fd8, F8, m8⟩ := T.d8.fn X G
  obtain ⟨f9, fd9, F9, m9⟩ := T.d9.fn X G
  obtain ⟨f10, fd10, F10, m10⟩ := T.d10.fn X G
  obtain ⟨f11, fd11, F11, m11⟩ := T.d11.fn X G
  obtain ⟨f12, fd12, F12, m12⟩ := T.d12.fn X G
  obtain ⟨f13, fd13, F13, m13⟩ := T.d13.fn X G
  have e := hfa.symm.trans m12
  cases e
  obtain ⟨t_hit, h_hit⟩ := T.c_hit
  obtain ⟨t_miss, h_miss⟩ := T.c_miss
  obtain ⟨t_letters, h_letters⟩ := T.c_letters
  obtain ⟨t4, h4⟩ := T.longest
  have B0 : Bn mg := ⟨PySem.W.mg_none_of X G T.n_isinstance, PySem.W.mg_none_of X G T.n_str, PySem.W.mg_none_of X G T.n_len, PySem.W.mg_none_of X G T.n_all, PySem.W.mg_none_of X G T.n_tuple, PySem.W.mg_none_of X G T.n_set, PySem.W.mg_none_of X G T.n_list, PySem.W.mg_none_of X G T.n_range, PySem.W.mg_none_of X G T.n_min, ⟨t_hit, PySem.W.mg_of X G h_hit⟩, ⟨t_miss, PySem.W.mg_of X G h_miss⟩, ⟨t_letters, PySem.W.mg_of X G h_letters⟩, ⟨t4, PySem.W.mg_of X G h4⟩⟩
  have B2 : Bl mg := ⟨PySem.W.mg_none_of X G T.n_max, PySem.W.mg_none_of X G T.n_abs, PySem.W.mg_none_of X G T.n_repr⟩
  have b13 := F13.binds (ps := ["value"]) fun _ _ _ _ _ _ us hl => match us, hl with | [_], _ => rfl
  have b0 := F0.binds (ps := ["value"]) fun _ _ _ _ _ _ us hl => match us, hl with | [_], _ => rfl
  have b1 := F1.binds (ps := ["value"]) fun _ _ _ _ _ _ us hl => match us, hl with | [_], _ => rfl
  have b2 := F2.binds (ps := ["value"]) fun _ _ _ _ _ _ us hl => match us, hl with | [_], _ => rfl
  have b3 := F3.binds (ps := ["value"]) fun _ _ _ _ _ _ us hl => match us, hl with | [_], _ => rfl
  have b4 := F4.binds (ps := ["script", "k"]) fun _ _ _ _ _ _ us hl => match us, hl with | [_, _], _ => rfl
  have b5 := F5.binds (ps := ["source", "bound"]) fun _ _ _ _ _ _ us hl => match us, hl with | [_, _], _ => rfl
  have b6 := F6.binds (ps := ["source", "count"]) fun _ _ _ _ _ _ us hl => match us, hl with | [_, _], _ => rfl
  have b7 := F7.binds (ps := ["source", "room", "initial", "pages", "size"]) fun _ _ _ _ _ _ us hl => match us, hl with | [_, _, _, _, _], _ => rfl
  have b8 := F8.binds (ps := ["thing"]) fun _ _ _ _ _ _ us hl => match us, hl with | [_], _ => rfl
  have b9 := F9.binds (ps := ["thing"]) fun _ _ _ _ _ _ us hl => match us, hl with | [_], _ => rfl
  have b10 := F10.binds (ps := ["thing"]) fun _ _ _ _ _ _ us hl => match us, hl with | [_], _ => rfl
  have b11 := F11.binds (ps := ["source", "thing"]) fun _ _ _ _ _ _ us hl => match us, hl with | [_, _], _ => rfl
  obtain ⟨oc, od, kV, doc, pm, an, cdv, ct, osl, efd, _, _⟩ := F12.ex
  refine ⟨fd12, fun s v => ?_, fun base _ _ => ?_⟩
  · rw [efd]
    exact .of_eq rfl
  · have c0 : Cl P w K mg base 1 "is_page" ["value"] (spAny K pageD) := mkCl F0 (ok_isPage F0 B0) m0 b0
    have cM : Cl P w K mg base 1 "is_mark" ["value"] (spAny K markD) := mkCl F13 (ok_isMark F13 B0) m13 b13
    have c1 := mkCl F1 (ok_isEvent F1 B0 cM c0) m1 b1
    have o2 := ok_isShelf (P := P) (w := w) (base := base) F2 B0 c0
    have c2 := mkCl F2 o2 m2 b2
    have o3 := ok_isLog F3 B0 c1
    have c3 := mkCl F3 o3 m3 b3
    have c4 : Cl P w K mg base 1 "_law_source" ["script", "k"] (spSource K) := mkCl F4 (ok_source F4 B0 B2) m4 b4
    have c5 : Cl P w K mg base 1 "_law_draw" ["source", "bound"] spDraw := mkCl F5 (ok_draw F5) m5 b5
    have c6 := mkCl F6 (ok_pages F6 B0 c5) m6 b6
    have c7 := mkCl F7 (ok_run F7 B0 c5) m7 b7
    have c8 : Cl P w K mg base 1 "_law_good_page" ["thing"] (spAny K pageD) := mkCl F8 (ok_goodPage F8 B0) m8 b8
    have c9 := mkCl F9 (ok_goodShelf F9 B0 c8) m9 b9
    have c10 := mkCl F10 (ok_goodLog F10 B0 c8) m10 b10
    have n0 : Cl P w K mg base 1 "_law_bent" ["source", "thing"] spNever := mkCl F11 ok_never m11 b11
    have n1 := mkCl F11 (ok_bent (n := 0) F11 B0 c5 n0 (.inl rfl)) m11 b11
    have n2 := mkCl F11 (ok_bent (n := 1) F11 B0 c5 n1 (.inr ⟨0, rfl, rfl⟩)) m11 b11
    have n3 := mkCl F11 (ok_bent (n := 2) F11 B0 c5 n2 (.inr ⟨1, rfl, rfl⟩)) m11 b11
    have kS : ClK P w K mg base 3 "is_shelf" ["value"] ["value"] kwSame (spAny K shelfD) := ⟨f2, fd2, gSame, o2, m2, F2.kp, kb_same F2 fun _ _ _ _ _ _ _ _ _ => .of_eq rfl⟩
    have kL : ClK P w K mg base 3 "is_log" ["value"] ["value"] kwSame (spAny K logB) := ⟨f3, fd3, gSame, o3, m3, F3.kp, kb_same F3 fun _ _ _ _ _ _ _ _ _ => .of_eq rfl⟩
    exact ok_law (by decide) F12 B0 B2 c5 c4 c6 c7 n3 c2 c3 kS kL c9 c10
end
end KB
open PySem PySem.W PyProof.Rows
set_option maxHeartbeats 0 in
theorem PySem.Challenge.cw_hitlog_k01_shelves_and_logs_judged_holds : PySem.Challenge.rw_hitlog_k01_shelves_and_logs_judged.Holds := by
  w_on; o_law; k_head; (case hw => w_witness2)
  k_fill
  refine KB.walk_ofS (l := PySem.Challenge.rw_hitlog_k01_shelves_and_logs_judged) (n := 63) (k := 9) (x := "script") (CX := fun _ => L2.CX0) (sp := fun w => KB.spLaw _) rfl (by decide) rfl ⟨rfl, by decide, by decide⟩ (by decide +kernel) (fun w h Y => PySem.W.kIn_of Y) ?F (fun _ _ a ns hS hs => ⟨a, ns, rfl, hS, hs, fun _ => rfl⟩) (fun _ _ _ _ _ h => h)
  case F =>
    intro w mg fa h KX G hmg
    refine' KB.all_ok ⟨KB.known ?a0 ?l0 ?c0 ?k0, KB.known ?a1 ?l1 ?c1 ?k1, KB.known ?a2 ?l2 ?c2 ?k2, KB.known ?a3 ?l3 ?c3 ?k3, KB.known ?a4 ?l4 ?c4 ?k4, KB.known ?a5 ?l5 ?c5 ?k5, KB.known ?a6 ?l6 ?c6 ?k6, KB.known ?a7 ?l7 ?c7 ?k7, KB.known ?a8 ?l8 ?c8 ?k8, KB.known ?a9 ?l9 ?c9 ?k9, KB.known ?a10 ?l10 ?c10 ?k10, KB.known ?a11 ?l11 ?c11 ?k11, KB.known ?a12 ?l12 ?c12 ?k12, KB.known ?a13 ?l13 ?c13 ?k13, ?z_isinstance, ?z_str, ?z_len, ?z_all, ?z_tuple, ?z_set, ?z_list, ?z_range, ?z_min, ?z_max, ?z_abs, ?z_repr, KB.hasS ?h0, KB.hasS ?h1, KB.hasS ?h2, KB.hasI ?hq9⟩ KX G hmg
    (case a0 => k_is); (case l0 => k_is); (case c0 => k_is); (case k0 => k_is); (case a1 => k_is); (case l1 => k_is); (case c1 => k_is); (case k1 => k_is); (case a2 => k_is); (case l2 => k_is); (case c2 => k_is); (case k2 => k_is); (case a3 => k_is); (case l3 => k_is); (case c3 => k_is); (case k3 => k_is); (case a4 => k_is); (case l4 => k_is); (case c4 => k_is); (case k4 => k_is); (case a5 => k_is); (case l5 => k_is); (case c5 => k_is); (case k5 => k_is); (case a6 => k_is); (case l6 => k_is); (case c6 => k_is); (case k6 => k_is); (case a7 => k_is); (case l7 => k_is); (case c7 => k_is); (case k7 => k_is); (case a8 => k_is); (case l8 => k_is); (case c8 => k_is); (case k8 => k_is); (case a9 => k_is); (case l9 => k_is); (case c9 => k_is); (case k9 => k_is); (case a10 => k_is); (case l10 => k_is); (case c10 => k_is); (case k10 => k_is); (case a11 => k_is); (case l11 => k_is); (case c11 => k_is); (case k11 => k_is); (case a12 => k_is); (case l12 => k_is); (case c12 => k_is); (case k12 => k_is); (case a13 => k_is); (case l13 => k_is); (case c13 => k_is); (case k13 => k_is); (case z_isinstance => k_is); (case z_str => k_is); (case z_len => k_is); (case z_all => k_is); (case z_tuple => k_is); (case z_set => k_is); (case z_list => k_is); (case z_range => k_is); (case z_min => k_is); (case z_max => k_is); (case z_abs => k_is); (case z_repr => k_is); (case h0 => k_is); (case h1 => k_is); (case h2 => k_is); (case hq9 => k_is)
