import PyProof.Rows.All
import Wide.All
import OpenK.AllK
import Wide.FinOn
import HandS.ForMost
import HandS.Evl
import HandS.Wide
import HandS.IsInst
import HandS.SetKeys
import HandS.Strs
import HandS.Style
import HandS.Walk
import HandS.ForExc
import HandS.MakeKwOnly
import PyProof.ReprRoads
import HandS.Flow
import HandS.SortInts
import PyProof.Rows.SetFrom
import PyProof.Rows.SortShellAny
import KE.KDictZip
import HandS.ExcIs
import HandS.ExcValue
import HandS.Star
import HandS.Deep
import HandS.TryOnly
import KE.RegKIsAll
import PySem.Challenge.RW_hitlog_k03_replays
set_option Elab.async false
set_option linter.all false
set_option maxRecDepth 100000
set_option maxHeartbeats 4000000
/-! KB0: rules of one's own beside the hand layer. -/
namespace KB
open PySem PySem.Spec PyProof.Rows L2

/-! ### powers of wide ints -/
def PowFit (i j : Int) : Prop := 0 ≤ j ∧ j ≤ 8 ∧ i.natAbs < 2 ^ 250
theorem op_powF {X : Cx} : OpR X (binaryOp .Pow) (rI PowFit fun i j => .int (i ^ j.toNat)) := opI fun i j t u s Q E hc q => by
  obtain ⟨h0, h8, hi⟩ := hc
  refine pow_int h0 ?_ q
  have h1 : Builtin.Int.intBits i ≤ 300 := by
    unfold Builtin.Int.intBits
    split
    · omega
    · rename_i hn
      have := PySem.Flt.log2_lt_of (by decide) hi
      omega
  have h2 : (Builtin.Int.intBits i : Int) * j ≤ 300 * 8 := Int.mul_le_mul (by omega) h8 h0 (by decide)
  exact Int.le_trans h2 (by decide)

/-! ### repr of data, where no repr is under way -/
def rReprD (K : PySem.W.Frag) : List V → Hp → VK → Prop := fun xs H Q => ∃ (a : Addr) (d : PyData), xs = [.ref a] ∧ Dp K H (.ref a) d ∧ d.showable = true ∧ d.hasDict = false ∧ d.depth ≤ 40 ∧ d.shown.length ≤ sizeLine ∧ Q (.str d.shown) H
theorem call_reprD {X : Cx} {k : Nat} (hr : Room k X.A) (hG : X.A.guards = some []) : CallR X (.builtin "repr") (rReprD X.K) := by
  intro pins s σ H xs us Q I r h
  obtain ⟨a, d, rfl, hd, hs, hn, hdep, hz, q⟩ := h
  have e := Vals.ref1 r
  subst e
  obtain ⟨as, hR⟩ := Dp.reads I d (.ref a) (.ref a) hd rfl
  have hu := hr.units
  refine PySem.repr_of_reads' (h₀ := s.heap) hR hs (fun z => by rw [hn] at z; cases z) hG (by omega) (fun _ _ z => z) (fun h' u tk hk => ?_) hz
  exact ⟨.str d.shown, H, I.kept hk, ⟨u, rfl⟩, q⟩

/-! ### a call with keywords alone -/
section
variable {X : Cx} {CX : CXT} {k : Nat} {f : Addr} {fd : FuncData} {ps ks : List Str} {sp : Sp} {E : XK} {x : Str} {p pos : Pos} {kws : List Keyword} {tk : TA}
variable {g : List Value → List Value → List Value} {gV : List V → List V → List V}
def tCallK0 (sp : Sp) (gV : List V → List V → List V) (E : XK) (tk : TA) : TE := fun σ H Q => tk σ H fun zs H2 => sp (gV [] zs) H2 Q E
theorem pe_callK0 (F : FnOk X.prog X.w X.K X.mg X.base CX k f fd ps sp) (hr : Room k X.A) (hg : Gl X x) (hm : X.mg x = some (.ref f)) (hk : PySem.W.keepIn X.K (.ref f) = true) (hb : KBinds X.K fd ps ks g gV) (hx : Passes CX X E)
    (hkw : PK X kws tk) (hall : (backToKw pos (keywordEach kws X.env)).all (·.1.isSome) = true := by rfl) (hks : (backToKw pos (keywordEach kws X.env)).filterMap (·.1) = ks := by rfl)
    (hdb : (x == ("__debug__" : Str)) = false := by decide) (hpl : ((backTo pos (starEach [] X.env)).any (·.1) || (backToKw pos (keywordEach kws X.env)).any (·.1.isNone)) = false := by rfl) :
    PE X (.Call (.Name x p) [] kws pos) (tCallK0 sp gV E tk) := by
  refine ⟨fun pins s σ H Q I h => wpAny_Call_Name_kw (ld_glob I hg hm (PySem.W.callWith_KW0 (h₀ := X.base) I.ok.mod.kin hk hall ?_ hpl) hdb)⟩
  refine thn (hkw.run pos pins s σ H _ I h) fun ws s2 ⟨zs, H2, I2, rz, q2⟩ => ⟨I2.kIn, ?_⟩
  rw [hks]
  exact run_fnk (us := []) (vs := []) F hr hb hx I2 .nil rz q2
end

/-! ### defs whose callers have no repr under way -/
structure FnG (P : Program) (w : World) (K : PySem.W.Frag) (mg : Str → Option Value) (base : Heap) (CX : CXT) (k : Nat) (f : Addr) (fd : FuncData) (ps : List Str) (sp : Sp) : Prop where
  len : ∀ vs H Q E, sp vs H Q E → vs.length = ps.length
  go : ∀ (A : Around) (outer : List Env) (s : Shared) (H : Hp) (args : Args) (us : List Value) (vs : List V) (Q : VK) (E : XK), A.guards = some [] → Room k A → Env0 P w K mg base A outer s H → BindsTo s fd args (ps.zip us) → Vals vs us → sp vs H Q E →
    codeAny (model P w) A (.call (.ref f) args) (CR CX outer P w H s Q E) s
/-- such a def, seen at one place A alone -/
theorem FnG.atA {P : Program} {w : World} {K : PySem.W.Frag} {mg : Str → Option Value} {base : Heap} {CX : CXT} {k : Nat} {f : Addr} {fd : FuncData} {ps : List Str} {sp : Sp} (F : FnG P w K mg base CX k f fd ps sp) {A : Around} (hG : A.guards = some []) :
    ∀ (outer : List Env) (s : Shared) (H : Hp) (args : Args) (us : List Value) (vs : List V) (Q : VK) (E : XK), Room k A → Env0 P w K mg base A outer s H → BindsTo s fd args (ps.zip us) → Vals vs us → sp vs H Q E →
    codeAny (model P w) A (.call (.ref f) args) (CR CX outer P w H s Q E) s := fun outer s H args us vs Q E => F.go A outer s H args us vs Q E hG
section
variable {X : Cx} {CX : CXT} {k : Nat} {f : Addr} {fd : FuncData} {ps : List Str} {sp : Sp} {E : XK} {x : Str} {p pos : Pos} {e : Expr} {es : List Expr} {t : TA}
theorem pe_callG (F : FnG X.prog X.w X.K X.mg X.base CX k f fd ps sp) (hG : X.A.guards = some []) (hr : Room k X.A) (hg : Gl X x) (hm : X.mg x = some (.ref f)) (hk : PySem.W.keepIn X.K (.ref f) = true) (hb : Binds X.K fd ps []) (hx : Passes CX X E)
    (ha : PA X (e :: es) t) (hdb : (x == ("__debug__" : Str)) = false := by decide) (he : starEach (e :: es) X.env = (false, eval e X.env) :: starEach es X.env := by rfl) (hpl : (backTo pos (starEach es X.env)).any (·.1) = false := by rfl) :
    PE X (.Call (.Name x p) (e :: es) [] pos) (tCall sp [] E t) := by
  refine ⟨fun pins s σ H Q I h => wpAny_Call_Name_kw (ld_glob I hg hm (PySem.W.callWith_K (h₀ := X.base) I.ok.mod.kin hk ?_ he hpl) hdb)⟩
  refine thn (ha.run pos pins s σ H _ I h) fun us s1 ⟨vs, H1, I1, r, q⟩ => ⟨I1.kIn, ?_⟩
  have q : sp (vs ++ []) H1 Q E := q
  rw [List.append_nil] at q
  have hl : (us ++ ([] : List Value)).length = ps.length := by rw [List.append_nil, ← r.length]; exact F.len _ _ _ _ q
  have bd := hb s1 us I1.kIn hl
  rw [List.append_nil] at bd
  show wpAny (model X.prog X.w) X.A (call (.ref f) us) _ _ _
  refine wpAny_call (codeAny_mono (F.go X.A X.stack s1 H1 ⟨us, []⟩ us vs Q E hG hr I1.env0 bd r q) fun rr s' hq => ?_)
  match rr, hq with
  | .error er, hq => exact hx pins σ H1 s1 er s' I1 hq
  | .ok (.ret u), hq => exact I1.after hq
  | .ok .next, hq => exact hq.elim
  | .ok .brk, hq => exact hq.elim
  | .ok .cont, hq => exact hq.elim
end

section
variable {P : Program} {w : World} {K : PySem.W.Frag} {mg : Str → Option Value} {base : Heap} {CX : CXT}
/-- a def's body, read once, at one place -/
theorem run_body {f : Addr} {name qual : Str} {params : Arguments} {body : List Stmt} {scope : Scope} {kV doc pm cdv ct oc : Value} {an od : Option Addr} {osl : Array (Option Value)} {N ps : List Str} {A : Around} {outer : List Env} {s : Shared} {H : Hp}
    {args : Args} {us : List Value} {vs : List V} {Q : VK} {E : XK} {t : TS} (lk : K.lookup f = some ⟨oc, od, .func (PySem.W.fnOf name qual params body scope .none kV doc pm an cdv ct), osl⟩) (hcd : PySem.W.codeIn K cdv qual = true) (S : FnScope N ps scope)
    (hroom : A.depth < recursionLimit) (hhd : A.handled = none) (e0 : Env0 P w K mg base A outer s H) (hb : BindsTo s (PySem.W.fnOf name qual params body scope .none kV doc pm an cdv ct) args (ps.zip us)) (r : Vals vs us) (hl : vs.length = ps.length)
    (ht : PSs (cxOf CX P w K mg base N qual scope f cdv A outer s H E) body t) (hq : t { nx := fun _ H' => Q .non H', rt := Q } (start N vs) H) : codeAny (model P w) A (.call (.ref f) args) (CR CX outer P w H s Q E) s := by
  have kin : K.In s.heap := e0.mod.kin.keeps fun b o z => (e0.bs b o z).1
  have nol : s.heap.NoLimit := e0.mod.nolimit.keeps fun b o z => (e0.bs b o z).1
  have places : ∀ y ∈ ps.zip us, scope.names.lookup y.1 = some .local ∨ (scope.names.lookup y.1 = some .cell ∧ ((cellsFrom (s.heap.objs.size + 1) scope.names []).lookup y.1).isSome = true) := fun y hy =>
    (S.par y.1 (List.of_mem_zip (show (y.1, y.2) ∈ ps.zip us from hy)).1).elim Or.inl fun c => Or.inr ⟨c, PySem.W.cellsFrom_some _ _ _ (.inl c)⟩
  refine codeAny_call_function hroom (kin _ _ lk) rfl S.co S.gen rfl (PySem.W.codeRec_of kin hcd) (hb _ _ _ _ ?_)
  refine wpAny_newFunctionEnv_cells S.kind places fun env ee s1 frame => ?_
  cases ee
  refine ⟨nol.keeps frame.toInCall.keep, codeAny_func ?_⟩
  have I := inv_start (CX := CX) (E := E) S hhd e0 hl r frame
  refine wpAny_mono (ht.run [] s1 (start N vs) H _ I hq) (fun fl s' done => ?_) (fun e s' gone => gone)
  match fl, done with
  | .ret u, ⟨v, σ', H', J, rv, q⟩ => exact ⟨v, H', J.os, J.bare, J.base, J.hok, rv, q⟩
  | .next, ⟨σ', H', J, q⟩ => exact ⟨.non, H', J.os, J.bare, J.base, J.hok, rfl, q⟩
  | .brk, ⟨_, _, _, q⟩ => exact q.elim
  | .cont, ⟨_, _, _, q⟩ => exact q.elim
/-- a def that asks that no repr be under way -/
theorem okG {x qual : Str} {st : Stmt} {f : Addr} {fd : FuncData} {N ps : List Str} {k : Nat} {sp : Sp} (F : Fun K x qual st f fd) (S : FnScope N ps (defScope st)) (len : ∀ vs H Q E, sp vs H Q E → vs.length = ps.length)
    (hbody : ∀ (cdv : Value) (A : Around) (outer : List Env) (s : Shared) (H : Hp) (vs : List V) (Q : VK) (E : XK), (A.deeper (envOfC qual (defScope st) s.heap.objs.size f cdv)).guards = some [] → Room k (A.deeper (envOfC qual (defScope st) s.heap.objs.size f cdv)) → sp vs H Q E →
      ∃ t, PSs (cxOf CX P w K mg base N qual (defScope st) f cdv A outer s H E) (defBody st) t ∧ t { nx := fun _ H' => Q .non H', rt := Q } (start N vs) H) : FnG P w K mg base CX (k + 1) f fd ps sp := by
  obtain ⟨oc, od, kV, doc, pm, an, cdv, ct, osl, rfl, lk, hcd⟩ := F.ex
  refine ⟨len, fun A outer s H args us vs Q E hG hr e0 hb r hsp => ?_⟩
  obtain ⟨t, h, q⟩ := hbody cdv A outer s H vs Q E hG (hr.deeper _) hsp
  exact run_body lk hcd S hr.depth hr.hd e0 hb r (len _ _ _ _ hsp) h q
end

/-! ### the end of a law whose def asks that no repr be under way -/
/-- the abstract heap in which the script alone is known -/
def oneHp (a : Addr) (o : Obj) (u : HO) : Hp := fun b => if b = a then some (.frz o u) else none
theorem law_callG {P : Program} {w : World} {K : PySem.W.Frag} {mg mb : Str → Option Value} {CX : CXT} {k : Nat} {fa a : Addr} {fd : FuncData} {x : Str} {sp : Sp} {s₁ : Shared} {vs : List Value} {ns : List Int}
    (KX : K.In s₁.heap) (hns : s₁.heap.Ns mainGlobals mg) (hb : s₁.heap.Ns builtinsNs mb) (hbb : ∀ x : Str, x ≠ "__name__" → mb x = bootBuiltins x) (hlim : s₁.heap.NoLimit) (hg : s₁.gens = #[])
    (ha : s₁.heap.get? a = some { cls := .type "list", data := .seq vs.toArray }) (hi : IntsAre vs ns) (hl : ns.length ≤ sizeLine) (hr : Room k callerA)
    (F : ∀ base : Heap, K.In base → base.Ns mainGlobals mg → FnG P w K mg base CX k fa fd [x] sp) (hbind : ∀ (s : Shared) (u : Value), BindsTo s fd ⟨[u], []⟩ [(x, u)])
    (hsp : ∀ H : Hp, Only H → SqL K H a (ns.map V.int) → sp [.ref a] H (fun v _ => v = .bl true) fun _ _ _ => False) (hCX : ∀ H e s', CX [] H s₁ (fun _ _ _ => False) e s' → False) :
    codeAny (model P w) callerA (.call (.ref fa) ⟨[.ref a], []⟩) (fun r s' => r = .ok (.ret (.bool true)) ∧ OldK s₁.heap s'.heap ∧ s'.os = s₁.os ∧ AllBare s'.gens) s₁ := by
  have hv := vals_ints hi
  have hlen := hi.length
  have main : ∀ H : Hp, Only H → SqL K H a (ns.map V.int) → HOk P w H s₁.heap → (∀ b, (H b).isSome = true → b = a ∧ K.lookup a = none) →
      codeAny (model P w) callerA (.call (.ref fa) ⟨[.ref a], []⟩) (fun r s' => r = .ok (.ret (.bool true)) ∧ OldK s₁.heap s'.heap ∧ s'.os = s₁.os ∧ AllBare s'.gens) s₁ := by
    intro H hO hS hok hA
    have free : ∀ {b : Addr}, (b = a → False) → H b = none := fun {b} hn => by
      cases z : H b with
      | none => rfl
      | some u => exact (hn (hA b (by rw [z] <;> rfl)).1).elim
    have ns_ : ∀ {b : Addr} {m : Str → Option Value}, s₁.heap.Ns b m → (hidT s₁.heap H).Ns b m := fun {b m} ⟨o, es, ep, e, d, r⟩ => ⟨o, es, ep, hidT_get e (free fun z => by
      subst z
      rw [ha] at e
      cases e
      have d' : Data.seq vs.toArray _ = Data.dict es ep := d
      cases d'), d, r⟩
    have kin : K.In (hidT s₁.heap H) := fun b o e => hidT_get (KX b o e) (by
      cases z : H b with
      | none => rfl
      | some u =>
        obtain ⟨e1, e2⟩ := hA b (by rw [z] <;> rfl)
        rw [e1, e2] at e
        cases e)
    obtain ⟨mc, l1, l2⟩ := hlim
    have e0 : Env0 P w K mg (hidT s₁.heap H) callerA [] s₁ H := ⟨rfl, ⟨kin, ns_ hns, ⟨mb, ns_ hb, hbb⟩, mc, ns_ l1, l2⟩, fun b o e => of_hidT e, Nat.le_of_eq (hidT_size _ _), trivial, fun b z => absurd (show b ∈ ([] : List Addr) from z) (by simp), hok, .of_eq hg⟩
    refine codeAny_mono ((F _ kin (ns_ hns)).go callerA [] s₁ H ⟨[.ref a], []⟩ [.ref a] [.ref a] _ _ rfl hr e0 (hbind s₁ (.ref a)) (.cons rfl .nil) (hsp H hO hS)) fun r s' h => ?_
    match r, h with
    | .error e, h => exact (hCX H e s' h).elim
    | .ok .next, h => exact h.elim
    | .ok .brk, h => exact h.elim
    | .ok .cont, h => exact h.elim
    | .ok (.ret u), ⟨v, H', os, bare, un, hok', r', q⟩ =>
      have q' : v = .bl true := q
      subst q'
      have r'' : u = Value.bool true := r'
      subst r''
      refine ⟨rfl, OldK.of_keep fun b o e => ?_, os, bare⟩
      rcases hO b with z | ⟨ob, xs, z⟩
      · exact un.keep b o e z (fun z => absurd (show b ∈ ([] : List Addr) from z) (by simp)) (by simp)
      · have k1 := (hok b _ z).1
        have k2 := (hok' b _ (un.frzs b ob _ z)).1
        rw [k1] at e
        rw [← e]
        exact k2
  by_cases hk : K.lookup a = none
  · refine main (oneHp a { cls := .type "list", data := .seq vs.toArray } (.lst (ns.map V.int))) (fun b => ?_) (.inl (.inr ⟨_, if_pos rfl⟩)) (fun b u z => ?_) (fun b z => ?_)
    · by_cases e : b = a
      · exact .inr ⟨_, _, if_pos e⟩
      · exact .inl (if_neg e)
    · by_cases e : b = a
      · have z1 := (show oneHp a { cls := .type "list", data := .seq vs.toArray } (.lst (ns.map V.int)) b = _ from if_pos e).symm.trans z
        cases z1
        subst e
        exact ⟨ha, by rw [List.length_map]; exact hl, vs, _, hv, ha⟩
      · have z1 := (show oneHp a { cls := .type "list", data := .seq vs.toArray } (.lst (ns.map V.int)) b = _ from if_neg e).symm.trans z
        cases z1
    · by_cases e : b = a
      · exact ⟨e, hk⟩
      · have z1 : oneHp a { cls := .type "list", data := .seq vs.toArray } (.lst (ns.map V.int)) b = none := if_neg e
        rw [z1] at z
        cases z
  · obtain ⟨o, ho⟩ := Option.ne_none_iff_exists'.mp hk
    have e := KX a o ho
    rw [ha] at e
    cases e
    exact main (fun _ => none) (fun _ => .inl rfl) (.inr ⟨_, vs.toArray, _, ho, rfl, rfl, rfl, by rw [List.size_toArray, hlen]; exact hl, by simpa using hv⟩) (fun b u z => nomatch (show (none : Option HO) = some u from z)) (fun b z => nomatch z)
theorem walk_ofG {l : PySem.W.OpenLaw} {n k : Nat} {q : Program} {loose : List Str} {XP : (Str → Option Value) → Heap → Prop} {YP : World → Heap → Prop} {d : DefRec} {K : Params → PySem.W.Frag} {CX : World → CXT} {sp : World → Sp} {x : Str}
    (hn : l.most = some n) (hn2 : n ≤ sizeLine) (hdf : d.params.defaults = []) (hr : Room k callerA) (hY : ∀ (w : World) (h : Heap), YP w h → (K w.params).In h)
    (F : ∀ (w : World) (mg : Str → Option Value) (fa : Addr) (h : Heap), (K w.params).In h → h.Ns mainGlobals mg → mg d.name = some (.ref fa) →
      ∃ fd : FuncData, (∀ (s : Shared) (u : Value), BindsTo s fd ⟨[u], []⟩ [(x, u)]) ∧ ∀ base : Heap, (K w.params).In base → base.Ns mainGlobals mg → FnG l.prog w (K w.params) mg base (CX w) k fa fd [x] (sp w))
    (hsp : ∀ (w : World) (H : Hp) (a : Addr) (ns : List Int), ns.length ≤ n → Only H → SqL (K w.params) H a (ns.map V.int) → sp w [.ref a] H (fun v _ => v = .bl true) fun _ _ _ => False)
    (hCX : ∀ (w : World) (H : Hp) (s : Shared) (e : Value) (s' : Shared), CX w [] H s (fun _ _ _ => False) e s' → False) :
    PySem.W.WalkO q loose XP YP l.row.toRowW d [] (fun f vs => PySem.call f vs) :=
  Att.attach_call hn hdf fun w s₀ s₁ mg mb fa o pm cd doc a vs ns G Y ho hd hcd hmg hobj hints hlen hg => by
    have kx := hY w _ Y
    obtain ⟨fd, hb, hF⟩ := F w mg fa _ kx G.T.g hmg
    exact law_callG kx G.T.g G.T.b G.T.builtins G.T.nolimit hg hobj hints (Nat.le_trans hlen hn2) hr hF hb (fun H hO hS => hsp w H a ns hlen hO hS) fun H e s' => hCX w H s₁ e s'
end KB

set_option Elab.async false
set_option linter.all false
set_option maxRecDepth 100000
set_option maxHeartbeats 4000000
/-! KB1: set(tuple of texts) and its length; xs[n:] = ys. -/
namespace KB
open PySem PySem.Spec PyProof.Rows L2

/-- the texts as they are met first -/
def metS (xs : List Str) : List Str := xs.foldl (fun acc x => if x ∈ acc then acc else acc ++ [x]) []
theorem metS_snoc (xs : List Str) (x : Str) : metS (xs ++ [x]) = if x ∈ metS xs then metS xs else metS xs ++ [x] := by
  unfold metS
  rw [List.foldl_append]
  rfl
theorem metS_le : ∀ (n : Nat) (xs : List Str), xs.length = n → (metS xs).length ≤ n := by
  intro n
  induction n with
  | zero =>
    intro xs h
    have e : xs = [] := List.length_eq_zero_iff.mp h
    subst e
    exact Nat.le_refl 0
  | succ n ih =>
    intro xs h
    obtain ⟨ys, y, rfl⟩ : ∃ ys y, xs = ys ++ [y] := ⟨xs.dropLast, xs.getLast (by intro z; rw [z] at h; cases h), (List.dropLast_concat_getLast _).symm⟩
    have hy : ys.length = n := by simpa using h
    have := ih ys hy
    rw [metS_snoc]
    split
    · omega
    · rw [List.length_append]
      show _ + 1 ≤ _
      omega
theorem metS_mem : ∀ (n : Nat) (xs : List Str), xs.length = n → ∀ z, z ∈ metS xs ↔ z ∈ xs := by
  intro n
  induction n with
  | zero =>
    intro xs h z
    have e : xs = [] := List.length_eq_zero_iff.mp h
    subst e
    exact Iff.rfl
  | succ n ih =>
    intro xs h z
    obtain ⟨ys, y, rfl⟩ : ∃ ys y, xs = ys ++ [y] := ⟨xs.dropLast, xs.getLast (by intro z; rw [z] at h; cases h), (List.dropLast_concat_getLast _).symm⟩
    have hy : ys.length = n := by simpa using h
    have := ih ys hy
    rw [metS_snoc]
    split
    · rename_i hin
      rw [this z, List.mem_append, List.mem_singleton]
      constructor
      · exact Or.inl
      · rintro (q | rfl)
        · exact q
        · exact (this z).mp hin
    · rw [List.mem_append, List.mem_append, this z]
theorem metS_eq : ∀ (n : Nat) (xs : List Str), xs.length = n → (metS xs).length = n → xs.Nodup := by
  intro n
  induction n with
  | zero =>
    intro xs h _
    have e : xs = [] := List.length_eq_zero_iff.mp h
    subst e
    exact List.nodup_nil
  | succ n ih =>
    intro xs h hm
    obtain ⟨ys, y, rfl⟩ : ∃ ys y, xs = ys ++ [y] := ⟨xs.dropLast, xs.getLast (by intro z; rw [z] at h; cases h), (List.dropLast_concat_getLast _).symm⟩
    have hy : ys.length = n := by simpa using h
    rw [metS_snoc] at hm
    have hle := metS_le n ys hy
    split at hm
    · omega
    · rename_i hin
      have hl : (metS ys).length = n := by
        rw [List.length_append] at hm
        have : (metS ys).length + 1 = n + 1 := hm
        omega
      have nd := ih ys hy hl
      refine List.nodup_append.mpr ⟨nd, by simp, fun a ha b hb e => ?_⟩
      have hb' := List.mem_singleton.mp hb
      subst hb'
      subst e
      exact hin ((metS_mem n ys hy a).mpr ha)
theorem metS_nodup : ∀ (n : Nat) (xs : List Str), xs.length = n → xs.Nodup → metS xs = xs := by
  intro n
  induction n with
  | zero =>
    intro xs h _
    have e : xs = [] := List.length_eq_zero_iff.mp h
    subst e
    rfl
  | succ n ih =>
    intro xs h nd
    obtain ⟨ys, y, rfl⟩ : ∃ ys y, xs = ys ++ [y] := ⟨xs.dropLast, xs.getLast (by intro z; rw [z] at h; cases h), (List.dropLast_concat_getLast _).symm⟩
    have hy : ys.length = n := by simpa using h
    obtain ⟨n1, _, n3⟩ := List.nodup_append.mp nd
    rw [metS_snoc, ih ys hy n1, if_neg fun hin => n3 y hin y (List.mem_singleton.mpr rfl) rfl]

/-! ### the set at S holds the first i texts -/
def Got (P : Program) (w : World) (h : Heap) (S : Addr) (xs : List Str) : Prop := h.SetOf (PySem.strKind P w) S (fun z => decide (z ∈ metS xs)) (metS xs).length
theorem Got.keep {P : Program} {w : World} {h h' : Heap} {S : Addr} {xs : List Str} (g : Got P w h S xs) (k : ∀ o, h.get? S = some o → h'.get? S = some o) : Got P w h' S xs := by
  obtain ⟨o, es, ep, t, ho, r⟩ := g
  exact ⟨o, es, ep, t, k o ho, r⟩
theorem Got.more {P : Program} {w : World} {h : Heap} {S : Addr} {xs : List Str} {x : Str}
    (g : h.SetOf (PySem.strKind P w) S (fun z => decide (z ∈ metS xs) || decide (z = x)) (if decide (x ∈ metS xs) = true then (metS xs).length else (metS xs).length + 1)) : Got P w h S (xs ++ [x]) := by
  refine SetOf_congr g (fun z => ?_) ?_
  · rw [metS_snoc]
    by_cases hx : x ∈ metS xs
    · rw [if_pos hx]
      by_cases e : z = x
      · subst e
        simp [hx]
      · simp [e]
    · rw [if_neg hx]
      simp [List.mem_append]
  · rw [metS_snoc]
    by_cases hx : x ∈ metS xs
    · rw [if_pos hx, if_pos (decide_eq_true hx)]
    · rw [if_neg hx, if_neg (by simpa using hx), List.length_append]
      rfl
section
variable {P : Program} {w : World} {A : Around} {E : Value → Shared → Prop} {s : Shared}
theorem strs_get : ∀ {us : List Value} {xs : List Str}, StrsAre us xs → ∀ (i : Nat) (v : Value), us[i]? = some v → ∃ x t, xs[i]? = some x ∧ v = .str x t
  | _, _, .nil, i, v, h => by simp at h
  | _, _, .cons x t _, 0, v, h => ⟨x, t, rfl, (Option.some.inj h).symm⟩
  | _, _, .cons _ _ r, i + 1, v, h => strs_get r i v h
/-- the loop of set(..) over an iterator of texts -/
theorem fill_texts {R : Result → Shared → Prop} {I : Addr} {fp wr : List Addr} {G : Array GenState → Array GenState → Prop} {Pv : Nat → Value → Prop} {St : Nat → Shared → Prop} (xs : List Str) (W : WalksS P w A.in1 I fp wr G xs.length Pv St) (S : Addr) (hS : S ∉ fp)
    (hb : xs.length + 1 < scanBound) (hval : ∀ i v, Pv i v → ∃ x t, xs[i]? = some x ∧ v = .str x t) :
    ∀ (m i : Nat) (s : Shared), xs.length - i = m → i ≤ xs.length → St i s → Got P w s.heap S (xs.take i) →
      (∀ s', Moved (S :: wr) G s s' → Got P w s'.heap S xs → R (.ok (.ret .none)) s') → codeAny (model P w) A (.builtin "set.update.loop" ⟨[.ref S, .ref I], []⟩) R s := by
  have ins : ∀ b ∈ wr, b ∈ S :: wr := fun b z => List.mem_cons_of_mem _ z
  have out : S ∉ wr := fun z => hS (W.sub _ z)
  intro m
  induction m with
  | zero =>
    intro i s hm hi hst hg back
    have hi' : i = xs.length := by omega
    rw [hi', List.take_length] at hg
    rw [hi'] at hst
    refine codeAny_builtin PyProof.Rows.F.entry_set_update_loop ?_
    rw [Around.under_plainId PyProof.Rows.F.plain_set_update_loop _]
    show wpAny _ A.in1 (pyNext (.ref I) >>= _) _ _ s
    exact wpAny_bind (W.done s _ _ hst fun s' mv => wpAny_pure (back s' (mv.mono ins) (hg.keep fun o z => mv.heap S o out z)))
  | succ m ih =>
    intro i s hm hi hst hg back
    have lt : i < xs.length := by omega
    refine codeAny_builtin PyProof.Rows.F.entry_set_update_loop ?_
    rw [Around.under_plainId PyProof.Rows.F.plain_set_update_loop _]
    show wpAny _ A.in1 (pyNext (.ref I) >>= _) _ _ s
    refine wpAny_bind (W.item i s _ _ lt hst fun v s' hP hst' mv => ?_)
    obtain ⟨x, t, hx, rfl⟩ := hval i v hP
    have g1 : Got P w s'.heap S (xs.take i) := hg.keep fun o z => mv.heap S o out z
    have small : (metS (xs.take i)).length + 1 < scanBound := by
      have := metS_le _ (xs.take i) rfl
      rw [List.length_take] at this
      omega
    show wpAny _ A.in1 (holding [Value.str x t] (setAdd S (.str x t)) >>= _) _ _ s'
    refine wpAny_bind (wpAny_holding ?_)
    unfold setAdd
    refine wpAny_holding (wpAny_bind ((PySem.strKind P w).pyHash (k := x) (strKind_is _ _ _ _) ?_))
    refine wpAny_setAddHashed_of (knd := PySem.strKind P w) (s := { s' with toks := s'.toks + 1 }) (strKind_is _ _ _ _) rfl g1 small fun h' but g2 => ?_
    have g3 : Got P w h' S (xs.take (i + 1)) := by
      rw [List.take_add_one, hx]
      exact Got.more g2
    refine wpAny_pure ⟨plainId_quiet PyProof.Rows.F.plain_set_update_loop _, ih (i + 1) _ (by omega) lt (W.frame _ s' _ _ hst' (Nat.le_succ _) fun b hb o z => ?_) g3 fun s2 mv2 g4 => ?_⟩
    · rw [but.2 b fun e => hS (e ▸ hb)]
      exact z
    · refine back s2 (Moved.trans W.gtrans ((mv.mono ins).then_heap (Nat.le_succ _) fun b o hb z => ?_) mv2) g4
      rw [but.2 b fun e => hb (e ▸ List.mem_cons_self)]
      exact z
/-- the set that set() lays -/
def bareSet (led : Bool) : Obj := { cls := .type "set", dict := none, data := .set #[] 0 (.fresh 0 0 led) }
set_option maxHeartbeats 8000000 in
theorem set_of_texts {l : Addr} {items : Array Value} {xs : List Str} {Q : Value → Shared → Prop} (hh : A.handled = none) (hl : s.heap.IsTuple l items) (hx : StrsAre items.toList xs) (hb : xs.length + 1 < scanBound)
    (h : ∀ (h' : Heap) (tk : Nat), Got P w h' s.heap.objs.size xs → (∀ b o, s.heap.get? b = some o → h'.get? b = some o) → Q (.ref s.heap.objs.size) { s with heap := h', toks := tk }) : wpAny (model P w) A (call (.type "set") [.ref l]) Q E s := by
  have size_eq : items.size = xs.length := by
    have q := StrsAre.length hx
    simpa using q
  have hmro := PySem.F.called_set.mro
  obtain ⟨c, tl, hmro⟩ := hmro
  have made := PySem.F.called_set.made
  have sub := PySem.F.called_set.sub
  have notT := PySem.F.called_set.notType
  have can := PySem.F.called_set.canCreate
  have chk := PySem.F.typeCall_set_1 (.ref l)
  refine wpAny_call (codeAny_of_tree ?_)
  show wpAny _ _ (callAny (.type "set") _) _ _ _
  refine wpAny_pure ⟨Code.quiet_builtin _ (by decide +kernel), codeAny_builtin PySem.F.entry_type_call ?_⟩
  rw [Around.under_plain (weight_type_call_type "set" [.ref l] []) rfl]
  repeat (any_goals (first | assumption | wp_step))
  refine codeAny_mono (code_set_new_1 (.ref l) (E := E) (Q₁ := fun obj s₁ => ∃ led : Bool, obj = .ref s.heap.objs.size ∧ s₁ = { s with heap := s.heap.push (bareSet led) }) fun led => ⟨led, rfl, rfl⟩) fun r s₁ hr => ?_
  match r, hr with
  | .error e, hr => exact hr
  | .ok .next, hr => exact hr.elim
  | .ok .brk, hr => exact hr.elim
  | .ok .cont, hr => exact hr.elim
  | .ok (.ret obj), hr =>
    obtain ⟨led, rfl, rfl⟩ := hr
    have atS : (s.heap.push (bareSet led)).get? s.heap.objs.size = some (bareSet led) := Heap.get?_push_size _ rfl
    have isS : Shared.TypeIs { s with heap := s.heap.push (bareSet led) } (.ref s.heap.objs.size) "set" := ⟨_, atS, rfl⟩
    have look := PySem.F.called_set.init.lookup
    have bind := PySem.F.called_set.init.bind (.ref s.heap.objs.size)
    repeat (any_goals (first | assumption | wp_step))
    refine codeAny_mono (codeAny_call_builtin (R := wants (fun r s₂ => r = .none ∧ ∃ h' tk, s₂ = { s with heap := h', toks := tk } ∧ Got P w h' s.heap.objs.size xs ∧ (∀ b o, s.heap.get? b = some o → h'.get? b = some o)) E)
      PySem.F.called_set.init.plain PySem.F.entry_set_init (check_set_init_1 isS ?_)) fun r₂ s₂ hr₂ => ?_
    · obtain ⟨⟨ocls, odict, odata, oslots⟩, hol, hcl, nl, hdl⟩ := hl
      simp only at hcl hdl
      subst hcl
      subst hdl
      have atL := Heap.get?_push_of_some (bareSet led) hol
      have hl1 : (s.heap.push (bareSet led)).IsTuple l items := ⟨_, atL, rfl, nl, rfl⟩
      have nots := PySem.F.sub_tuple_set
      have notf := PySem.F.sub_tuple_frozenset
      have notd : (Value.type "tuple" == Value.type "dict") = false := by decide
      unfold Builtin.«set.__init__» noKeywords Builtin.Frozenset.updateFrom
      generalize hPI : pyIter = PI
      wp_walk
      subst hPI
      refine wpAny_pyIter_tuple hl1 ?_
      refine wpAny_bind (wpAny_runValue ?_)
      have lS : l < s.heap.objs.size := Heap.lt_size hol
      have hh3 : A.in1.in1.in1.handled = none := by simp [hh]
      have sz : (s.heap.push (bareSet led)).objs.size = s.heap.objs.size + 1 := Heap.size_push ..
      have neI : l ≠ (s.heap.push (bareSet led)).objs.size := fun z => by
        rw [z, sz] at lS
        exact Nat.lt_irrefl _ (Nat.lt_of_succ_lt lS)
      have apart : s.heap.objs.size ∉ [(s.heap.push (bareSet led)).objs.size, l] := by
        rw [sz]
        simp only [List.mem_cons, List.not_mem_nil, or_false, not_or]
        exact ⟨Nat.ne_of_lt (Nat.lt_succ_self _), Nat.ne_of_gt lS⟩
      have vals : ∀ (i : Nat) (v : Value), items[i]? = some v → ∃ x t, xs[i]? = some x ∧ v = .str x t := fun i v hv => strs_get hx i v (by rw [Array.getElem?_toList]; exact hv)
      have Wk := (Walks.tuple (prog := P) (w := w) hh3 _ l neI items).toS
      rw [size_eq] at Wk
      refine fill_texts xs Wk s.heap.objs.size apart hb vals (xs.length - 0) 0 _ rfl (Nat.zero_le _) ⟨⟨_, Heap.get?_push_size _ rfl, rfl, rfl⟩, (hl1.push _)⟩ ?_ fun s' mv g => ?_
      · have at2 := Heap.get?_push_of_some { cls := .type "tuple_iterator", data := .fields #[.ref l, .int 0 0] } atS
        exact SetOf_congr ((setObjOf_fresh (knd := PySem.strKind P w) led).setOf at2 (by unfold scanBound; omega)) (fun _ => rfl) rfl
      · obtain ⟨h', g', d', tk', os'⟩ := s'
        have e1 : g' = s.gens := mv.gens
        have e2 : d' = s.drawn := mv.drawn
        have e3 : os' = s.os := mv.os
        subst e1
        subst e2
        subst e3
        refine wpAny_pure ?_
        show wpAny _ _ (ret Value.none) _ _ _
        refine wpAny_pure ⟨rfl, h', tk', rfl, g, fun b o z => ?_⟩
        have hbs : b < s.heap.objs.size := Heap.lt_size z
        refine mv.heap b o ?_ (Heap.get?_push_of_some _ (Heap.get?_push_of_some _ z))
        rw [sz]
        simp only [List.mem_cons, List.not_mem_nil, or_false, not_or]
        exact ⟨Nat.ne_of_lt hbs, Nat.ne_of_lt (Nat.lt_succ_of_lt hbs)⟩
    · match r₂, hr₂ with
      | .error e, hr₂ => exact hr₂
      | .ok .next, hr₂ => exact hr₂.elim
      | .ok .brk, hr₂ => exact hr₂.elim
      | .ok .cont, hr₂ => exact hr₂.elim
      | .ok (.ret v), hr₂ =>
        obtain ⟨rfl, h', tk, rfl, g, k⟩ := hr₂
        repeat (any_goals (first | assumption | wp_step))
        exact h _ _ g k
end
/-! ### set(t) and its length, over the layer -/
section
variable {X : Cx}
def SetS (P : Program) (w : World) (a : Addr) (xs : List Str) : HO := .ext fun h => Got P w h a xs
def rSetT (P : Program) (w : World) (K : PySem.W.Frag) : List V → Hp → VK → Prop := fun vs H Q => ∃ (a : Addr) (xs : List Str), vs = [.ref a] ∧ SqT K H a (xs.map V.str) ∧ xs.length ≤ 2000 ∧ ∀ p, H p = none → Q (.ref p) (upd H p (SetS P w p xs))
theorem call_setT (hc : X.calm = true) : CallR X (.type "set") (rSetT X.prog X.w X.K) := by
  intro pins s σ H vs us Q I r h
  obtain ⟨a, xs, rfl, ht, hl, q⟩ := h
  have e := Vals.ref1 r
  subst e
  obtain ⟨its, rv, tp, hz⟩ := I.tuple ht
  refine set_of_texts (P := X.prog) (w := X.w) (xs := xs) (I.ok.hd hc) tp (by simpa using Vals.strs rv) (by unfold scanBound; omega) fun h' tk g k => ?_
  have fr : H s.heap.objs.size = none := I.hok.fresh (Nat.le_refl _)
  have here : ∃ o, h'.get? s.heap.objs.size = some o := by
    obtain ⟨o, _, _, _, ho, _⟩ := id g
    exact ⟨o, ho⟩
  exact ⟨.ref s.heap.objs.size, upd H s.heap.objs.size (SetS X.prog X.w s.heap.objs.size xs), I.laid (t' := tk) k (Nat.le_refl _) ⟨g, here, fun h1 h2 z kk => z.keep kk⟩, rfl, q _ fr⟩
def rLenSetS (P : Program) (w : World) : List V → Hp → VK → Prop := fun vs H Q => ∃ (a : Addr) (xs : List Str), vs = [.ref a] ∧ H a = some (SetS P w a xs) ∧ xs.length ≤ 2000 ∧ Q (.int ((metS xs).length : Nat)) H
theorem call_lenSetS : CallR X (.builtin "len") (rLenSetS X.prog X.w) := by
  intro pins s σ H vs us Q I r h
  obtain ⟨a, xs, rfl, ha, hl, q⟩ := h
  have e := Vals.ref1 r
  subst e
  have g : Got X.prog X.w s.heap a xs := (I.hok a _ ha).1
  obtain ⟨o, es, ep, t, ho, hex, hd, _, _, _, hf, hn⟩ := g
  have hle := metS_le _ xs rfl
  refine call_len_set ho hex hd hf (by rw [hn]; omega) ⟨.int ((metS xs).length : Nat), H, I.tok _, ⟨_, by rw [hn]⟩, q⟩
end
end KB

set_option Elab.async false
set_option linter.all false
set_option maxRecDepth 100000
set_option maxHeartbeats 4000000
/-! KB2: xs[n:] = ys. -/
namespace KB
open PySem PySem.Spec PyProof.Rows L2

theorem tail_bounds {a n : Nat} (h : a ≤ n) : sliceBounds (some (a : Int)) none none n = ((a : Int), (n : Int), 1) := by
  simp only [sliceBounds, Option.getD_none]
  have z : ¬ ((a : Int) < 0) := by omega
  simp only [z, if_false, show (1 : Int) > 0 by decide, if_true]
  congr 1
  omega
section
variable {prog : Program} {w : World} {A : Around} {E : Value → Shared → Prop} {s : Shared}
theorem store_tail {l b sl : Addr} {old new : Array Value} {n n2 : Nat} {vl : Value} {a : Nat} {Q : Unit → Shared → Prop} (e : s.heap.get? l = some { cls := .type "list", data := .seq old n }) (e2 : s.heap.get? b = some { cls := .type "list", data := .seq new n2 }) (hne : l ≠ b)
    (hs : s.heap.IsSliceOf sl vl .none .none) (pl : IsPart vl (some (a : Int))) (ha : a ≤ old.size) (hsz : old.size + new.size ≤ sizeLine)
    (h : Q () { s with heap := s.heap.update l (Obj.mapSeq fun xs => xs.extract 0 a ++ new ++ xs.extract old.size xs.size) }) : wpAny (model prog w) A (setItem (.ref l) (.ref sl) (.ref b)) Q E s := by
  have isL : s.heap.IsList l old := PySem.IsL.isList e
  have isB : s.heap.IsList b new := PySem.IsL.isList e2
  obtain ⟨os, hos, hcs, hds⟩ := id hs
  have tyS : s.TypeIs (.ref sl) "slice" := ⟨os, hos, hcs⟩
  have unlike : Builtin.List.listSameRef (.ref l) (.ref b) = false := by
    unfold Builtin.List.listSameRef
    exact beq_eq_false_iff_ne.mpr hne
  have top : (max (a : Int) (old.size : Int)).toNat = old.size := by omega
  have fits : ((fun xs : Array Value => xs.extract 0 a ++ new ++ xs.extract old.size xs.size) old).size ≤ sizeLine + 1 := by
    simp only [Array.size_append, Array.size_extract]
    omega
  unfold setItem
  try with_reducible refine wpAny_holding ?_
  first | refine wpAny_bind (wpAny_pure ?_) | skip
  refine wpAny_bind (wpAny_sequenceKey isL.typeIs (by decide) ?_)
  refine wpAny_bind (wpAny_callSpecial?_slot (name := Str.ofString "__setitem__") isL.typeIs slot_list_setitem
    (wpAny_call_entry slot_list_setitem isL.typeIs entry_list_setitem ?_ (args_list_setitem _ _ _)))
  show wpAny _ _ (Builtin.List.listSubscript? (.ref sl) >>= _) _ _ s
  unfold Builtin.List.listSubscript?
  refine wpAny_bind (wpAny_bind (wpAny_specialOf tyS slice_no_index ?_))
  simp only [Option.isNone_none, if_true]
  refine wpAny_pure ?_
  show wpAny _ _ (typeOf (.ref sl) >>= _) _ _ s
  refine wpAny_bind (wpAny_typeOf tyS ?_)
  first
    | rw [if_neg (by decide)]
    | refine PySem.W.KFB.if_not (by decide) ?_
  rw [listSliceParts_eq]
  refine wpAny_bind (wpAny_bind (wpAny_field hos hds (x := .none) rfl (wpAny_bind (wpAny_listPart .none ?_))))
  rw [if_neg (show ¬ ((rawPart none == rawInt 0) = true) from Bool.false_ne_true)]
  refine wpAny_bind (wpAny_field hos hds (x := vl) rfl (wpAny_bind (wpAny_listPart pl ?_)))
  refine wpAny_bind (wpAny_field hos hds (x := .none) rfl (wpAny_bind (wpAny_listPart .none (wpAny_pure ?_))))
  first
    | simp only [unlike, Bool.false_eq_true, if_false]
    | refine PySem.W.KFB.if_not unlike ?_
    | (dsimp only
       rw [if_neg (by rw [unlike]; exact Bool.false_ne_true)])
  refine wpAny_bind (m := Builtin.List.listAllItems (.ref b) "must assign iterable to extended slice") ?_
  unfold Builtin.List.listAllItems
  refine wpAny_bind (wpAny_typeOf isB.typeIs ?_)
  first
    | refine PySem.W.KFB.if_so (by decide) ?_
    | rw [if_pos (by decide)]
    | simp only [beq_self_eq_true, Bool.true_or, if_true]
  unfold Builtin.List.listItems
  refine wpAny_bind (wpAny_seqItems e2 rfl (wpAny_pure ?_))
  refine wpAny_bind (wpAny_bind (wpAny_seqItems e rfl (wpAny_pure ?_)))
  have run := (sliceIndices_raw (some (a : Int)) none none old.size (by simp)).trans (congrArg (pure : Int × Int × Int → Sem (Int × Int × Int)) (tail_bounds ha))
  refine wpAny_bind (wpAny_of_eq run ?_)
  show wpAny _ _ (if ((1 : Int) == 1) = true then _ else _) _ _ s
  rw [if_pos (by decide)]
  refine wpAny_bind (wpAny_rule ?_)
  first
    | simp only [notLongL hsz, Bool.false_eq_true, if_false]
    | refine PySem.W.KFB.if_not (notLongL hsz) ?_
  first | refine wpAny_bind (wpAny_pure ?_) | skip
  show wpAny _ _ (updateSeq l (fun xs => xs.extract 0 ((a : Int)).toNat ++ new ++ xs.extract (max (a : Int) (old.size : Int)).toNat xs.size) >>= _) _ _ s
  rw [top, Int.toNat_natCast]
  refine wpAny_bind (wpAny_updateSeq (hz := Nat.le_trans (Nat.le_add_right _ _) hsz) (_hz' := fits) e rfl ?_)
  refine wpAny_bind (wpAny_letGo ?_)
  first
    | exact wpAny_bind (wpAny_pure (wpAny_pure ⟨.none, rfl, wpAny_pure h⟩))
    | exact wpAny_pure ⟨.none, rfl, wpAny_pure h⟩
end
section
variable {X : Cx}
/-- o[lo:] = .. -/
def gTail (to tlo : TE) : TG := fun v σ H Q => to σ H fun o H1 => tlo σ H1 fun i H2 => ∃ (l b : Addr) (xs ys : List V) (n : Nat), o = .ref l ∧ i = .int (n : Int) ∧ v = .ref b ∧ H2 l = some (.lst xs) ∧ H2 b = some (.lst ys) ∧ l ≠ b ∧ n ≤ xs.length ∧ xs.length + ys.length ≤ sizeLine ∧
  Q σ (upd H2 l (.lst (xs.take n ++ ys)))
theorem pg_tail {o lo : Expr} {to tlo : TE} {p2 pos : Pos} (ho : PE X o to) (hlo : PE X lo tlo)
    (ha : ∀ v, assign (.Subscript o (.Slice (some lo) none none p2) pos) X.env v = (do
      let ov ← holding [v] (eval o X.env)
      let iv ← holding [v, ov] (eval (.Slice (some lo) none none p2) X.env)
      standAt pos
      holding [v, ov, iv] (setItem ov iv v)
      release [iv, v, ov] []) := by intro _; rfl) : PG X (.Subscript o (.Slice (some lo) none none p2) pos) (gTail to tlo) := by
  refine ⟨fun pins s σ H v u Q I r h => ?_⟩
  rw [ha]
  refine wpAny_bind (wpAny_holding (thn (ho.run pins s σ H _ I h) fun ov s1 ⟨x, H1, I1, r1, q1⟩ => wpAny_bind (wpAny_holding (wpAny_Slice ?_))))
  refine thn (hlo.run pins s1 σ H1 _ I1 q1) fun vl s2 ⟨i, H2, I2, ri, l, b, xs, ys, n, ex, ei, ev, hl, hb, hne, hn, hz, q2⟩ => ?_
  subst ex
  subst ei
  subst ev
  rw [evalPart_none]
  refine wpAny_pure (wpAny_pure (wpAny_bind (wpAny_standAt (wpAny_bind (wpAny_holding ?_)))))
  cases r1
  cases r
  obtain ⟨t, rfl⟩ := ri
  have I3 : Inv X pins σ H2 { s2 with heap := s2.heap.push { cls := .type "slice", data := .fields #[Value.int (n : Int) t, .none, .none] } } := I2.kept (t' := s2.toks) fun b ob q => Heap.get?_push_of_some _ q
  obtain ⟨z1, its, k1, rv, hlen, e⟩ := I3.lstM hl
  obtain ⟨z2, its2, k2, rv2, hlen2, e2⟩ := I3.lstM hb
  have sa : its.toArray.size = xs.length := by rw [List.size_toArray]; exact rv.length.symm
  have sb : its2.toArray.size = ys.length := by rw [List.size_toArray]; exact rv2.length.symm
  have done : Inv X pins σ (upd H2 l (.lst (xs.take n ++ ys))) { s2 with heap := (s2.heap.push { cls := .type "slice", data := .fields #[Value.int (n : Int) t, .none, .none] }).update l (Obj.mapSeq fun xs => xs.extract 0 n ++ its2.toArray ++ xs.extract its.toArray.size xs.size) } := by
    refine I3.lset (its' := its.take n ++ its2) (t' := s2.toks) hl e ?_ (Vals.append (rv.take n) rv2) ?_
    · have g := splice_eq its its2 n its.toArray.size
      rw [show its.drop its.toArray.size = [] from List.drop_eq_nil_of_le (by rw [List.size_toArray]; exact Nat.le_refl _), List.append_nil] at g
      exact g
    · rw [List.length_append, List.length_take]
      omega
  refine store_tail (a := n) e e2 hne (Heap.IsSliceOf.new ..) (.int _ _) (by rw [sa]; exact hn) (by rw [sa, sb]; exact hz) ?_
  exact wpAny_release ⟨σ, _, done, q2⟩
end
end KB

set_option Elab.async false
set_option linter.all false
set_option maxRecDepth 100000
set_option maxHeartbeats 4000000
/-! KE0: more of what readings evaluate to; pages and logs. -/
namespace KB
open PySem L2 Evl

section
variable {K : PySem.W.Frag} {σ : L2.St} {H H' : Hp} {ta tb tc te tx : TE} {t u : TT} {x y z v : V} {r r' : R2}
theorem et_yes : EvT tYes σ H true := fun H1 _ _ q => q H1 (Ex.refl H1)
theorem ev_chain {k m : Bool} (ha : Ev ta σ H x) (hb : Ev tb σ H y) (hr : RV r x y H (.bl k)) (hc : k = true → Ev tc σ H z) (hr' : k = true → RV r' y z H (.bl m)) : Ev (tChain r r' ta tb tc) σ H (.bl (k && m)) := fun H1 e Q q =>
  ha H1 e _ fun H2 e2 => hb H2 (e.trans e2) _ fun H3 e3 => hr H3 ((e.trans e2).trans e3) _ fun H4 e4 => ⟨k, rfl, by
    cases k with
    | true =>
      show tc σ H4 _
      exact hc rfl H4 (((e.trans e2).trans e3).trans e4) _ fun H5 e5 => hr' rfl H5 ((((e.trans e2).trans e3).trans e4).trans e5) Q fun H6 e6 => q H6 ((((e2.trans e3).trans e4).trans e5).trans e6)
    | false =>
      show Q (.bl false) H4
      exact q H4 ((e2.trans e3).trans e4)⟩
/-- isinstance(e, T), T a built-in type -/
theorem ev_isi {T T' : String} {b : Bool} (ha : Ev ta σ H x) (hx : ∀ H1, Ex H H1 → TyX K H1 x (.type T)) (hk : kitB T T' = some b) : Ev (tCB (rIsi K) (tCons ta (tCons (tC (.ty T')) tNil))) σ H (.bl b) := fun H1 e Q q =>
  ha H1 e _ fun H2 e2 => ⟨x, .ty T', .type T, .type T', b, rfl, .ty T', hx H2 (e.trans e2), kit_ty hk, q H2 e2⟩
def rLenStr : List V → Hp → VK → Prop := fun xs H Q => ∃ z : Str, xs = [.str z] ∧ z.length ≤ sizeLine ∧ Q (.int z.length) H
theorem ev_lenStr {z : Str} (ha : Ev ta σ H (.str z)) (hz : z.length ≤ 100000) : Ev (tCB rLenStr (tCons ta tNil)) σ H (.int (z.length : Int)) := fun H1 e Q q =>
  ha H1 e _ fun H2 e2 => ⟨z, rfl, sz_of hz, q H2 e2⟩
theorem ev_lenTup {p : Addr} {xs : List V} (ha : Ev ta σ H (.ref p)) (h : SqT K H p xs) : Ev (tCB (rLenS K) (tCons ta tNil)) σ H (.int (xs.length : Int)) := fun H1 e Q q =>
  ha H1 e _ fun H2 e2 => ⟨p, xs, rfl, Or.inr (ex_t (e.trans e2) h), q H2 e2⟩
/-- all(..) of a new list of truth values -/
theorem ev_all {bs : List Bool} (ha : EvL ta σ H (bs.map V.bl)) : Ev (tCB (rAll K) (tCons ta tNil)) σ H (.bl (bs.all id)) := fun H1 e Q q =>
  ha H1 e _ fun p H2 _ e2 hp => ⟨p, bs, rfl, sq_of hp, q H2 e2⟩
theorem rv_inSign {c : Nat} {z : Str} : RV (fun x y H Q => ∃ (c : Nat) (z : Str), x = .str ⟨#[c]⟩ ∧ y = .str z ∧ Q (.bl (decide (c ∈ z.cps.toList))) H) (.str ⟨#[c]⟩) (.str z) H (.bl (decide (c ∈ z.cps.toList))) := fun H1 _ _ q => ⟨c, z, rfl, rfl, q H1 (Ex.refl H1)⟩
/-- a comprehension over the signs of a text -/
theorem el_lcS {s : Str} {tl : TE} {j : Nat} {vs : List Nat} (f : Nat → Bool) (v : Nat → V) (h : Ev tl σ H (.str s)) (hz : s.cps.size ≤ 40000) (hw : ∀ x, wipe ((wipe σ vs).set j (some x)) vs = wipe σ vs)
    (ht : ∀ (i c : Nat) H1, Ex H H1 → s.cps[i]? = some c → EvT t ((wipe σ vs).set j (some (.str ⟨#[c]⟩))) H1 (f i)) (he : ∀ (i c : Nat) H1, Ex H H1 → s.cps[i]? = some c → f i = true → Ev te ((wipe σ vs).set j (some (.str ⟨#[c]⟩))) H1 (v i)) :
    EvL (tLc (iStr tl) (gName j) t te vs) σ H (given s.cps.size f v) := fun H0 e Q q => h H0 e _ fun H1 e1 => ⟨s, rfl, fun Dl hD =>
  lc_it walk_str (Cw H1 f v Dl) ⟨hD, Ex.new hD, upd_same⟩ (fun _ _ _ _ => trivial) (fun i x H' H'' hi p hy => by
    obtain ⟨rfl, c, hc, rfl⟩ := hy
    exact ⟨hw _, cw_turn p (by omega) (ht i c H1 (e.trans e1) hc) (fun hf => he i c H1 (e.trans e1) hc hf)⟩) (fun H' p => q Dl H' (fresh_back e1 p.1) (e1.trans p.2.1) p.2.2)⟩
/-- over a tuple -/
theorem el_lcT {a : Addr} {xs : List V} {tl : TE} {j : Nat} {vs : List Nat} (f : Nat → Bool) (v : Nat → V) (h : Ev tl σ H (.ref a)) (hx : SqT K H a xs) (hz : xs.length ≤ 40000) (hw : ∀ x, wipe ((wipe σ vs).set j (some x)) vs = wipe σ vs)
    (ht : ∀ (i : Nat) (x : V) H1, Ex H H1 → xs[i]? = some x → EvT t ((wipe σ vs).set j (some x)) H1 (f i)) (he : ∀ (i : Nat) (x : V) H1, Ex H H1 → xs[i]? = some x → f i = true → Ev te ((wipe σ vs).set j (some x)) H1 (v i)) :
    EvL (tLc (iTup K tl) (gName j) t te vs) σ H (given xs.length f v) := fun H0 e Q q => h H0 e _ fun H1 e1 => ⟨a, rfl, ⟨xs, ex_t (e.trans e1) hx⟩, fun Dl hD =>
  lc_it (walk_tup (K := K) (a := a) (xs := xs)) (Cw H1 f v Dl) ⟨hD, Ex.new hD, upd_same⟩ (fun i H' _ p => ex_t ((e.trans e1).trans p.2.1) hx) (fun i x H' H'' hi p hy => by
    obtain ⟨rfl, hc⟩ := hy
    exact ⟨hw _, cw_turn p (by omega) (ht i x H1 (e.trans e1) hc) (fun hf => he i x H1 (e.trans e1) hc hf)⟩) (fun H' p => q Dl H' (fresh_back e1 p.1) (e1.trans p.2.1) p.2.2)⟩
/-- a, b = t at values -/
theorem given_all {n : Nat} (v : Nat → V) : given n (fun _ => true) v = (List.range n).map v := by
  unfold given
  rw [List.filter_eq_self.mpr (fun _ _ => rfl)]
theorem ex_tyT {a : Addr} {xs : List V} (h : SqT K H a xs) : TyX K H (.ref a) (.type "tuple") := by
  rcases h with (h | ⟨o, h⟩) | ⟨o, its, n, h1, h2, _⟩
  · exact .base (.tup h)
  · exact .fTuple h
  · exact .kTuple h1 h2
theorem ex_tyL {a : Addr} {xs : List V} (h : SqL K H a xs) : TyX K H (.ref a) (.type "list") := by
  rcases h with (h | ⟨o, h⟩) | ⟨o, its, n, h1, h2, _⟩
  · exact .base (.lst h)
  · exact .base (.frz h)
  · exact .kList h1 h2
end

/-! ### pages, events, logs -/
def LETS : List Nat := ("abcdefghijklmnopqrstuvwxyz" : Str).cps.toList
def pageB (x : Str) : Bool := (decide ((1 : Int) ≤ x.length) && decide ((x.length : Int) ≤ 4)) && x.cps.toList.all fun c => decide (c ∈ LETS)
theorem pageB_len {x : Str} (h : pageB x = true) : x.length ≤ 4 := by
  unfold pageB at h
  simp only [Bool.and_eq_true, decide_eq_true_eq] at h
  omega
def hitS : Str := "hit"
def missS : Str := "miss"
abbrev Ev1 := Str × Str
def okE (e : Ev1) : Prop := (e.1 = hitS ∨ e.1 = missS) ∧ pageB e.2 = true
structure Pages (ps : List Str) : Prop where
  all : ∀ p ∈ ps, pageB p = true
  nd : ps.Nodup
  len : ps.length ≤ 200
structure LogK (K : PySem.W.Frag) (H : Hp) (l : Addr) (es : List Ev1) : Prop where
  at_ : ∃ ts : List Addr, SqL K H l (ts.map V.ref) ∧ Paired (fun t (e : Ev1) => SqT K H t [.str e.1, .str e.2]) ts es
  ok : ∀ e ∈ es, okE e
  len : es.length ≤ 300
theorem Paired.imp {α β : Type} {R S : α → β → Prop} : ∀ {as : List α} {bs : List β}, Paired R as bs → (∀ a b, R a b → S a b) → Paired S as bs
  | _, _, .nil, _ => .nil
  | _, _, .cons h t, k => .cons (k _ _ h) (Paired.imp t k)
theorem LogK.mono {K : PySem.W.Frag} {H H' : Hp} {l : Addr} {es : List Ev1} (e : Ex H H') (h : LogK K H l es) : LogK K H' l es := by
  obtain ⟨⟨ts, h1, h2⟩, h3, h4⟩ := h
  exact ⟨⟨ts, ex_l e h1, Paired.imp h2 fun _ _ z => ex_t e z⟩, h3, h4⟩
theorem paired_at {α β : Type} {R : α → β → Prop} : ∀ {as : List α} {bs : List β} {i : Nat} {b : β}, Paired R as bs → bs[i]? = some b → ∃ a, as[i]? = some a ∧ R a b
  | _, _, 0, b, .cons h t, e => ⟨_, rfl, by cases e; exact h⟩
  | _, _, i + 1, b, .cons h t, e => paired_at (i := i) t e
  | _, _, 0, b, .nil, e => nomatch e
  | _, _, i + 1, b, .nil, e => nomatch e
theorem paired_at' {α β : Type} {R : α → β → Prop} : ∀ {as : List α} {bs : List β} {i : Nat} {a : α}, Paired R as bs → as[i]? = some a → ∃ b, bs[i]? = some b ∧ R a b
  | _, _, 0, b, .cons h t, e => ⟨_, rfl, by cases e; exact h⟩
  | _, _, i + 1, b, .cons h t, e => paired_at' (i := i) t e
  | _, _, 0, b, .nil, e => nomatch e
  | _, _, i + 1, b, .nil, e => nomatch e
theorem paired_len {α β : Type} {R : α → β → Prop} : ∀ {as : List α} {bs : List β}, Paired R as bs → as.length = bs.length
  | _, _, .nil => rfl
  | _, _, .cons _ t => by rw [List.length_cons, List.length_cons, paired_len t]
theorem paired_snoc {α β : Type} {R : α → β → Prop} {a : α} {b : β} (h : R a b) : ∀ {as : List α} {bs : List β}, Paired R as bs → Paired R (as ++ [a]) (bs ++ [b])
  | _, _, .nil => .cons h .nil
  | _, _, .cons h1 t => .cons h1 (paired_snoc h t)

/-! ### sizes -/
def isMiss (e : Ev1) : Bool := decide (e.1 = missS)
def misses (es : List Ev1) : Nat := es.countP isMiss
/-- the number of pages at moment t -/
def szAt (c n : Nat) (es : List Ev1) (t : Nat) : Nat := min c (n + misses (es.take t))
def szs (c n : Nat) (es : List Ev1) : List Nat := (List.range (es.length + 1)).map (szAt c n es)
/-- is event e an evicting miss -/
def lateB (c n : Nat) (es : List Ev1) (e : Nat) : Bool := match es[e]? with
  | some v => isMiss v && decide (szAt c n es e = c)
  | none => false
def lates (c n : Nat) (es : List Ev1) : List Nat := (List.range es.length).filter (lateB c n es)
def natV (n : Nat) : V := .int (n : Int)
theorem misses_succ {es : List Ev1} {t : Nat} {e : Ev1} (h : es[t]? = some e) : misses (es.take (t + 1)) = misses (es.take t) + (if isMiss e = true then 1 else 0) := by
  unfold misses
  rw [List.take_add_one, h, List.countP_append]
  simp [List.countP_cons]
end KB

set_option Elab.async false
set_option linter.all false
set_option maxRecDepth 100000
set_option maxHeartbeats 4000000
namespace KB
open PySem L2
/-! ### the text -/
def topS (i : Nat) : Stmt := PySem.Challenge.pw_hitlog_k03_replays.main.body.getD i (.Pass ⟨0, 0, 0, 0⟩)
abbrev sIsInteger : Stmt := topS 11
abbrev sIsPage : Stmt := topS 12
abbrev sIsMark : Stmt := topS 13
abbrev sIsEvent : Stmt := topS 14
abbrev sIsPageList : Stmt := topS 15
abbrev sIsShelf : Stmt := topS 16
abbrev sIsLog : Stmt := topS 17
abbrev sCheckCapacity : Stmt := topS 18
abbrev sCheckShelf : Stmt := topS 19
abbrev sCheckStart : Stmt := topS 20
abbrev sCheckLog : Stmt := topS 21
abbrev sCheckArguments : Stmt := topS 22
abbrev sSizes : Stmt := topS 23
abbrev sEvicting : Stmt := topS 24
abbrev sReplay : Stmt := topS 25
abbrev sAllows : Stmt := topS 26
abbrev sAfterMiss : Stmt := topS 27
abbrev sSource : Stmt := topS 29
abbrev sDraw : Stmt := topS 30
abbrev sPages : Stmt := topS 31
abbrev sRun : Stmt := topS 32
abbrev sSetup : Stmt := topS 33
abbrev sFollowed : Stmt := topS 34
abbrev sTold : Stmt := topS 35
abbrev sChanged : Stmt := topS 36
abbrev sBent : Stmt := topS 37
abbrev sLaw : Stmt := topS 38
abbrev sGaps : Stmt := topS 0
abbrev sHeldCounts : Stmt := topS 0
abbrev sCountHeld : Stmt := topS 0
abbrev sKind : Stmt := topS 0
abbrev sIsPossible : Stmt := topS 0
abbrev sCheckPossible : Stmt := topS 0
abbrev sFits : Stmt := topS 0
abbrev sUnkHits : Stmt := topS 0
abbrev sCrowded : Stmt := topS 0
abbrev sSmallest : Stmt := topS 0
abbrev sFirstLate : Stmt := topS 0
abbrev sCanFinal : Stmt := topS 0
abbrev sWhyFinal : Stmt := topS 0
abbrev sLastOcc : Stmt := topS 0
abbrev sFirstCrowded : Stmt := topS 0
abbrev sManyBefore : Stmt := topS 0
abbrev sCellAt : Stmt := topS 0
abbrev sBag : Stmt := topS 0
abbrev sTake : Stmt := topS 0
abbrev sNames : Stmt := topS 0
abbrev sLived : Stmt := topS 0
abbrev sBegun : Stmt := topS 0
abbrev sSize : Stmt := topS 0
abbrev sDrawn : Stmt := topS 0
abbrev sSame : Stmt := topS 0
abbrev sSpoilt : Stmt := topS 0
abbrev sComing : Stmt := topS 0
abbrev sCan : Stmt := topS 0
abbrev sRound : Stmt := topS 0
abbrev sRight : Stmt := topS 0
abbrev sIsCount : Stmt := topS 0
abbrev sMost : Stmt := topS 0
abbrev sRepeated : Stmt := topS 0
abbrev sTruth : Stmt := topS 0
abbrev sErrKind : Stmt := topS 0
abbrev sNoCap : Stmt := topS 0
abbrev sNoShelf : Stmt := topS 0
abbrev sNoLog : Stmt := topS 0
abbrev sAsked : Stmt := topS 0
abbrev sCapacities : Stmt := topS 0
abbrev sInside : Stmt := topS 0
abbrev sFirstImpossible : Stmt := topS 0
abbrev sFirstRefused : Stmt := topS 0
abbrev sFirst : Stmt := topS 0
abbrev sWhyNot : Stmt := topS 0
abbrev sGreatestBegin : Stmt := topS 0
abbrev sIsShort : Stmt := topS 0
abbrev sMisses : Stmt := topS 0
abbrev sLawGaps : Stmt := topS 0
abbrev sReason : Stmt := topS 0
abbrev sLast : Stmt := topS 0
abbrev sStep : Stmt := topS 0
abbrev sIsReason : Stmt := topS 0
abbrev sLooksLikeReason : Stmt := topS 0
abbrev sHolds : Stmt := topS 0
abbrev sValues : Stmt := topS 0
abbrev sHistory : Stmt := topS 0
abbrev sEvictedPages : Stmt := topS 0
abbrev sRule : Stmt := topS 0
abbrev sCheckPage : Stmt := topS 0
abbrev sIsMoment : Stmt := topS 0
abbrev sCheckMoment : Stmt := topS 0
abbrev sGapsAround : Stmt := topS 0
abbrev sNextMarks : Stmt := topS 0
abbrev sPresence : Stmt := topS 0
abbrev sCanBePresent : Stmt := topS 0
abbrev sCanBeAbsent : Stmt := topS 0
abbrev sReplaceGap : Stmt := topS 0
abbrev sGapsAtMoment : Stmt := topS 0
abbrev sPresenceOf : Stmt := topS 0
abbrev sPageRight : Stmt := topS 0
end KB

set_option Elab.async false
set_option linter.all false
set_option maxRecDepth 100000
set_option maxHeartbeats 4000000
/-! A1: values of any kind; the program's judgements of them. -/
namespace KB
open PySem L2 Evl
/-- the built-in names that the module leaves alone, its constants -/
structure Bn (mg : Str → Option Value) : Prop where
  isinstance : mg "isinstance" = none
  int : mg "int" = none
  bool : mg "bool" = none
  str : mg "str" = none
  len : mg "len" = none
  all : mg "all" = none
  tuple : mg "tuple" = none
  set : mg "set" = none
  list : mg "list" = none
  range : mg "range" = none
  min : mg "min" = none
  HIT : ∃ t, mg "HIT" = some (.str "hit" t)
  MISS : ∃ t, mg "MISS" = some (.str "miss" t)
  LETTERS : ∃ t, mg "LETTERS" = some (.str "abcdefghijklmnopqrstuvwxyz" t)
  LONGEST : ∃ t, mg "LONGEST_PAGE" = some (.int 4 t)
theorem bt_isinstance : bootBuiltins "isinstance" = some (.builtin "isinstance") := by decide +kernel
theorem bt_all : bootBuiltins "all" = some (.builtin "all") := by decide +kernel
theorem bt_len : bootBuiltins "len" = some (.builtin "len") := by decide +kernel
theorem bt_min : bootBuiltins "min" = some (.builtin "min") := by decide +kernel
theorem bt_int : bootBuiltins "int" = some (.type "int") := by decide +kernel
theorem bt_bool : bootBuiltins "bool" = some (.type "bool") := by decide +kernel
theorem bt_str : bootBuiltins "str" = some (.type "str") := by decide +kernel
theorem bt_tuple : bootBuiltins "tuple" = some (.type "tuple") := by decide +kernel
theorem bt_list : bootBuiltins "list" = some (.type "list") := by decide +kernel
theorem bt_set : bootBuiltins "set" = some (.type "set") := by decide +kernel

/-- a def as its callers know it -/
structure Cl (P : Program) (w : World) (K : PySem.W.Frag) (mg : Str → Option Value) (base : Heap) (k : Nat) (x : Str) (ps : List Str) (sp : Sp) : Prop where
  ex : ∃ (f : Addr) (fd : FuncData), FnOk P w K mg base CX0 k f fd ps sp ∧ mg x = some (.ref f) ∧ PySem.W.keepIn K (.ref f) = true ∧ Binds K fd ps []
section
variable {X : Cx} {k j : Nat} {ps : List Str} {sp : Sp} {x : Str} {p pos : Pos} {e : Expr} {es : List Expr} {t : TA}
theorem pe_cl (c : Cl X.prog X.w X.K X.mg X.base k x ps sp) (hr : Room j X.A) (ha : PA X (e :: es) t) (hk : k ≤ j := by decide) (hg : Gl X x := by rfl) (hdb : (x == ("__debug__" : Str)) = false := by decide)
    (he : starEach (e :: es) X.env = (false, eval e X.env) :: starEach es X.env := by rfl) (hpl : (backTo pos (starEach es X.env)).any (·.1) = false := by rfl) : PE X (.Call (.Name x p) (e :: es) [] pos) (tCall sp [] E0 t) := by
  obtain ⟨f, fd, F, hm, kp, hb⟩ := c.ex
  exact pe_call F (hr.mono hk) hg hm kp hb .nil pass0 ha hdb he hpl
end
section
variable {K : PySem.W.Frag} {σ : L2.St} {H : Hp} {te : TE} {D : Ends}
theorem s_unp2 {i j : Nat} {a : Addr} {x y : V} (h : Ev te σ H (.ref a)) (hs : SqT K H a [x, y]) (k : ∀ H1, Ex H H1 → D.nx ((σ.set i (some x)).set j (some y)) H1) : tAsg te (gTup K 2 (gCons (gName i) (gCons (gName j) gNil))) D σ H :=
  h H (Ex.refl H) _ fun H1 e => ⟨a, [x, y], rfl, ex_t e hs, rfl, x, [y], rfl, y, [], rfl, rfl, k H1 e⟩
theorem q_unp2 {tz : TS} {i j : Nat} {a : Addr} {x y : V} (h : Ev te σ H (.ref a)) (hs : SqT K H a [x, y]) (k : ∀ H1, Ex H H1 → tz D ((σ.set i (some x)).set j (some y)) H1) : tSeq (tAsg te (gTup K 2 (gCons (gName i) (gCons (gName j) gNil)))) tz D σ H :=
  s_unp2 (D := { D with nx := tz D }) h hs k
/-- a call of a def whose promise has the plain form -/
theorem ev_fn {sp : Sp} {vs : List V} {z : V} {ta : TA} (h : EvA ta σ H vs) (hs : ∀ H1, Ex H H1 → ∀ Q : VK, RetV z H1 Q → sp vs H1 Q E0) : Ev (tCall sp [] E0 ta) σ H z := fun H1 e Q q =>
  h H1 e _ fun H2 e2 => by
    rw [List.append_nil]
    exact hs H2 (e.trans e2) Q fun H3 e3 => q H3 (e2.trans e3)
theorem el_fn {sp : Sp} {vs xs : List V} {ta : TA} (h : EvA ta σ H vs) (hs : ∀ H1, Ex H H1 → ∀ Q : VK, RetL xs H1 Q → sp vs H1 Q E0) : EvL (tCall sp [] E0 ta) σ H xs := fun H1 e Q q =>
  h H1 e _ fun H2 e2 => by
    rw [List.append_nil]
    exact hs H2 (e.trans e2) Q fun p H3 hp e3 h3 => q p H3 (fresh_back e2 hp) (e2.trans e3) h3
end
theorem lets_eq : ("abcdefghijklmnopqrstuvwxyz" : Str).cps.toList = LETS := rfl
theorem page_bits (x : Str) : (given x.cps.size (fun _ => true) fun i => V.bl (decide (x.cps.getD i 0 ∈ LETS))) = (x.cps.toList.map fun c => decide (c ∈ LETS)).map V.bl := by
  rw [given_all, List.map_map]
  apply List.ext_getElem
  · simp
  · intro i h1 h2
    have hi : i < x.cps.size := by simpa using h1
    simp [Array.getD, hi]
theorem all_true (n : Nat) : (given n (fun _ => true) fun _ => V.bl true) = (List.replicate n true).map V.bl := by
  rw [given_all]
  apply List.ext_getElem <;> simp
theorem rep_all (n : Nat) : (List.replicate n true).all id = true := by
  rw [List.all_eq_true]
  intro b hb
  exact List.eq_of_mem_replicate hb
theorem dec_int (a b : Nat) : decide (V.int (a : Int) = V.int (b : Int)) = decide (a = b) := by
  by_cases h : a = b
  · rw [decide_eq_true h, h, decide_eq_true rfl]
  · rw [decide_eq_false h, decide_eq_false fun z => h (by injection z with z; omega)]
/-! ### values of any kind -/
mutual
inductive DV (K : PySem.W.Frag) (H : Hp) : V → PyData → Prop
  | non : DV K H .non .none
  | bl (b : Bool) : DV K H (.bl b) (.bool b)
  | int (i : Int) : DV K H (.int i) (.int i)
  | str (x : Str) : DV K H (.str x) (.str x)
  | lst {a : Addr} {xs : List V} {ds : List PyData} : H a = some (.lst xs) → DVs K H xs ds → DV K H (.ref a) (.list ds)
  | tup {a : Addr} {xs : List V} {ds : List PyData} : SqT K H a xs → DVs K H xs ds → DV K H (.ref a) (.tuple ds)
  | dct {a : Addr} {kvs : List (Str × Str)} : H a = some (.dK (kvs.map fun p => (.inr p.1, V.str p.2))) → DV K H (.ref a) (.dict (kvs.map fun p => (.str p.1, .str p.2)))
inductive DVs (K : PySem.W.Frag) (H : Hp) : List V → List PyData → Prop
  | nil : DVs K H [] []
  | cons {v : V} {vs : List V} {d : PyData} {ds : List PyData} : DV K H v d → DVs K H vs ds → DVs K H (v :: vs) (d :: ds)
end
mutual
theorem DV.mono {K : PySem.W.Frag} {H H' : Hp} (e : Ex H H') : ∀ (d : PyData) (v : V), DV K H v d → DV K H' v d
  | .none, _, h => by cases h; exact .non
  | .bool b, _, h => by cases h; exact .bl b
  | .int b, _, h => by cases h; exact .int b
  | .str b, _, h => by cases h; exact .str b
  | .list ds, _, h => by
    cases h with
    | lst h1 h2 => exact .lst (e _ _ h1) (DVs.mono e ds _ h2)
  | .tuple ds, _, h => by
    cases h with
    | tup h1 h2 => exact .tup (ex_t e h1) (DVs.mono e ds _ h2)
  | .dict _, _, h => by
    cases h with
    | dct h1 => exact .dct (e _ _ h1)
theorem DVs.mono {K : PySem.W.Frag} {H H' : Hp} (e : Ex H H') : ∀ (ds : List PyData) (vs : List V), DVs K H vs ds → DVs K H' vs ds
  | [], _, h => by cases h; exact .nil
  | d :: ds, _, h => by
    cases h with
    | cons h1 h2 => exact .cons (DV.mono e d _ h1) (DVs.mono e ds _ h2)
end
theorem dvs_len {K : PySem.W.Frag} {H : Hp} : ∀ {ds : List PyData} {vs : List V}, DVs K H vs ds → vs.length = ds.length
  | [], _, h => by cases h; rfl
  | d :: ds, _, h => by
    cases h with
    | cons h1 h2 => rw [List.length_cons, List.length_cons, dvs_len h2]
theorem dvs_at {K : PySem.W.Frag} {H : Hp} : ∀ {ds : List PyData} {vs : List V} {i : Nat} {v : V}, DVs K H vs ds → vs[i]? = some v → ∃ d, ds[i]? = some d ∧ DV K H v d
  | [], _, i, v, h, e => by cases h; simp at e
  | d :: ds, _, i, v, h, e => by
    cases h with
    | cons h1 h2 =>
      cases i with
      | zero =>
        injection e with e
        subst e
        exact ⟨d, rfl, h1⟩
      | succ i => exact dvs_at (i := i) h2 (by simpa using e)
theorem dvs_at' {K : PySem.W.Frag} {H : Hp} : ∀ {ds : List PyData} {vs : List V} {i : Nat} {d : PyData}, DVs K H vs ds → ds[i]? = some d → ∃ v, vs[i]? = some v ∧ DV K H v d
  | [], _, i, d, h, e => by simp at e
  | d0 :: ds, _, i, d, h, e => by
    cases h with
    | cons h1 h2 =>
      cases i with
      | zero =>
        injection e with e
        subst e
        exact ⟨_, rfl, h1⟩
      | succ i => exact dvs_at' (i := i) h2 (by simpa using e)
def tyD : PyData → String
  | .none => "NoneType"
  | .bool _ => "bool"
  | .int _ => "int"
  | .str _ => "str"
  | .list _ => "list"
  | .tuple _ => "tuple"
  | .dict _ => "dict"
theorem DV.ty {K : PySem.W.Frag} {H : Hp} {v : V} {d : PyData} (h : DV K H v d) : TyX K H v (.type (tyD d)) := by
  cases h with
  | non => exact .base .non
  | bl b => exact .base (.bl b)
  | int i => exact .base (.int i)
  | str x => exact .base (.str x)
  | lst h1 _ => exact .base (.lst h1)
  | tup h1 _ => exact ex_tyT h1
  | dct h1 => exact .base (.dK h1)
def isStrD : PyData → Bool | .str _ => true | _ => false
def isTupD : PyData → Bool | .tuple _ => true | _ => false
def isLstD : PyData → Bool | .list _ => true | _ => false
theorem kit_str (d : PyData) : kitB (tyD d) "str" = some (isStrD d) := by cases d <;> simp only [tyD, isStrD] <;> decide +kernel
theorem kit_tup (d : PyData) : kitB (tyD d) "tuple" = some (isTupD d) := by cases d <;> simp only [tyD, isTupD] <;> decide +kernel
theorem kit_lst (d : PyData) : kitB (tyD d) "list" = some (isLstD d) := by cases d <;> simp only [tyD, isLstD] <;> decide +kernel
/-! sizes that the machine holds -/
mutual
def smallD : PyData → Bool
  | .none | .bool _ | .int _ => true
  | .str x => decide (x.length ≤ 1000) && PyData.strOk x
  | .list ds | .tuple ds => decide (ds.length ≤ 1000) && smallAll ds
  | .dict _ => true
def smallAll : List PyData → Bool
  | [] => true
  | d :: ds => smallD d && smallAll ds
end
theorem small_at : ∀ {ds : List PyData} {i : Nat} {d : PyData}, smallAll ds = true → ds[i]? = some d → smallD d = true
  | [], _, _, _, e => by simp at e
  | d0 :: ds, i, d, h, e => by
    rw [smallAll, Bool.and_eq_true] at h
    cases i with
    | zero =>
      injection e with e
      subst e
      exact h.1
    | succ i => exact small_at (i := i) h.2 (by simpa using e)
/-! ### what the document asks of them -/
def pageD : PyData → Bool
  | .str x => pageB x
  | _ => false
def markD : PyData → Bool
  | .str x => decide (x = hitS) || decide (x = missS)
  | _ => false
def eventD : PyData → Bool
  | .tuple [m, p] => markD m && pageD p
  | _ => false
def textD : PyData → Str
  | .str x => x
  | _ => ""
def shelfD : PyData → Bool
  | .tuple ds => ds.all pageD && decide ((ds.map textD).Nodup)
  | _ => false
def logB : PyData → Bool
  | .list ds => ds.all eventD
  | _ => false
section
variable {K : PySem.W.Frag} {σ : L2.St} {H H' : Hp} {ta tb : TE} {x y z v : V} {d : PyData}
/-- isinstance(e, T) at any value -/
theorem ev_isiD {T : String} {b : Bool} (ha : Ev ta σ H x) (hx : DV K H x d) (hk : kitB (tyD d) T = some b) : Ev (tCB (rIsi K) (tCons ta (tCons (tC (.ty T)) tNil))) σ H (.bl b) := ev_isi ha (fun H1 e => (DV.mono e d x hx).ty) hk
end
theorem bits_given (f : PyData → Bool) (ds : List PyData) : (given ds.length (fun _ => true) fun i => V.bl (f (ds.getD i .none))) = (ds.map f).map V.bl := by
  rw [given_all, List.map_map]
  apply List.ext_getElem
  · simp
  · intro i h1 h2
    have hi : i < ds.length := by simpa using h1
    simp [List.getD_eq_getElem?_getD, List.getElem?_eq_getElem hi]
theorem all_id (f : PyData → Bool) (ds : List PyData) : (ds.map f).all id = ds.all f := by
  rw [List.all_map]
  rfl
end KB

set_option Elab.async false
set_option linter.all false
set_option maxRecDepth 100000
set_option maxHeartbeats 4000000
/-! A2: is_page, is_event, is_shelf, is_log at values of any kind. -/
namespace KB
open PySem L2 Evl
section
variable {P : Program} {w : World} {K : PySem.W.Frag} {mg : Str → Option Value} {base : Heap}
def spAny (K : PySem.W.Frag) (f : PyData → Bool) : Sp := fun vs H Q _ => ∃ (v : V) (d : PyData), vs = [v] ∧ DV K H v d ∧ smallD d = true ∧ RetV (.bl (f d)) H Q
theorem any_len {f : PyData → Bool} : ∀ vs H Q E, spAny K f vs H Q E → vs.length = 1 := fun _ _ _ _ ⟨_, _, e, _⟩ => by rw [e]; rfl
theorem scPage : FnScope ["value", "letter"] ["value"] (defScope sIsPage) := ⟨rfl, rfl, rfl, by decide +kernel, rfl, by decide +kernel, by decide +kernel⟩
theorem ok_isPage {f : Addr} {fd : FuncData} {k : Nat} (F : Fun K "is_page" "is_page" sIsPage f fd) (B : Bn mg) : FnOk P w K mg base CX0 (k + 1) f fd ["value"] (spAny K pageD) := by
  refine F.ok scPage any_len (fun cdv A outer s H vs Q E hr h => ?_)
  obtain ⟨v, d, rfl, hd, hs, q⟩ := h
  obtain ⟨t4, m4⟩ := B.LONGEST
  obtain ⟨tl, ml⟩ := B.LETTERS
  refine ⟨_, pss_cons (ps_if (PW.pt (pw_or (pt_not (pt_val (pe_callB call_isi (by rfl) B.isinstance bt_isinstance (pa_cons (pv 0) (pa_cons (pe_bltn (v := .ty "str") (by rfl) B.str bt_str rfl) pa_nil)))))
        (pw_or1 (pt_not (pt_chain op_le op_le pe_int (pe_callB call_len_str (by rfl) B.len bt_len (pa_cons (pv 0) pa_nil)) (pe_glob (v := .int 4) (by rfl) m4 ⟨_, rfl⟩))))))
        (pss_one (ps_ret pe_bl)) pss_nil)
      (pss_one (ps_ret (pe_callB (cr_all rfl) (by rfl) B.all bt_all (pa_cons (pe_lc (own := [("letter", 1)]) (g := gName 1) (tt := tYes) rfl scPage.nd (pi_str (pv 0)) (blkOk_by (N := ["value", "letter"]) (sc := defScope sIsPage) (by decide +kernel))
        (fun _ _ _ _ _ => pg_name (i := 1) scPage.nd rfl (Or.inl rfl)) (fun _ _ _ _ _ => pts_nil) (fun _ _ _ _ _ => pe_cmpR op_in_sign (pv 1) (pe_glob (v := .str "abcdefghijklmnopqrstuvwxyz") (by rfl) ml ⟨_, rfl⟩) rfl)) pa_nil)))), ?_⟩
  by_cases hstr : isStrD d = true
  · cases d with
    | str x =>
      cases hd
      rw [smallD, Bool.and_eq_true, decide_eq_true_eq] at hs
      have hlen : x.length ≤ 100000 := by omega
      have hD : DV K H (.str x) (.str x) := .str x
      refine q_when (b := !true || !(decide ((1 : Int) ≤ x.length) && decide ((x.length : Int) ≤ 4))) ?_ (fun hb H1 e => ?_) (fun hb H1 e => ?_)
      · refine et_or (et_not (et_B (ev_isiD (ev_var rfl) hD (kit_str _)))) fun _ => et_not (et_test ?_)
        exact ev_chain ev_c (ev_lenStr (ev_var rfl) hlen) rv_I0 (fun _ => ev_c) fun _ => rv_I0
      · have e0 : pageD (.str x) = false := by
          show pageB x = false
          unfold pageB
          rw [Bool.not_true, Bool.false_or, Bool.not_eq_true'] at hb
          rw [hb, Bool.false_and]
        refine s_ret ev_c fun H2 e2 => ?_
        have g := q H2 (e.trans e2)
        rw [e0] at g
        exact g
      · have e0 : pageD (.str x) = ((x.cps.toList.map fun c => decide (c ∈ LETS)).all id) := by
          show pageB x = _
          unfold pageB
          rw [Bool.not_true, Bool.false_or, Bool.not_eq_false'] at hb
          rw [hb, Bool.true_and, List.all_map]
          rfl
        rw [e0] at q
        refine s_ret (ev_all ?_) fun H2 e2 => q H2 (e.trans e2)
        rw [← page_bits]
        refine el_lcS _ _ (ev_var rfl) (by show x.length ≤ 40000; omega) (fun _ => rfl) (fun i c H3 e3 hc => et_yes) fun i c H3 e3 hc _ => ?_
        have ec : x.cps.getD i 0 = c := by
          obtain ⟨h1, h2⟩ := Array.getElem?_eq_some_iff.mp hc
          rw [Array.getD, dif_pos h1]
          exact h2
        rw [ec]
        exact ev_op (ev_var rfl) ev_c rv_inSign
    | _ => cases hstr
  · have hf : isStrD d = false := by simpa using hstr
    have e0 : pageD d = false := by cases d <;> first | rfl | (exact (hstr rfl).elim)
    rw [e0] at q
    refine q_when (b := !false || false) (et_or (et_not (et_B (ev_isiD (ev_var rfl) hd (by rw [kit_str, hf])))) fun hb => by cases hb) (fun _ H1 e => ?_) (fun hb => by cases hb)
    exact s_ret ev_c fun H2 e2 => q H2 (e.trans e2)
/-! is_event -/
theorem scEvent : FnScope ["value", "mark", "page"] ["value"] (defScope sIsEvent) := ⟨rfl, rfl, rfl, by decide +kernel, rfl, by decide +kernel, by decide +kernel⟩
theorem mark_in (x : Str) : inV (.str x) [.str "hit", .str "miss"] = markD (.str x) := by
  show (("hit" : Str) == x || (("miss" : Str) == x || false)) = (decide (x = hitS) || decide (x = missS))
  rw [Bool.or_false]
  have c : ∀ y : Str, (y == x) = decide (x = y) := fun y => by
    by_cases h : x = y
    · subst h; simp
    · have : ¬ y = x := fun z => h z.symm
      simp [h, this]
  rw [c, c]
  rfl
theorem scMark : FnScope ["value"] ["value"] (defScope sIsMark) := ⟨rfl, rfl, rfl, by decide +kernel, rfl, by decide +kernel, by decide +kernel⟩
theorem ok_isMark {f : Addr} {fd : FuncData} (F : Fun K "is_mark" "is_mark" sIsMark f fd) (B : Bn mg) : FnOk P w K mg base CX0 1 f fd ["value"] (spAny K markD) := by
  refine F.ok scMark any_len (fun cdv A outer s H vs Q E hr h => ?_)
  obtain ⟨v, d, rfl, hd, hs, q⟩ := h
  obtain ⟨th, mh⟩ := B.HIT
  obtain ⟨tm, mm⟩ := B.MISS
  refine ⟨_, pss_one (ps_ret (pe_and (pe_callB call_isi (by rfl) B.isinstance bt_isinstance (pa_cons (pv 0) (pa_cons (pe_bltn (v := .ty "str") (by rfl) B.str bt_str rfl) pa_nil)))
        (pe_one (pe_cmpR op_in_seq (pv 0) (pe_tup (pa_cons (pe_glob (v := .str "hit") (by rfl) mh ⟨_, rfl⟩) (pa_cons (pe_glob (v := .str "miss") (by rfl) mm ⟨_, rfl⟩) pa_nil))) (by with_unfolding_all rfl))))), ?_⟩
  by_cases hstr : isStrD d = true
  · cases d with
    | str x =>
      cases hd
      refine s_ret (v := .bl (true && markD (.str x))) ?_ fun H3 e3 => q H3 e3
      refine ev_andV (ev_isiD (ev_var rfl) (.str x) (kit_str _)) fun _ => ?_
      exact ev_is (ev_inU (ev_var rfl) (eu_tup (ea_cons ev_c (ea_cons ev_c ea_nil)) (show 2 ≤ 100000 by decide)) rfl rfl) (by rw [mark_in])
    | _ => cases hstr
  · have hf : isStrD d = false := by simpa using hstr
    have e0 : markD d = false := by cases d <;> first | rfl | (exact (hstr rfl).elim)
    rw [e0] at q
    refine s_ret (v := .bl (false && false)) (ev_andV (b := false) (ev_isiD (ev_var rfl) hd (by rw [kit_str, hf])) fun z => by cases z) fun H3 e3 => q H3 e3
theorem ok_isEvent {f : Addr} {fd : FuncData} (F : Fun K "is_event" "is_event" sIsEvent f fd) (B : Bn mg) (cM : Cl P w K mg base 1 "is_mark" ["value"] (spAny K markD)) (cP : Cl P w K mg base 1 "is_page" ["value"] (spAny K pageD)) : FnOk P w K mg base CX0 2 f fd ["value"] (spAny K eventD) := by
  refine F.ok scEvent any_len (fun cdv A outer s H vs Q E hr h => ?_)
  obtain ⟨v, d, rfl, hd, hs, q⟩ := h
  refine ⟨_, pss_cons (ps_if (PW.pt (pw_or (pt_not (pt_val (pe_callB call_isi (by rfl) B.isinstance bt_isinstance (pa_cons (pv 0) (pa_cons (pe_bltn (v := .ty "tuple") (by rfl) B.tuple bt_tuple rfl) pa_nil)))))
        (pw_or1 (pt_cmpR op_ne (pe_callB call_len_seq (by rfl) B.len bt_len (pa_cons (pv 0) pa_nil)) pe_int (nomark _))))) (pss_one (ps_ret pe_bl)) pss_nil)
      (pss_cons (ps_asg (pv 0) (pg_tup rfl (pgs_cons (pg_name (i := 1) scEvent.nd rfl (Or.inl rfl)) (pgs_cons (pg_name (i := 2) scEvent.nd rfl (Or.inl rfl)) pgs_nil))))
      (pss_one (ps_ret (pe_and (pe_cl cM hr (pa_cons (pv 1) pa_nil)) (pe_one (pe_cl cP hr (pa_cons (pv 2) pa_nil))))))), ?_⟩
  by_cases htup : isTupD d = true
  · cases d with
    | tuple ds =>
      cases hd with
      | tup h1 h2 =>
      rename_i a xs
      have hl := dvs_len h2
      have hD : DV K H (.ref a) (.tuple ds) := .tup h1 h2
      rw [smallD, Bool.and_eq_true, decide_eq_true_eq] at hs
      refine q_when (b := !true || !decide (V.int (xs.length : Int) = V.int 2)) ?_ (fun hb H1 e1 => ?_) (fun hb H1 e1 => ?_)
      · exact et_or (et_not (et_B (ev_isiD (ev_var rfl) hD (kit_tup _)))) fun _ => et_test (ev_op (ev_lenTup (ev_var rfl) h1) ev_c (rv_ne rfl))
      · have e0 : eventD (.tuple ds) = false := by
          match ds, hl with
          | [], _ => rfl
          | [_], _ => rfl
          | [a, b], hl => rw [hl] at hb; simp at hb
          | _ :: _ :: _ :: _, _ => rfl
        rw [e0] at q
        exact s_ret ev_c fun H2 e2 => q H2 (e1.trans e2)
      · have l2 : ds.length = 2 := by
          rw [Bool.not_true, Bool.false_or, Bool.not_eq_false', decide_eq_true_eq] at hb
          injection hb with hb
          omega
        match ds, l2, h2, hs with
        | [m, p], _, h2, hs =>
        cases h2 with
        | cons hm h3 =>
        cases h3 with
        | cons hp h4 =>
        cases h4
        rename_i vm vp
        have sm : smallD m = true ∧ smallD p = true := by
          have := hs.2
          rw [smallAll, smallAll, smallAll, Bool.and_true, Bool.and_eq_true] at this
          exact this
        refine q_unp2 (x := vm) (y := vp) (ev_var rfl) (ex_t e1 h1) fun H2 e2 => ?_
        have e12 := e1.trans e2
        have hm2 := DV.mono e12 _ _ hm
        refine s_ret (v := .bl (markD m && pageD p)) ?_ fun H3 e3 => q H3 (e12.trans e3)
        refine ev_andV (ev_fn (ea_cons (ev_var rfl) ea_nil) fun H4 e4 Q' k => ⟨vm, m, rfl, DV.mono (e12.trans e4) _ _ hm, sm.1, k⟩) fun _ => ?_
        exact ev_fn (ea_cons (ev_var rfl) ea_nil) fun H4 e4 Q' k => ⟨vp, p, rfl, DV.mono (e12.trans e4) _ _ hp, sm.2, k⟩
    | _ => cases htup
  · have hf : isTupD d = false := by simpa using htup
    have e0 : eventD d = false := by cases d <;> first | rfl | (exact (htup rfl).elim)
    rw [e0] at q
    refine q_when (b := !false || false) (et_or (et_not (et_B (ev_isiD (ev_var rfl) hd (by rw [kit_tup, hf])))) fun hb => by cases hb) (fun _ H1 e => ?_) (fun hb => by cases hb)
    exact s_ret ev_c fun H2 e2 => q H2 (e.trans e2)
end
end KB

set_option Elab.async false
set_option linter.all false
set_option maxRecDepth 100000
set_option maxHeartbeats 4000000
/-! A3: is_shelf, is_log at values of any kind. -/
namespace KB
open PySem L2 Evl
theorem met_nodup (ps : List Str) : decide (V.int ((metS ps).length : Int) = V.int (ps.length : Int)) = decide ps.Nodup := by
  by_cases h : ps.Nodup
  · rw [metS_nodup _ ps rfl h, decide_eq_true rfl, decide_eq_true h]
  · rw [decide_eq_false h]
    refine decide_eq_false fun z => h (metS_eq _ ps rfl ?_)
    injection z with z
    omega
theorem dvs_text {K : PySem.W.Frag} {H : Hp} : ∀ {ds : List PyData} {vs : List V}, DVs K H vs ds → ds.all pageD = true → vs = (ds.map textD).map V.str
  | [], _, h, _ => by cases h; rfl
  | d :: ds, _, h, a => by
    rw [List.all_cons, Bool.and_eq_true] at a
    cases h with
    | cons h1 h2 =>
      rw [List.map_cons, List.map_cons, dvs_text h2 a.2]
      cases d with
      | str x => cases h1; rfl
      | _ => exact absurd a.1 (by simp [pageD])
section
variable {P : Program} {w : World} {K : PySem.W.Frag} {mg : Str → Option Value} {base : Heap}
theorem scShelf : FnScope ["value", "page"] ["value"] (defScope sIsShelf) := ⟨rfl, rfl, rfl, by decide +kernel, rfl, by decide +kernel, by decide +kernel⟩
theorem ok_isShelf {f : Addr} {fd : FuncData} (F : Fun K "is_shelf" "is_shelf" sIsShelf f fd) (B : Bn mg) (cP : Cl P w K mg base 1 "is_page" ["value"] (spAny K pageD)) : FnOk P w K mg base CX0 3 f fd ["value"] (spAny K shelfD) := by
  refine F.ok scShelf any_len (fun cdv A outer s H vs Q E hr h => ?_)
  obtain ⟨v, d, rfl, hd, hs, q⟩ := h
  refine ⟨_, pss_cons (ps_if (PW.pt (pw_or (pt_not (pt_val (pe_callB call_isi (by rfl) B.isinstance bt_isinstance (pa_cons (pv 0) (pa_cons (pe_bltn (v := .ty "tuple") (by rfl) B.tuple bt_tuple rfl) pa_nil)))))
        (pw_or1 (pt_not (pt_val (pe_callB (cr_all rfl) (by rfl) B.all bt_all (pa_cons (pe_lc (own := [("page", 1)]) (g := gName 1) (tt := tYes) rfl scShelf.nd (pi_tup (pv 0)) (blkOk_by (N := ["value", "page"]) (sc := defScope sIsShelf) (by decide +kernel))
          (fun _ _ _ _ _ => pg_name (i := 1) scShelf.nd rfl (Or.inl rfl)) (fun _ _ _ _ _ => pts_nil) (fun _ _ _ _ _ => pe_cl cP hr (pa_cons (pv 1) pa_nil))) pa_nil)))))))
        (pss_one (ps_ret pe_bl)) pss_nil)
      (pss_one (ps_ret (pe_cmpR op_eq (pe_callB call_lenSetS (by rfl) B.len bt_len (pa_cons (pe_callTy (call_setT rfl) (by rfl) B.set bt_set (pa_cons (pv 0) pa_nil)) pa_nil)) (pe_callB call_len_seq (by rfl) B.len bt_len (pa_cons (pv 0) pa_nil)) (nomark _)))), ?_⟩
  by_cases htup : isTupD d = true
  · cases d with
    | tuple ds =>
      cases hd with
      | tup h1 h2 =>
      rename_i a xs
      have hl := dvs_len h2
      have hD : DV K H (.ref a) (.tuple ds) := .tup h1 h2
      rw [smallD, Bool.and_eq_true, decide_eq_true_eq] at hs
      refine q_when (b := !true || !((ds.map pageD).all id)) ?_ (fun hb H1 e1 => ?_) (fun hb H1 e1 => ?_)
      · refine et_or (et_not (et_B (ev_isiD (ev_var rfl) hD (kit_tup _)))) fun _ => et_not (et_B (ev_all ?_))
        rw [← bits_given, ← hl]
        refine el_lcT _ _ (ev_var rfl) h1 (by omega) (fun _ => rfl) (fun i x H3 e3 hx => et_yes) fun i x H3 e3 hx _ => ?_
        obtain ⟨d, hd1, hd2⟩ := dvs_at h2 hx
        have ed : ds.getD i .none = d := by rw [List.getD_eq_getElem?_getD, hd1]; rfl
        rw [ed]
        exact ev_fn (ea_cons (ev_var rfl) ea_nil) fun H4 e4 Q' k => ⟨x, d, rfl, DV.mono (e3.trans e4) _ _ hd2, small_at hs.2 hd1, k⟩
      · have e0 : shelfD (.tuple ds) = false := by
          show (ds.all pageD && _) = false
          rw [Bool.not_true, Bool.false_or, Bool.not_eq_true', all_id] at hb
          rw [hb]
          rfl
        rw [e0] at q
        exact s_ret ev_c fun H2 e2 => q H2 (e1.trans e2)
      · have ha : ds.all pageD = true := by
          rw [Bool.not_true, Bool.false_or, Bool.not_eq_false', all_id] at hb
          exact hb
        have ex := dvs_text h2 ha
        have e0 : shelfD (.tuple ds) = decide ((ds.map textD).Nodup) := by
          show (ds.all pageD && _) = _
          rw [ha]
          rfl
        rw [e0] at q
        have hl2 : (ds.map textD).length = ds.length := List.length_map ..
        generalize ds.map textD = ps at ex q hl2
        subst ex
        refine ⟨.ref a, rfl, a, ps, rfl, ex_t e1 h1, by omega, fun p np => ?_⟩
        refine ⟨p, ps, rfl, upd_same, by omega, .ref a, rfl, a, ps.map V.str, rfl, .inr (ex_t (e1.trans (Ex.new np)) h1), ?_⟩
        refine ⟨rfl, ?_⟩
        rw [List.length_map, met_nodup]
        exact q _ (e1.trans (Ex.new np))
    | _ => cases htup
  · have hf : isTupD d = false := by simpa using htup
    have e0 : shelfD d = false := by cases d <;> first | rfl | (exact (htup rfl).elim)
    rw [e0] at q
    refine q_when (b := !false || false) (et_or (et_not (et_B (ev_isiD (ev_var rfl) hd (by rw [kit_tup, hf])))) fun hb => by cases hb) (fun _ H1 e => ?_) (fun hb => by cases hb)
    exact s_ret ev_c fun H2 e2 => q H2 (e.trans e2)
/-! is_log -/
theorem scLog : FnScope ["value", "event"] ["value"] (defScope sIsLog) := ⟨rfl, rfl, rfl, by decide +kernel, rfl, by decide +kernel, by decide +kernel⟩
theorem ok_isLog {f : Addr} {fd : FuncData} (F : Fun K "is_log" "is_log" sIsLog f fd) (B : Bn mg) (cE : Cl P w K mg base 2 "is_event" ["value"] (spAny K eventD)) : FnOk P w K mg base CX0 3 f fd ["value"] (spAny K logB) := by
  refine F.ok scLog any_len (fun cdv A outer s H vs Q E hr h => ?_)
  obtain ⟨v, d, rfl, hd, hs, q⟩ := h
  refine ⟨_, pss_one (ps_ret (pe_and (pe_callB call_isi (by rfl) B.isinstance bt_isinstance (pa_cons (pv 0) (pa_cons (pe_bltn (v := .ty "list") (by rfl) B.list bt_list rfl) pa_nil)))
      (pe_one (pe_callB (cr_all rfl) (by rfl) B.all bt_all (pa_cons (pe_lc (own := [("event", 1)]) (g := gName 1) (tt := tYes) rfl scLog.nd (pi_list (pv 0)) (blkOk_by (N := ["value", "event"]) (sc := defScope sIsLog) (by decide +kernel))
          (fun _ _ _ _ _ => pg_name (i := 1) scLog.nd rfl (Or.inl rfl)) (fun _ _ _ _ _ => pts_nil) (fun _ _ _ _ _ => pe_cl cE hr (pa_cons (pv 1) pa_nil))) pa_nil))))), ?_⟩
  by_cases hlst : isLstD d = true
  · cases d with
    | list ds =>
      cases hd with
      | lst h1 h2 =>
      rename_i a xs
      have hl := dvs_len h2
      have hD : DV K H (.ref a) (.list ds) := .lst h1 h2
      rw [smallD, Bool.and_eq_true, decide_eq_true_eq] at hs
      refine s_ret (v := .bl (true && (ds.map eventD).all id)) ?_ fun H1 e1 => ?_
      · refine ev_andV (ev_isiD (ev_var rfl) hD (kit_lst _)) fun _ => ev_all ?_
        rw [← bits_given, ← hl]
        refine el_lcL _ _ (ev_var rfl) (sq_of h1) (by omega) (fun _ => rfl) (fun i x H3 e3 hx => et_yes) fun i x H3 e3 hx _ => ?_
        obtain ⟨d, hd1, hd2⟩ := dvs_at h2 hx
        have ed : ds.getD i .none = d := by rw [List.getD_eq_getElem?_getD, hd1]; rfl
        rw [ed]
        exact ev_fn (ea_cons (ev_var rfl) ea_nil) fun H4 e4 Q' k => ⟨x, d, rfl, DV.mono (e3.trans e4) _ _ hd2, small_at hs.2 hd1, k⟩
      · rw [all_id]
        exact q H1 e1
    | _ => cases hlst
  · have hf : isLstD d = false := by simpa using hlst
    have e0 : logB d = false := by cases d <;> first | rfl | (exact (hlst rfl).elim)
    rw [e0] at q
    exact s_ret (v := .bl (false && false)) (ev_andV (b := false) (ev_isiD (ev_var rfl) hd (by rw [kit_lst, hf])) fun z => by cases z) fun H1 e1 => q H1 e1
end
end KB

set_option Elab.async false
set_option linter.all false
set_option maxRecDepth 100000
set_option maxHeartbeats 8000000
/-! X1: the program's checks at values of any kind, and what they raise. -/
namespace KB
open PySem PySem.Spec PyProof.Rows L2 Evl
/-! ### defs that may raise, as their callers know them -/
structure ClX (P : Program) (w : World) (K : PySem.W.Frag) (mg : Str → Option Value) (base : Heap) (k : Nat) (x : Str) (ps : List Str) (sp : Sp) : Prop where
  ex : ∃ (f : Addr) (fd : FuncData), FnOk P w K mg base (L2.CX P w) k f fd ps sp ∧ mg x = some (.ref f) ∧ PySem.W.keepIn K (.ref f) = true ∧ Binds K fd ps []
section
variable {X : Cx} {k j : Nat} {ps : List Str} {sp : Sp} {x : Str} {p pos : Pos} {e : Expr} {es : List Expr} {t : TA} {W : WX}
theorem pe_clX (c : ClX X.prog X.w X.K X.mg X.base k x ps sp) (tk : Takes X W) (hr : Room j X.A) (ha : PA X (e :: es) t) (hk : k ≤ j := by decide) (hg : Gl X x := by rfl) (hdb : (x == ("__debug__" : Str)) = false := by decide)
    (he : starEach (e :: es) X.env = (false, eval e X.env) :: starEach es X.env := by rfl) (hpl : (backTo pos (starEach es X.env)).any (·.1) = false := by rfl) : PE X (.Call (.Name x p) (e :: es) [] pos) (tCallS sp (WE W) t) := by
  obtain ⟨f, fd, F, hm, kp, hb⟩ := c.ex
  exact pe_callS F (hr.mono hk) hg hm kp hb (fun σ => passAt tk σ) ha hdb he hpl
end
section
variable {K : PySem.W.Frag} {σ : L2.St} {H : Hp} {ta : TA} {D : Ends} {tz : TS} {sp : Sp} {E : L2.St → XK} {vs : List V}
theorem q_dropS (h : EvA ta σ H vs) (hs : ∀ H1, Ex H H1 → sp vs H1 (fun _ H2 => tz D σ H2) (E σ)) : tSeq (tDrop (tCallS sp E ta)) tz D σ H := h H (Ex.refl H) _ fun H1 e1 => hs H1 e1
theorem q_asgS {i : Nat} (h : EvA ta σ H vs) (hs : ∀ H1, Ex H H1 → sp vs H1 (fun v H2 => tz D (σ.set i (some v)) H2) (E σ)) : tSeq (tAsg (tCallS sp E ta) (gName i)) tz D σ H := h H (Ex.refl H) _ fun H1 e1 => hs H1 e1
theorem s_dropS (h : EvA ta σ H vs) (hs : ∀ H1, Ex H H1 → sp vs H1 (fun _ H2 => D.nx σ H2) (E σ)) : tDrop (tCallS sp E ta) D σ H := h H (Ex.refl H) _ fun H1 e1 => hs H1 e1
end
/-- an own exception class named x, at C -/
structure ErC (K : PySem.W.Frag) (mg : Str → Option Value) (x : Str) (C : Addr) : Prop where
  gC : mg x = some (.ref C)
  xP : PySem.W.excIn K C [.type "ValueError", .type "Exception", .type "BaseException", .type "object"] "ValueError.__new__" = true
  kP : PySem.W.keepIn K (.ref C) = true
  bP : PySem.W.subIn K (.ref C) (.type "BaseException") = some true
  tP : PySem.W.typeIn K (.ref C) = some (.type "type")
/-! ### what the document asks of values -/
def isIntD : PyData → Bool | .int _ => true | .bool _ => true | _ => false
def isBoolD : PyData → Bool | .bool _ => true | _ => false
def intD : PyData → Bool | .int _ => true | _ => false
theorem kit_int (d : PyData) : kitB (tyD d) "int" = some (isIntD d) := by cases d <;> simp only [tyD, isIntD] <;> decide +kernel
theorem kit_bool (d : PyData) : kitB (tyD d) "bool" = some (isBoolD d) := by cases d <;> simp only [tyD, isBoolD] <;> decide +kernel
theorem intD_eq (d : PyData) : (isIntD d && !isBoolD d) = intD d := by cases d <;> rfl
def capB : PyData → Bool | .int i => decide (1 ≤ i) | _ => false
def intOf : PyData → Int | .int i => i | _ => 0
def itemsD : PyData → List PyData | .list ds => ds | .tuple ds => ds | _ => []
def startB (i : Int) (d : PyData) : Bool := shelfD d && decide ((itemsD d).length ≤ i)
/-- which of three arguments is wrong first -/
def badD (d1 d2 d3 : PyData) : Option Nat := if capB d1 = false then some 0 else if startB (intOf d1) d2 = false then some 1 else if logB d3 = false then some 2 else none
def bad2 (d2 d3 : PyData) : Option Nat := if shelfD d2 = false then some 1 else if logB d3 = false then some 2 else none
def shelfOf (d : PyData) : List Str := (itemsD d).map textD
def evOf : PyData → Ev1
  | .tuple [m, p] => (textD m, textD p)
  | _ => ("", "")
def logOf (d : PyData) : List Ev1 := (itemsD d).map evOf
def capOf (d : PyData) : Nat := (intOf d).toNat
theorem shelf_sq {K : PySem.W.Frag} {H : Hp} {v : V} {d : PyData} (h : DV K H v d) (hs : shelfD d = true) (hl : (itemsD d).length ≤ 200) : ∃ t, v = .ref t ∧ SqT K H t ((shelfOf d).map V.str) ∧ Pages (shelfOf d) := by
  cases d with
  | tuple ds =>
    have hs : (ds.all pageD && decide ((ds.map textD).Nodup)) = true := hs
    rw [Bool.and_eq_true, decide_eq_true_eq] at hs
    cases h with
    | tup h1 h2 =>
      rename_i a xs
      have e := dvs_text h2 hs.1
      refine ⟨a, rfl, ?_, ⟨fun p hp => ?_, hs.2, by show (ds.map textD).length ≤ 200; rw [List.length_map]; exact hl⟩⟩
      · show SqT K H a ((ds.map textD).map V.str)
        rw [← e]
        exact h1
      · obtain ⟨d, hd, rfl⟩ := List.mem_map.mp (show p ∈ ds.map textD from hp)
        have := List.all_eq_true.mp hs.1 d hd
        cases d with
        | str x => exact this
        | _ => cases this
  | _ => cases hs
theorem event_sq {K : PySem.W.Frag} {H : Hp} {v : V} {d : PyData} (h : DV K H v d) (hs : eventD d = true) : ∃ t, v = .ref t ∧ SqT K H t [.str (evOf d).1, .str (evOf d).2] ∧ okE (evOf d) := by
  cases d with
  | tuple ds =>
    match ds, hs, h with
    | [m, p], hs, h =>
      have hs : (markD m && pageD p) = true := hs
      rw [Bool.and_eq_true] at hs
      cases h with
      | tup h1 h2 =>
        rename_i a xs
        cases h2 with
        | cons a1 a2 =>
          cases a2 with
          | cons b1 b2 =>
            cases b2
            cases m with
            | str x =>
              cases p with
              | str y =>
                cases a1
                cases b1
                refine ⟨a, rfl, h1, ?_, hs.2⟩
                have := hs.1
                have hm : (decide (x = hitS) || decide (x = missS)) = true := this
                rw [Bool.or_eq_true, decide_eq_true_eq, decide_eq_true_eq] at hm
                exact hm
              | _ => exact absurd hs.2 (by simp [pageD])
            | _ => exact absurd hs.1 (by simp [markD])
    | [], hs, _ => cases hs
    | [_], hs, _ => cases hs
    | _ :: _ :: _ :: _, hs, _ => cases hs
  | _ => cases hs
theorem events_sq {K : PySem.W.Frag} {H : Hp} : ∀ {ds : List PyData} {vs : List V}, DVs K H vs ds → ds.all eventD = true → ∃ ts : List Addr, vs = ts.map V.ref ∧ Paired (fun t (e : Ev1) => SqT K H t [.str e.1, .str e.2]) ts (ds.map evOf) ∧ ∀ e ∈ ds.map evOf, okE e
  | [], _, h, _ => by
    cases h
    exact ⟨[], rfl, .nil, fun _ z => nomatch z⟩
  | d :: ds, _, h, a => by
    rw [List.all_cons, Bool.and_eq_true] at a
    cases h with
    | cons h1 h2 =>
      obtain ⟨t, rfl, t1, t2⟩ := event_sq h1 a.1
      obtain ⟨ts, rfl, p1, p2⟩ := events_sq h2 a.2
      refine ⟨t :: ts, rfl, .cons t1 p1, fun e he => ?_⟩
      rw [List.map_cons] at he
      rcases List.mem_cons.mp he with z | z
      · rw [z]; exact t2
      · exact p2 e z
theorem log_sq {K : PySem.W.Frag} {H : Hp} {v : V} {d : PyData} (h : DV K H v d) (hs : logB d = true) (hl : (itemsD d).length ≤ 300) : ∃ t, v = .ref t ∧ LogK K H t (logOf d) := by
  cases d with
  | list ds =>
    cases h with
    | lst h1 h2 =>
      rename_i a xs
      obtain ⟨ts, rfl, p1, p2⟩ := events_sq h2 hs
      exact ⟨a, rfl, ⟨ts, sq_of h1, p1⟩, p2, by show (ds.map evOf).length ≤ 300; rw [List.length_map]; exact hl⟩
  | _ => cases hs
/-- three arguments of any kind -/
structure DV3 (K : PySem.W.Frag) (H : Hp) (v1 v2 v3 : V) (d1 d2 d3 : PyData) : Prop where
  h1 : DV K H v1 d1
  h2 : DV K H v2 d2
  h3 : DV K H v3 d3
  s1 : smallD d1 = true
  s2 : smallD d2 = true
  s3 : smallD d3 = true
  l2 : (itemsD d2).length ≤ 200
  l3 : (itemsD d3).length ≤ 300
theorem DV3.mono {K : PySem.W.Frag} {H H' : Hp} {v1 v2 v3 : V} {d1 d2 d3 : PyData} (e : Ex H H') (h : DV3 K H v1 v2 v3 d1 d2 d3) : DV3 K H' v1 v2 v3 d1 d2 d3 := { h with h1 := DV.mono e _ _ h.h1, h2 := DV.mono e _ _ h.h2, h3 := DV.mono e _ _ h.h3 }
section
variable {P : Program} {w : World} {K : PySem.W.Frag} {mg : Str → Option Value} {base : Heap}
theorem scInt : FnScope ["value"] ["value"] (defScope sIsInteger) := ⟨rfl, rfl, rfl, by decide +kernel, rfl, by decide +kernel, by decide +kernel⟩
theorem ok_isInteger {f : Addr} {fd : FuncData} {k : Nat} (F : Fun K "is_integer" "is_integer" sIsInteger f fd) (B : Bn mg) : FnOk P w K mg base CX0 (k + 1) f fd ["value"] (spAny K intD) := by
  refine F.ok scInt any_len (fun cdv A outer s H vs Q E hr h => ?_)
  obtain ⟨v, d, rfl, hd, hs, q⟩ := h
  refine ⟨_, pss_one (ps_ret (pe_and (pe_callB call_isi (by rfl) B.isinstance bt_isinstance (pa_cons (pv 0) (pa_cons (pe_bltn (v := .ty "int") (by rfl) B.int bt_int rfl) pa_nil)))
    (pe_one (pe_not (pe_callB call_isi (by rfl) B.isinstance bt_isinstance (pa_cons (pv 0) (pa_cons (pe_bltn (v := .ty "bool") (by rfl) B.bool bt_bool rfl) pa_nil))))))), ?_⟩
  rw [← intD_eq] at q
  exact s_ret (ev_andV (a := isIntD d) (b := !isBoolD d) (ev_isiD (ev_var rfl) hd (kit_int d)) fun _ => ev_notV (ev_isiD (ev_var rfl) hd (kit_bool d))) fun H1 e => q H1 e
/-- a check of one value -/
def spCk (K : PySem.W.Frag) (f : PyData → Bool) (C : Addr) : Sp := fun vs H Q E => ∃ (v : V) (d : PyData), vs = [v] ∧ DV K H v d ∧ smallD d = true ∧ (f d = true → RetV .non H Q) ∧ (f d = false → ∀ H', Ex H H' → E (.ref C) none H')
theorem ck_len {f : PyData → Bool} {C : Addr} : ∀ vs H Q E, spCk K f C vs H Q E → vs.length = 1 := fun _ _ _ _ ⟨_, _, e, _⟩ => by rw [e]; rfl
theorem scCap : FnScope ["capacity"] ["capacity"] (defScope sCheckCapacity) := ⟨rfl, rfl, rfl, by decide +kernel, rfl, by decide +kernel, by decide +kernel⟩
theorem ok_checkCapacity {f C : Addr} {fd : FuncData} (F : Fun K "check_capacity" "check_capacity" sCheckCapacity f fd) (cI : Cl P w K mg base 1 "is_integer" ["value"] (spAny K intD)) (T : ErC K mg "InvalidCapacity" C) : FnOk P w K mg base (L2.CX P w) 2 f fd ["capacity"] (spCk K capB C) := by
  refine F.okX scCap ck_len (fun cdv A outer s H vs Q E hr h => ?_)
  obtain ⟨v, d, rfl, hd, hs, q, qe⟩ := h
  refine ⟨_, pss_one (ps_if (PW.pt (pw_or (pt_not (pt_val (pe_cl cI hr (pa_cons (pv 0) pa_nil)))) (pw_or1 (pt_cmpR op_lt (pv 0) pe_int (nomark _)))))
    (pss_one (ps_raise rfl (takes_of rfl rfl rfl rfl) (pmk_own PySem.F.excBase_ValueError T.xP T.gC T.kP (raises_own T.bP T.tP) rfl))) pss_nil), ?_⟩
  refine s_when (b := !capB d) ?_ (fun hb H1 e1 => ?_) (fun hb H1 e1 => ?_)
  · by_cases hi : intD d = true
    · cases d with
      | int i =>
        cases hd
        have e0 : (!capB (.int i)) = (!true || decide (i < 1)) := by
          show (!decide (1 ≤ i)) = _
          by_cases z : 1 ≤ i
          · rw [decide_eq_true z, decide_eq_false (by omega)]; rfl
          · rw [decide_eq_false z, decide_eq_true (by omega)]; rfl
        rw [e0]
        exact et_or (et_not (et_B (ev_fn (ea_cons (ev_var rfl) ea_nil) fun H4 e4 Q' k => ⟨.int i, .int i, rfl, .int i, hs, k⟩))) fun _ => et_test (ev_op (ev_var rfl) ev_c rv_I0)
      | _ => cases hi
    · have hi : intD d = false := Bool.eq_false_iff.mpr hi
      have hc : (!capB d) = (!intD d || true) := by
        rw [hi]
        cases d with
        | int i => cases hi
        | _ => rfl
      rw [hc]
      refine et_or (et_not (et_B (ev_fn (ea_cons (ev_var rfl) ea_nil) fun H4 e4 Q' k => ⟨v, d, rfl, DV.mono e4 _ _ hd, hs, k⟩))) fun z => ?_
      rw [hi] at z
      cases z
  · rw [Bool.not_eq_true'] at hb
    exact qe hb H1 e1
  · rw [Bool.not_eq_false'] at hb
    exact q hb H1 e1
theorem scCkShelf : FnScope ["start"] ["start"] (defScope sCheckShelf) := ⟨rfl, rfl, rfl, by decide +kernel, rfl, by decide +kernel, by decide +kernel⟩
theorem ok_checkShelf {f C : Addr} {fd : FuncData} (F : Fun K "check_shelf" "check_shelf" sCheckShelf f fd) (cS : Cl P w K mg base 3 "is_shelf" ["value"] (spAny K shelfD)) (T : ErC K mg "InvalidShelf" C) : FnOk P w K mg base (L2.CX P w) 4 f fd ["start"] (spCk K shelfD C) := by
  refine F.okX scCkShelf ck_len (fun cdv A outer s H vs Q E hr h => ?_)
  obtain ⟨v, d, rfl, hd, hs, q, qe⟩ := h
  refine ⟨_, pss_one (ps_if (pt_not (pt_val (pe_cl cS hr (pa_cons (pv 0) pa_nil)))) (pss_one (ps_raise rfl (takes_of rfl rfl rfl rfl) (pmk_own PySem.F.excBase_ValueError T.xP T.gC T.kP (raises_own T.bP T.tP) rfl))) pss_nil), ?_⟩
  refine s_when (b := !shelfD d) (et_not (et_B (ev_fn (ea_cons (ev_var rfl) ea_nil) fun H4 e4 Q' k => ⟨v, d, rfl, DV.mono e4 _ _ hd, hs, k⟩))) (fun hb H1 e1 => ?_) (fun hb H1 e1 => ?_)
  · rw [Bool.not_eq_true'] at hb
    exact qe hb H1 e1
  · rw [Bool.not_eq_false'] at hb
    exact q hb H1 e1
theorem scCkLog : FnScope ["log"] ["log"] (defScope sCheckLog) := ⟨rfl, rfl, rfl, by decide +kernel, rfl, by decide +kernel, by decide +kernel⟩
theorem ok_checkLog {f C : Addr} {fd : FuncData} (F : Fun K "check_log" "check_log" sCheckLog f fd) (cL : Cl P w K mg base 3 "is_log" ["value"] (spAny K logB)) (T : ErC K mg "InvalidLog" C) : FnOk P w K mg base (L2.CX P w) 4 f fd ["log"] (spCk K logB C) := by
  refine F.okX scCkLog ck_len (fun cdv A outer s H vs Q E hr h => ?_)
  obtain ⟨v, d, rfl, hd, hs, q, qe⟩ := h
  refine ⟨_, pss_one (ps_if (pt_not (pt_val (pe_cl cL hr (pa_cons (pv 0) pa_nil)))) (pss_one (ps_raise rfl (takes_of rfl rfl rfl rfl) (pmk_own PySem.F.excBase_ValueError T.xP T.gC T.kP (raises_own T.bP T.tP) rfl))) pss_nil), ?_⟩
  refine s_when (b := !logB d) (et_not (et_B (ev_fn (ea_cons (ev_var rfl) ea_nil) fun H4 e4 Q' k => ⟨v, d, rfl, DV.mono e4 _ _ hd, hs, k⟩))) (fun hb H1 e1 => ?_) (fun hb H1 e1 => ?_)
  · rw [Bool.not_eq_true'] at hb
    exact qe hb H1 e1
  · rw [Bool.not_eq_false'] at hb
    exact q hb H1 e1
theorem scStart : FnScope ["capacity", "start"] ["capacity", "start"] (defScope sCheckStart) := ⟨rfl, rfl, rfl, by decide +kernel, rfl, by decide +kernel, by decide +kernel⟩
def spCheckStart (K : PySem.W.Frag) (C : Addr) : Sp := fun vs H Q E => ∃ (i : Int) (v : V) (d : PyData), vs = [.int i, v] ∧ DV K H v d ∧ smallD d = true ∧ (startB i d = true → RetV .non H Q) ∧ (startB i d = false → ∀ H', Ex H H' → E (.ref C) none H')
theorem ok_checkStart {f C : Addr} {fd : FuncData} (F : Fun K "check_start" "check_start" sCheckStart f fd) (B : Bn mg) (cS : ClX P w K mg base 4 "check_shelf" ["start"] (spCk K shelfD C)) (T : ErC K mg "InvalidShelf" C) : FnOk P w K mg base (L2.CX P w) 5 f fd ["capacity", "start"] (spCheckStart K C) := by
  refine F.okX scStart (fun vs H Q E h => ?_) (fun cdv A outer s H vs Q E hr h => ?_)
  · obtain ⟨i, t, ps, rfl, _⟩ := h
    rfl
  · obtain ⟨i, v, d, rfl, hd, hs, q, qe⟩ := h
    refine ⟨_, pss_cons (ps_expr (pe_clX cS (takes_of rfl rfl rfl rfl) hr (pa_cons (pv 1) pa_nil))) (pss_one (ps_if (pt_cmpR op_gt (pe_callB call_len_seq (by rfl) B.len bt_len (pa_cons (pv 1) pa_nil)) (pv 0) (nomark _))
      (pss_one (ps_raise rfl (takes_of rfl rfl rfl rfl) (pmk_own PySem.F.excBase_ValueError T.xP T.gC T.kP (raises_own T.bP T.tP) rfl))) pss_nil)), ?_⟩
    refine q_dropS (ea_cons (ev_var rfl) ea_nil) fun H1 e1 => ⟨v, d, rfl, DV.mono e1 _ _ hd, hs, fun hsh H2 e2 => ?_, fun hsh H2 e2 => ?_⟩
    · have e12 := e1.trans e2
      obtain ⟨t, xs, rfl, hT, hlen⟩ : ∃ t xs, v = .ref t ∧ SqT K H t xs ∧ xs.length = (itemsD d).length := by
        cases d with
        | tuple ds =>
          cases hd with
          | tup h1 h2 => exact ⟨_, _, rfl, h1, dvs_len h2⟩
        | _ => cases hsh
      have e0 : startB i d = !decide (i < (xs.length : Int)) := by
        unfold startB
        rw [hsh, hlen, Bool.true_and]
        by_cases z : ((itemsD d).length : Int) ≤ i
        · rw [decide_eq_true z, decide_eq_false (by omega)]; rfl
        · rw [decide_eq_false z, decide_eq_true (by omega)]; rfl
      rw [e0] at q qe
      refine s_when (b := decide (i < (xs.length : Int))) (et_test (ev_op (ev_lenTup (ev_var rfl) (ex_t e12 hT)) (ev_var rfl) rv_I0)) (fun hb H3 e3 => ?_) (fun hb H3 e3 => ?_)
      · exact qe (by rw [hb]; rfl) H3 (e12.trans e3)
      · exact q (by rw [hb]; rfl) H3 (e12.trans e3)
    · exact qe (by unfold startB; rw [hsh]; rfl) H2 (e1.trans e2)
theorem scArgs : FnScope ["capacity", "start", "log"] ["capacity", "start", "log"] (defScope sCheckArguments) := ⟨rfl, rfl, rfl, by decide +kernel, rfl, by decide +kernel, by decide +kernel⟩
/-- three arguments; what is due -/
def spArgsX (K : PySem.W.Frag) (C : Nat → Addr) : Sp := fun vs H Q E => ∃ (v1 v2 v3 : V) (d1 d2 d3 : PyData), vs = [v1, v2, v3] ∧ DV3 K H v1 v2 v3 d1 d2 d3 ∧ (badD d1 d2 d3 = none → RetV .non H Q) ∧ (∀ k, badD d1 d2 d3 = some k → ∀ H', Ex H H' → E (.ref (C k)) none H')
theorem ok_checkArguments {f : Addr} {fd : FuncData} {C : Nat → Addr} (F : Fun K "check_arguments" "check_arguments" sCheckArguments f fd) (c1 : ClX P w K mg base 2 "check_capacity" ["capacity"] (spCk K capB (C 0))) (c2 : ClX P w K mg base 5 "check_start" ["capacity", "start"] (spCheckStart K (C 1))) (c3 : ClX P w K mg base 4 "check_log" ["log"] (spCk K logB (C 2))) :
    FnOk P w K mg base (L2.CX P w) 6 f fd ["capacity", "start", "log"] (spArgsX K C) := by
  refine F.okX scArgs (fun vs H Q E h => ?_) (fun cdv A outer s H vs Q E hr h => ?_)
  · obtain ⟨v1, v2, v3, d1, d2, d3, rfl, _⟩ := h
    rfl
  · obtain ⟨v1, v2, v3, d1, d2, d3, rfl, hd, q, qe⟩ := h
    refine ⟨_, pss_cons (ps_expr (pe_clX c1 (takes_of rfl rfl rfl rfl) hr (pa_cons (pv 0) pa_nil))) (pss_cons (ps_expr (pe_clX c2 (takes_of rfl rfl rfl rfl) hr (pa_cons (pv 0) (pa_cons (pv 1) pa_nil)))) (pss_one (ps_expr (pe_clX c3 (takes_of rfl rfl rfl rfl) hr (pa_cons (pv 2) pa_nil))))), ?_⟩
    refine q_dropS (ea_cons (ev_var rfl) ea_nil) fun H1 e1 => ⟨v1, d1, rfl, DV.mono e1 _ _ hd.h1, hd.s1, fun hc H2 e2 => ?_, fun hc H2 e2 => qe 0 (by unfold badD; rw [if_pos hc]) H2 (e1.trans e2)⟩
    obtain ⟨i, rfl, rfl⟩ : ∃ i, v1 = .int i ∧ d1 = .int i := by
      cases d1 with
      | int i =>
        have := hd.h1
        cases this
        exact ⟨i, rfl, rfl⟩
      | _ => cases hc
    have e12 := e1.trans e2
    refine q_dropS (ea_cons (ev_var rfl) (ea_cons (ev_var rfl) ea_nil)) fun H3 e3 => ⟨i, v2, d2, rfl, DV.mono (e12.trans e3) _ _ hd.h2, hd.s2, fun hs H4 e4 => ?_, fun hs H4 e4 => qe 1 (by unfold badD; rw [hc, if_neg (by decide), if_pos (show startB (intOf (.int i)) d2 = false from hs)]) H4 ((e12.trans e3).trans e4)⟩
    have e14 := (e12.trans e3).trans e4
    refine s_dropS (ea_cons (ev_var rfl) ea_nil) fun H5 e5 => ⟨v3, d3, rfl, DV.mono (e14.trans e5) _ _ hd.h3, hd.s3, fun hl H6 e6 => q (by unfold badD; rw [hc, if_neg (by decide), show startB (intOf (.int i)) d2 = true from hs, if_neg (by decide), hl, if_neg (by decide)]) H6 ((e14.trans e5).trans e6), fun hl H6 e6 => qe 2 (by unfold badD; rw [hc, if_neg (by decide), show startB (intOf (.int i)) d2 = true from hs, if_neg (by decide), if_pos hl]) H6 ((e14.trans e5).trans e6)⟩
end
end KB

set_option Elab.async false
set_option linter.all false
set_option maxRecDepth 100000
set_option maxHeartbeats 8000000
/-! X2: sizes, evicting_misses, at values of any kind. -/
namespace KB
open PySem PySem.Spec PyProof.Rows L2 Evl
section
variable {K : PySem.W.Frag}
/-- three valid arguments -/
structure Args3 (K : PySem.W.Frag) (H : Hp) (c : Nat) (t l : Addr) (ps : List Str) (es : List Ev1) : Prop where
  pos : 1 ≤ c
  st : SqT K H t (ps.map V.str)
  pg : Pages ps
  le : ps.length ≤ c
  lg : LogK K H l es
theorem Args3.mono {H H' : Hp} {c : Nat} {t l : Addr} {ps : List Str} {es : List Ev1} (e : Ex H H') (h : Args3 K H c t l ps es) : Args3 K H' c t l ps es := ⟨h.pos, ex_t e h.st, h.pg, h.le, h.lg.mono e⟩
end
theorem args3_of {K : PySem.W.Frag} {H : Hp} {v1 v2 v3 : V} {d1 d2 d3 : PyData} (h : DV3 K H v1 v2 v3 d1 d2 d3) (hb : badD d1 d2 d3 = none) : ∃ t l, v1 = .int (capOf d1 : Nat) ∧ v2 = .ref t ∧ v3 = .ref l ∧ Args3 K H (capOf d1) t l (shelfOf d2) (logOf d3) := by
  unfold badD at hb
  by_cases c1 : capB d1 = false
  · rw [if_pos c1] at hb; cases hb
  rw [if_neg c1] at hb
  by_cases c2 : startB (intOf d1) d2 = false
  · rw [if_pos c2] at hb; cases hb
  rw [if_neg c2] at hb
  by_cases c3 : logB d3 = false
  · rw [if_pos c3] at hb; cases hb
  rw [Bool.not_eq_false] at c1 c2 c3
  unfold startB at c2
  rw [Bool.and_eq_true, decide_eq_true_eq] at c2
  obtain ⟨t, rfl, hT, hp⟩ := shelf_sq h.h2 c2.1 h.l2
  obtain ⟨l, rfl, hL⟩ := log_sq h.h3 c3 h.l3
  cases d1 with
  | int i =>
    have h1 := h.h1
    cases h1
    have ci : 1 ≤ i := of_decide_eq_true c1
    have ei : (capOf (.int i) : Int) = i := Int.toNat_of_nonneg (show 0 ≤ i by omega)
    refine ⟨t, l, by rw [ei], rfl, rfl, ⟨by omega, hT, hp, ?_, hL⟩⟩
    have c2' : ((itemsD d2).length : Int) ≤ i := c2.2
    have : (shelfOf d2).length = (itemsD d2).length := List.length_map ..
    omega
  | _ => cases c1
section
variable {P : Program} {w : World} {K : PySem.W.Frag} {mg : Str → Option Value} {base : Heap}
abbrev P3 : List Str := ["capacity", "start", "log"]
/-- a call of three arguments that gives a list, or raises what is due -/
def spL3 (K : PySem.W.Frag) (C : Nat → Addr) (g : PyData → PyData → PyData → List V) : Sp := fun vs H Q E => ∃ (v1 v2 v3 : V) (d1 d2 d3 : PyData), vs = [v1, v2, v3] ∧ DV3 K H v1 v2 v3 d1 d2 d3 ∧ (badD d1 d2 d3 = none → RetL (g d1 d2 d3) H Q) ∧ (∀ k, badD d1 d2 d3 = some k → ∀ H', Ex H H' → E (.ref (C k)) none H')
theorem l3_len {C : Nat → Addr} {g : PyData → PyData → PyData → List V} : ∀ vs H Q E, spL3 K C g vs H Q E → vs.length = 3 := fun _ _ _ _ ⟨_, _, _, _, _, _, e, _⟩ => by rw [e]; rfl
def sizesD (d1 d2 d3 : PyData) : List V := (szs (capOf d1) (shelfOf d2).length (logOf d3)).map natV
def latesD (d1 d2 d3 : PyData) : List V := (lates (capOf d1) (shelfOf d2).length (logOf d3)).map natV
theorem scSizes : FnScope ["capacity", "start", "log", "pages", "found", "mark", "_"] ["capacity", "start", "log"] (defScope sSizes) := ⟨rfl, rfl, rfl, by decide +kernel, rfl, by decide +kernel, by decide +kernel⟩
theorem min_int (c n : Nat) : (if (n : Int) < (c : Int) then (n : Int) else (c : Int)) = ((min c n : Nat) : Int) := by
  split <;> omega
theorem ok_sizes {f : Addr} {fd : FuncData} {C : Nat → Addr} (F : Fun K "sizes" "sizes" sSizes f fd) (B : Bn mg) (cA : ClX P w K mg base 6 "check_arguments" ["capacity", "start", "log"] (spArgsX K C)) : FnOk P w K mg base (L2.CX P w) 7 f fd ["capacity", "start", "log"] (spL3 K C sizesD) := by
  refine F.okX scSizes l3_len (fun cdv A outer s H vs Q E hr h => ?_)
  · obtain ⟨v1, v2, v3, d1, d2, d3, rfl, hd, q, qe⟩ := h
    obtain ⟨tm, mm⟩ := B.MISS
    refine ⟨_, pss_cons (ps_expr (pe_clX cA (takes_of rfl rfl rfl rfl) hr (pa_cons (pv 0) (pa_cons (pv 1) (pa_cons (pv 2) pa_nil)))))
      (pss_cons (ps_set (i := 3) scSizes.nd rfl (Or.inl rfl) (pe_callB call_len_seq (by rfl) B.len bt_len (pa_cons (pv 1) pa_nil)))
      (pss_cons (ps_set (i := 4) scSizes.nd rfl (Or.inl rfl) (pe_lst (pa_cons (pv 3) pa_nil)))
      (pss_cons (ps_for (passes_of rfl) rfl (pi_list (pv 2)) (pg_tup rfl (pgs_cons (pg_name (i := 5) scSizes.nd rfl (Or.inl rfl)) (pgs_cons (pg_name (i := 6) scSizes.nd rfl (Or.inl rfl)) pgs_nil)))
        (pss_cons (ps_if (pt_cmpR op_eq (pv 5) (pe_glob (v := .str "miss") (by rfl) mm ⟨_, rfl⟩) (nomark _)) (pss_one (ps_aug (i := 3) scSizes.nd rfl (Or.inl rfl) pe_int ip_add)) pss_nil)
        (pss_one (ps_expr (pe_bm PySem.F.plainAttrs_list PySem.F.slot_list_append PySem.F.type_list_append mt_append (pv 4) (pa_cons (pe_callB (call_min2 rfl) (by rfl) B.min bt_min (pa_cons (pv 0) (pa_cons (pv 3) pa_nil))) pa_nil))))))
      (pss_one (ps_ret (pv 4)))))), ?_⟩
    refine q_dropS (ea_cons (ev_var rfl) (ea_cons (ev_var rfl) (ea_cons (ev_var rfl) ea_nil))) fun H0 e0 => ⟨v1, v2, v3, d1, d2, d3, rfl, hd.mono e0, fun hb H1 e01 => ?_, fun k hk H2 e2 => qe k hk H2 (e0.trans e2)⟩
    have e1 := e0.trans e01
    obtain ⟨t, l, rfl, rfl, rfl, ha⟩ := args3_of hd hb
    have q := q hb
    unfold sizesD at q
    generalize capOf d1 = c at ha q ⊢
    generalize shelfOf d2 = ps at ha q ⊢
    generalize logOf d3 = es at ha q ⊢
    obtain ⟨ts, h1, h2⟩ := ha.lg.at_
    have hn := paired_len h2
    have hl := ha.lg.len
    have hle := ha.le
    have hm : (ts.map V.ref).length = ts.length := List.length_map ..
    refine q_asg (ev_lenTup (ev_var rfl) (ex_t e1 ha.st)) fun H2 e2 => ?_
    refine q_asgL (el_lst (ea_cons (ev_var rfl) ea_nil) (show 1 ≤ 100000 by decide)) fun p H3 hp e3 hp3 => ?_
    have e12 := e1.trans e2
    have e13 := e12.trans e3
    refine q_forL (a := l) (xs := ts.map V.ref) (ev_var rfl) (ex_l e13 h1) (fun i σ H' => ∃ y5 y6, σ = [some (.int (c : Int)), some (.ref t), some (.ref l), some (.int ((ps.length + misses (es.take i) : Nat) : Int)), some (.ref p), y5, y6] ∧ Ex H2 H' ∧ H' p = some (.lst (((List.range (i + 1)).map (szAt c ps.length es)).map natV))) (fun H4 e4 => ?_) (fun i σ H' _ hP => ?_) (fun i x σ H' hx hP => ?_) (fun σ H' hP => ?_)
    · refine ⟨none, none, ?_, e3.trans e4, ?_⟩
      · simp [L2.start, misses]
      · rw [e4 p _ hp3]
        have : szAt c ps.length es 0 = ps.length := by
          unfold szAt misses
          rw [List.take_zero]
          show min c (ps.length + 0) = ps.length
          omega
        simp [List.range_succ, this, natV]
    · obtain ⟨_, _, _, e, _⟩ := hP
      exact ex_l (e12.trans e) h1
    · obtain ⟨y5, y6, rfl, e, hp'⟩ := hP
      rw [List.getElem?_map] at hx
      obtain ⟨y, hy, rfl⟩ := Option.map_eq_some_iff.mp hx
      obtain ⟨v, hv, hT⟩ := paired_at' h2 hy
      refine ⟨y, [.str v.1, .str v.2], rfl, ex_t (e12.trans e) hT, rfl, .str v.1, [.str v.2], rfl, .str v.2, [], rfl, rfl, ?_⟩
      have step := misses_succ hv
      have hi : i < ts.length := (List.getElem?_eq_some_iff.mp hy).1
      have fin : ∀ (H5 : Hp), Ex H' H5 → ∃ z5 z6, [some (V.int (c : Int)), some (.ref t), some (.ref l), some (.int ((ps.length + misses (es.take (i + 1)) : Nat) : Int)), some (.ref p), some (.str v.1), some (.str v.2)] = [some (.int (c : Int)), some (.ref t), some (.ref l), some (.int ((ps.length + misses (es.take (i + 1)) : Nat) : Int)), some (.ref p), z5, z6] ∧ Ex H2 (upd H5 p (.lst (((List.range (i + 1)).map (szAt c ps.length es)).map natV ++ [.int ((min c (ps.length + misses (es.take (i + 1))) : Nat) : Int)]))) ∧
          (upd H5 p (.lst (((List.range (i + 1)).map (szAt c ps.length es)).map natV ++ [.int ((min c (ps.length + misses (es.take (i + 1))) : Nat) : Int)]))) p = some (.lst (((List.range (i + 1 + 1)).map (szAt c ps.length es)).map natV)) := fun H5 e5 => by
        refine ⟨_, _, rfl, Ex.mut (e.trans e5) hp, ?_⟩
        rw [upd_same, List.range_succ (n := i + 1), List.map_append, List.map_append]
        rfl
      have small : (((List.range (i + 1)).map (szAt c ps.length es)).map natV).length < 100000 := by
        rw [List.length_map, List.length_map, List.length_range]
        omega
      refine q_when (b := decide (V.str v.1 = V.str missS)) (et_test (ev_op (ev_var rfl) ev_c (rv_eq rfl))) (fun hb H4 e4 => ?_) (fun hb H4 e4 => ?_)
      · have isM : isMiss v = true := by
          unfold isMiss
          have := of_decide_eq_true hb
          exact decide_eq_true (V.str.inj this)
        rw [if_pos isM] at step
        refine s_aug rfl ev_c fun H5 e5 => ?_
        refine s_app (xs := ((List.range (i + 1)).map (szAt c ps.length es)).map natV) (v := .int ((min c (ps.length + misses (es.take (i + 1))) : Nat) : Int)) (e5 p _ (e4 p _ hp')) (ev_var rfl) ?_ small fun H6 e6 => ?_
        · refine ev_is (ev_cb (ea_cons (ev_var rfl) (ea_cons (ev_var rfl) ea_nil)) fun H7 e7 Q' k => ⟨_, _, rfl, k H7 (Ex.refl H7)⟩) ?_
          rw [← min_int, step]
          have : (((ps.length + misses (es.take i) : Nat) : Int) + 1) = ((ps.length + (misses (es.take i) + 1) : Nat) : Int) := by omega
          rw [this]
        · have := fin H6 ((e4.trans e5).trans e6)
          have cast : (((ps.length + misses (es.take i) : Nat) : Int) + 1) = ((ps.length + misses (es.take (i + 1)) : Nat) : Int) := by omega
          show ∃ y5 y6, [some (V.int (c : Int)), some (V.ref t), some (V.ref l), some (V.int (((ps.length + misses (es.take i) : Nat) : Int) + 1)), some (V.ref p), some (V.str v.1), some (V.str v.2)] = _ ∧ _ ∧ _
          rw [cast]
          exact this
      · have isM : ¬ isMiss v = true := by
          unfold isMiss
          intro z
          have z1 : v.1 = missS := of_decide_eq_true z
          rw [z1] at hb
          simp at hb
        rw [if_neg isM] at step
        refine s_app (xs := ((List.range (i + 1)).map (szAt c ps.length es)).map natV) (v := .int ((min c (ps.length + misses (es.take (i + 1))) : Nat) : Int)) (e4 p _ hp') (ev_var rfl) ?_ small fun H6 e6 => ?_
        · refine ev_is (ev_cb (ea_cons (ev_var rfl) (ea_cons (ev_var rfl) ea_nil)) fun H7 e7 Q' k => ⟨_, _, rfl, k H7 (Ex.refl H7)⟩) ?_
          rw [← min_int, step]
          rfl
        · have := fin H6 (e4.trans e6)
          rw [step] at this ⊢
          exact this
    · obtain ⟨y5, y6, rfl, e, hp'⟩ := hP
      rw [hm, hn] at hp'
      exact s_ret (ev_var rfl) fun H4 e4 => q p H4 (fresh_back e12 hp) (e12.trans (e.trans e4)) (e4 p _ hp')
theorem scEvicting : FnScope ["capacity", "start", "log", "before", "e"] ["capacity", "start", "log"] (defScope sEvicting) := ⟨rfl, rfl, rfl, by decide +kernel, rfl, by decide +kernel, by decide +kernel⟩
theorem dec_miss (v : Ev1) : decide (V.str v.1 = V.str missS) = isMiss v := by
  unfold isMiss
  by_cases h : v.1 = missS
  · rw [decide_eq_true h, h, decide_eq_true rfl]
  · rw [decide_eq_false h, decide_eq_false fun z => h (V.str.inj z)]
theorem szs_at {c n : Nat} {es : List Ev1} {i : Nat} (h : i ≤ es.length) : ((szs c n es).map natV)[i]? = some (.int (szAt c n es i : Nat)) := by
  unfold szs
  rw [List.getElem?_map, List.getElem?_map, List.getElem?_range (by omega)]
  rfl
theorem ok_evicting {f : Addr} {fd : FuncData} {C : Nat → Addr} (F : Fun K "evicting_misses" "evicting_misses" sEvicting f fd) (B : Bn mg) (cS : ClX P w K mg base 7 "sizes" ["capacity", "start", "log"] (spL3 K C sizesD)) : FnOk P w K mg base (L2.CX P w) 8 f fd ["capacity", "start", "log"] (spL3 K C latesD) := by
  refine F.okX scEvicting l3_len (fun cdv A outer s H vs Q E hr h => ?_)
  · obtain ⟨v1, v2, v3, d1, d2, d3, rfl, hd, q, qe⟩ := h
    obtain ⟨tm, mm⟩ := B.MISS
    refine ⟨_, pss_cons (ps_set (i := 3) scEvicting.nd rfl (Or.inr rfl) (pe_clX cS (takes_of rfl rfl rfl rfl) hr (pa_cons (pv 0) (pa_cons (pv 1) (pa_cons (pv 2) pa_nil)))))
      (pss_one (ps_ret (pe_lc (own := [("e", 4)]) (g := gName 4) rfl scEvicting.nd (pi_range1 (by rfl) B.range (pa_cons (pe_callB call_len_seq (by rfl) B.len bt_len (pa_cons (pv 2) pa_nil)) pa_nil))
        (blkOk_by (N := ["capacity", "start", "log", "before", "e"]) (sc := defScope sEvicting) (by decide +kernel)) (fun _ _ _ _ _ => pg_name (i := 4) scEvicting.nd rfl (Or.inl rfl))
        (fun _ _ _ _ _ => pts_one (PW.pt (pw_and (pt_cmpR op_eq (pe_ix (r := rIxT K) ix_tup (pe_ix (r := rIxL K) ix_list (pv 2) (pv 4) (fun _ _ => rfl)) pe_int (fun _ _ => rfl)) (pe_glob (v := .str "miss") (by rfl) mm ⟨_, rfl⟩) (nomark _))
          (pw_and1 (pt_cmpR op_eq (pe_ix (r := rIxL K) ix_list (pv 3) (pv 4) (fun _ _ => rfl)) (pv 0) (nomark _)))))) (fun _ _ _ _ _ => pv 4)))), ?_⟩
    refine q_asgS (ea_cons (ev_var rfl) (ea_cons (ev_var rfl) (ea_cons (ev_var rfl) ea_nil))) fun H0 e0 => ⟨v1, v2, v3, d1, d2, d3, rfl, hd.mono e0, fun hb => fun p H1 hp0 e01 hp1 => ?_, fun k hk H2 e2 => qe k hk H2 (e0.trans e2)⟩
    have e1 := e0.trans e01
    have hp := fresh_back e0 hp0
    obtain ⟨t, l, rfl, rfl, rfl, ha⟩ := args3_of hd hb
    have q := q hb
    unfold latesD at q
    unfold sizesD at hp1
    generalize capOf d1 = c at ha q hp1 ⊢
    generalize shelfOf d2 = ps at ha q hp1 ⊢
    generalize logOf d3 = es at ha q hp1 ⊢
    obtain ⟨ts, h1, h2⟩ := ha.lg.at_
    have hn := paired_len h2
    have hl := ha.lg.len
    refine s_retL (xs := given (es.length : Int).toNat (lateB c ps.length es) natV) (el_lcR1 (n := (es.length : Int)) (lateB c ps.length es) natV ?_ (by omega) (fun _ => rfl) (fun i H2 e2 hi => ?_) (fun i H2 e2 hi _ => ev_var rfl)) fun p2 H2 hp2 e2 h3 => q p2 H2 (fresh_back e1 hp2) (e1.trans e2) h3
    · refine ea_cons (ev_is (ev_len (ev_var rfl) (ex_l e1 h1)) ?_) ea_nil
      rw [List.length_map, hn]
    · have hi' : i < es.length := by omega
      obtain ⟨y, hy, hT⟩ := paired_at h2 (List.getElem?_eq_getElem hi')
      have hv : es[i]? = some es[i] := List.getElem?_eq_getElem hi'
      have hts : (ts.map V.ref)[i]? = some (.ref y) := by rw [List.getElem?_map, hy]; rfl
      refine et_is (b := lateB c ps.length es i) (et_and (a := isMiss es[i]) (b := decide (szAt c ps.length es i = c)) (et_is (et_test (ev_op (ev_op (ev_op (ev_var rfl) (ev_var rfl) (rv_ixL (ex_l (e1.trans e2) h1) (atI_nat hts))) ev_c (rv_ixT (ex_t (e1.trans e2) hT) (atI_nat (j := 0) rfl))) ev_c (rv_eq rfl))) (dec_miss _)) fun _ =>
        et_is (et_test (ev_op (ev_op (ev_var rfl) (ev_var rfl) (rv_ixL (sq_of (e2 p _ hp1)) (atI_nat (szs_at (by omega))))) (ev_var rfl) (rv_eq rfl))) (dec_int _ _)) ?_
      unfold lateB
      rw [hv]
end
end KB

set_option Elab.async false
set_option linter.all false
set_option maxRecDepth 100000
set_option maxHeartbeats 8000000
/-! J0: rules shared by the laws of gaps. -/
namespace KB
open PySem L2 Evl
/-- the abstract heap without a -/
def hid (H : Hp) (a : Addr) : Hp := fun b => if b = a then none else H b
theorem hid_self {H : Hp} {a : Addr} : hid H a a = none := if_pos rfl
theorem hid_ne {H : Hp} {a b : Addr} (h : b ≠ a) : hid H a b = H b := if_neg h
theorem hid_none {H : Hp} {a b : Addr} (h : H b = none) : hid H a b = none := by
  by_cases e : b = a
  · exact if_pos e
  · rw [hid_ne e]; exact h
theorem hid_some {H : Hp} {a b : Addr} {o : HO} (h : hid H a b = some o) : b ≠ a ∧ H b = some o := by
  by_cases e : b = a
  · rw [e, hid_self] at h
    cases h
  · rw [hid_ne e] at h
    exact ⟨e, h⟩
theorem ex_hid (H : Hp) (a : Addr) : Ex (hid H a) H := fun b o h => (hid_some h).2
theorem hidE {H H' : Hp} (e : Ex H H') (a : Addr) : Ex (hid H a) H' := (ex_hid H a).trans e
theorem ex_hid2 {H H1 H2 : Hp} {a : Addr} (e : Ex (hid H a) H1) (e2 : Ex (hid H1 a) H2) : Ex (hid H a) H2 := fun b o h => e2 b o (by rw [hid_ne (hid_some h).1]; exact e b o h)
/-- a fresh place was fresh all along -/
theorem fresh_hid {H H' : Hp} {a p : Addr} {o : HO} (e : Ex (hid H a) H') (ha : H' a = some o) (h : H' p = none) : H p = none := by
  have n : p ≠ a := fun z => by rw [z, ha] at h; cases h
  have q := fresh_back e h
  rw [hid_ne n] at q
  exact q
theorem sqt_hid {K : PySem.W.Frag} {H : Hp} {a t : Addr} {xs ys : List V} (h : SqT K H t xs) (ha : H a = some (.lst ys)) : SqT K (hid H a) t xs := by
  rcases h with (h | ⟨o, h⟩) | h
  · exact .inl (.inl (by rw [hid_ne (ne_of h ha (by intro z; cases z))]; exact h))
  · exact .inl (.inr ⟨o, by rw [hid_ne (ne_of h ha (by intro z; cases z))]; exact h⟩)
  · exact .inr h
theorem sql_hid {K : PySem.W.Frag} {H : Hp} {a t : Addr} {xs : List V} (h : SqL K H t xs) (ha : t ≠ a) : SqL K (hid H a) t xs := by
  rcases h with (h | ⟨o, h⟩) | h
  · exact .inl (.inl (by rw [hid_ne ha]; exact h))
  · exact .inl (.inr ⟨o, by rw [hid_ne ha]; exact h⟩)
  · exact .inr h
/-- the source at a, that has given at most B mixed numbers -/
def SrcAt (H : Hp) (a : Addr) (B : Int) : Prop := ∃ x y z : Int, H a = some (.lst [.int x, .int y, .int z]) ∧ 0 ≤ x ∧ 0 ≤ y ∧ y < 2 ^ 200 ∧ 0 ≤ z ∧ z ≤ B
theorem SrcAt.mono {H H' : Hp} {a : Addr} {B : Int} (e : Ex H H') (h : SrcAt H a B) : SrcAt H' a B := by
  obtain ⟨x, y, z, h, r⟩ := h
  exact ⟨x, y, z, e a _ h, r⟩
theorem SrcAt.le {H : Hp} {a : Addr} {B C : Int} (h : SrcAt H a B) (hb : B ≤ C) : SrcAt H a C := by
  obtain ⟨x, y, z, h, r1, r2, r3, r4, r5⟩ := h
  exact ⟨x, y, z, h, r1, r2, r3, r4, Int.le_trans r5 hb⟩
theorem SrcAt.is {H : Hp} {a : Addr} {B : Int} (h : SrcAt H a B) : ∃ xs, H a = some (.lst xs) := by
  obtain ⟨x, y, z, h, _⟩ := h
  exact ⟨_, h⟩
theorem exP {H H' H'' : Hp} {p : Addr} (e0 : Ex H H') (fp : H p = none) (e : Ex (hid H' p) H'') : Ex H H'' := fun b o h => e b o (by rw [hid_ne (ne_of_none h fp)]; exact e0 b o h)
section
variable {K : PySem.W.Frag} {σ : L2.St} {H H1 H' : Hp} {ta tb tc te tx tl : TE} {x y z v : V} {D : Ends} {Q : VK}
theorem ev_catS {a b : Str} (ha : Ev ta σ H (.str a)) (hb : Ev tb σ H (.str b)) (hl : a.length + b.length ≤ 1000) :
    Ev (tOp (fun x y H Q => ∃ i j, x = .str i ∧ y = .str j ∧ i.length + j.length ≤ sizeLine ∧ Q (.str (i ++ j)) H) ta tb) σ H (.str (a ++ b)) := ev_op ha hb fun H1 _ Q q => ⟨a, b, rfl, rfl, Nat.le_trans hl (by decide), q H1 (Ex.refl H1)⟩
/-- a comprehension over range(n) whose element may change what is told -/
theorem w_lcR {ta : TA} {j n : Nat} {vs : List Nat} {Q : VK} (h : EvA ta σ H [.int (n : Int)]) (hn : n ≤ 40000) (Pv : Addr → Nat → Hp → Prop) (h0 : ∀ Dl H1, H1 Dl = none → Ex H H1 → Pv Dl 0 (upd H1 Dl (.lst [])))
    (hw : ∀ x, wipe ((wipe σ vs).set j (some x)) vs = wipe σ vs)
    (hs : ∀ Dl i H1, i < n → Pv Dl i H1 → te ((wipe σ vs).set j (some (.int (i : Int)))) H1 fun y H4 => ∃ acc, H4 Dl = some (.lst acc) ∧ acc.length < sizeLine ∧ Pv Dl (i + 1) (upd H4 Dl (.lst (acc ++ [y]))))
    (hd : ∀ Dl H1, Pv Dl n H1 → Q (.ref Dl) H1) : tLc (iRng1 ta) (gName j) tYes te vs σ H Q :=
  h H (Ex.refl H) _ fun H1 e1 => ⟨(n : Int), rfl, by omega, by omega, fun Dl hD => lc_range (lo := 0) (n := n) (Pv Dl) (h0 Dl H1 hD e1) (fun i H' hi p => by
    have e0 : (0 : Int) + (i : Int) = (i : Int) := Int.zero_add _
    show wipe ((wipe σ vs).set j (some (.int ((0 : Int) + (i : Int))))) vs = wipe σ vs ∧ (if true = true then te ((wipe σ vs).set j (some (.int ((0 : Int) + (i : Int))))) H' fun y H4 => ∃ acc, H4 Dl = some (.lst acc) ∧ acc.length < sizeLine ∧ Pv Dl (i + 1) (upd H4 Dl (.lst (acc ++ [y]))) else Pv Dl (i + 1) H')
    rw [e0, if_pos rfl]
    exact ⟨hw _, hs Dl i H' hi p⟩) (fun H' p => hd Dl H' p)⟩
/-- a for over range(n), in the midst of a block -/
theorem q_forN {ta : TA} {tu tz : TS} {j n : Nat} (h : EvA ta σ H [.int (n : Int)]) (hn : n ≤ 100000) (Pv : Nat → L2.St → Hp → Prop) (h0 : ∀ H1, Ex H H1 → Pv 0 σ H1)
    (hs : ∀ (i : Nat) σ' H', i < n → Pv i σ' H' → tu { D with nx := Pv (i + 1), ct := Pv (i + 1), bk := tz D } (σ'.set j (some (.int (i : Int)))) H') (hd : ∀ σ' H', Pv n σ' H' → tz D σ' H') : tSeq (tFor (iRng1 ta) (gName j) tu) tz D σ H :=
  q_forR1 (n := (n : Int)) h (by omega) Pv h0 (fun i σ' H' hi p => hs i σ' H' (by omega) p) fun σ' H' p => hd σ' H' p
/-- within a comprehension over range(n) -/
theorem lcR_in {j n : Nat} {vs : List Nat} (Pv : Addr → Nat → Hp → Prop) (h0 : ∀ Dl, H1 Dl = none → Pv Dl 0 (upd H1 Dl (.lst [])))
    (hw : ∀ x, wipe ((wipe σ vs).set j (some x)) vs = wipe σ vs)
    (hs : ∀ Dl i H1, i < n → Pv Dl i H1 → te ((wipe σ vs).set j (some (.int (i : Int)))) H1 fun y H4 => ∃ acc, H4 Dl = some (.lst acc) ∧ acc.length < sizeLine ∧ Pv Dl (i + 1) (upd H4 Dl (.lst (acc ++ [y]))))
    (hd : ∀ Dl H1, Pv Dl n H1 → Q (.ref Dl) H1) : tLc (fun _ _ R => R (Itr 0 n) H1) (gName j) tYes te vs σ H Q :=
  fun Dl hD => lc_range (lo := 0) (n := n) (Pv Dl) (h0 Dl hD) (fun i H' hi p => by
    have e0 : (0 : Int) + (i : Int) = (i : Int) := Int.zero_add _
    show wipe ((wipe σ vs).set j (some (.int ((0 : Int) + (i : Int))))) vs = wipe σ vs ∧ (if true = true then te ((wipe σ vs).set j (some (.int ((0 : Int) + (i : Int))))) H' fun y H4 => ∃ acc, H4 Dl = some (.lst acc) ∧ acc.length < sizeLine ∧ Pv Dl (i + 1) (upd H4 Dl (.lst (acc ++ [y]))) else Pv Dl (i + 1) H')
    rw [e0, if_pos rfl]
    exact ⟨hw _, hs Dl i H' hi p⟩) (fun H' p => hd Dl H' p)
/-- a comprehension over a list whose element may lay new things -/
theorem w_lcL {a : Addr} {xs : List V} {j : Nat} {vs : List Nat} (h : Ev tl σ H (.ref a)) (hq : SqL K H a xs) (Pv : Addr → Nat → Hp → Prop) (h0 : ∀ Dl H1, H1 Dl = none → Ex H H1 → Pv Dl 0 (upd H1 Dl (.lst [])))
    (hl : ∀ Dl i H1, Pv Dl i H1 → SqL K H1 a xs) (hw : ∀ x, wipe ((wipe σ vs).set j (some x)) vs = wipe σ vs)
    (hs : ∀ Dl i x H1, xs[i]? = some x → Pv Dl i H1 → te ((wipe σ vs).set j (some x)) H1 fun y H4 => ∃ acc, H4 Dl = some (.lst acc) ∧ acc.length < sizeLine ∧ Pv Dl (i + 1) (upd H4 Dl (.lst (acc ++ [y]))))
    (hd : ∀ Dl H1, Pv Dl xs.length H1 → Q (.ref Dl) H1) : tLc (iList K tl) (gName j) tYes te vs σ H Q :=
  h H (Ex.refl H) _ fun H1 e1 => ⟨a, rfl, ⟨xs, ex_l e1 hq⟩, fun Dl hD => lc_list (xs := xs) (Pv Dl) (h0 Dl H1 hD e1) (fun i H' _ p => hl Dl i H' p) (fun i x H' hx p => by
    show wipe ((wipe σ vs).set j (some x)) vs = wipe σ vs ∧ (if true = true then te ((wipe σ vs).set j (some x)) H' fun y H4 => ∃ acc, H4 Dl = some (.lst acc) ∧ acc.length < sizeLine ∧ Pv Dl (i + 1) (upd H4 Dl (.lst (acc ++ [y]))) else Pv Dl (i + 1) H')
    rw [if_pos rfl]
    exact ⟨hw _, hs Dl i x H' hx p⟩) (fun H' p => hd Dl H' p)⟩
theorem q_asgW {i : Nat} {tz : TS} {D : Ends} (h : te σ H fun x H1 => tz D (σ.set i (some x)) H1) : tSeq (tAsg te (gName i)) tz D σ H := h
theorem q_asgG {g : TG} {tz : TS} {D : Ends} (h : te σ H fun x H1 => g x σ H1 (tz D)) : tSeq (tAsg te g) tz D σ H := h
theorem gName_go {i : Nat} {v : V} {Q : L2.St → Hp → Prop} (h : Q (σ.set i (some v)) H) : gName i v σ H Q := h
theorem paired_app {α β : Type} {R : α → β → Prop} : ∀ {as as' : List α} {bs bs' : List β}, Paired R as bs → Paired R as' bs' → Paired R (as ++ as') (bs ++ bs')
  | _, _, _, _, .nil, h => h
  | _, _, _, _, .cons h t, h2 => .cons h (paired_app t h2)
theorem paired_take {α β : Type} {R : α → β → Prop} : ∀ (n : Nat) {as : List α} {bs : List β}, Paired R as bs → Paired R (as.take n) (bs.take n)
  | 0, _, _, _ => .nil
  | _ + 1, _, _, .nil => .nil
  | n + 1, _, _, .cons h t => .cons h (paired_take n t)
end
theorem take_cut (xs : List V) (n : Nat) : cutV xs none (some (n : Int)) = xs.take n := by
  unfold cutV
  rw [HT.sIx_none, HT.sIx_nat, List.drop_zero, Nat.sub_zero]
  by_cases h : n ≤ xs.length
  · rw [Nat.min_eq_left h]
  · rw [Nat.min_eq_right (by omega), List.take_length, List.take_of_length_le (by omega)]
theorem seq_nat {g : Int} {n : Nat} (h0 : 0 ≤ g) (h : g < n) : seqIndex? g n = some g.toNat := by
  unfold seqIndex?
  simp only [show ¬ g < 0 by omega, if_false]
  rw [if_pos]
  simp [h0, h]
theorem erase_map {α β : Type} (f : α → β) : ∀ (l : List α) (k : Nat), (l.map f).eraseIdx k = (l.eraseIdx k).map f
  | [], k => by simp
  | a :: l, 0 => rfl
  | a :: l, k + 1 => by
    have ih := erase_map f l k
    simp [ih]
theorem erase_len {α : Type} : ∀ (l : List α) (k : Nat), k < l.length → (l.eraseIdx k).length + 1 = l.length
  | [], k, h => absurd h (Nat.not_lt_zero _)
  | a :: l, 0, _ => rfl
  | a :: l, k + 1, h => by
    have ih := erase_len l k (by simpa using h)
    simp [ih]
theorem perm_pop {α : Type} : ∀ (l : List α) (k : Nat) (x : α), l[k]? = some x → l.Perm (x :: l.eraseIdx k)
  | [], k, x, h => by simp at h
  | a :: l, 0, x, h => by
    have e : a = x := by simpa using h
    subst e
    exact List.Perm.refl _
  | a :: l, k + 1, x, h => by
    have ih := perm_pop l k x (by simpa using h)
    exact (ih.cons a).trans (List.Perm.swap x a _)

/-! ### lists of tuples -/
structure TupL (K : PySem.W.Frag) (H : Hp) (l : Addr) (rows : List (List V)) : Prop where
  at_ : ∃ ts : List Addr, SqL K H l (ts.map V.ref) ∧ Paired (fun t row => SqT K H t row) ts rows
theorem TupL.mono {K : PySem.W.Frag} {H H' : Hp} {l : Addr} {rows : List (List V)} (e : Ex H H') (h : TupL K H l rows) : TupL K H' l rows := by
  obtain ⟨⟨ts, h1, h2⟩⟩ := h
  exact ⟨ts, ex_l e h1, Paired.imp h2 fun _ _ z => ex_t e z⟩
/-- the same, of a list that is this def's own -/
structure TupM (K : PySem.W.Frag) (H : Hp) (l : Addr) (rows : List (List V)) : Prop where
  at_ : ∃ ts : List Addr, H l = some (.lst (ts.map V.ref)) ∧ Paired (fun t row => SqT K H t row) ts rows
theorem TupM.toL {K : PySem.W.Frag} {H : Hp} {l : Addr} {rows : List (List V)} (h : TupM K H l rows) : TupL K H l rows := by
  obtain ⟨⟨ts, h1, h2⟩⟩ := h
  exact ⟨ts, sq_of h1, h2⟩
theorem TupM.mono {K : PySem.W.Frag} {H H' : Hp} {l : Addr} {rows : List (List V)} (e : Ex H H') (h : TupM K H l rows) : TupM K H' l rows := by
  obtain ⟨⟨ts, h1, h2⟩⟩ := h
  exact ⟨ts, e _ _ h1, Paired.imp h2 fun _ _ z => ex_t e z⟩
theorem ex_updL {K : PySem.W.Frag} {H : Hp} {l t : Addr} {xs ys row : List V} (hl : H l = some (.lst xs)) (h : SqT K H t row) : SqT K (upd H l (.lst ys)) t row := by
  rcases h with (h | ⟨o, h⟩) | h
  · exact .inl (.inl (by rw [upd_ne (ne_of h hl (by intro z; cases z))]; exact h))
  · exact .inl (.inr ⟨o, by rw [upd_ne (ne_of h hl (by intro z; cases z))]; exact h⟩)
  · exact .inr h
theorem TupM.snoc {K : PySem.W.Frag} {H : Hp} {l t : Addr} {rows : List (List V)} {row : List V} {ts : List Addr} (h1 : H l = some (.lst (ts.map V.ref))) (h2 : Paired (fun t row => SqT K H t row) ts rows) (ht : SqT K H t row) :
    TupM K (upd H l (.lst (ts.map V.ref ++ [.ref t]))) l (rows ++ [row]) := ⟨ts ++ [t], by rw [upd_same, List.map_append]; rfl, paired_snoc (ex_updL h1 ht) (Paired.imp h2 fun _ _ z => ex_updL h1 z)⟩
theorem TupM.nil {K : PySem.W.Frag} {H : Hp} {l : Addr} (h : H l = some (.lst [])) : TupM K H l [] := ⟨[], h, .nil⟩
theorem paired_rev {α β : Type} {R : α → β → Prop} : ∀ {as : List α} {bs : List β}, Paired R as bs → Paired R as.reverse bs.reverse
  | _, _, .nil => .nil
  | _, _, .cons h t => by
    rw [List.reverse_cons, List.reverse_cons]
    exact paired_snoc h (paired_rev t)
section
variable {K : PySem.W.Frag} {σ : L2.St} {H H1 H' : Hp} {ta tb tc te tx tl : TE} {x y z v : V} {D : Ends} {Q : VK}
/-- l.append(a tuple just laid) -/
theorem s_appT {H0 : Hp} {l : Addr} {rows : List (List V)} {row : List V} (h : TupM K H l rows) (e0 : Ex H0 H) (hf : H0 l = none) (hn : rows.length < 90000) (ha : Ev ta σ H (.ref l)) (he : EvU te σ H row) (k : ∀ H2, Ex H0 H2 → (∀ b o, b ≠ l → H b = some o → H2 b = some o) → TupM K H2 l (rows ++ [row]) → D.nx σ H2) :
    tDrop (tBM K "list" rAppend ta (tCons te tNil)) D σ H := by
  obtain ⟨⟨ts, h1, h2⟩⟩ := h
  refine s_appU h1 ha he (by rw [List.length_map, paired_len h2]; omega) fun p H1 hp e1 hp1 => k _ (Ex.mut (e0.trans e1) hf) (fun b o hb ho => by rw [upd_ne hb]; exact e1 b o ho) ?_
  exact TupM.snoc (e1 _ _ h1) (Paired.imp h2 fun _ _ z => ex_t e1 z) (.inl (.inl hp1))
theorem q_appT {tz : TS} {H0 : Hp} {l : Addr} {rows : List (List V)} {row : List V} (h : TupM K H l rows) (e0 : Ex H0 H) (hf : H0 l = none) (hn : rows.length < 90000) (ha : Ev ta σ H (.ref l)) (he : EvU te σ H row) (k : ∀ H2, Ex H0 H2 → (∀ b o, b ≠ l → H b = some o → H2 b = some o) → TupM K H2 l (rows ++ [row]) → tz D σ H2) :
    tSeq (tDrop (tBM K "list" rAppend ta (tCons te tNil))) tz D σ H := s_appT (D := { D with nx := tz D }) h e0 hf hn ha he k
theorem _root_.L2.Room.units1 {k : Nat} {A : Around} (r : Room k A) : A.units + 1 < cLine := by have := r.units; omega
theorem yes_go {Q : Bool → Hp → Prop} (h : Q true H) : tYes σ H Q := h
/-- a comprehension over a tuple whose elements are new tuples -/
theorem w_lcTT {a : Addr} {xs : List V} {j : Nat} {vs : List Nat} {row : V → List V} (h : Ev tl σ H (.ref a)) (hq : SqT K H a xs) (hz : xs.length ≤ 40000) (hw : ∀ x, wipe ((wipe σ vs).set j (some x)) vs = wipe σ vs)
    (hs : ∀ (i : Nat) x H1, xs[i]? = some x → Ex H H1 → EvU te ((wipe σ vs).set j (some x)) H1 (row x)) (hd : ∀ p H1, H p = none → Ex H H1 → TupM K H1 p (xs.map row) → Q (.ref p) H1) : tLc (iTup K tl) (gName j) tYes te vs σ H Q :=
  h H (Ex.refl H) _ fun H1 e1 => ⟨a, rfl, ⟨xs, ex_t e1 hq⟩, fun Dl hD => lc_it (walk_tup (K := K) (a := a) (xs := xs)) (fun i H' => Ex H H' ∧ TupM K H' Dl ((xs.take i).map row)) ⟨e1.trans (Ex.new hD), by simpa using TupM.nil upd_same⟩ (fun i H' _ p => ex_t p.1 hq) (fun i x H' H'' hi p hy => by
    obtain ⟨rfl, hx⟩ := hy
    refine ⟨hw _, ?_⟩
    refine yes_go ?_
    rw [if_pos rfl]
    obtain ⟨p1, ⟨ts, h1, h2⟩⟩ := p
    refine hs i x H'' hx p1 H'' (Ex.refl _) _ fun t H3 ht e3 h3 => ⟨ts.map V.ref, e3 _ _ h1, ?_, Ex.mut (p1.trans e3) (fresh_back e1 hD), ?_⟩
    · rw [List.length_map, paired_len h2, List.length_map, List.length_take]
      exact sz_lt (by omega)
    · have e : xs.take (i + 1) = xs.take i ++ [x] := by rw [List.take_add_one, hx]; rfl
      rw [e, List.map_append]
      exact TupM.snoc (e3 _ _ h1) (Paired.imp h2 fun _ _ z => ex_t e3 z) (.inl (.inl h3))) (fun H' p => hd Dl H' (fresh_back e1 hD) p.1 (by have := p.2; rwa [List.take_length] at this))⟩
theorem ev_dget {d : Addr} {kvs : List (Key × V)} {p : Str} {td ty : TE} (hd : H d = some (.dK kvs)) (h1 : Ev td σ H (.ref d)) (h2 : Ev ty σ H (.str p)) : Ev (tDGet1 td ty) σ H ((valV kvs (.inr p)).getD .non) := fun H1 e Q q =>
  h1 H1 e _ fun H2 e2 => ⟨d, rfl, .inl ⟨kvs, .inl (e2 _ _ (e _ _ hd))⟩, h2 H2 (e.trans e2) _ fun H3 e3 => ⟨_, DGet.k (k := .inr p) (e3 _ _ (e2 _ _ (e _ _ hd))), q H3 (e2.trans e3)⟩⟩
theorem ex_updD {d t : Addr} {kvs kvs' : List (Key × V)} {row : List V} (hl : H d = some (.dK kvs)) (h : SqT K H t row) : SqT K (upd H d (.dK kvs')) t row := by
  rcases h with (h | ⟨o, h⟩) | h
  · exact .inl (.inl (by rw [upd_ne (ne_of h hl (by intro z; cases z))]; exact h))
  · exact .inl (.inr ⟨o, by rw [upd_ne (ne_of h hl (by intro z; cases z))]; exact h⟩)
  · exact .inr h
/-- a for over enumerate(list) -/
theorem q_forE {ta : TA} {g : TG} {tu tz : TS} {a : Addr} {xs : List V} (h : EvA ta σ H [.ref a]) (hx : SqL K H a xs) (Pv : Nat → L2.St → Hp → Prop) (h0 : ∀ H1, Ex H H1 → Pv 0 σ H1) (hG : ∀ i σ' H', Pv i σ' H' → SqL K H' a xs)
    (hs : ∀ i x σ' H' T, xs[i]? = some x → Pv i σ' H' → H' T = none → g (.ref T) σ' (upd H' T (.tup [.int (i : Int), x])) fun σ2 H2 => tu { D with nx := Pv (i + 1), ct := Pv (i + 1), bk := tz D } σ2 H2) (hd : ∀ σ' H', Pv xs.length σ' H' → tz D σ' H') : tSeq (tFor (iEnum K ta) g tu) tz D σ H :=
  h H (Ex.refl H) _ fun H1 e => ⟨a, xs, rfl, ex_l e hx, for_it (D := { D with nx := tz D }) walk_enum Pv (h0 H1 e) (fun i σ' H' _ p => hG i σ' H' p) (fun i x σ' H' H'' hi p hy => by
    obtain ⟨T, x1, x2, rfl, hT, rfl, e1, e2⟩ := hy
    injection e1 with e1
    subst e1
    exact hs i x2 σ' H' T e2 p hT) hd⟩
/-- a for over reversed(list) -/
theorem q_forRev {ta : TA} {g : TG} {tu tz : TS} {a : Addr} {xs : List V} (h : EvA ta σ H [.ref a]) (hx : SqL K H a xs) (Pv : Nat → L2.St → Hp → Prop) (h0 : ∀ H1, Ex H H1 → Pv 0 σ H1) (hG : ∀ i σ' H', Pv i σ' H' → SqL K H' a xs)
    (hs : ∀ i x σ' H', i < xs.length → xs[xs.length - 1 - i]? = some x → Pv i σ' H' → g x σ' H' fun σ2 H2 => tu { D with nx := Pv (i + 1), ct := Pv (i + 1), bk := tz D } σ2 H2) (hd : ∀ σ' H', Pv xs.length σ' H' → tz D σ' H') : tSeq (tFor (iRev K ta) g tu) tz D σ H :=
  h H (Ex.refl H) _ fun H1 e => ⟨a, xs, rfl, ex_l e hx, for_it (D := { D with nx := tz D }) walk_rev Pv (h0 H1 e) (fun i σ' H' _ p => hG i σ' H' p) (fun i x σ' H' H'' hi p hy => by
    obtain ⟨rfl, e2⟩ := hy
    exact hs i x σ' H'' hi e2 p) hd⟩
end
end KB

set_option Elab.async false
set_option linter.all false
set_option maxRecDepth 100000
set_option maxHeartbeats 8000000
namespace KB
open PySem PySem.Spec PyProof.Rows L2 Evl
theorem getD_of {α : Type} {xs : List α} {i : Nat} {x d : α} (h : xs[i]? = some x) : xs.getD i d = x := by rw [List.getD_eq_getElem?_getD, h]; rfl
/-! ### counting along a sorted list -/
theorem given_list {α : Type} (gs : List α) (d : α) (F : α → Bool) (G : α → V) : given gs.length (fun i => F (gs.getD i d)) (fun i => G (gs.getD i d)) = (gs.filter F).map G := by
  have h : gs = (List.range gs.length).map fun i => gs.getD i d := by
    apply List.ext_getElem
    · simp
    · intro i h1 h2
      simp [List.getD_eq_getElem?_getD, List.getElem?_eq_getElem h1]
  conv => rhs; rw [h]
  unfold given
  rw [List.filter_map, List.map_map]
  rfl
section
variable {K : PySem.W.Frag} {σ : L2.St} {H H1 H' : Hp} {ta tb tc te tx tl : TE} {t : TT} {x y z v : V} {D : Ends} {Q : VK}
theorem q_asg2 {i j : Nat} {tz : TS} (h : Ev te σ H v) (k : ∀ H1, Ex H H1 → tz D ((σ.set i (some v)).set j (some v)) H1) : tSeq (tAsg2 te (gName i) (gName j)) tz D σ H := h H (Ex.refl H) _ fun H1 e1 => k H1 e1
theorem el_is {xs ys : List V} (e : xs = ys) (h : EvL te σ H xs) : EvL te σ H ys := e ▸ h
theorem ev_isN {σ : L2.St} {H : Hp} {ta : TE} {x : V} (h : Ev ta σ H x) : Ev (tIsN ta) σ H (.bl (decide (x = .non))) := fun H1 e Q q => h H1 e _ fun H2 e2 => q H2 e2
end
structure Bs (mg : Str → Option Value) : Prop where
  sorted : mg "sorted" = none
theorem bt_sorted : bootBuiltins "sorted" = some (.builtin "sorted") := by decide +kernel
section
variable {K : PySem.W.Frag} {σ : L2.St} {H : Hp} {ta tr : TA} {te : TE} {D : Ends} {tz : TS} {sp : Sp} {E : L2.St → XK} {vs : List V} {Q : VK}
theorem go_callS (h : EvA ta σ H vs) (hs : ∀ H1, Ex H H1 → sp vs H1 Q (E σ)) : tCallS sp E ta σ H Q := h H (Ex.refl H) _ fun H1 e1 => hs H1 e1
theorem go_cons {Q : List V → Hp → Prop} (h : te σ H fun x H1 => tr σ H1 fun xs H2 => Q (x :: xs) H2) : tCons te tr σ H Q := h
theorem go_nil {Q : List V → Hp → Prop} (h : Q [] H) : tNil σ H Q := h
theorem go_call {E : XK} (h : ta σ H fun vs H1 => sp vs H1 Q E) : tCall sp [] E ta σ H Q := by
  show ta σ H fun vs H1 => sp (vs ++ []) H1 Q E
  simp only [List.append_nil]
  exact h
theorem go_op {r : R2} {tb : TE} (h : te σ H fun x H1 => tb σ H1 fun y H2 => r x y H2 Q) : tOp r te tb σ H Q := h
theorem go_ret (h : te σ H D.rt) : tRet te D σ H := h
end
theorem lates_len (c n : Nat) (es : List Ev1) : (lates c n es).length ≤ es.length := by
  unfold lates
  have := List.length_filter_le (lateB c n es) (List.range es.length)
  rw [List.length_range] at this
  exact this
theorem lates_up (c n : Nat) (es : List Ev1) : (lates c n es).Pairwise (· < ·) := List.Pairwise.filter _ List.pairwise_lt_range
end KB

set_option Elab.async false
set_option linter.all false
set_option maxRecDepth 100000
set_option maxHeartbeats 4000000
/-! U0: set(tuple of texts) as a set of keys. -/
namespace KB
open PySem PySem.Spec PyProof.Rows L2
def inK (xs : List Str) : Key → Bool
  | .inl _ => false
  | .inr z => decide (z ∈ metS xs)
theorem setK_congr {P : Program} {w : World} {h : Heap} {a : Addr} {S S' : Key → Bool} {n n' : Nat} (hS : h.SetOf (mixKind P w) a S n) (e : ∀ k, S k = S' k) (en : n = n') : h.SetOf (mixKind P w) a S' n' := by
  have z : S = S' := funext e
  subst z
  subst en
  exact hS
/-! ### the set at S holds the first i texts -/
def GotK (P : Program) (w : World) (h : Heap) (S : Addr) (xs : List Str) : Prop := h.SetOf (mixKind P w) S (inK xs) (metS xs).length
theorem GotK.keep {P : Program} {w : World} {h h' : Heap} {S : Addr} {xs : List Str} (g : GotK P w h S xs) (k : ∀ o, h.get? S = some o → h'.get? S = some o) : GotK P w h' S xs := by
  obtain ⟨o, es, ep, t, ho, r⟩ := g
  exact ⟨o, es, ep, t, k o ho, r⟩
theorem GotK.more {P : Program} {w : World} {h : Heap} {S : Addr} {xs : List Str} {x : Str}
    (g : h.SetOf (mixKind P w) S (fun z => inK xs z || decide (z = Sum.inr x)) (if inK xs (Sum.inr x) = true then (metS xs).length else (metS xs).length + 1)) : GotK P w h S (xs ++ [x]) := by
  refine setK_congr g (fun z => ?_) ?_
  · cases z with
    | inl i =>
      show (false || decide (Sum.inl i = Sum.inr x)) = false
      rw [Bool.false_or]
      exact decide_eq_false (fun e => by cases e)
    | inr z =>
      show (decide (z ∈ metS xs) || decide ((Sum.inr z : Key) = Sum.inr x)) = decide (z ∈ metS (xs ++ [x]))
      have er : decide ((Sum.inr z : Key) = Sum.inr x) = decide (z = x) := by
        by_cases e : z = x
        · rw [e]; simp
        · rw [decide_eq_false e]
          exact decide_eq_false (fun q => e (Sum.inr.inj q))
      rw [er, metS_snoc]
      by_cases hx : x ∈ metS xs
      · rw [if_pos hx]
        by_cases e : z = x
        · subst e
          simp [hx]
        · simp [e]
      · rw [if_neg hx]
        simp [List.mem_append]
  · show (if decide (x ∈ metS xs) = true then _ else _) = _
    rw [metS_snoc]
    by_cases hx : x ∈ metS xs
    · rw [if_pos hx, if_pos (decide_eq_true hx)]
    · rw [if_neg hx, if_neg (by simpa using hx), List.length_append]
      rfl
section
variable {P : Program} {w : World} {A : Around} {E : Value → Shared → Prop} {s : Shared}
theorem strs_getK : ∀ {us : List Value} {xs : List Str}, StrsAre us xs → ∀ (i : Nat) (v : Value), us[i]? = some v → ∃ x t, xs[i]? = some x ∧ v = .str x t
  | _, _, .nil, i, v, h => by simp at h
  | _, _, .cons x t _, 0, v, h => ⟨x, t, rfl, (Option.some.inj h).symm⟩
  | _, _, .cons _ _ r, i + 1, v, h => strs_getK r i v h
/-- the loop of set(..) over an iterator of texts -/
theorem fill_textsK {R : Result → Shared → Prop} {I : Addr} {fp wr : List Addr} {G : Array GenState → Array GenState → Prop} {Pv : Nat → Value → Prop} {St : Nat → Shared → Prop} (xs : List Str) (W : WalksS P w A.in1 I fp wr G xs.length Pv St) (S : Addr) (hS : S ∉ fp)
    (hb : xs.length + 1 < scanBound) (hval : ∀ i v, Pv i v → ∃ x t, xs[i]? = some x ∧ v = .str x t) :
    ∀ (m i : Nat) (s : Shared), xs.length - i = m → i ≤ xs.length → St i s → GotK P w s.heap S (xs.take i) →
      (∀ s', Moved (S :: wr) G s s' → GotK P w s'.heap S xs → R (.ok (.ret .none)) s') → codeAny (model P w) A (.builtin "set.update.loop" ⟨[.ref S, .ref I], []⟩) R s := by
  have ins : ∀ b ∈ wr, b ∈ S :: wr := fun b z => List.mem_cons_of_mem _ z
  have out : S ∉ wr := fun z => hS (W.sub _ z)
  intro m
  induction m with
  | zero =>
    intro i s hm hi hst hg back
    have hi' : i = xs.length := by omega
    rw [hi', List.take_length] at hg
    rw [hi'] at hst
    refine codeAny_builtin PyProof.Rows.F.entry_set_update_loop ?_
    rw [Around.under_plainId PyProof.Rows.F.plain_set_update_loop _]
    show wpAny _ A.in1 (pyNext (.ref I) >>= _) _ _ s
    exact wpAny_bind (W.done s _ _ hst fun s' mv => wpAny_pure (back s' (mv.mono ins) (hg.keep fun o z => mv.heap S o out z)))
  | succ m ih =>
    intro i s hm hi hst hg back
    have lt : i < xs.length := by omega
    refine codeAny_builtin PyProof.Rows.F.entry_set_update_loop ?_
    rw [Around.under_plainId PyProof.Rows.F.plain_set_update_loop _]
    show wpAny _ A.in1 (pyNext (.ref I) >>= _) _ _ s
    refine wpAny_bind (W.item i s _ _ lt hst fun v s' hP hst' mv => ?_)
    obtain ⟨x, t, hx, rfl⟩ := hval i v hP
    have g1 : GotK P w s'.heap S (xs.take i) := hg.keep fun o z => mv.heap S o out z
    have small : (metS (xs.take i)).length + 1 < scanBound := by
      have := metS_le _ (xs.take i) rfl
      rw [List.length_take] at this
      omega
    show wpAny _ A.in1 (holding [Value.str x t] (setAdd S (.str x t)) >>= _) _ _ s'
    refine wpAny_bind (wpAny_holding ?_)
    unfold setAdd
    refine wpAny_holding (wpAny_bind ((mixKind P w).pyHash (k := Sum.inr x) (mixKind_str _ _ _ _) ?_))
    refine wpAny_setAddHashed_of (knd := mixKind P w) (s := { s' with toks := s'.toks + 1 }) (k := Sum.inr x) (mixKind_str _ _ _ _) rfl g1 small fun h' but g2 => ?_
    have g3 : GotK P w h' S (xs.take (i + 1)) := by
      rw [List.take_add_one, hx]
      exact GotK.more g2
    refine wpAny_pure ⟨plainId_quiet PyProof.Rows.F.plain_set_update_loop _, ih (i + 1) _ (by omega) lt (W.frame _ s' _ _ hst' (Nat.le_succ _) fun b hb o z => ?_) g3 fun s2 mv2 g4 => ?_⟩
    · rw [but.2 b fun e => hS (e ▸ hb)]
      exact z
    · refine back s2 (Moved.trans W.gtrans ((mv.mono ins).then_heap (Nat.le_succ _) fun b o hb z => ?_) mv2) g4
      rw [but.2 b fun e => hb (e ▸ List.mem_cons_self)]
      exact z
/-- the set that set() lays -/
def bareSetK (led : Bool) : Obj := { cls := .type "set", dict := none, data := .set #[] 0 (.fresh 0 0 led) }
set_option maxHeartbeats 8000000 in
theorem set_of_textsK {l : Addr} {items : Array Value} {xs : List Str} {Q : Value → Shared → Prop} (hh : A.handled = none) (hl : s.heap.IsTuple l items) (hx : StrsAre items.toList xs) (hb : xs.length + 1 < scanBound)
    (h : ∀ (h' : Heap) (tk : Nat), GotK P w h' s.heap.objs.size xs → (∀ b o, s.heap.get? b = some o → h'.get? b = some o) → Q (.ref s.heap.objs.size) { s with heap := h', toks := tk }) : wpAny (model P w) A (call (.type "set") [.ref l]) Q E s := by
  have size_eq : items.size = xs.length := by
    have q := StrsAre.length hx
    simpa using q
  have hmro := PySem.F.called_set.mro
  obtain ⟨c, tl, hmro⟩ := hmro
  have made := PySem.F.called_set.made
  have sub := PySem.F.called_set.sub
  have notT := PySem.F.called_set.notType
  have can := PySem.F.called_set.canCreate
  have chk := PySem.F.typeCall_set_1 (.ref l)
  refine wpAny_call (codeAny_of_tree ?_)
  show wpAny _ _ (callAny (.type "set") _) _ _ _
  refine wpAny_pure ⟨Code.quiet_builtin _ (by decide +kernel), codeAny_builtin PySem.F.entry_type_call ?_⟩
  rw [Around.under_plain (weight_type_call_type "set" [.ref l] []) rfl]
  repeat (any_goals (first | assumption | wp_step))
  refine codeAny_mono (code_set_new_1 (.ref l) (E := E) (Q₁ := fun obj s₁ => ∃ led : Bool, obj = .ref s.heap.objs.size ∧ s₁ = { s with heap := s.heap.push (bareSetK led) }) fun led => ⟨led, rfl, rfl⟩) fun r s₁ hr => ?_
  match r, hr with
  | .error e, hr => exact hr
  | .ok .next, hr => exact hr.elim
  | .ok .brk, hr => exact hr.elim
  | .ok .cont, hr => exact hr.elim
  | .ok (.ret obj), hr =>
    obtain ⟨led, rfl, rfl⟩ := hr
    have atS : (s.heap.push (bareSetK led)).get? s.heap.objs.size = some (bareSetK led) := Heap.get?_push_size _ rfl
    have isS : Shared.TypeIs { s with heap := s.heap.push (bareSetK led) } (.ref s.heap.objs.size) "set" := ⟨_, atS, rfl⟩
    have look := PySem.F.called_set.init.lookup
    have bind := PySem.F.called_set.init.bind (.ref s.heap.objs.size)
    repeat (any_goals (first | assumption | wp_step))
    refine codeAny_mono (codeAny_call_builtin (R := wants (fun r s₂ => r = .none ∧ ∃ h' tk, s₂ = { s with heap := h', toks := tk } ∧ GotK P w h' s.heap.objs.size xs ∧ (∀ b o, s.heap.get? b = some o → h'.get? b = some o)) E)
      PySem.F.called_set.init.plain PySem.F.entry_set_init (check_set_init_1 isS ?_)) fun r₂ s₂ hr₂ => ?_
    · obtain ⟨⟨ocls, odict, odata, oslots⟩, hol, hcl, nl, hdl⟩ := hl
      simp only at hcl hdl
      subst hcl
      subst hdl
      have atL := Heap.get?_push_of_some (bareSetK led) hol
      have hl1 : (s.heap.push (bareSetK led)).IsTuple l items := ⟨_, atL, rfl, nl, rfl⟩
      have nots := PySem.F.sub_tuple_set
      have notf := PySem.F.sub_tuple_frozenset
      have notd : (Value.type "tuple" == Value.type "dict") = false := by decide
      unfold Builtin.«set.__init__» noKeywords Builtin.Frozenset.updateFrom
      generalize hPI : pyIter = PI
      wp_walk
      subst hPI
      refine wpAny_pyIter_tuple hl1 ?_
      refine wpAny_bind (wpAny_runValue ?_)
      have lS : l < s.heap.objs.size := Heap.lt_size hol
      have hh3 : A.in1.in1.in1.handled = none := by simp [hh]
      have sz : (s.heap.push (bareSetK led)).objs.size = s.heap.objs.size + 1 := Heap.size_push ..
      have neI : l ≠ (s.heap.push (bareSetK led)).objs.size := fun z => by
        rw [z, sz] at lS
        exact Nat.lt_irrefl _ (Nat.lt_of_succ_lt lS)
      have apart : s.heap.objs.size ∉ [(s.heap.push (bareSetK led)).objs.size, l] := by
        rw [sz]
        simp only [List.mem_cons, List.not_mem_nil, or_false, not_or]
        exact ⟨Nat.ne_of_lt (Nat.lt_succ_self _), Nat.ne_of_gt lS⟩
      have vals : ∀ (i : Nat) (v : Value), items[i]? = some v → ∃ x t, xs[i]? = some x ∧ v = .str x t := fun i v hv => strs_getK hx i v (by rw [Array.getElem?_toList]; exact hv)
      have Wk := (Walks.tuple (prog := P) (w := w) hh3 _ l neI items).toS
      rw [size_eq] at Wk
      refine fill_textsK xs Wk s.heap.objs.size apart hb vals (xs.length - 0) 0 _ rfl (Nat.zero_le _) ⟨⟨_, Heap.get?_push_size _ rfl, rfl, rfl⟩, (hl1.push _)⟩ ?_ fun s' mv g => ?_
      · have at2 := Heap.get?_push_of_some { cls := .type "tuple_iterator", data := .fields #[.ref l, .int 0 0] } atS
        exact setK_congr (S := fun _ => false) (n := 0) ⟨_, #[], 0, _, at2, ⟨rfl, rfl, rfl⟩, rfl, (fun e he => by simp at he), (fun k => by simp), (by decide), (by rfl), rfl⟩ (fun k => by cases k <;> rfl) rfl
      · obtain ⟨h', g', d', tk', os'⟩ := s'
        have e1 : g' = s.gens := mv.gens
        have e2 : d' = s.drawn := mv.drawn
        have e3 : os' = s.os := mv.os
        subst e1
        subst e2
        subst e3
        refine wpAny_pure ?_
        show wpAny _ _ (ret Value.none) _ _ _
        refine wpAny_pure ⟨rfl, h', tk', rfl, g, fun b o z => ?_⟩
        have hbs : b < s.heap.objs.size := Heap.lt_size z
        refine mv.heap b o ?_ (Heap.get?_push_of_some _ (Heap.get?_push_of_some _ z))
        rw [sz]
        simp only [List.mem_cons, List.not_mem_nil, or_false, not_or]
        exact ⟨Nat.ne_of_lt hbs, Nat.ne_of_lt (Nat.lt_succ_of_lt hbs)⟩
    · match r₂, hr₂ with
      | .error e, hr₂ => exact hr₂
      | .ok .next, hr₂ => exact hr₂.elim
      | .ok .brk, hr₂ => exact hr₂.elim
      | .ok .cont, hr₂ => exact hr₂.elim
      | .ok (.ret v), hr₂ =>
        obtain ⟨rfl, h', tk, rfl, g, k⟩ := hr₂
        repeat (any_goals (first | assumption | wp_step))
        exact h _ _ g k
end

section
variable {X : Cx}
def rSetTK (P : Program) (w : World) (K : PySem.W.Frag) : List V → Hp → VK → Prop := fun vs H Q => ∃ (a : Addr) (xs : List Str), vs = [.ref a] ∧ SqT K H a (xs.map V.str) ∧ xs.length ≤ 2000 ∧ ∀ p, H p = none → Q (.ref p) (upd H p (SetK P w p (inK xs) (metS xs).length))
theorem call_setTK (hc : X.calm = true) : CallR X (.type "set") (rSetTK X.prog X.w X.K) := by
  intro pins s σ H vs us Q I r h
  obtain ⟨a, xs, rfl, ht, hl, q⟩ := h
  have e := Vals.ref1 r
  subst e
  obtain ⟨its, rv, tp, hz⟩ := I.tuple ht
  refine set_of_textsK (P := X.prog) (w := X.w) (xs := xs) (I.ok.hd hc) tp (by simpa using Vals.strs rv) (by unfold scanBound; omega) fun h' tk g k => ?_
  have fr : H s.heap.objs.size = none := I.hok.fresh (Nat.le_refl _)
  exact ⟨.ref s.heap.objs.size, upd H s.heap.objs.size (SetK X.prog X.w s.heap.objs.size (inK xs) (metS xs).length), I.laid (t' := tk) k (Nat.le_refl _) (setK_new g), rfl, q _ fr⟩
end
end KB

set_option Elab.async false
set_option linter.all false
set_option maxRecDepth 100000
set_option maxHeartbeats 8000000
/-! US: sets of texts that can be walked: set(list of texts), sorted(set). -/
namespace KB
open PySem PySem.Spec PyProof.Rows L2
def txtOf (e : Int × Value) : Str := match e.2 with | .str z _ => z | _ => ""
def GoodT (w : World) (e : Int × Value) : Prop := ∃ z tk, e.2 = Value.str z tk ∧ e.1 = hashStr w z
/-- the set of texts at a: ms its members; its table rises and can be walked -/
def SetT (w : World) (h : Heap) (a : Addr) (ms : List Str) : Prop :=
  ∃ o es ep t, h.get? a = some o ∧ o.ExactSet ∧ o.data = .set es ep t ∧ (∀ e ∈ es.toList, GoodT w e) ∧ (es.toList.map txtOf).Perm ms ∧ ms.Nodup ∧
    es.size < scanBound ∧ t.fits es.size = true ∧ Ris t.place.toList ∧ (w.params.followText "set-order" = true ∨ t.led = true)
section
variable {P : Program} {w : World} {h h' : Heap} {a : Addr} {ms : List Str}
theorem SetT.at (R : SetT w h a ms) (k : ∀ o, h.get? a = some o → h'.get? a = some o) : SetT w h' a ms := by
  obtain ⟨o, es, ep, t, ho, r⟩ := R
  exact ⟨o, es, ep, t, k o ho, r⟩
theorem goodT_elems {l : List (Int × Value)} (g : ∀ e ∈ l, GoodT w e) : ElemsOf (mixKind P w) l := fun e he => by
  obtain ⟨z, tk, h1, h2⟩ := g e he
  exact ⟨⟨.inr z, by rw [h1]; exact mixKind_str P w z tk, h2⟩, by rw [h1] <;> rfl⟩
theorem goodT_is {e : Int × Value} (g : GoodT w e) (z : Str) : (mixKind P w).is (.inr z) e.2 = true ↔ txtOf e = z := by
  obtain ⟨z0, tk, h1, _⟩ := g
  unfold txtOf
  rw [h1]
  constructor
  · intro q
    have q : keyIs (Sum.inr z) (Value.str z0 tk) = true := q
    rcases keyIs_shape q with ⟨i, t, e1, _⟩ | ⟨x, t, e1, e2⟩
    · cases e1
    · cases e1
      cases e2
      rfl
  · intro q
    have q : z0 = z := q
    rw [q]
    exact mixKind_str P w z tk
theorem goodT_mem {l : List (Int × Value)} (g : ∀ e ∈ l, GoodT w e) (z : Str) : z ∈ l.map txtOf ↔ ∃ e ∈ l, (mixKind P w).is (.inr z) e.2 = true := by
  rw [List.mem_map]
  constructor
  · rintro ⟨e, he, q⟩
    exact ⟨e, he, (goodT_is (g e he) z).2 q⟩
  · rintro ⟨e, he, q⟩
    exact ⟨e, he, (goodT_is (g e he) z).1 q⟩
end
section
variable {P : Program} {w : World} {A : Around} {E : Value → Shared → Prop} {s : Shared} {a : Addr} {ms : List Str}
theorem setT_add_tail {g : Bool → Sem Unit} (hg : ∀ (b : Bool) (s₁ : Shared) (Q' : Unit → Shared → Prop), Q' () s₁ → wpAny (model P w) A (g b) Q' E s₁)
    {o : Obj} {es : Array (Int × Value)} {ep : Nat} {t : SetTable} (ho : s.heap.get? a = some o) (hex : o.ExactSet) (hd : o.data = .set es ep t)
    {es1 : Array (Int × Value)} {t2 : SetTable} {ms' : List Str} (g1 : ∀ e ∈ es1.toList, GoodT w e) (p1 : (es1.toList.map txtOf).Perm ms') (nd1 : ms'.Nodup)
    (hb1 : es1.size < scanBound) (hf2 : t2.fits es1.size = true) (hr : Ris t2.place.toList) (hl : w.params.followText "set-order" = true ∨ t2.led = true) {wasDummy : Bool} {R : Option Bool → Shared → Prop}
    (hR : ∀ h', Heap.SameBut a s.heap h' → SetT w h' a ms' → R (some true) { s with heap := h' }) :
    wpAny (model P w) A (do
        storeSet a es1 t2
        if (!wasDummy && t2.tooFull) = true then do
            g (relayAll t2 es1 (SetTable.grown es1.size)).2.2
            storeSet a (relayAll t2 es1 (SetTable.grown es1.size)).1 (relayAll t2 es1 (SetTable.grown es1.size)).2.1
            pure (some true)
          else pure (some true)) R E s := by
  refine wpAny_bind (wpAny_storeSet_of ho hd ?_ (fits_of_scanBound hb1))
  have ho1 := store_at (es' := es1) (t' := t2) ho hd
  have sb1 := Heap.SameBut.update s.heap a (Obj.putSet es1 t2)
  split
  · have pm := relayAll_perm t2 es1 (SetTable.grown es1.size)
    have hf3 := relayAll_fits t2 es1 (SetTable.grown es1.size)
    have hr3 := relayAll_ris t2 es1 (SetTable.grown es1.size)
    have hl3 := relayAll_led t2 es1 (SetTable.grown es1.size)
    generalize relayAll t2 es1 (SetTable.grown es1.size) = Z at pm hf3 hr3 hl3 ⊢
    obtain ⟨es2, t3, gave⟩ := Z
    dsimp only at pm hf3 hr3 hl3 ⊢
    have hsz : es2.size = es1.size := by rw [← Array.length_toList, pm.length_eq, Array.length_toList]
    have hb2 : es2.size < scanBound := by rw [hsz]; exact hb1
    refine wpAny_bind (hg _ _ _ ?_)
    refine wpAny_bind (wpAny_storeSet_of ho1 rfl ?_ (fits_of_scanBound hb2))
    have ho2 := store_at (es' := es2) (t' := t3) ho1 rfl
    refine wpAny_pure (hR _ (sb1.trans (Heap.SameBut.update _ a _)) ?_)
    exact ⟨_, es2, _, t3, ho2, hex, rfl, fun e he => g1 e (pm.mem_iff.mp he), (pm.map txtOf).trans p1, nd1, hb2, hf3, hr3,
      hl.imp id fun z => by rw [hl3]; exact z⟩
  · exact wpAny_pure (hR _ sb1 ⟨_, es1, _, t2, ho1, hex, rfl, g1, p1, nd1, hb1, hf2, hr, hl⟩)
theorem setT_add_hashed {z : Str} {tk : Tok} {Q : Bool → Shared → Prop} (R : SetT w s.heap a ms) (room : ms.length + 1 < scanBound)
    (hQ : ∀ h', Heap.SameBut a s.heap h' → SetT w h' a (if z ∈ ms then ms else ms ++ [z]) → Q (!decide (z ∈ ms)) { s with heap := h' }) :
    wpAny (model P w) A (setAddHashed a (.str z tk) ((mixKind P w).hash (.inr z))) Q E s := by
  obtain ⟨o, es, ep, t, ho, hex, hd, g, pe, nd, hb, hf, hr, hl⟩ := R
  have hkey : (mixKind P w).is (.inr z) (.str z tk) = true := mixKind_str P w z tk
  have hsc : (Value.str z tk).scannable = true := rfl
  have hel : ElemsOf (mixKind P w) es.toList := goodT_elems g
  unfold setAddHashed setAddHashedIn
  refine wpAny_holding (wpAny_bind (wpAny_setState_of ho hd hf ?_))
  dsimp only
  rw [byScan_of hsc hb hel]
  simp only [↓reduceIte]
  unfold setAddByScan
  refine wpAny_bind ?_
  refine wpAny_bind (wpAny_rule ?_)
  refine wpAny_bind (wpAny_setScan_of hkey ho hd hf hel ?_)
  cases hfi : List.findIdx? (fun e => (mixKind P w).is (.inr z) e.2) es.toList with
  | some j =>
    dsimp only
    obtain ⟨hj, pj, _⟩ := List.findIdx?_eq_some_iff_getElem.mp hfi
    have hz : z ∈ ms := pe.mem_iff.mp ((goodT_mem (P := P) (w := w) g z).2 ⟨es.toList[j], List.getElem_mem hj, pj⟩)
    refine wpAny_pure (wpAny_pure ?_)
    have q := hQ s.heap (Heap.SameBut.refl a s.heap) (by rw [if_pos hz]; exact ⟨o, es, ep, t, ho, hex, hd, g, pe, nd, hb, hf, hr, hl⟩)
    rw [decide_eq_true hz] at q
    exact q
  | none =>
    dsimp only
    have hnk : z ∉ es.toList.map txtOf := fun y => by
      obtain ⟨e, he, q⟩ := (goodT_mem (P := P) (w := w) g z).1 y
      have c := List.findIdx?_eq_none_iff.mp hfi e he
      rw [q] at c
      cases c
    have hz : z ∉ ms := fun y => hnk (pe.mem_iff.mpr y)
    have hn : es.size = ms.length := by rw [← pe.length_eq, List.length_map, Array.length_toList]
    have hgw : ∀ (b : Bool) {s₁ : Shared} {Q' : Unit → Shared → Prop}, Q' () s₁ → wpAny (model P w) A (match b with | true => rule "set.scan.the-table-gave-way" | false => pure ()) Q' E s₁ :=
      fun b s₁ Q' q => by cases b <;> first | exact wpAny_pure q | exact wpAny_rule q
    have pm := layNew_perm t es ((mixKind P w).hash (.inr z)) (.str z tk)
    have hf1 := layNew_fits t es ((mixKind P w).hash (.inr z)) (.str z tk)
    have hr1 := layNew_ris t es ((mixKind P w).hash (.inr z)) (.str z tk) hr
    have hl1 := layNew_led t es ((mixKind P w).hash (.inr z)) (.str z tk)
    generalize layNew t es ((mixKind P w).hash (.inr z)) (.str z tk) = Z at pm hf1 hr1 hl1 ⊢
    obtain ⟨es1, t1, wasDummy, gave⟩ := Z
    dsimp only at pm hf1 hr1 hl1 ⊢
    rw [Array.toList_push] at pm
    have pc : es1.toList.Perm (((mixKind P w).hash (.inr z), Value.str z tk) :: es.toList) := pm.trans (List.perm_append_singleton _ _)
    have pk : (es1.toList.map txtOf).Perm (z :: es.toList.map txtOf) := pc.map txtOf
    have g1 : ∀ e ∈ es1.toList, GoodT w e := fun e he => by
      rcases List.mem_cons.mp (pc.mem_iff.mp he) with y | y
      · rw [y]; exact ⟨z, tk, rfl, rfl⟩
      · exact g e y
    have p1 : (es1.toList.map txtOf).Perm (ms ++ [z]) := pk.trans ((pe.cons z).trans (List.perm_append_singleton _ _).symm)
    have nd1 : (ms ++ [z]).Nodup := by
      rw [(List.perm_append_singleton z ms).nodup_iff]
      exact List.nodup_cons.mpr ⟨hz, nd⟩
    have hsz : es1.size = ms.length + 1 := by rw [← Array.length_toList, pc.length_eq, List.length_cons, Array.length_toList, hn]
    have hb1 : es1.size < scanBound := by rw [hsz]; exact room
    have hled : w.params.followText "set-order" = true ∨ t1.led = true := hl.imp id fun y => by rw [hl1]; exact y
    have fin : ∀ h', Heap.SameBut a s.heap h' → SetT w h' a (ms ++ [z]) → Q true { s with heap := h' } := fun h' sb r => by
      have q := hQ h' sb
      rw [if_neg hz, decide_eq_false hz] at q
      exact q r
    refine wpAny_bind (hgw _ ?_)
    split
    · refine wpAny_bind ?_
      rw [hashByValue_scannable 8 hsc]
      refine wpAny_pure ?_
      refine setT_add_tail ?_ ho hex hd g1 p1 nd1 hb1 ?_ ?_ ?_ ?_
      · intro b s₁ Q' q; cases b <;> first | exact wpAny_pure q | exact wpAny_rule q
      · first | (split <;> first | exact hf1 | exact SetTable.fits_plain_off hf1) | exact hf1
      · first | (split <;> exact hr1) | exact hr1
      · first | (split <;> exact hled) | exact hled
      · intro h' sb r; dsimp only; exact wpAny_pure (fin h' sb r)
    · refine wpAny_bind (wpAny_pure ?_)
      simp only [↓reduceIte]
      refine setT_add_tail ?_ ho hex hd g1 p1 nd1 hb1 hf1 hr1 hled ?_
      · intro b s₁ Q' q; cases b <;> first | exact wpAny_pure q | exact wpAny_rule q
      · intro h' sb r; dsimp only; exact wpAny_pure (fin h' sb r)
theorem nodup_metS : ∀ xs : List Str, (metS xs).Nodup := by
  have key : ∀ (n : Nat) (xs : List Str), xs.length = n → (metS xs).Nodup := by
    intro n
    induction n with
    | zero =>
      intro xs h
      rw [List.length_eq_zero_iff.mp h]
      exact List.nodup_nil
    | succ n ih =>
      intro xs h
      have hne : xs ≠ [] := fun z => by rw [z] at h; cases h
      rw [← List.dropLast_concat_getLast hne, metS_snoc]
      have := ih xs.dropLast (by rw [List.length_dropLast, h]; rfl)
      by_cases hx : xs.getLast hne ∈ metS xs.dropLast
      · rw [if_pos hx]; exact this
      · rw [if_neg hx, (List.perm_append_singleton _ _).nodup_iff]
        exact List.nodup_cons.mpr ⟨hx, this⟩
  exact fun xs => key _ xs rfl
/-- the loop of set(..) over an iterator of texts -/
theorem fill_textsT {R : Result → Shared → Prop} {I : Addr} {fp wr : List Addr} {G : Array GenState → Array GenState → Prop} {Pv : Nat → Value → Prop} {St : Nat → Shared → Prop} (xs : List Str) (W : WalksS P w A.in1 I fp wr G xs.length Pv St) (S : Addr) (hS : S ∉ fp)
    (hb : xs.length + 1 < scanBound) (hval : ∀ i v, Pv i v → ∃ x t, xs[i]? = some x ∧ v = .str x t) :
    ∀ (m i : Nat) (s : Shared), xs.length - i = m → i ≤ xs.length → St i s → SetT w s.heap S (metS (xs.take i)) →
      (∀ s', Moved (S :: wr) G s s' → SetT w s'.heap S (metS xs) → R (.ok (.ret .none)) s') → codeAny (model P w) A (.builtin "set.update.loop" ⟨[.ref S, .ref I], []⟩) R s := by
  have ins : ∀ b ∈ wr, b ∈ S :: wr := fun b z => List.mem_cons_of_mem _ z
  have out : S ∉ wr := fun z => hS (W.sub _ z)
  intro m
  induction m with
  | zero =>
    intro i s hm hi hst hg back
    have hi' : i = xs.length := by omega
    rw [hi', List.take_length] at hg
    rw [hi'] at hst
    refine codeAny_builtin PyProof.Rows.F.entry_set_update_loop ?_
    rw [Around.under_plainId PyProof.Rows.F.plain_set_update_loop _]
    show wpAny _ A.in1 (pyNext (.ref I) >>= _) _ _ s
    exact wpAny_bind (W.done s _ _ hst fun s' mv => wpAny_pure (back s' (mv.mono ins) (hg.at fun o z => mv.heap S o out z)))
  | succ m ih =>
    intro i s hm hi hst hg back
    have lt : i < xs.length := by omega
    refine codeAny_builtin PyProof.Rows.F.entry_set_update_loop ?_
    rw [Around.under_plainId PyProof.Rows.F.plain_set_update_loop _]
    show wpAny _ A.in1 (pyNext (.ref I) >>= _) _ _ s
    refine wpAny_bind (W.item i s _ _ lt hst fun v s' hP hst' mv => ?_)
    obtain ⟨x, t, hx, rfl⟩ := hval i v hP
    have g1 : SetT w s'.heap S (metS (xs.take i)) := hg.at fun o z => mv.heap S o out z
    have small : (metS (xs.take i)).length + 1 < scanBound := by
      have := metS_le _ (xs.take i) rfl
      rw [List.length_take] at this
      omega
    show wpAny _ A.in1 (holding [Value.str x t] (setAdd S (.str x t)) >>= _) _ _ s'
    refine wpAny_bind (wpAny_holding ?_)
    unfold setAdd
    refine wpAny_holding (wpAny_bind ((mixKind P w).pyHash (k := Sum.inr x) (mixKind_str _ _ _ _) ?_))
    refine setT_add_hashed (s := { s' with toks := s'.toks + 1 }) g1 small fun h' but g2 => ?_
    have g3 : SetT w h' S (metS (xs.take (i + 1))) := by
      rw [List.take_add_one, hx]
      show SetT w h' S (metS (xs.take i ++ [x]))
      rw [metS_snoc]
      exact g2
    refine wpAny_pure ⟨plainId_quiet PyProof.Rows.F.plain_set_update_loop _, ih (i + 1) _ (by omega) lt (W.frame _ s' _ _ hst' (Nat.le_succ _) fun b hb o z => ?_) g3 fun s2 mv2 g4 => ?_⟩
    · rw [but.2 b fun e => hS (e ▸ hb)]
      exact z
    · refine back s2 (Moved.trans W.gtrans ((mv.mono ins).then_heap (Nat.le_succ _) fun b o hb z => ?_) mv2) g4
      rw [but.2 b fun e => hb (e ▸ List.mem_cons_self)]
      exact z
theorem setT_fresh {h : Heap} (w : World) : SetT w (h.push { cls := .type "set", dict := none, data := .set #[] 0 (.fresh 0 0 (!w.params.followText "set-order")) }) h.objs.size [] :=
  ⟨_, #[], 0, _, Heap.get?_push_size _ rfl, ⟨rfl, rfl, rfl⟩, rfl, (fun e he => by simp at he), List.Perm.nil, List.nodup_nil, (by decide), (by rfl), List.Pairwise.nil, by
    show _ ∨ (!w.params.followText "set-order") = true
    cases w.params.followText "set-order"
    · exact .inr rfl
    · exact .inl rfl⟩
end
end KB

set_option Elab.async false
set_option linter.all false
set_option maxRecDepth 100000
set_option maxHeartbeats 16000000
/-! US2: set(list of texts), sorted(set): the rules. -/
namespace KB
open PySem PySem.Spec PyProof.Rows L2
section
variable {P : Program} {w : World} {A : Around} {E : Value → Shared → Prop} {s : Shared}
theorem code_set_led_1 (a : Value) {Q₁ : Value → Shared → Prop}
    (h : Q₁ (.ref s.heap.objs.size) { s with heap := s.heap.push { cls := .type "set", dict := none, data := .set #[] 0 (.fresh 0 0 (!w.params.followText "set-order")) } }) :
    codeAny (model P w) A (.call (.builtin "set.__new__") ⟨[.type "set", a], []⟩) (wants Q₁ E) s := by
  refine codeAny_of_tree ?_
  show wpAny _ A.in1 (do checkBuiltinCall "set.__new__" ⟨[.type "set", a], []⟩; again (.builtin "set.__new__" ⟨[.type "set", a], []⟩)) _ _ s
  refine wpAny_bind (wpAny_of_eq (PySem.F.newCall_set_1 a) (wpAny_pure ⟨plainId_quiet PySem.F.plain_set_new _, codeAny_builtin PySem.F.entry_set_new ?_⟩))
  rw [Around.under_plainId PySem.F.plain_set_new _]
  unfold Builtin.«set.__new__» Builtin.Frozenset.newClass
  have hsub := sub_set_self
  obtain ⟨hp, g, d, tk, os⟩ := s
  dsimp only
  wp_walk
  refine wpAny_askSetting (wpAny_pure ?_)
  dsimp only
  simp only [newObj]
  refine wpAny_bind (wpAny_alloc (wpAny_pure ?_))
  exact wpAny_pure h
theorem set_of_textsL {l : Addr} {items : Array Value} {xs : List Str} {Q : Value → Shared → Prop} (hh : A.handled = none) (hl : s.heap.IsList l items) (hx : StrsAre items.toList xs) (hb : xs.length + 1 < scanBound)
    (h : ∀ (h' : Heap) (tk : Nat), SetT w h' s.heap.objs.size (metS xs) → (∀ b o, s.heap.get? b = some o → h'.get? b = some o) → Q (.ref s.heap.objs.size) { s with heap := h', toks := tk }) : wpAny (model P w) A (call (.type "set") [.ref l]) Q E s := by
  have size_eq : items.size = xs.length := by
    have q := StrsAre.length hx
    simpa using q
  have hmro := PySem.F.called_set.mro
  obtain ⟨c, tl, hmro⟩ := hmro
  have made := PySem.F.called_set.made
  have sub := PySem.F.called_set.sub
  have notT := PySem.F.called_set.notType
  have can := PySem.F.called_set.canCreate
  have chk := PySem.F.typeCall_set_1 (.ref l)
  refine wpAny_call (codeAny_of_tree ?_)
  show wpAny _ _ (callAny (.type "set") _) _ _ _
  refine wpAny_pure ⟨Code.quiet_builtin _ (by decide +kernel), codeAny_builtin PySem.F.entry_type_call ?_⟩
  rw [Around.under_plain (weight_type_call_type "set" [.ref l] []) rfl]
  repeat (any_goals (first | assumption | wp_step))
  refine codeAny_mono (code_set_led_1 (.ref l) (E := E) (Q₁ := fun obj s₁ => obj = .ref s.heap.objs.size ∧ s₁ = { s with heap := s.heap.push (bareSetK (!w.params.followText "set-order")) }) ⟨rfl, rfl⟩) fun r s₁ hr => ?_
  match r, hr with
  | .error e, hr => exact hr
  | .ok .next, hr => exact hr.elim
  | .ok .brk, hr => exact hr.elim
  | .ok .cont, hr => exact hr.elim
  | .ok (.ret obj), hr =>
    obtain ⟨rfl, rfl⟩ := hr
    have fr0 := setT_fresh (h := s.heap) w
    generalize (!w.params.followText "set-order") = led at fr0 ⊢
    have atS : (s.heap.push (bareSetK led)).get? s.heap.objs.size = some (bareSetK led) := Heap.get?_push_size _ rfl
    have isS : Shared.TypeIs { s with heap := s.heap.push (bareSetK led) } (.ref s.heap.objs.size) "set" := ⟨_, atS, rfl⟩
    have look := PySem.F.called_set.init.lookup
    have bind := PySem.F.called_set.init.bind (.ref s.heap.objs.size)
    repeat (any_goals (first | assumption | wp_step))
    refine codeAny_mono (codeAny_call_builtin (R := wants (fun r s₂ => r = .none ∧ ∃ h' tk, s₂ = { s with heap := h', toks := tk } ∧ SetT w h' s.heap.objs.size (metS xs) ∧ (∀ b o, s.heap.get? b = some o → h'.get? b = some o)) E)
      PySem.F.called_set.init.plain PySem.F.entry_set_init (check_set_init_1 isS ?_)) fun r₂ s₂ hr₂ => ?_
    · obtain ⟨⟨ocls, odict, odata, oslots⟩, hol, hcl, nl, hdl⟩ := hl
      simp only at hcl hdl
      subst hcl
      subst hdl
      have atL := Heap.get?_push_of_some (bareSetK led) hol
      have hl1 : (s.heap.push (bareSetK led)).IsList l items := ⟨_, atL, rfl, nl, rfl⟩
      have nots := PySem.F.sub_list_set
      have notf := PySem.F.sub_list_frozenset
      have notd : (Value.type "list" == Value.type "dict") = false := by decide
      unfold Builtin.«set.__init__» noKeywords Builtin.Frozenset.updateFrom
      generalize hPI : pyIter = PI
      wp_walk
      subst hPI
      refine wpAny_pyIter_list hl1 ?_
      refine wpAny_bind (wpAny_runValue ?_)
      have lS : l < s.heap.objs.size := Heap.lt_size hol
      have hh3 : A.in1.in1.in1.handled = none := by simp [hh]
      have sz : (s.heap.push (bareSetK led)).objs.size = s.heap.objs.size + 1 := Heap.size_push ..
      have neI : l ≠ (s.heap.push (bareSetK led)).objs.size := fun z => by
        rw [z, sz] at lS
        exact Nat.lt_irrefl _ (Nat.lt_of_succ_lt lS)
      have apart : s.heap.objs.size ∉ [(s.heap.push (bareSetK led)).objs.size, l] := by
        rw [sz]
        simp only [List.mem_cons, List.not_mem_nil, or_false, not_or]
        exact ⟨Nat.ne_of_lt (Nat.lt_succ_self _), Nat.ne_of_gt lS⟩
      have vals : ∀ (i : Nat) (v : Value), items[i]? = some v → ∃ x t, xs[i]? = some x ∧ v = .str x t := fun i v hv => strs_getK hx i v (by rw [Array.getElem?_toList]; exact hv)
      have Wk := (Walks.list (prog := P) (w := w) hh3 _ l neI items).toS
      rw [size_eq] at Wk
      refine fill_textsT xs Wk s.heap.objs.size apart hb vals (xs.length - 0) 0 _ rfl (Nat.zero_le _) ⟨⟨_, Heap.get?_push_size _ rfl, rfl, rfl⟩, (hl1.push _)⟩ ?_ fun s' mv g => ?_
      · exact fr0.at fun o ho => Heap.get?_push_of_some _ ho
      · obtain ⟨h', g', d', tk', os'⟩ := s'
        have e1 : g' = s.gens := mv.gens
        have e2 : d' = s.drawn := mv.drawn
        have e3 : os' = s.os := mv.os
        subst e1
        subst e2
        subst e3
        refine wpAny_pure ?_
        show wpAny _ _ (ret Value.none) _ _ _
        refine wpAny_pure ⟨rfl, h', tk', rfl, g, fun b o z => ?_⟩
        have hbs : b < s.heap.objs.size := Heap.lt_size z
        refine mv.heap b o ?_ (Heap.get?_push_of_some _ (Heap.get?_push_of_some _ z))
        rw [sz]
        simp only [List.mem_cons, List.not_mem_nil, or_false, not_or]
        exact ⟨Nat.ne_of_lt hbs, Nat.ne_of_lt (Nat.lt_succ_of_lt hbs)⟩
    · match r₂, hr₂ with
      | .error e, hr₂ => exact hr₂
      | .ok .next, hr₂ => exact hr₂.elim
      | .ok .brk, hr₂ => exact hr₂.elim
      | .ok .cont, hr₂ => exact hr₂.elim
      | .ok (.ret v), hr₂ =>
        obtain ⟨rfl, h', tk, rfl, g, k⟩ := hr₂
        repeat (any_goals (first | assumption | wp_step))
        exact h _ _ g k
theorem strsAre_of (w : World) : ∀ (l : List Value), (∀ v ∈ l, ∃ z tk, v = Value.str z tk) → ∃ zs, StrsAre l zs ∧ zs = l.map fun v => match v with | .str z _ => z | _ => ""
  | [], _ => ⟨[], .nil, rfl⟩
  | v :: l, h => by
    obtain ⟨z, tk, rfl⟩ := h v List.mem_cons_self
    obtain ⟨zs, h1, h2⟩ := strsAre_of w l fun u hu => h u (List.mem_cons_of_mem _ hu)
    exact ⟨z :: zs, .cons z tk h1, by rw [h2]; rfl⟩
theorem sorted_setT {a : Addr} {ms : List Str} {Q : Value → Shared → Prop} (R : SetT w s.heap a ms) (hh : A.handled = none)
    (hQ : ∀ s' p (out : Array Value) (c : Nat) (ys : List Str), (∀ b o, s.heap.get? b = some o → s'.heap.get? b = some o) → s'.gens = s.gens → s'.os = s.os → s.heap.objs.size ≤ p →
      s'.heap.get? p = some (seqObj "list" out c) → StrsAre out.toList ys → ys.Perm ms → sortedS ys = true → ms.length ≤ sizeLine → Q (.ref p) s') :
    wpAny (model P w) A (call (.builtin "sorted") [.ref a]) Q E s := by
  obtain ⟨o, es, ep, t, ho, hex, hd, g, pe, nd, hb, hf, hr, hl⟩ := R
  refine Calls.call_function_entry PyProof.Rows.kind_sorted PyProof.Rows.plain_sorted PyProof.Rows.entry_sorted (PyProof.Rows.args_sorted1 _) ?_
  unfold Builtin.«sorted»
  refine wpAny_bind (m := checkCount "sorted" 1 1 _) (wpAny_pure ?_)
  refine wpAny_bind (collect_set (A := A.in1) hh ⟨o, ho, hex.1, hd⟩ hf hb hr hl fun s1 vs k1 hz g1 o1 pm => ?_)
  have hvl : vs.length = es.size := by rw [pm.length_eq, List.length_map, Array.length_toList]
  have hn : es.size = ms.length := by rw [← pe.length_eq, List.length_map, Array.length_toList]
  have hsl : vs.length ≤ sizeLine := by rw [hvl]; exact fits_of_scanBound hb
  obtain ⟨zs, hS, hzs⟩ := strsAre_of w vs fun v hv => by
    obtain ⟨e, he, q⟩ := List.mem_map.mp (pm.mem_iff.mp hv)
    obtain ⟨z, tk, h1, _⟩ := g e he
    exact ⟨z, tk, by rw [← q]; exact h1⟩
  have pz : zs.Perm ms := by
    refine List.Perm.trans ?_ pe
    rw [hzs]
    have q := pm.map fun v => match v with | Value.str z _ => z | _ => ""
    rw [List.map_map] at q
    exact q
  refine wpAny_bind (wpAny_newList ?_ hsl)
  have hoL : (s1.heap.push (seqObj "list" vs.toArray 0)).get? s1.heap.objs.size = some (seqObj "list" vs.toArray 0) := Heap.get?_push_size _ rfl
  refine wpAny_bind (wpAny_holding (wpAny_call_entry PyProof.Rows.slot_list_sort ⟨_, hoL, rfl⟩ PyProof.Rows.entry_list_sort
    (PyProof.Rows.list_sort_treeKAny strKind_oneLt hoL hS.keysOf (fun v₁ v₂ rest e => keyKind_strs (by rw [← e]; exact hS)) hsl fun st' hp hs => ?_) (PyProof.Rows.args_list_sort _)))
  obtain ⟨ys, g1', g2', g3'⟩ := sorted_out_str hS hp hs
  obtain ⟨c, hc⟩ := PyProof.Rows.sortedHeap_at (vs := vs) (out := (arrOf st').map (·.2)) hoL
  refine ⟨_, rfl, ?_⟩
  refine wpAny_pure ⟨_, rfl, hQ _ s1.heap.objs.size _ c ys (fun b u e => ?_) g1 o1 hz hc g1' (g2'.trans pz) g3' (by rw [← hn, ← hvl]; exact hsl)⟩
  have q := k1 b u e
  have hlt := Heap.lt_size q
  show (sortedHeap (s1.heap.push (seqObj "list" vs.toArray 0)) s1.heap.objs.size vs _).get? b = some u
  rw [sortedHeap_old (Nat.ne_of_lt hlt) (by rw [size_push']; exact Nat.lt_succ_of_lt hlt)]
  exact Heap.get?_push_of_some _ q
end
/-! ### the rules -/
def SetTO (w : World) (a : Addr) (ms : List Str) : HO := .ext fun h => SetT w h a ms
theorem setT_new {w : World} {P : Program} {H : Hp} {h : Heap} {a : Addr} {ms : List Str} (R : SetT w h a ms) : ObjOk P w H h a (SetTO w a ms) := by
  have ⟨o, _, _, _, ho, _⟩ := R
  exact ⟨R, ⟨o, ho⟩, fun h1 h2 p k => p.at k⟩
section
variable {X : Cx}
def rSetTL (w : World) (K : PySem.W.Frag) : List V → Hp → VK → Prop := fun vs H Q => ∃ (a : Addr) (xs : List Str), vs = [.ref a] ∧ SqL K H a (xs.map V.str) ∧ xs.length ≤ 2000 ∧ ∀ p, H p = none → Q (.ref p) (upd H p (SetTO w p (metS xs)))
theorem call_setTL (hc : X.calm = true) : CallR X (.type "set") (rSetTL X.w X.K) := by
  intro pins s σ H vs us Q I r h
  obtain ⟨a, xs, rfl, ht, hl, q⟩ := h
  have e := Vals.ref1 r
  subst e
  obtain ⟨its, rv, tp, hz⟩ := I.list ht
  refine set_of_textsL (P := X.prog) (w := X.w) (xs := xs) (I.ok.hd hc) tp.isList (by simpa using Vals.strs rv) (by unfold scanBound; omega) fun h' tk g k => ?_
  have fr : H s.heap.objs.size = none := I.hok.fresh (Nat.le_refl _)
  exact ⟨.ref s.heap.objs.size, upd H s.heap.objs.size (SetTO X.w s.heap.objs.size (metS xs)), I.laid (t' := tk) k (Nat.le_refl _) (setT_new g), rfl, q _ fr⟩
/-- sorted(set of texts) -/
def rSortedST (w : World) : List V → Hp → VK → Prop := fun vs H Q => ∃ (a : Addr) (ms : List Str), vs = [V.ref a] ∧ H a = some (SetTO w a ms) ∧
  ∀ (ys : List Str) (p : Addr), ys.Perm ms → sortedS ys = true → H p = none → Q (.ref p) (upd H p (.lst (ys.map V.str)))
theorem cr_sortedST (hc : X.calm = true) : CallR X (.builtin "sorted") (rSortedST X.w) := by
  intro pins s σ H vs us Q I r h
  obtain ⟨a, ms, rfl, ha, q⟩ := h
  have R : SetT X.w s.heap a ms := (I.hok a _ ha).1
  rw [Vals.ref1 r]
  refine sorted_setT R (I.ok.hd hc) fun s' p out c ys k g o hp hg hi hs hm hl => ?_
  have hlen : (ys.map V.str).length ≤ sizeLine := by rw [List.length_map, hs.length_eq]; exact hl
  have hn : H p = none := I.hok.fresh hp
  have J : Inv X pins σ (upd H p (.lst (ys.map V.str))) { s with heap := s'.heap, gens := s'.gens, drawn := s'.drawn, toks := s'.toks } :=
    I.call (ch := []) (Un.laid k hp hn) (I.hok.laid k hp ⟨hlen, out.toList, c, vals_of_strs hi, hg⟩) (by rw [g]; exact I.bare) (fun _ z => nomatch z)
  have e : s' = { s with heap := s'.heap, gens := s'.gens, drawn := s'.drawn, toks := s'.toks } := by
    cases s'
    cases s
    cases o
    rfl
  rw [e]
  exact ⟨.ref p, _, J, rfl, q ys p hs hm hn⟩
end
end KB

set_option Elab.async false
set_option linter.all false
set_option maxRecDepth 100000
set_option maxHeartbeats 16000000
/-! US3: sorted(list or tuple of texts), of any size. -/
namespace KB
open PySem PySem.Spec PyProof.Rows L2
section
variable {P : Program} {w : World} {A : Around} {E : Value → Shared → Prop} {s : Shared}
theorem collect_tup {t : Addr} {o : Obj} {items : Array Value} {n : Nat} {Q : List Value → Shared → Prop} (ho : s.heap.get? t = some o) (hc : o.cls = .type "tuple") (hd : o.data = .seq items n) (hz : items.size ≤ sizeLine)
  (hQ : ∀ h' : Heap, (∀ b o', s.heap.get? b = some o' → h'.get? b = some o') → s.heap.objs.size < h'.objs.size → Q items.toList { s with heap := h' }) : wpAny (model P w) A (collect (.ref t)) Q E s := by
  unfold collect
  refine wpAny_bind (wpAny_runValue (codeAny_builtin PySem.F.entry_proto_collect ?_))
  rw [Around.under_plainId PySem.F.plain_proto_collect _]
  unfold Builtin.«proto.collect»
  refine wpAny_bind (wpAny_newList ?_ (Nat.zero_le _))
  refine wpAny_pure ⟨plainId_quiet PySem.F.plain_list_iadd _, ?_⟩
  have n1 : s.heap.get? s.heap.objs.size = none := by
    cases h : s.heap.get? s.heap.objs.size with
    | none => rfl
    | some u => exact absurd (Heap.lt_size h) (Nat.lt_irrefl _)
  have ht : (s.heap.push (seqObj "list" #[] 0)).get? t = some o := Heap.get?_push_of_some _ ho
  have hl : (s.heap.push (seqObj "list" #[] 0)).get? s.heap.objs.size = some (seqObj "list" #[] 0) := Heap.get?_push_size _ rfl
  refine codeAny_builtin PyProof.Rows.entry_list_iadd' ?_
  rw [Around.under_plainId PySem.F.plain_list_iadd _]
  unfold Builtin.«list.__iadd__»
  wp_walk
  rw [hd]
  refine wpAny_pure ?_
  dsimp only
  refine wpAny_pure ?_
  unfold Builtin.List.listItems
  wp_walk
  have pl : (Obj.mapSeq (fun x => x ++ items) (seqObj "list" #[] 0)).data.pastItsLine = none := by
    unfold Obj.mapSeq seqObj Data.pastItsLine
    simp
    omega
  rw [pl]
  dsimp only
  refine wpAny_pure ?_
  refine wpAny_pure ?_
  dsimp only
  refine wpAny_bind ?_
  have g1 := Heap.get?_update_self (Obj.mapSeq fun x => x ++ items) hl rfl
  refine wpAny_load g1 ?_
  have ei : (#[] ++ items : Array Value) = items := by simp
  show wpAny _ _ (pure (#[] ++ items : Array Value).toList) _ _ _
  rw [ei]
  refine wpAny_pure (hQ _ (fun b o' hb => ?_) ?_)
  · have hlt := Heap.lt_size hb
    exact Heap.get?_update_of_ne _ (Nat.ne_of_gt hlt) (Heap.get?_push_of_some _ hb)
  · rw [Heap.size_after_update, PyProof.Rows.size_push']
    exact Nat.lt_succ_self _
theorem sorted_seqT {a : Addr} {items : Array Value} {ms : List Str} {Q : Value → Shared → Prop} (hcol : ∀ {A' : Around} {R : List Value → Shared → Prop} {E' : Value → Shared → Prop}, (∀ h' : Heap, (∀ b o', s.heap.get? b = some o' → h'.get? b = some o') → s.heap.objs.size ≤ h'.objs.size → R items.toList { s with heap := h' }) → wpAny (model P w) A' (collect (.ref a)) R E' s) (hS : StrsAre items.toList ms) (hz : items.size ≤ sizeLine)
    (hQ : ∀ s' p (out : Array Value) (c : Nat) (ys : List Str), (∀ b o, s.heap.get? b = some o → s'.heap.get? b = some o) → s'.gens = s.gens → s'.os = s.os → s.heap.objs.size ≤ p →
      s'.heap.get? p = some (seqObj "list" out c) → StrsAre out.toList ys → ys.Perm ms → sortedS ys = true → Q (.ref p) s') :
    wpAny (model P w) A (call (.builtin "sorted") [.ref a]) Q E s := by
  refine Calls.call_function_entry PyProof.Rows.kind_sorted PyProof.Rows.plain_sorted PyProof.Rows.entry_sorted (PyProof.Rows.args_sorted1 _) ?_
  unfold Builtin.«sorted»
  refine wpAny_bind (m := checkCount "sorted" 1 1 _) (wpAny_pure ?_)
  have hsl : items.toList.length ≤ sizeLine := by rw [Array.length_toList]; exact hz
  refine wpAny_bind (hcol (fun h' k1 k2 => ?_))
  generalize items.toList = vs at hS hsl ⊢
  refine wpAny_bind (wpAny_newList ?_ hsl)
  have hoL : (h'.push (seqObj "list" vs.toArray 0)).get? h'.objs.size = some (seqObj "list" vs.toArray 0) := Heap.get?_push_size _ rfl
  refine wpAny_bind (wpAny_holding (wpAny_call_entry PyProof.Rows.slot_list_sort ⟨_, hoL, rfl⟩ PyProof.Rows.entry_list_sort
    (PyProof.Rows.list_sort_treeKAny strKind_oneLt hoL hS.keysOf (fun v₁ v₂ rest e => keyKind_strs (by rw [← e]; exact hS)) hsl fun st' hp hs => ?_) (PyProof.Rows.args_list_sort _)))
  obtain ⟨ys, g1', g2', g3'⟩ := sorted_out_str hS hp hs
  obtain ⟨c, hc⟩ := PyProof.Rows.sortedHeap_at (vs := vs) (out := (arrOf st').map (·.2)) hoL
  refine ⟨_, rfl, ?_⟩
  refine wpAny_pure ⟨_, rfl, hQ _ h'.objs.size _ c ys (fun b u e => ?_) rfl rfl k2 hc g1' g2' g3'⟩
  · have q := k1 b u e
    have hlt := Heap.lt_size q
    show (sortedHeap (h'.push (seqObj "list" vs.toArray 0)) h'.objs.size vs _).get? b = some u
    rw [sortedHeap_old (Nat.ne_of_lt hlt) (by rw [size_push']; exact Nat.lt_succ_of_lt hlt)]
    exact Heap.get?_push_of_some _ q
end
section
variable {X : Cx}
def rSortedTx (K : PySem.W.Frag) : List V → Hp → VK → Prop := fun vs H Q => ∃ (a : Addr) (xs : List Str), vs = [V.ref a] ∧ (SqL K H a (xs.map V.str) ∨ SqT K H a (xs.map V.str)) ∧
  ∀ (ys : List Str) (p : Addr), ys.Perm xs → sortedS ys = true → H p = none → Q (.ref p) (upd H p (.lst (ys.map V.str)))
theorem cr_sortedTx : CallR X (.builtin "sorted") (rSortedTx X.K) := by
  intro pins s σ H vs us Q I r h
  obtain ⟨a, xs, rfl, ha, q⟩ := h
  rw [Vals.ref1 r]
  have fin : ∀ {its : List Value}, Vals (xs.map V.str) its → (xs.map V.str).length ≤ sizeLine → (∀ {A' : Around} {R : List Value → Shared → Prop} {E' : Value → Shared → Prop}, (∀ h' : Heap, (∀ b o', s.heap.get? b = some o' → h'.get? b = some o') → s.heap.objs.size ≤ h'.objs.size → R its { s with heap := h' }) → wpAny (model X.prog X.w) A' (collect (.ref a)) R E' s) → wpAny (model X.prog X.w) X.A (call (.builtin "sorted") [.ref a]) (EP X pins σ Q) X.xe s := fun {its} rv hz hcol => by
    have hl : its.length = xs.length := by have := rv.length; rw [List.length_map] at this; omega
    have hz2 : xs.length ≤ sizeLine := by rw [List.length_map] at hz; exact hz
    refine sorted_seqT (items := its.toArray) (fun {A' R E'} k => hcol (A' := A') (R := R) (E' := E') (by simpa using k)) (by simpa using Vals.strs rv) (by simpa [hl] using hz2) fun s' p out c ys k g o hp hg hi hs hm => ?_
    have hlen : (ys.map V.str).length ≤ sizeLine := by rw [List.length_map, hs.length_eq]; exact hz2
    have hn : H p = none := I.hok.fresh hp
    have J : Inv X pins σ (upd H p (.lst (ys.map V.str))) { s with heap := s'.heap, gens := s'.gens, drawn := s'.drawn, toks := s'.toks } :=
      I.call (ch := []) (Un.laid k hp hn) (I.hok.laid k hp ⟨hlen, out.toList, c, vals_of_strs hi, hg⟩) (by rw [g]; exact I.bare) (fun _ z => nomatch z)
    have e : s' = { s with heap := s'.heap, gens := s'.gens, drawn := s'.drawn, toks := s'.toks } := by
      cases s'
      cases s
      cases o
      rfl
    rw [e]
    exact ⟨.ref p, _, J, rfl, q ys p hs hm hn⟩
  rcases ha with ha | ha
  · obtain ⟨its, rv, tp, hz⟩ := I.list ha
    refine fin rv hz fun {A' R E'} k => PyProof.Rows.collect_list tp.isList (k _ (fun b o' hb => ?_) ?_) (by have := rv.length; rw [← this]; exact hz)
    · exact Heap.get?_update_of_ne _ (Nat.ne_of_gt (Heap.lt_size hb)) (Heap.get?_push_of_some _ hb)
    · rw [Heap.size_after_update, PyProof.Rows.size_push']
      exact Nat.le_succ _
  · obtain ⟨its, rv, ⟨o, ho, hc, n, hd⟩, hz⟩ := I.tuple ha
    refine fin rv hz fun {A' R E'} k => collect_tup ho hc hd (by have := rv.length; simp [← this]; simpa using hz) fun h' k1 k2 => ?_
    simpa using k h' k1 (Nat.le_of_lt k2)
end
end KB

set_option Elab.async false
set_option linter.all false
set_option maxRecDepth 100000
set_option maxHeartbeats 16000000
/-! ZD: dict(zip(a, b)) of two lists of one length. -/
namespace KB
open PySem PySem.Spec PyProof.Rows L2
section
variable {X : Cx}
theorem kv_zip : ∀ {ks : List Key} {xs : List V} {us : List Value}, Vals xs us → ks.length = xs.length → KV (ks.zip xs) (ks.zip us)
  | [], _, _, _, _ => .nil
  | _ :: _, _, _, .nil, h => by simp at h
  | k :: ks, _, _, .cons r t, h => .cons ⟨rfl, r⟩ (kv_zip t (by simpa using h))
def tDZ (K : PySem.W.Frag) (tk : TA) : TE := fun σ H Q => tk σ H fun vs H1 => ∃ (a b : Addr) (ks : List Key) (xs : List V), vs = [.ref a, .ref b] ∧ SqL K H1 a (ks.map kV) ∧ SqL K H1 b xs ∧ ks.length = xs.length ∧
  ∀ p, H1 p = none → Q (.ref p) (upd H1 p (.dK (mergeK [] (ks.zip xs))))
theorem pe_dictZip {e e2 : Expr} {ta : TA} {p p0 pos pos0 : Pos} (hcalm : X.calm = true) (hg0 : Gl X "dict") (hm0 : X.mg "dict" = none) (hv0 : bootBuiltins "dict" = some (.type "dict")) (hg : Gl X "zip") (hm : X.mg "zip" = none) (ha : PA X [e, e2] ta)
    (he0 : starEach [Expr.Call (.Name "zip" p) [e, e2] [] pos] X.env = (false, eval (.Call (.Name "zip" p) [e, e2] [] pos) X.env) :: starEach [] X.env := by rfl) (hpl0 : (backTo pos0 (starEach [] X.env)).any (·.1) = false := by rfl)
    (hn0 : backTo pos0 (starEach [] X.env) = [] := by rfl)
    (hs : starEach [e, e2] X.env = (false, eval e X.env) :: starEach [e2] X.env := by rfl) (hpl : (backTo pos (starEach [e2] X.env)).any (·.1) = false := by rfl) :
    PE X (.Call (.Name "dict" p0) [.Call (.Name "zip" p) [e, e2] [] pos] [] pos0) (tDZ X.K ta) := by
  refine ⟨fun pins s σ H Q I h => ?_⟩
  refine wpAny_Call_Name_kw (ld_blt I hg0 hm0 hv0 ?_)
  refine PyProof.Rows.callWith_type1 ?_ he0 hpl0
  rw [he0]
  show wpAny _ _ (spliced ((false, eval _ X.env) :: backTo pos0 (starEach [] X.env))) _ _ s
  rw [hn0]
  refine Calls.spliced_cons ?_
  refine Call_ (ld_blt I hg hm PyProof.Rows.boot_zip (PyProof.Rows.callWith_type1 (thn (ha.run pos pins s σ H _ I h) fun us s1 ⟨vs, H1, I1, r1, q1⟩ => ?_) hs hpl))
  obtain ⟨a, b, ks, xs, ex, hqx, hqy, hlk, q⟩ := q1
  subst ex
  cases r1 with
  | cons r rr =>
    cases rr with
    | cons r' rr =>
      cases rr
      cases r
      cases r'
      obtain ⟨its, rv, p1, hz1⟩ := I1.list hqx
      obtain ⟨its2, rv2, p2, hz2⟩ := I1.list hqy
      have la : a < s1.heap.objs.size := p1.lt
      have lb : b < s1.heap.objs.size := p2.lt
      have l1 : its.length = ks.length := by have := rv.length; rw [List.length_map] at this; omega
      have l2 : its2.length = xs.length := rv2.length.symm
      refine call_zip_2 p1.isList p2.isList fun h' hz hTI hTO h1 h2 hsz hk => ?_
      refine Calls.spliced_nil ?_
      refine PySem.call_dict_pairs (knd := mixKind X.prog X.w) (kvs := ks.zip its2) (PairArg.zip _ _ _ _ _ _ _ (PySem.W.ktu_apart s1.heap.objs.size a b la lb) its.toArray its2.toArray) (I1.ok.hd hcalm)
        ⟨hz, hTI, ⟨_, _, hTO⟩, h1, h2, p1.isList.at fun o q => hk _ _ q, p2.isList.at fun o q => hk _ _ q⟩ ⟨?_, fun i key v hr => ?_⟩ ?_ fun h'' tk hd' k => ?_
      · simp [l1, l2]
      · obtain ⟨hr1, hr2⟩ := hr
        have g1 : its[i]? = some key := by simpa using hr1
        have g2 : its2[i]? = some v := by simpa using hr2
        have il : i < ks.length := by
          have := (List.getElem?_eq_some_iff.mp g1).1
          omega
        have gk : (ks.map kV)[i]? = some (kV ks[i]) := by rw [List.getElem?_map, List.getElem?_eq_getElem il]; rfl
        obtain ⟨u, hu, ru⟩ := rv.get gk
        rw [g1] at hu
        cases hu
        refine ⟨ks[i], ?_, kV_is (P := X.prog) (w := X.w) ru⟩
        rw [List.getElem?_zip_eq_some]
        exact ⟨List.getElem?_eq_getElem il, g2⟩
      · have : its.length ≤ sizeLine := by have := rv.length; omega
        simp only [List.size_toArray]
        omega
      · have kk : ∀ b u, s1.heap.get? b = some u → h''.get? b = some u := fun b u e => by
          have lt := Heap.lt_size e
          refine k b u (fun hm => ?_) (hk _ _ e)
          simp only [List.mem_cons, List.not_mem_nil, or_false] at hm
          have lt' : b < s1.heap.objs.size := lt
          rcases hm with z | z | z | z <;> (rw [z] at lt'; first | exact Nat.lt_irrefl _ lt' | exact Nat.not_lt.mpr (Nat.le_add_right _ _) lt')
        have hle : s1.heap.objs.size ≤ h'.objs.size := by omega
        have hm' : (h'.objs.size == sysModules) = false := beq_eq_false_iff_ne.mpr (Nat.ne_of_gt (Nat.lt_of_lt_of_le I1.big hle))
        have rel := kv_zip rv2 hlk
        have hlen : (mergeK [] (ks.zip xs)).length ≤ sizeLine := by
          refine Nat.le_trans (length_mergeK _ []) ?_
          rw [List.length_nil, Nat.zero_add, List.length_zip]
          omega
        exact ⟨.ref h'.objs.size, upd H1 h'.objs.size (.dK (mergeK [] (ks.zip xs))), I1.laid (t' := tk) kk hle (show ObjOk X.prog X.w _ _ _ (.dK (mergeK [] (ks.zip xs))) from ⟨hlen, hm', merged [] (ks.zip its2), KV.merge rel .nil, hd'⟩), rfl, q _ (I1.hok.fresh hle)⟩
end
end KB

set_option Elab.async false
set_option linter.all false
set_option maxRecDepth 100000
set_option maxHeartbeats 4000000
/-! SO: the order of texts; the sorted list. -/
namespace KB
open PySem L2 Evl
def leS (a b : Str) : Bool := !PySem.Spec.ltCps b.cps.toList a.cps.toList
def sortS (ns : List Str) : List Str := ns.mergeSort leS
theorem lt_cons (a b : Nat) (x y : List Nat) : PySem.Spec.ltCps (a :: x) (b :: y) = (decide (a < b) || (decide (a = b) && PySem.Spec.ltCps x y)) := by
  rw [PySem.Spec.ltCps]
  first | rfl | (by_cases h : a < b <;> by_cases h2 : a = b <;> simp [h, h2])
theorem lt_nil (x : List Nat) : PySem.Spec.ltCps x [] = false := by cases x <;> rfl
theorem lt_nil_cons (a : Nat) (x : List Nat) : PySem.Spec.ltCps [] (a :: x) = true := rfl
theorem ltc_trans : ∀ {x y z : List Nat}, PySem.Spec.ltCps x y = true → PySem.Spec.ltCps y z = true → PySem.Spec.ltCps x z = true
  | x, [], _, h, _ => by rw [lt_nil] at h; cases h
  | x, _ :: _, [], _, h => by rw [lt_nil] at h; cases h
  | [], _ :: _, _ :: _, _, _ => rfl
  | a :: x, b :: y, c :: z, h1, h2 => by
    rw [lt_cons, Bool.or_eq_true, Bool.and_eq_true, decide_eq_true_eq, decide_eq_true_eq] at *
    rcases h1 with h1 | ⟨h1, h1'⟩
    · rcases h2 with h2 | ⟨h2, h2'⟩
      · exact .inl (by omega)
      · exact .inl (by omega)
    · rcases h2 with h2 | ⟨h2, h2'⟩
      · exact .inl (by omega)
      · exact .inr ⟨by omega, ltc_trans h1' h2'⟩
theorem ltc_irr : ∀ {x : List Nat}, PySem.Spec.ltCps x x = false
  | [] => rfl
  | a :: x => by
    rw [lt_cons, ltc_irr]
    simp
theorem ltc_anti : ∀ {x y : List Nat}, PySem.Spec.ltCps x y = false → PySem.Spec.ltCps y x = false → x = y
  | [], [], _, _ => rfl
  | [], _ :: _, h, _ => by cases h
  | _ :: _, [], _, h => by cases h
  | a :: x, b :: y, h1, h2 => by
    rw [lt_cons] at h1 h2
    simp only [Bool.or_eq_false_iff, Bool.and_eq_false_iff, decide_eq_false_iff_not] at h1 h2
    have e : a = b := by omega
    subst e
    rw [ltc_anti (x := x) (y := y) (h1.2.resolve_left fun h => h rfl) (h2.2.resolve_left fun h => h rfl)]
theorem leS_trans (a b c : Str) (h1 : leS a b = true) (h2 : leS b c = true) : leS a c = true := by
  unfold leS at *
  simp only [Bool.not_eq_true'] at *
  cases q : PySem.Spec.ltCps c.cps.toList a.cps.toList with
  | false => rfl
  | true =>
    cases z : PySem.Spec.ltCps a.cps.toList b.cps.toList with
    | true => rw [ltc_trans q z] at h2; cases h2
    | false =>
      have e := ltc_anti z h1
      rw [← e] at h2
      rw [q] at h2
      cases h2
theorem leS_total (a b : Str) : (leS a b || leS b a) = true := by
  unfold leS
  cases q : PySem.Spec.ltCps b.cps.toList a.cps.toList with
  | false => rfl
  | true =>
    cases z : PySem.Spec.ltCps a.cps.toList b.cps.toList with
    | false => rfl
    | true =>
      have := ltc_trans q z
      rw [ltc_irr] at this
      cases this
theorem leS_anti {a b : Str} (h1 : leS a b = true) (h2 : leS b a = true) : a = b := by
  unfold leS at *
  simp only [Bool.not_eq_true'] at *
  have := ltc_anti h1 h2
  cases a; cases b
  congr 1
  exact (Array.toList_inj.mp this).symm
theorem sortS_perm (ns : List Str) : (sortS ns).Perm ns := List.mergeSort_perm ..
theorem sortS_pw (ns : List Str) : (sortS ns).Pairwise fun a b => leS a b = true := List.pairwise_mergeSort leS_trans leS_total ns
theorem rising_pw : ∀ {ys : List Str}, PyProof.Rows.sortedS ys = true → ys.Pairwise fun a b => leS a b = true
  | [], _ => .nil
  | [a], _ => List.pairwise_singleton ..
  | a :: b :: r, h => by
    have h : (!PySem.Spec.ltCps b.cps.toList a.cps.toList && PyProof.Rows.risingS b r) = true := h
    rw [Bool.and_eq_true] at h
    have ih := rising_pw (ys := b :: r) h.2
    have hab : leS a b = true := h.1
    refine List.Pairwise.cons (fun z hz => ?_) ih
    rcases List.mem_cons.mp hz with q | q
    · rw [q]; exact hab
    · exact leS_trans a b z hab (List.rel_of_pairwise_cons ih q)
theorem sortS_eq {ns ns' : List Str} (p : ns'.Perm ns) (h : PyProof.Rows.sortedS ns' = true) : ns' = sortS ns :=
  List.Perm.eq_of_pairwise (le := fun a b => leS a b = true) (fun a b _ _ h1 h2 => leS_anti h1 h2) (rising_pw h) (sortS_pw ns) (p.trans (sortS_perm ns).symm)
theorem sortS_of {as bs : List Str} (p : as.Perm bs) : sortS as = sortS bs :=
  List.Perm.eq_of_pairwise (le := fun a b => leS a b = true) (fun a b _ _ h1 h2 => leS_anti h1 h2) (sortS_pw as) (sortS_pw bs) (((sortS_perm as).trans p).trans (sortS_perm bs).symm)
theorem sortS_mem {x : Str} {as : List Str} : x ∈ sortS as ↔ x ∈ as := (sortS_perm as).mem_iff
theorem sortS_len (as : List Str) : (sortS as).length = as.length := (sortS_perm as).length_eq
end KB

set_option Elab.async false
set_option linter.all false
set_option maxRecDepth 100000
set_option maxHeartbeats 8000000
/-! X6: a caught exception that is kept; isinstance of it; calls by keywords that may raise. -/
namespace KB
open PySem PySem.Spec PyProof.Rows L2 Evl
/-- an exception of the class cls, its own dict d, at a -/
def ErO (cls : Value) (d : Option Addr) (a : Addr) : HO := .ext fun h => ∃ (oe : Obj) (vs : Array Value), h.get? a = some oe ∧ Zc cls d oe ∧ oe.data = .fields vs
theorem erO_ok {P : Program} {w : World} {H : Hp} {h : Heap} {a : Addr} {cls : Value} {d : Option Addr} {oe : Obj} {vs : Array Value} (e : h.get? a = some oe) (z : Zc cls d oe) (dd : oe.data = .fields vs) : ObjOk P w H h a (ErO cls d a) :=
  ⟨⟨oe, vs, e, z, dd⟩, ⟨oe, e⟩, fun _ _ ⟨o, v, q, r⟩ k => ⟨o, v, k o q, r⟩⟩
section
variable {X : Cx} {pins : List (Addr × Obj)} {σ : L2.St} {H : Hp} {s : Shared}
theorem inv_suiteK (I : Inv X pins σ H s) (a : Addr) : Inv (X.suite a (X.pn ++ pins)) [] σ H s :=
  ⟨I.ok.suite _ _, I.os, I.bare, I.base, I.loc, I.cell, I.free, I.freeC, fun p hp => I.pin p (by rw [List.append_nil] at hp; exact hp), I.hok, I.len⟩
theorem inv_unsuiteK {a : Addr} {pn' : List (Addr × Obj)} (I : Inv (X.suite a (X.pn ++ pins)) pn' σ H s) (ok : X.Ok) : Inv X pins σ H s :=
  ⟨ok, I.os, I.bare, I.base, I.loc, I.cell, I.free, I.freeC, fun p hp => I.pin p (List.mem_append_left _ hp), I.hok, I.len⟩
end
/-- what the clause 'except x as n' wishes, the exception told of from then on: slot i is n's -/
def wKeep (K : PySem.W.Frag) (c : Value) (i : Nat) (ts : Addr → Value → Option Addr → TS) (Wout : WX) (D : Ends) : WX := fun cls d σ H =>
  ∃ b, PySem.W.exmOne K cls c = some b ∧ (b = true → ∀ a, H a = none → ts a cls d { nx := fun σ' H' => D.nx (σ'.set i none) H', rt := D.rt, bk := fun σ' H' => D.bk (σ'.set i none) H', ct := fun σ' H' => D.ct (σ'.set i none) H' } (σ.set i (some (.ref a))) (upd H a (ErO cls d a))) ∧
    (b = false → Wout cls d σ H)
section
variable {X : Cx} {x n : Str} {c : Value} {i : Nat} {body suite : List Stmt} {b₀ : Stmt} {np pos pos' : Pos} {tb : WX → TS} {ts : Addr → Value → Option Addr → TS} {Wout : WX}
theorem ps_try_keep (hs : X.stack = X.env :: X.outer) (hf : X.env.frame = some X.env.locals) (hN : X.N.Nodup) (hi : X.N[i]? = some n) (hln : X.env.kindOf n = some .local) (hc : Names X x c) (tk : Takes X Wout)
    (hb : ∀ (W : WX) (pn : List (Addr × Obj)) (xe : Value → Shared → Prop), Takes (X.tr pn xe) W → PassesOwn (model X.prog X.w) X.A X.env xe → PSs (X.tr pn xe) body (tb W))
    (hsu : ∀ (a : Addr) (cls : Value) (d : Option Addr) (pn : List (Addr × Obj)), PSs (X.suite a pn) (b₀ :: suite) (ts a cls d)) :
    PS X (.Try body [.ExceptHandler (some (.Name x np)) (some n) (b₀ :: suite) pos'] [] [] pos) (fun D σ H => tb (wKeep X.K c i ts Wout D) D σ H) := by
  refine ⟨fun pins s σ H D I h => ?_⟩
  have ok := I.ok
  have hfr : X.A.frames = some (X.env :: X.outer) := by rw [ok.frames, hs]
  have hloc : Loc X.env.scope n := .inl hln
  refine wpAny_Try_except ?_
  refine wpAny_mono ((hb (wKeep X.K c i ts Wout D) (X.pn ++ pins) (fun e s₁ => wpAny (model X.prog X.w) X.A (noteFrame e X.env) (fun _ s₂ => wpAny (model X.prog X.w) X.A (setFlight e none) (fun _ s₃ =>
    wpAny (model X.prog X.w) X.A (handleBy e X.env [.ExceptHandler (some (.Name x np)) (some n) (b₀ :: suite) pos']) (SP X pins D) X.xe s₃) X.xe s₂) X.xe s₁) (fun u s' xx => ?_) PassesOwn.looking).run [] s σ H D (I.toTry _) h) (fun f s1 hsp => ?_) (fun e s1 he => he)
  · obtain ⟨a, B, sI, pins', σ', H', cls, d, rfl, J', nb, up, sky, na, os, ag, b, hb1, hyes, hno⟩ := xx
    have J : Inv X pins σ' H' sI := J'.ofTry ok
    have sky' : Sky B (X.env :: X.outer) a (Zc cls d) X.env.locals s'.heap := by rw [← hs]; exact sky
    show wpAny (model X.prog X.w) X.A (noteFrame (.ref a) X.env) _ _ _
    refine Sky.land Zc.steady hfr hf sky' fun h3 fl3 up3 => ?_
    have J3 : Inv X pins σ' H' { s' with heap := h3 } := J.landed nb fl3.1 (up.trans up3) os ag
    obtain ⟨oe3, vs3, he3, hz3, hd3⟩ := fl3.there
    have notFr : ∀ {h : Heap} {o : Obj} {vs : Array Value}, h.FunFrames B (X.env :: X.outer) → h.get? a = some o → o.data = .fields vs → a ∉ frs (X.env :: X.outer) := fun {h o vs} ff e dd hm => by
      obtain ⟨_, o', e', hnf⟩ := ff.mem hm
      rw [e] at e'; cases e'
      exact hnf _ dd
    have nfr := notFr fl3.2.2.1 he3 hd3
    have nL : a ≠ X.env.locals := fun z => nfr (List.mem_filterMap.mpr ⟨X.env, List.mem_cons_self, by rw [hf, z]⟩)
    have nF : a ∉ X.fs := fun hm => by
      obtain ⟨e, he, q⟩ := List.mem_filterMap.mp hm
      exact nfr (List.mem_filterMap.mpr ⟨e, List.mem_cons_of_mem _ he, q⟩)
    have S3 := J3.suite he3 hd3 na nL nF
    refine wpAny_handleBy_cons (codeAny_handlers_test ?_) (by intro q; cases q)
    have LT : PySem.W.Looks (model X.prog X.w) h3 (typeOf (.ref a)) cls := fun A Q E s k q => wpAny_typeOf_ref (k _ _ he3) (by rw [hz3.1]; exact q)
    have LM := PySem.W.exm_one (M := model X.prog X.w) (J3.kIn) LT hb1
    have test : ∀ {Q : Value → Shared → Prop} {E : Value → Shared → Prop}, Q c { s' with heap := h3 } → wpAny (model X.prog X.w) (X.A.mark (some (.ref a))) (eval (.Name x np) X.env) Q E { s' with heap := h3 } := fun {Q E} q => by
      obtain ⟨hg, hdbg, hm | ⟨hm, hv, hnn⟩⟩ := hc
      · exact ld_glob (X := X.suite a ((a, oe3) :: (X.pn ++ pins))) S3 hg hm q hdbg
      · exact ld_blt (X := X.suite a ((a, oe3) :: (X.pn ++ pins))) S3 hg hm hv q hnn hdbg
    refine test (LM.here ?_)
    cases b with
    | true =>
      refine codeAny_handlers_suite_as ?_
      refine HandSPX.lands_againZ fl3 fun h4 fl4 up4 => ?_
      obtain ⟨oe4, vs4, he4, hz4, hd4⟩ := fl4.there
      have sIa : sI.heap.get? a = none := by
        cases e : sI.heap.get? a with
        | none => rfl
        | some o =>
          have z := nb a o e (by rw [hs]; exact nfr)
          rw [fl3.2.1] at z
          cases z
      obtain ⟨G, g1, g2⟩ := restrict h4 fun b => decide (b ≠ a)
      have stG : B.StaysIn G := fun b o e => by
        have hb : b ≠ a := fun z => by rw [z, fl3.2.1] at e; cases e
        rw [g1 b (decide_eq_true hb)]
        exact fl4.1 b o e
      have upG : sI.heap.UpToSlots G := fun b o e hnf => by
        have hb : b ≠ a := fun z => by rw [z, sIa] at e; cases e
        obtain ⟨sl, q⟩ := ((up.trans up3).trans up4) b o e hnf
        exact ⟨sl, by rw [g1 b (decide_eq_true hb)]; exact q⟩
      have JG : Inv X pins σ' H' { s' with heap := G } := J.landed nb stG upG os ag
      have Ga : G.get? a = none := g2 a (by simp)
      have JK : Inv X pins σ' (upd H' a (ErO cls d a)) { s' with heap := h4 } := JG.laidN (h' := h4) (t' := s'.toks) (fun b u e => by
        have hb : b ≠ a := fun z => by
          have e' : G.get? b = some u := e
          rw [z, Ga] at e'
          cases e'
        exact (g1 b (decide_eq_true hb)).symm.trans e) Ga na (erO_ok he4 hz4 hd4)
      have S4 := inv_suiteK JK a
      refine store_ok (X := X.suite a (X.pn ++ pins)) (v := .ref a) S4 hN hi hloc rfl (fun s5 S5 => ?_) (.inr hln)
      refine wpAny_mono ((hsu a cls d (X.pn ++ pins)).run [] s5 _ _ _ S5 (hyes rfl a na)) (fun f s6 hsp => ?_) (fun _ _ z => False.elim z)
      have end_ : ∀ {σ6 : L2.St} {H6 : Hp} {Q : Shared → Prop}, Inv (X.suite a (X.pn ++ pins)) [] σ6 H6 s6 → (∀ s7, Inv X pins (σ6.set i none) H6 s7 → Q s7) →
          wpAny (model X.prog X.w) X.A (do bindName X.env n .none; unbindBehindTheSuite X.env n pos') (fun _ s7 => Q s7) X.xe s6 := fun {σ6 H6 Q} S6 hq => gone_ok (inv_unsuiteK S6 ok) hN hi hln hq
      cases f with
      | next =>
        obtain ⟨σ6, H6, S6, q6⟩ := hsp
        exact end_ S6 fun s7 J7 => ⟨_, _, J7, q6⟩
      | brk =>
        obtain ⟨σ6, H6, S6, q6⟩ := hsp
        exact end_ S6 fun s7 J7 => ⟨_, _, J7, q6⟩
      | cont =>
        obtain ⟨σ6, H6, S6, q6⟩ := hsp
        exact end_ S6 fun s7 J7 => ⟨_, _, J7, q6⟩
      | ret u =>
        obtain ⟨v6, σ6, H6, S6, r6, q6⟩ := hsp
        exact end_ S6 fun s7 J7 => ⟨_, _, _, J7, r6, q6⟩
    | false =>
      show wpAny _ X.A (handleBy (.ref a) X.env []) _ _ _
      refine wpAny_handleBy_nil ?_
      obtain ⟨k1, k2, k3, oe, vs, T, oT, ts', he, hz, hd, h1, hr⟩ := id fl3
      unfold PySem.passOn
      refine wpAny_bind (wpAny_field he hd h1 ?_)
      rw [if_neg (show ¬ ((Value.ref T == Value.none) = true) from by simp)]
      have fin : wpAny (model X.prog X.w) X.A (setFlight (.ref a) X.env.frame) (fun _ s4 => wpAny (model X.prog X.w) X.A (throw (.ref a) : Sem Flow) (SP X pins D) X.xe s4) X.xe { s' with heap := h3 } := by
        rw [hf]
        refine HandSPX.setFlight_upZ fl3 fun h4 hh4 up4 => wpAny_throw (tk _ _ ?_)
        exact ⟨a, B, sI, pins, σ', H', cls, d, rfl, J, nb, (up.trans up3).trans up4, .inr (.inr (by rw [hs]; exact hh4)), na, os, ag, hno rfl⟩
      first
        | exact wpAny_bind (wpAny_pure (wpAny_bind fin))
        | exact wpAny_bind fin
  · cases f with
    | next =>
      obtain ⟨σ', H', J', q⟩ := hsp
      exact wpAny_execs_nil ⟨σ', H', J'.ofTry ok, q⟩
    | brk =>
      obtain ⟨σ', H', J', q⟩ := hsp
      exact ⟨σ', H', J'.ofTry ok, q⟩
    | cont =>
      obtain ⟨σ', H', J', q⟩ := hsp
      exact ⟨σ', H', J'.ofTry ok, q⟩
    | ret u =>
      obtain ⟨v, σ', H', J', r, q⟩ := hsp
      exact ⟨v, σ', H', J'.ofTry ok, r, q⟩
end
/-! ### isinstance of it -/
/-- isinstance(e, c), e a kept exception -/
def rIsX (K : PySem.W.Frag) : List V → Hp → VK → Prop := fun xs H Q => ∃ (a D : Addr) (c : V) (cv : Value) (b : Bool), xs = [.ref a, c] ∧ H a = some (ErO (.ref D) none a) ∧ ExcC K D ∧ ClsV c cv ∧ PySem.W.kitOne K (.ref D) cv = some b ∧ Q (.bl b) H
def rIsXT (K : PySem.W.Frag) : List V → Hp → VK → Prop := fun xs H Q => ∃ (a D tp : Addr) (cs : List V) (us : List Value) (b : Bool), xs = [.ref a, .ref tp] ∧ H a = some (ErO (.ref D) none a) ∧ ExcC K D ∧ H tp = some (.tup cs) ∧ Paired ClsV cs us ∧ PySem.W.kitAny K (.ref D) us = some b ∧ Q (.bl b) H
section
variable {X : Cx}
theorem inst_of {pins : List (Addr × Obj)} {σ : L2.St} {H : Hp} {s : Shared} {a D : Addr} (I : Inv X pins σ H s) (ha : H a = some (ErO (.ref D) none a)) : ∃ oe, PySem.W.InstAt s.heap a oe D none := by
  obtain ⟨⟨oe, vs, hget, hz, hv⟩, _, _⟩ := (show ObjOk X.prog X.w H s.heap a (ErO (.ref D) none a) from I.hok a _ ha)
  refine ⟨oe, ?_⟩
  obtain ⟨oc, od, oda, osl⟩ := oe
  obtain ⟨h1, h2⟩ := hz
  dsimp only at h1 h2 hv
  subst h1 h2 hv
  exact ⟨hget, rfl, rfl, trivial⟩
theorem call_isX : CallR X (.builtin "isinstance") (rIsX X.K) := by
  intro pins s σ H xs us Q I r h
  obtain ⟨a, D, c, cv, b, rfl, ha, C, k, e, q⟩ := h
  obtain ⟨u1, u2, rfl, r1, r2⟩ := vals2 r
  cases (show u1 = Value.ref a from r1)
  have e2 := k.eq r2
  subst e2
  obtain ⟨oe, J⟩ := inst_of I ha
  exact PySem.W.kia_one (PySem.W.handS_kitx_exc C.hg C.hk C.hs C.hd C.ha C.hn C.ht C.hm) I.kIn J e (fun z => nomatch z) fun tk => ⟨.bl b, H, I.kept (t' := tk) fun _ _ z => z, rfl, q⟩
theorem call_isXT : CallR X (.builtin "isinstance") (rIsXT X.K) := by
  intro pins s σ H xs us Q I r h
  obtain ⟨a, D, tp, cs, ws, b, rfl, ha, C, hT, k, e, q⟩ := h
  obtain ⟨u1, u2, rfl, r1, r2⟩ := vals2 r
  cases (show u1 = Value.ref a from r1)
  cases (show u2 = Value.ref tp from r2)
  obtain ⟨oe, J⟩ := inst_of I ha
  obtain ⟨_, its, rv, o, h1, h2, n, h3⟩ := (show ObjOk X.prog X.w H s.heap tp (.tup cs) from I.hok tp _ hT)
  have e3 := ClsV.all k rv
  subst e3
  obtain ⟨oc, od, dt, sl⟩ := o
  simp only at h2 h3
  subst h2 h3
  exact PySem.W.kia_tup (PySem.W.handS_kitx_exc C.hg C.hk C.hs C.hd C.ha C.hn C.ht C.hm) I.kIn J h1 e (fun z => nomatch z) fun tk => ⟨.bl b, H, I.kept (t' := tk) fun _ _ z => z, rfl, q⟩
end
section
variable {K : PySem.W.Frag} {σ : L2.St} {H : Hp} {ta tb : TE} {a D : Addr}
theorem ev_isX {c : V} {cv : Value} {b : Bool} (ha : Ev ta σ H (.ref a)) (he : H a = some (ErO (.ref D) none a)) (hC : ExcC K D) (hb : Ev tb σ H c) (hc : ClsV c cv) (hk : PySem.W.kitOne K (.ref D) cv = some b) : Ev (tCB (rIsX K) (tCons ta (tCons tb tNil))) σ H (.bl b) := fun H1 e Q q =>
  ha H1 e _ fun H2 e2 => hb H2 (e.trans e2) _ fun H3 e3 => ⟨a, D, c, cv, b, rfl, ((e.trans e2).trans e3) _ _ he, hC, hc, hk, q H3 (e2.trans e3)⟩
theorem ev_isXT {tc : TA} {cs : List V} {us : List Value} {b : Bool} (ha : Ev ta σ H (.ref a)) (he : H a = some (ErO (.ref D) none a)) (hC : ExcC K D) (hb : EvA tc σ H cs) (hn : cs.length ≤ 100000) (hc : Paired ClsV cs us) (hk : PySem.W.kitAny K (.ref D) us = some b) : Ev (tCB (rIsXT K) (tCons ta (tCons (tTup tc) tNil))) σ H (.bl b) := fun H1 e Q q =>
  ha H1 e _ fun H2 e2 => hb H2 (e.trans e2) _ fun H3 e3 => ⟨sz_of hn, fun tp htp => ⟨a, D, tp, cs, us, b, rfl, Ex.new htp _ _ (((e.trans e2).trans e3) _ _ he), hC, upd_same, hc, hk, q _ ((e2.trans e3).trans (Ex.new htp))⟩⟩
end
/-! ### calls by keywords that may raise -/
structure ClXK (P : Program) (w : World) (K : PySem.W.Frag) (mg : Str → Option Value) (base : Heap) (k : Nat) (x : Str) (ps ks : List Str) (gV : List V → List V → List V) (sp : Sp) : Prop where
  ex : ∃ (f : Addr) (fd : FuncData) (g : List Value → List Value → List Value), FnOk P w K mg base (L2.CX P w) k f fd ps sp ∧ mg x = some (.ref f) ∧ PySem.W.keepIn K (.ref f) = true ∧ KBinds K fd ps ks g gV
section
variable {X : Cx} {k j : Nat} {ps ks : List Str} {sp : Sp} {x : Str} {p pos : Pos} {kws : List Keyword} {tk : TA} {gV : List V → List V → List V} {W : WX}
def tCallKS (sp : Sp) (gV : List V → List V → List V) (E : L2.St → XK) (tk : TA) : TE := fun σ H Q => tk σ H fun zs H2 => sp (gV [] zs) H2 Q (E σ)
theorem pe_clXK (c : ClXK X.prog X.w X.K X.mg X.base k x ps ks gV sp) (tkW : Takes X W) (hr : Room j X.A) (hkw : PK X kws tk) (hk : k ≤ j := by decide) (hg : Gl X x := by rfl)
    (hall : (backToKw pos (keywordEach kws X.env)).all (·.1.isSome) = true := by rfl) (hks : (backToKw pos (keywordEach kws X.env)).filterMap (·.1) = ks := by rfl)
    (hdb : (x == ("__debug__" : Str)) = false := by decide) (hpl : ((backTo pos (starEach [] X.env)).any (·.1) || (backToKw pos (keywordEach kws X.env)).any (·.1.isNone)) = false := by rfl) : PE X (.Call (.Name x p) [] kws pos) (tCallKS sp gV (WE W) tk) := by
  obtain ⟨f, fd, g, F, hm, kp, hb⟩ := c.ex
  refine ⟨fun pins s σ H Q I h => wpAny_Call_Name_kw (ld_glob I hg hm (PySem.W.callWith_KW0 (h₀ := X.base) I.ok.mod.kin kp hall ?_ hpl) hdb)⟩
  refine thn (hkw.run pos pins s σ H _ I h) fun ws s2 ⟨zs, H2, I2, rz, q2⟩ => ⟨I2.kIn, ?_⟩
  rw [hks]
  have r2 := hb.rel (.nil : Vals [] []) rz
  have hl : (g [] ws).length = ps.length := by rw [← r2.length]; exact F.len _ _ _ _ q2
  refine wpAny_call (codeAny_mono (F.run X.A X.stack s2 H2 ⟨[], ks.zip ws⟩ (g [] ws) (gV [] zs) Q (WE W σ) (hr.mono hk) I2.env0 (hb.to s2 [] ws I2.kIn hl) r2 q2) fun r s' hq => ?_)
  cases r with
  | error e => exact passAt tkW σ pins H2 s2 e s' I2 hq
  | ok fl =>
    cases fl with
    | ret u => exact I2.after hq
    | next => exact False.elim hq
    | brk => exact False.elim hq
    | cont => exact False.elim hq
end
end KB

set_option Elab.async false
set_option linter.all false
set_option maxRecDepth 100000
set_option maxHeartbeats 4000000
/-! KL1: the law's source of numbers and its draws. -/
namespace KB
open PySem L2 Evl
structure Bl (mg : Str → Option Value) : Prop where
  max : mg "max" = none
  abs : mg "abs" = none
  repr : mg "repr" = none
theorem bt_max : bootBuiltins "max" = some (.builtin "max") := by decide +kernel
theorem bt_abs : bootBuiltins "abs" = some (.builtin "abs") := by decide +kernel
theorem bt_repr : bootBuiltins "repr" = some (.builtin "repr") := by decide +kernel
section
variable {P : Program} {w : World} {K : PySem.W.Frag} {mg : Str → Option Value} {base : Heap}
theorem scSource : FnScope ["script", "k", "cell"] ["script", "k"] (defScope sSource) := ⟨rfl, rfl, rfl, by decide +kernel, rfl, by decide +kernel, by decide +kernel⟩
def spSource (K : PySem.W.Frag) : Sp := fun vs H Q _ => ∃ (a : Addr) (k : Nat) (ns : List Int), vs = [.ref a, .int (k : Int)] ∧ SqL K H a (ns.map V.int) ∧ k ≤ 100 ∧ ∀ p H2, H p = none → Ex H H2 → SrcAt H2 p 0 → Q (.ref p) H2
theorem cell_le {ns : List Int} {k : Nat} (h : k < ns.length) : atI (ns.map V.int) ((k : Nat) : Int) = some (V.int (ns.getD k 0)) := by
  refine atI_nat ?_
  rw [List.getElem?_map, List.getElem?_eq_getElem h, List.getD_eq_getElem?_getD, List.getElem?_eq_getElem h]
  rfl
theorem ok_source {f : Addr} {fd : FuncData} (F : Fun K "_law_source" "_law_source" sSource f fd) (B : Bn mg) (B2 : Bl mg) : FnOk P w K mg base CX0 1 f fd ["script", "k"] (spSource K) := by
  refine F.ok scSource (fun vs H Q E h => ?_) (fun cdv A outer s H vs Q E hr h => ?_)
  · obtain ⟨a, k, ns, rfl, _⟩ := h
    rfl
  · obtain ⟨a, k, ns, rfl, hs, hk, q⟩ := h
    refine ⟨_, pss_cons (ps_set (i := 2) scSource.nd rfl (Or.inl rfl) (pe_ifExp (pt_cmpR op_lt (pv 1) (pe_callB call_len_seq (by rfl) B.len bt_len (pa_cons (pv 0) pa_nil)) (nomark _)) (pe_ix ix_list (pv 0) (pv 1) (fun _ _ => rfl)) pe_int))
      (pss_one (ps_ret (pe_lst (pa_cons (pe_callB (call_max2 rfl) (by rfl) B2.max bt_max (pa_cons pe_int (pa_cons (pe_op op_sub (pe_callB call_abs (by rfl) B2.abs bt_abs (pa_cons (pv 2) pa_nil)) (pe_op op_pow pe_int pe_int)) pa_nil)))
        (pa_cons (pe_op op_add (pe_op op_mod (pv 2) (pe_op op_add (pe_op op_pow pe_int pe_int) pe_int)) (pe_op op_mul pe_int (pv 1))) (pa_cons pe_int pa_nil)))))), ?_⟩
    have hm : (ns.map V.int).length = ns.length := List.length_map ..
    refine q_asg (v := .int (ns.getD k 0)) (ev_if (b := decide ((k : Int) < ((ns.map V.int).length : Int))) (et_test (ev_op (ev_var rfl) (ev_len (ev_var rfl) hs) rv_I0)) (fun hb => ?_) (fun hb => ?_)) fun H1 e1 => ?_
    · rw [decide_eq_true_eq, hm] at hb
      exact ev_op (ev_var rfl) (ev_var rfl) (rv_ixL hs (cell_le (by omega)))
    · rw [decide_eq_false_iff_not, hm] at hb
      have e0 : ns.getD k 0 = 0 := by
        rw [List.getD_eq_getElem?_getD, List.getElem?_eq_none (by omega)]
        rfl
      rw [e0]
      exact ev_c
    · generalize ns.getD k 0 = c
      refine s_retL (xs := [.int (if (if c < 0 then -c else c) - 10 ^ (18 : Int).toNat > 0 then (if c < 0 then -c else c) - 10 ^ (18 : Int).toNat else 0), .int (c % (10 ^ (39 : Int).toNat + 7) + 27644437 * (k : Int)), .int 0]) (el_lst (ea_cons ?_ (ea_cons ?_ (ea_cons ev_c ea_nil))) (show 3 ≤ 100000 by decide)) fun p H2 hp e2 h2 => q p H2 (fresh_back e1 hp) (e1.trans e2) ⟨_, _, _, h2, ?_, ?_, ?_, by decide, by decide⟩
      · exact ev_cb (ea_cons ev_c (ea_cons (ev_op (ev_cb (ea_cons (ev_var rfl) ea_nil) fun H7 e7 Q' k => ⟨_, rfl, k H7 (Ex.refl H7)⟩) (ev_op ev_c ev_c (rv_I ⟨by decide, by decide, by decide⟩)) rv_I0) ea_nil)) fun H7 e7 Q' k => ⟨_, _, rfl, k H7 (Ex.refl H7)⟩
      · refine ev_op (ev_op (ev_var rfl) (ev_op (ev_op ev_c ev_c (rv_I ⟨by decide, by decide, by decide⟩)) ev_c rv_I0) (rv_I (show (0 : Int) < 10 ^ (39 : Int).toNat + 7 by decide))) (ev_op ev_c (ev_var rfl) (rv_I (.inl ⟨by decide, by decide⟩))) rv_I0
      · split <;> omega
      · have h1 : 0 ≤ c % (10 ^ (39 : Int).toNat + 7) := Int.emod_nonneg _ (by decide)
        omega
      · have h1 : c % (10 ^ (39 : Int).toNat + 7) < 10 ^ (39 : Int).toNat + 7 := Int.emod_lt_of_pos _ (by decide)
        have h2 : ((10 : Int) ^ (39 : Int).toNat + 7) + 27644437 * 100 < 2 ^ 200 := by decide
        have h3 : 27644437 * (k : Int) ≤ 27644437 * 100 := by omega
        generalize (10 : Int) ^ (39 : Int).toNat + 7 = m at h1 h2 ⊢
        generalize (2 : Int) ^ 200 = b at h2 ⊢
        omega

/-! _law_draw -/
theorem scDraw : FnScope ["source", "bound", "found", "mixed"] ["source", "bound"] (defScope sDraw) := ⟨rfl, rfl, rfl, by decide +kernel, rfl, by decide +kernel, by decide +kernel⟩
def spDraw : Sp := fun vs H Q _ => ∃ (a : Addr) (b B : Int), vs = [.ref a, .int b] ∧ 0 < b ∧ b ≤ 100000 ∧ SrcAt H a B ∧ B ≤ 1000000 ∧ ∀ d H2, 0 ≤ d → d < b → Ex (hid H a) H2 → SrcAt H2 a (B + 1) → Q (.int d) H2
theorem mix_fit {y z : Int} (h1 : 0 ≤ y) (h2 : y < 2 ^ 200) (h3 : 0 ≤ z) (h4 : z ≤ 1000002) : PowFit (y + 86028121 * z) 3 := by
  refine ⟨by decide, by decide, ?_⟩
  have h5 : y + 86028121 * z < 2 ^ 201 := by
    have : (2 : Int) ^ 201 = 2 ^ 200 + 2 ^ 200 := by decide
    have h6 : (86028121 * 1000002 : Int) < 2 ^ 200 := by decide
    rw [this]
    generalize (2 : Int) ^ 200 = b at *
    omega
  have h7 : (2 : Int) ^ 201 < 2 ^ 250 := by decide
  have h8 : (y + 86028121 * z).natAbs < 2 ^ 250 := by
    have h9 : ((y + 86028121 * z).natAbs : Int) < ((2 ^ 250 : Nat) : Int) := by
      rw [Int.natAbs_of_nonneg (by omega)]
      exact Int.lt_trans h5 h7
    exact Int.ofNat_lt.mp h9
  exact h8
theorem mix_fit2 {m z : Int} (h1 : 0 ≤ m) (h2 : m < 10 ^ (38 : Int).toNat + 133) (h3 : 0 ≤ z) (h4 : z ≤ 1000002) : PowFit (m + 32452843 * z) 3 := by
  refine ⟨by decide, by decide, ?_⟩
  have h5 : m + 32452843 * z < 2 ^ 250 := by
    have h6 : (10 : Int) ^ (38 : Int).toNat + 133 + 32452843 * 1000002 < 2 ^ 250 := by decide
    generalize (10 : Int) ^ (38 : Int).toNat + 133 = c at *
    generalize (2 : Int) ^ 300 = b at *
    omega
  have h9 : ((m + 32452843 * z).natAbs : Int) < ((2 ^ 250 : Nat) : Int) := by
    rw [Int.natAbs_of_nonneg (by omega)]
    exact h5
  exact Int.ofNat_lt.mp h9
theorem ok_draw {f : Addr} {fd : FuncData} (F : Fun K "_law_draw" "_law_draw" sDraw f fd) : FnOk P w K mg base CX0 1 f fd ["source", "bound"] spDraw := by
  refine F.ok scDraw (fun vs H Q E h => ?_) (fun cdv A outer s H vs Q E hr h => ?_)
  · obtain ⟨a, b, B, rfl, _⟩ := h
    rfl
  · obtain ⟨a, b, B, rfl, hb0, hb1, hS, hB, q⟩ := h
    obtain ⟨x, y, z, ha, hx, hy, hy2, hz, hz2⟩ := hS
    refine ⟨_, pss_cons (ps_if (pt_cmpR op_gt (pe_ix ix_list (pv 0) pe_int (fun _ _ => rfl)) pe_int (nomark _))
        (pss_cons (ps_set (i := 2) scDraw.nd rfl (Or.inl rfl) (pe_op op_mod (pe_ix ix_list (pv 0) pe_int (fun _ _ => rfl)) (pv 1)))
        (pss_cons (ps_asg (pe_op op_fdiv (pe_ix ix_list (pv 0) pe_int (fun _ _ => rfl)) (pv 1)) (pg_sub (pv 0) pe_int set_list))
        (pss_one (ps_ret (pv 2))))) pss_nil)
      (pss_cons (ps_asg (pe_op op_add (pe_ix ix_list (pv 0) pe_int (fun _ _ => rfl)) pe_int) (pg_sub (pv 0) pe_int set_list))
      (pss_cons (ps_set (i := 3) scDraw.nd rfl (Or.inl rfl) (pe_op op_mod (pe_op op_powF (pe_op op_add (pe_ix ix_list (pv 0) pe_int (fun _ _ => rfl)) (pe_op op_mul pe_int (pe_ix ix_list (pv 0) pe_int (fun _ _ => rfl)))) pe_int) (pe_op op_add (pe_op op_pow pe_int pe_int) pe_int)))
      (pss_cons (ps_set (i := 3) scDraw.nd rfl (Or.inl rfl) (pe_op op_mod (pe_op op_powF (pe_op op_add (pv 3) (pe_op op_mul pe_int (pe_ix ix_list (pv 0) pe_int (fun _ _ => rfl)))) pe_int) (pe_op op_add (pe_op op_pow pe_int pe_int) pe_int)))
      (pss_one (ps_ret (pe_op op_mod (pe_op op_fdiv (pv 3) pe_int) (pv 1))))))), ?_⟩
    have ix : ∀ {H' : Hp} {σ : L2.St} {xs : List V} (j : Nat) {v : V}, σ[0]? = some (some (.ref a)) → H' a = some (.lst xs) → xs[j]? = some v → Ev (tOp (rIxL K) (tVar 0) (tC (.int (j : Int)))) σ H' v := fun {_ _ _} j {_} hv hh hj => ev_op (ev_var hv) ev_c (rv_ixL (sq_of hh) (atI_nat hj))
    refine q_when (b := decide (0 < x)) (et_test (ev_op (ix 0 rfl ha rfl) ev_c rv_I0)) (fun hc H1 e1 => ?_) (fun hc H1 e1 => ?_)
    · have a1 := e1 a _ ha
      refine q_asg (ev_op (ix 0 rfl a1 rfl) (ev_var rfl) (rv_I hb0)) fun H2 e2 => ?_
      have a2 := e2 a _ a1
      refine q_setL (j := 0) a2 (ev_op (ix 0 rfl a2 rfl) (ev_var rfl) (rv_I ⟨hb0, by omega⟩)) (ev_var rfl) ev_c (show 0 < 3 by decide) fun H3 e3 => ?_
      refine s_ret (ev_var rfl) fun H4 e4 => q _ H4 (Int.emod_nonneg _ (by omega)) (Int.emod_lt_of_pos _ hb0) ?_ ⟨_, y, z, e4 a _ upd_same, Int.ediv_nonneg hx (by omega), hy, hy2, hz, by omega⟩
      exact (Ex.mut (hidE ((e1.trans e2).trans e3) a) hid_self).trans e4
    · have a1 := e1 a _ ha
      refine q_setL (j := 2) a1 (ev_op (ix 2 rfl a1 rfl) ev_c rv_I0) (ev_var rfl) ev_c (show 2 < 3 by decide) fun H2 e2 => ?_
      have a2 : (upd H2 a (.lst [.int x, .int y, .int (z + 1)])) a = _ := upd_same
      have ex2 := Ex.mut (hidE (e1.trans e2) a) (p := a) (o := .lst [.int x, .int y, .int (z + 1)]) hid_self
      show _
      refine q_asg (ev_op (ev_op (ev_op (ix 1 rfl a2 rfl) (ev_op ev_c (ix 2 rfl a2 rfl) (rv_I (.inl ⟨by decide, by decide⟩))) rv_I0) ev_c (rv_I (mix_fit hy hy2 (by omega) (by omega)))) (ev_op (ev_op ev_c ev_c (rv_I ⟨by decide, by decide, by decide⟩)) ev_c rv_I0) (rv_I (show (0 : Int) < 10 ^ (38 : Int).toNat + 133 by decide))) fun H3 e3 => ?_
      have a3 := e3 a _ a2
      have m0 : 0 ≤ (y + 86028121 * (z + 1)) ^ (3 : Int).toNat % (10 ^ (38 : Int).toNat + 133) := Int.emod_nonneg _ (by decide)
      have m1 : (y + 86028121 * (z + 1)) ^ (3 : Int).toNat % (10 ^ (38 : Int).toNat + 133) < 10 ^ (38 : Int).toNat + 133 := Int.emod_lt_of_pos _ (by decide)
      generalize (y + 86028121 * (z + 1)) ^ (3 : Int).toNat % (10 ^ (38 : Int).toNat + 133) = m at m0 m1 ⊢
      refine q_asg (ev_op (ev_op (ev_op (ev_var rfl) (ev_op ev_c (ix 2 rfl a3 rfl) (rv_I (.inl ⟨by decide, by decide⟩))) rv_I0) ev_c (rv_I (mix_fit2 m0 m1 (by omega) (by omega)))) (ev_op (ev_op ev_c ev_c (rv_I ⟨by decide, by decide, by decide⟩)) ev_c rv_I0) (rv_I (show (0 : Int) < 10 ^ (37 : Int).toNat + 43 by decide))) fun H4 e4 => ?_
      refine s_ret (ev_op (ev_op (ev_var rfl) ev_c (rv_I ⟨by decide, by decide⟩)) (ev_var rfl) (rv_I hb0)) fun H5 e5 => q _ H5 (Int.emod_nonneg _ (by omega)) (Int.emod_lt_of_pos _ hb0) ?_ ?_
      · exact ((ex2.trans e3).trans e4).trans e5
      · exact ⟨x, y, z + 1, e5 a _ (e4 a _ a3), hx, hy, hy2, by omega, by omega⟩
end
end KB

set_option Elab.async false
set_option linter.all false
set_option maxRecDepth 100000
set_option maxHeartbeats 4000000
/-! KL2: the law's pages. -/
namespace KB
open PySem L2 Evl

/-! ### names -/
def nameAt (k : Nat) : Str := ⟨#[97 + k / 26, 97 + k % 26]⟩
def styled (s k : Nat) : Str := match s with
  | 0 => nameAt k ++ "zy"
  | 1 => nameAt k
  | 2 => nameAt k ++ "q"
  | _ => "zy" ++ nameAt k
def specials : List Str := ["a", "b", "aa", "ab", "aaaa", "aaab", "zzzz", "hit", "miss", "z"]
def plainNames (s n : Nat) : List Str := (List.range n).map (styled s)
def allNames (s : Nat) : List Str := if s = 2 then specials ++ plainNames 2 160 else plainNames s 160
def drawnNames (s n : Nat) : List Str := if s = 2 then (specials ++ plainNames 2 n).take n else plainNames s n
theorem plain_take (s : Nat) {n : Nat} (h : n ≤ 160) : (plainNames s 160).take n = plainNames s n := by
  unfold plainNames
  rw [← List.map_take, List.take_range, Nat.min_eq_left h]
theorem drawn_take {s n : Nat} (h : n ≤ 160) : drawnNames s n = (allNames s).take n := by
  unfold drawnNames allNames
  by_cases e : s = 2
  · subst e
    rw [if_pos rfl, if_pos rfl, List.take_append, List.take_append]
    congr 1
    rw [plain_take 2 (show n - specials.length ≤ 160 by omega)]
    have := plain_take 2 h
    unfold plainNames
    rw [← List.map_take, List.take_range]
    congr 1
    congr 1
    omega
  · rw [if_neg e, if_neg e, plain_take s h]
def styledL (s k : Nat) : List Nat := match s with
  | 0 => [97 + k / 26, 97 + k % 26, 122, 121]
  | 1 => [97 + k / 26, 97 + k % 26]
  | 2 => [97 + k / 26, 97 + k % 26, 113]
  | _ => [122, 121, 97 + k / 26, 97 + k % 26]
theorem styled_cps : ∀ s k, (styled s k).cps.toList = styledL s k
  | 0, _ => rfl
  | 1, _ => rfl
  | 2, _ => rfl
  | _ + 3, _ => rfl
theorem styledL_inj : ∀ s a b, styledL s a = styledL s b → a = b
  | 0, a, b, h => by
    simp only [styledL, List.cons.injEq] at h
    omega
  | 1, a, b, h => by
    simp only [styledL, List.cons.injEq] at h
    omega
  | 2, a, b, h => by
    simp only [styledL, List.cons.injEq] at h
    omega
  | _ + 3, a, b, h => by
    simp only [styledL, List.cons.injEq] at h
    omega
theorem styled_inj {s a b : Nat} (h : styled s a = styled s b) : a = b := styledL_inj s a b (by rw [← styled_cps, ← styled_cps, h])
theorem plain_nodup (s n : Nat) : (plainNames s n).Nodup := List.Pairwise.map _ (fun a b hab e => hab (styled_inj e)) List.nodup_range
theorem lets_at : ∀ j, j < 26 → LETS[j]? = some (97 + j) := by decide
theorem lets_mem {j : Nat} (h : j < 26) : 97 + j ∈ LETS := List.mem_of_getElem? (lets_at j h)
theorem styled_page : ∀ (s k : Nat), k < 676 → pageB (styled s k) = true := by
  intro s k hk
  have m1 : 97 + k / 26 ∈ LETS := lets_mem (by omega)
  have m2 : 97 + k % 26 ∈ LETS := lets_mem (by omega)
  have m3 : 122 ∈ LETS := by decide
  have m4 : 121 ∈ LETS := by decide
  have m5 : 113 ∈ LETS := by decide
  have hl : (styled s k).length = (styledL s k).length := by
    rw [← styled_cps, Array.length_toList]
    rfl
  unfold pageB
  rw [hl, styled_cps]
  match s with
  | 0 => simp [styledL, m1, m2, m3, m4, m5]
  | 1 => simp [styledL, m1, m2, m3, m4, m5]
  | 2 => simp [styledL, m1, m2, m3, m4, m5]
  | _ + 3 => simp [styledL, m1, m2, m3, m4, m5]
theorem specials_good : (∀ p ∈ specials, pageB p = true ∧ p.cps.toList.getLast? ≠ some 113) ∧ specials.Nodup := by decide +kernel
theorem all_good (s : Nat) : (∀ p ∈ allNames s, pageB p = true) ∧ (allNames s).Nodup := by
  have plain : ∀ p ∈ plainNames s 160, pageB p = true := fun p hp => by
    obtain ⟨k, hk, rfl⟩ := List.mem_map.mp hp
    have := List.mem_range.mp hk
    exact styled_page s k (by omega)
  unfold allNames
  by_cases e : s = 2
  · subst e
    rw [if_pos rfl]
    refine ⟨fun p hp => ?_, List.nodup_append.mpr ⟨specials_good.2, plain_nodup 2 160, fun a ha b hb z => ?_⟩⟩
    · rcases List.mem_append.mp hp with h | h
      · exact (specials_good.1 p h).1
      · exact plain p h
    · obtain ⟨k, hk, rfl⟩ := List.mem_map.mp hb
      refine (specials_good.1 a ha).2 ?_
      rw [z, styled_cps]
      rfl
  · rw [if_neg e]
    exact ⟨plain, plain_nodup s 160⟩
theorem all_len (s : Nat) : 160 ≤ (allNames s).length := by
  unfold allNames plainNames
  split <;> simp [specials]
theorem drawn_good {s n : Nat} (hn : n ≤ 160) : Pages (drawnNames s n) ∧ (drawnNames s n).length = n := by
  rw [drawn_take hn]
  obtain ⟨h1, h2⟩ := all_good s
  have hl := all_len s
  refine ⟨⟨fun p hp => h1 p (List.mem_of_mem_take hp), h2.sublist (List.take_sublist _ _), ?_⟩, ?_⟩
  · rw [List.length_take]
    omega
  · rw [List.length_take]
    omega
theorem Pages.perm {ps qs : List Str} (h : Pages ps) (p : qs.Perm ps) : Pages qs := ⟨fun x hx => h.all x (p.mem_iff.mp hx), p.nodup_iff.mpr h.nd, by rw [p.length_eq]; exact h.len⟩
end KB

set_option Elab.async false
set_option linter.all false
set_option maxRecDepth 100000
set_option maxHeartbeats 4000000
/-! KL3: the law's pages, walked. -/
namespace KB
open PySem L2 Evl
section
variable {K : PySem.W.Frag} {σ : L2.St} {H H' : Hp} {ta tb tc te tx : TE} {x y z v : V} {D : Ends}
/-- a draw, wherever it stands -/
theorem w_draw {i : Nat} {a : Addr} {b B : Int} {Q : VK} (hs : σ[i]? = some (some (.ref a))) (hb : Ev tb σ H (.int b)) (h1 : 0 < b) (h2 : b ≤ 100000) (S : SrcAt H a B) (hB : B ≤ 1000000) (k : ∀ d H', 0 ≤ d → d < b → Ex (hid H a) H' → SrcAt H' a (B + 1) → Q (.int d) H') :
    tCall spDraw [] E0 (tCons (tVar i) (tCons tb tNil)) σ H Q :=
  ⟨.ref a, hs, hb H (Ex.refl H) _ fun H1 e1 => ⟨a, b, B, rfl, h1, h2, S.mono e1, hB, fun d H2 d0 d1 e2 S2 => k d H2 d0 d1 (ex_hid2 (hidE e1 a) e2) S2⟩⟩
end
section
variable {P : Program} {w : World} {K : PySem.W.Frag} {mg : Str → Option Value} {base : Heap}
theorem scPages : FnScope ["source", "count", "letters", "style", "names", "k", "name"] ["source", "count"] (defScope sPages) := ⟨rfl, rfl, rfl, by decide +kernel, rfl, by decide +kernel, by decide +kernel⟩
def spPages : Sp := fun vs H Q _ => ∃ (a : Addr) (n : Nat) (B : Int), vs = [.ref a, .int (n : Int)] ∧ 1 ≤ n ∧ n ≤ 160 ∧ SrcAt H a B ∧ B ≤ 900000 ∧
  ∀ p ps H2, H p = none → Ex (hid H a) H2 → SrcAt H2 a (B + 161) → Pages ps → ps.length = n → H2 p = some (.lst (ps.map V.str)) → Q (.ref p) H2
abbrev ALPHA : Str := "abcdefghijklmnopqrstuvwxyz"
theorem alpha_at {H : Hp} {σ : L2.St} {ta tb : TE} {j : Nat} (ha : Ev ta σ H (.str ALPHA)) (hb : Ev tb σ H (.int (j : Int))) (hj : j < 26) : Ev (tOp rIxS ta tb) σ H (.str ⟨#[97 + j]⟩) :=
  ev_op ha hb (rv_ixS (by decide) (atI_nat (lets_at j hj)))
theorem styled_ix (k : Nat) {d : Int} (h0 : 0 ≤ d) (h1 : d < 4) : atI [V.str (nameAt k ++ "zy"), V.str (nameAt k), V.str (nameAt k ++ "q"), V.str ("zy" ++ nameAt k)] d = some (V.str (styled d.toNat k)) := by
  have : d = 0 ∨ d = 1 ∨ d = 2 ∨ d = 3 := by omega
  rcases this with rfl | rfl | rfl | rfl <;> rfl
theorem ok_pages {f : Addr} {fd : FuncData} (F : Fun K "_law_pages" "_law_pages" sPages f fd) (B0 : Bn mg) (cD : Cl P w K mg base 1 "_law_draw" ["source", "bound"] spDraw) : FnOk P w K mg base CX0 2 f fd ["source", "count"] spPages := by
  refine F.ok scPages (fun vs H Q E h => ?_) (fun cdv A outer s H vs Q E hr h => ?_)
  · obtain ⟨a, n, B, rfl, _⟩ := h
    rfl
  · obtain ⟨a, n, B, rfl, hn1, hn2, hS, hB, q⟩ := h
    refine ⟨_, pss_cons (ps_set (i := 2) scPages.nd rfl (Or.inl rfl) pe_str)
      (pss_cons (ps_asg (pe_tup (pa_cons (pe_cl cD hr (pa_cons (pv 0) (pa_cons pe_int pa_nil))) (pa_cons (pe_lst pa_nil) pa_nil))) (pg_tup rfl (pgs_cons (pg_name (i := 3) scPages.nd rfl (Or.inl rfl)) (pgs_cons (pg_name (i := 4) scPages.nd rfl (Or.inr rfl)) pgs_nil))))
      (pss_cons (ps_for PassesOwn.never rfl (pi_range1 (by rfl) B0.range (pa_cons (pv 1) pa_nil)) (pg_name (i := 5) scPages.nd rfl (Or.inl rfl))
        (pss_cons (ps_set (i := 6) scPages.nd rfl (Or.inl rfl) (pe_op op_add_str (pe_ix ix_str (pv 2) (pe_op op_fdiv (pv 5) pe_int) (fun _ _ => rfl)) (pe_ix ix_str (pv 2) (pe_op op_mod (pv 5) pe_int) (fun _ _ => rfl))))
        (pss_one (ps_expr (pe_bm PySem.F.plainAttrs_list PySem.F.slot_list_append PySem.F.type_list_append mt_append (pv 4) (pa_cons (pe_ix ix_list (pe_lst (pa_cons (pe_op op_add_str (pv 6) pe_str) (pa_cons (pv 6) (pa_cons (pe_op op_add_str (pv 6) pe_str) (pa_cons (pe_op op_add_str pe_str (pv 6)) pa_nil))))) (pv 3) (fun _ _ => rfl)) pa_nil))))))
      (pss_cut (ps_if (pt_cmpR op_eq (pv 3) pe_int (nomark _)) (pss_one (ps_set (i := 4) scPages.nd rfl (Or.inr rfl) (pe_slice sl_list (pe_op op_cat (pe_lst (pa_cons pe_str (pa_cons pe_str (pa_cons pe_str (pa_cons pe_str (pa_cons pe_str (pa_cons pe_str (pa_cons pe_str (pa_cons pe_str (pa_cons pe_str (pa_cons pe_str pa_nil))))))))))) (pv 4)) po_none (po_some (pv 1))))) pss_nil)
      (pss_one (ps_ret (pe_lc (own := [("k", 5)]) (g := gName 5) (tt := tYes) (te := tBM K "list" rPopAt (tVar 4) (tCons (tCall spDraw [] E0 (tCons (tVar 0) (tCons (tCB (rLenS K) (tCons (tVar 4) tNil)) tNil))) tNil)) rfl scPages.nd (pi_range1 (by rfl) B0.range (pa_cons (pv 1) pa_nil)) (blkOk_by (N := ["source", "count", "letters", "style", "names", "k", "name"]) (sc := defScope sPages) (by decide +kernel))
        (fun _ _ _ _ _ => pg_name (i := 5) scPages.nd rfl (Or.inl rfl)) (fun _ _ _ _ _ => pts_nil)
        (fun _ _ _ _ _ => pe_bm PySem.F.plainAttrs_list PySem.F.slot_list_pop PySem.F.type_list_pop mt_popAt (pv 4) (pa_cons (pe_cl cD hr (pa_cons (pv 0) (pa_cons (pe_callB call_len_seq (by rfl) B0.len bt_len (pa_cons (pv 4) pa_nil)) pa_nil))) pa_nil)))))))), ?_⟩
    refine q_asg ev_c fun H1 e1 => ?_
    -- style, names
    show tCall spDraw [] E0 (tCons (tVar 0) (tCons (tC (.int 4)) tNil)) _ H1 _
    refine w_draw rfl ev_c (by decide) (by decide) (hS.mono e1) (by omega) fun d H2 d0 d1 e2 S2 => ?_
    have k2 : Ex (hid H a) H2 := ex_hid2 (hidE e1 a) e2
    obtain ⟨xs2, a2⟩ := S2.is
    refine ⟨Nat.zero_le _, fun nm hnm => ⟨by show 2 ≤ sizeLine; decide, fun T hT => ?_⟩⟩
    have nmT : nm ≠ T := fun z => by rw [z, upd_same] at hT; cases hT
    have anm : a ≠ nm := fun z => by rw [z, hnm] at a2; cases a2
    have k3 : Ex H2 (upd (upd H2 nm (.lst [])) T (.tup [.int d, .ref nm])) := (Ex.new hnm).trans (Ex.new hT)
    have nm3 : (upd (upd H2 nm (.lst [])) T (.tup [.int d, .ref nm])) nm = some (.lst []) := by rw [upd_ne nmT, upd_same]
    refine ⟨T, _, rfl, .inl (.inl upd_same), rfl, .int d, [.ref nm], rfl, .ref nm, [], rfl, rfl, ?_⟩
    generalize upd (upd H2 nm (.lst [])) T (.tup [.int d, .ref nm]) = H3 at k3 nm3
    have fnm : H nm = none := fresh_hid k2 a2 hnm
    have k3' : Ex (hid H a) H3 := k2.trans k3
    -- the names, one by one
    refine q_forN (n := n) (ea_cons (ev_var rfl) ea_nil) (by omega) (fun i σ H' => ∃ y5 y6, σ = [some (.ref a), some (.int (n : Int)), some (.str ALPHA), some (.int d), some (.ref nm), y5, y6] ∧ Ex (hid H a) H' ∧ SrcAt H' a (B + 1) ∧ H' nm = some (.lst ((plainNames d.toNat i).map V.str)))
      (fun H4 e4 => ⟨none, none, rfl, k3'.trans e4, S2.mono (k3.trans e4), e4 nm _ nm3⟩) (fun i σ H' hi hP => ?_) (fun σ H' hP => ?_)
    · obtain ⟨y5, y6, rfl, e, S, hn⟩ := hP
      have ix : ∀ {H5 : Hp} {σ : L2.St}, σ[2]? = some (some (.str ALPHA)) → σ[5]? = some (some (.int (i : Int))) → Ev (tOp (fun x y H Q => ∃ i j, x = .str i ∧ y = .str j ∧ i.length + j.length ≤ sizeLine ∧ Q (.str (i ++ j)) H) (tOp rIxS (tVar 2) (tOp (rI CDiv fun i j => .int (i / j)) (tVar 5) (tC (.int 26)))) (tOp rIxS (tVar 2) (tOp (rI (fun _ j => 0 < j) fun i j => .int (i % j)) (tVar 5) (tC (.int 26))))) σ H5 (.str (nameAt i)) := fun hA h5 => by
        refine ev_is (ev_catS (alpha_at (j := i / 26) (ev_var hA) (ev_op (ev_var h5) ev_c (rv_I ⟨by decide, by decide⟩)) (by omega)) (alpha_at (j := i % 26) (ev_var hA) (ev_op (ev_var h5) ev_c (rv_I (by decide))) (by omega)) (show 1 + 1 ≤ 1000 by decide)) ?_
        rfl
      refine q_asg (ix rfl rfl) fun H5 e5 => ?_
      have two : (nameAt i).length = 2 := rfl
      have small : ((plainNames d.toNat i).map V.str).length < 100000 := by
        unfold plainNames
        rw [List.length_map, List.length_map, List.length_range]
        omega
      refine s_app (l := nm) (xs := (plainNames d.toNat i).map V.str) (v := .str (styled d.toNat i)) (e5 nm _ hn) (ev_var rfl) ?_ small fun H6 e6 => ?_
      · exact ev_opL1 (el_lst (ea_cons (ev_catS (ev_var rfl) ev_c (show 2 + 2 ≤ 1000 by decide)) (ea_cons (ev_var rfl) (ea_cons (ev_catS (ev_var rfl) ev_c (show 2 + 1 ≤ 1000 by decide)) (ea_cons (ev_catS ev_c (ev_var rfl) (show 2 + 2 ≤ 1000 by decide)) ea_nil)))) (show 4 ≤ 100000 by decide))
          (fun _ _ => ev_var rfl) (fun p H7 h7 _ => rv_ixL (sq_of h7) (styled_ix i d0 d1))
      · refine ⟨_, _, rfl, Ex.mut ((e.trans e5).trans e6) (hid_none fnm), ?_, ?_⟩
        · obtain ⟨x, y, z, ha, r⟩ := S.mono (e5.trans e6)
          exact ⟨x, y, z, by rw [upd_ne anm]; exact ha, r⟩
        · rw [upd_same]
          unfold plainNames
          rw [List.range_succ, List.map_append, List.map_append]
          rfl
    · obtain ⟨y5, y6, rfl, e, S, hn⟩ := hP
      -- if style == 2
      refine ⟨fun σ H' => ∃ nm2, σ = [some (.ref a), some (.int (n : Int)), some (.str ALPHA), some (.int d), some (.ref nm2), y5, y6] ∧ nm2 ≠ a ∧ H nm2 = none ∧ Ex (hid H a) H' ∧ SrcAt H' a (B + 1) ∧ H' nm2 = some (.lst ((drawnNames d.toNat n).map V.str)), ?_, fun σ' H'' hM => ?_⟩
      · refine s_when (b := decide (V.int d = V.int 2)) (et_test (ev_op (ev_var rfl) ev_c (rv_eq rfl))) (fun hb H5 e5 => ?_) (fun hb H5 e5 => ?_)
        · have hd : d = 2 := by
            have := of_decide_eq_true hb
            injection this
          subst hd
          refine s_asgL (xs := (specials.map V.str ++ (plainNames 2 n).map V.str).take n) ?_ fun p H6 hp e6 h6 => ?_
          · rw [← take_cut]
            intro H0 e0 Q' k0
            have n0 := e0 nm _ (e5 nm _ hn)
            refine ⟨by show 10 ≤ sizeLine; decide, fun p1 hp1 => ?_⟩
            have n1 := Ex.new (o := .lst (specials.map V.str)) hp1 nm _ n0
            have x1 : Ex H0 (upd H0 p1 (.lst (specials.map V.str))) := Ex.new hp1
            refine ⟨.ref nm, rfl, p1, nm, specials.map V.str, (plainNames (2 : Int).toNat n).map V.str, rfl, rfl, upd_same, n1, ?_, fun p2 hp2 => ⟨.int (n : Int), rfl, (n : Int), rfl, p2, _, rfl, sq_of upd_same, fun p3 hp3 => ?_⟩⟩
            · have : ((plainNames (2 : Int).toNat n).map V.str).length = n := by
                unfold plainNames
                rw [List.length_map, List.length_map, List.length_range]
              rw [this]
              refine Nat.le_trans ?_ (show 1000 ≤ sizeLine by decide)
              show 10 + n ≤ 1000
              omega
            · have x2 := Ex.new (o := .lst (specials.map V.str ++ (plainNames (2 : Int).toNat n).map V.str)) hp2
              have x3 := Ex.new (o := .lst (cutV (specials.map V.str ++ (plainNames (2 : Int).toNat n).map V.str) none (some (n : Int)))) hp3
              exact k0 p3 _ (fresh_back (x1.trans x2) hp3) ((x1.trans x2).trans x3) upd_same
          · obtain ⟨xs5, a5⟩ := (S.mono e5).is
            have fp : H p = none := fresh_hid (e.trans e5) a5 hp
            have pa : p ≠ a := fun z => by rw [z, a5] at hp; cases hp
            refine ⟨p, rfl, pa, fp, (e.trans e5).trans e6, S.mono (e5.trans e6), ?_⟩
            rw [h6]
            show _ = some (HO.lst ((drawnNames 2 n).map V.str))
            unfold drawnNames
            rw [if_pos rfl, List.map_take, List.map_append]
        · have hd : d.toNat ≠ 2 := by
            intro z
            have z2 : d = 2 := by omega
            rw [z2] at hb
            simp at hb
          refine ⟨nm, rfl, anm.symm, fnm, e.trans e5, S.mono e5, ?_⟩
          rw [e5 nm _ hn]
          unfold drawnNames
          rw [if_neg hd]
      · -- the names drawn out, one by one
        obtain ⟨nm2, rfl, an2, fn2, ee, SS, hn2'⟩ := hM
        obtain ⟨gp, gl⟩ := drawn_good (s := d.toNat) hn2
        obtain ⟨xs5, a5⟩ := SS.is
        generalize drawnNames d.toNat n = N0 at hn2' gp gl
        show tLc _ _ _ _ _ _ _ _
        refine w_lcR (n := n) (ea_cons (ev_var rfl) ea_nil) (by omega) (fun Dl i H' => Dl ≠ a ∧ Dl ≠ nm2 ∧ H Dl = none ∧ ∃ rest out : List Str, rest.length + i = n ∧ (out ++ rest).Perm N0 ∧ H' nm2 = some (.lst (rest.map V.str)) ∧ H' Dl = some (.lst (out.map V.str)) ∧ out.length = i ∧ Ex (hid H a) H' ∧ SrcAt H' a (B + 1 + i)) (fun Dl H1 hD e1 => ?_) (fun _ => rfl) (fun Dl i H1 hi hP => ?_) (fun Dl H1 hP => ?_)
        · obtain ⟨x, y, z, ha, r⟩ := SS.mono e1
          have n1 : Dl ≠ a := fun z => by rw [z, ha] at hD; cases hD
          have n2 : Dl ≠ nm2 := fun z => by rw [z, e1 nm2 _ hn2'] at hD; cases hD
          have n3 := fresh_hid (ee.trans e1) ha hD
          refine ⟨n1, n2, n3, N0, [], by rw [gl]; rfl, List.Perm.refl _, ?_, upd_same, rfl, Ex.mut (ee.trans e1) (hid_none n3), ⟨x, y, z, ?_, r.1, r.2.1, r.2.2.1, r.2.2.2.1, ?_⟩⟩
          · rw [upd_ne n2.symm]
            exact e1 nm2 _ hn2'
          · rw [upd_ne n1.symm]
            exact ha
          · have := r.2.2.2.2
            show z ≤ B + 1 + ((0 : Nat) : Int)
            omega
        · obtain ⟨n1, n2, n3, rest, out, hl, hp, hr1, ho, hol, e, S⟩ := hP
          have rl : 0 < rest.length := by omega
          refine ⟨.ref nm2, rfl, .inl ⟨rfl, _, sq_of hr1⟩, ?_⟩
          refine w_draw rfl (b := (rest.length : Int)) (ev_is (ev_len (ev_var rfl) (sq_of hr1)) (by rw [List.length_map])) (by omega) (by omega) S (by omega) fun g H2 g0 g1 e2 S2 => ?_
          have k2 : Ex (hid H a) H2 := ex_hid2 e e2
          have c1 : H2 nm2 = some (.lst (rest.map V.str)) := e2 nm2 _ (by rw [hid_ne an2]; exact hr1)
          have c2 : H2 Dl = some (.lst (out.map V.str)) := e2 Dl _ (by rw [hid_ne n1]; exact ho)
          have gi : g.toNat < rest.length := by omega
          have gat : rest[g.toNat]? = some rest[g.toNat] := List.getElem?_eq_getElem gi
          refine ⟨nm2, rest.map V.str, g, g.toNat, .str rest[g.toNat], rfl, rfl, c1, by omega, ?_, ?_, ?_, out.map V.str, ?_, ?_, n1, n2, n3, rest.eraseIdx g.toNat, out ++ [rest[g.toNat]], ?_, ?_, ?_, ?_, ?_, ?_, ?_⟩
          · omega
          · rw [List.length_map]
            exact seq_nat g0 g1
          · rw [List.getElem?_map, gat]
            rfl
          · rw [upd_ne n2]
            exact c2
          · rw [List.length_map, hol]
            exact Nat.lt_of_le_of_lt (show i ≤ 200 by omega) (by decide)
          · have := erase_len rest g.toNat gi
            omega
          · have pp := perm_pop rest g.toNat _ gat
            rw [List.append_assoc]
            exact (List.Perm.append_left out pp.symm).trans hp
          · rw [upd_ne n2.symm, upd_same, erase_map]
          · rw [upd_same, List.map_append]
            rfl
          · rw [List.length_append, hol]
            rfl
          · exact Ex.mut (Ex.mut k2 (hid_none fn2)) (hid_none n3)
          · obtain ⟨x, y, z, ha, r⟩ := S2
            refine ⟨x, y, z, ?_, r.1, r.2.1, r.2.2.1, r.2.2.2.1, ?_⟩
            · rw [upd_ne n1.symm, upd_ne an2.symm]
              exact ha
            · have := r.2.2.2.2
              omega
        · obtain ⟨n1, n2, n3, rest, out, hl, hp, hr1, ho, hol, e, S⟩ := hP
          have rl : rest = [] := List.length_eq_zero_iff.mp (by omega)
          subst rl
          rw [List.append_nil] at hp
          exact q Dl out H1 n3 e (S.le (by omega)) (gp.perm hp) hol ho
end
end KB

set_option Elab.async false
set_option linter.all false
set_option maxRecDepth 100000
set_option maxHeartbeats 4000000
/-! KD: data of texts and of ints; what a run of a shelf is. -/
namespace KB
open PySem L2 Evl

theorem dp_strs {K : PySem.W.Frag} {H : Hp} : ∀ xs : List Str, DpAll K H (xs.map V.str) (xs.map PyData.str)
  | [] => .nil
  | x :: xs => .cons (.str x) (dp_strs xs)
theorem dp_ints {K : PySem.W.Frag} {H : Hp} : ∀ xs : List Nat, DpAll K H (xs.map natV) (xs.map fun (n : Nat) => PyData.int (n : Int))
  | [] => .nil
  | x :: xs => .cons (.int (x : Int)) (dp_ints xs)
theorem lay_strs : ∀ {xs : List Str}, (∀ x ∈ xs, pageB x = true) → PyData.canLayAll0 (xs.map PyData.str) = true
  | [], _ => rfl
  | x :: xs, h => by
    have ih := lay_strs (xs := xs) fun y hy => h y (List.mem_cons_of_mem _ hy)
    have hx := h x List.mem_cons_self
    rw [List.map_cons, PyData.canLayAll0, ih, Bool.and_true]
    show PyData.strOk x = true
    unfold pageB at hx
    simp only [Bool.and_eq_true, decide_eq_true_eq, List.all_eq_true] at hx
    have small : ∀ c ∈ LETS, c < 1114112 := by decide
    unfold PyData.strOk
    rw [← Array.all_toList, List.all_eq_true]
    intro c hc
    exact decide_eq_true (small c (hx.2 c hc))
theorem lay_ints : ∀ xs : List Nat, PyData.canLayAll0 (xs.map fun (n : Nat) => PyData.int (n : Int)) = true
  | [] => rfl
  | x :: xs => by
    rw [List.map_cons, PyData.canLayAll0, lay_ints xs]
    rfl
theorem depth_strs : ∀ xs : List Str, PyData.depthAll (xs.map PyData.str) = 0
  | [] => rfl
  | x :: xs => by
    rw [List.map_cons, PyData.depthAll, depth_strs xs]
    rfl
theorem depth_ints : ∀ xs : List Nat, PyData.depthAll (xs.map fun (n : Nat) => PyData.int (n : Int)) = 0
  | [] => rfl
  | x :: xs => by
    rw [List.map_cons, PyData.depthAll, depth_ints xs]
    rfl
theorem shaped_strs {xs : List Str} (h : ∀ x ∈ xs, pageB x = true) : SeqAt.shaped (.list (xs.map PyData.str)) = true := by
  unfold SeqAt.shaped
  rw [show PyData.canLay0 (.list (xs.map PyData.str)) = PyData.canLayAll0 (xs.map PyData.str) from rfl, lay_strs h, show PyData.depth (.list (xs.map PyData.str)) = PyData.depthAll (xs.map PyData.str) + 1 from rfl, depth_strs]
  rfl
theorem shaped_ints (xs : List Nat) : SeqAt.shaped (.list (xs.map fun (n : Nat) => PyData.int (n : Int))) = true := by
  unfold SeqAt.shaped
  rw [show PyData.canLay0 (.list (xs.map fun (n : Nat) => PyData.int (n : Int))) = PyData.canLayAll0 (xs.map fun (n : Nat) => PyData.int (n : Int)) from rfl, lay_ints, show PyData.depth (.list (xs.map fun (n : Nat) => PyData.int (n : Int))) = PyData.depthAll (xs.map fun (n : Nat) => PyData.int (n : Int)) + 1 from rfl, depth_ints]
  rfl
theorem eqv_nil (xs : List Str) : PyData.eqv (.list (xs.map PyData.str)) (.list []) = xs.isEmpty := by
  cases xs <;> rfl
theorem in_strs (x : Str) : ∀ cs : List Str, inV (.str x) (cs.map V.str) = decide (x ∈ cs)
  | [] => rfl
  | c :: cs => by
    have ih := in_strs x cs
    unfold inV at ih ⊢
    rw [List.map_cons, List.any_cons, ih]
    show (c == x || decide (x ∈ cs)) = decide (x ∈ c :: cs)
    by_cases e : c = x
    · subst e
      simp
    · have e2 : ¬ x = c := fun z => e z.symm
      simp [e, e2, List.mem_cons]
theorem flat_all (cs : List Str) : (cs.map V.str).all flatV = true := by
  rw [List.all_map, List.all_eq_true]
  intro _ _
  rfl
theorem range_get (ps : List Str) (d : Str) : (List.range ps.length).map (fun i => ps.getD i d) = ps := by
  apply List.ext_getElem
  · simp
  · intro i h1 h2
    simp [List.getD_eq_getElem?_getD, List.getElem?_eq_getElem h2]
theorem given_filter (ps : List Str) (f : Str → Bool) (d : Str) : given ps.length (fun i => f (ps.getD i d)) (fun i => V.str (ps.getD i d)) = (ps.filter f).map V.str := by
  have h := range_get ps d
  unfold given
  rw [← h, List.filter_map, List.map_map]
  simp only [List.length_map, List.length_range]
  rw [h]
  rfl

/-! ### a run: the events, the evicted pages, the contents at all moments, the contents now -/
inductive RunTo (room : Nat) (c0 : List Str) : List Ev1 → List Str → List (List Str) → List Str → Prop where
  | nil : RunTo room c0 [] [] [c0] c0
  | hit {es gs css cs} {p : Str} (r : RunTo room c0 es gs css cs) (h : p ∈ cs) : RunTo room c0 (es ++ [(hitS, p)]) gs (css ++ [cs]) cs
  | add {es gs css cs} {p : Str} (r : RunTo room c0 es gs css cs) (h : p ∉ cs) (hp : pageB p = true) (hl : cs.length ≠ room) : RunTo room c0 (es ++ [(missS, p)]) gs (css ++ [cs ++ [p]]) (cs ++ [p])
  | evict {es gs css cs} {p g : Str} {j : Nat} (r : RunTo room c0 es gs css cs) (h : p ∉ cs) (hp : pageB p = true) (hl : cs.length = room) (hj : cs[j]? = some g) : RunTo room c0 (es ++ [(missS, p)]) (gs ++ [g]) (css ++ [cs.eraseIdx j ++ [p]]) (cs.eraseIdx j ++ [p])
section
variable {room : Nat} {c0 : List Str} {es : List Ev1} {gs : List Str} {css : List (List Str)} {cs : List Str}
theorem szAt_snoc {n : Nat} {e : Ev1} {t : Nat} (h : t ≤ es.length) : szAt room n (es ++ [e]) t = szAt room n es t := by
  unfold szAt
  rw [List.take_append_of_le_length h]
theorem szAt_end {n : Nat} {e : Ev1} : szAt room n (es ++ [e]) (es.length + 1) = min room (n + misses es + (if isMiss e = true then 1 else 0)) := by
  unfold szAt misses
  rw [List.take_of_length_le (by simp), List.countP_append]
  simp only [List.countP_cons, List.countP_nil]
  rw [Nat.add_assoc]
  simp
theorem szs_snoc {n : Nat} {e : Ev1} : szs room n (es ++ [e]) = szs room n es ++ [szAt room n (es ++ [e]) (es.length + 1)] := by
  unfold szs
  rw [List.length_append]
  show (List.range (es.length + 1 + 1)).map _ = _
  rw [List.range_succ, List.map_append]
  congr 1
  refine List.map_congr_left fun t ht => szAt_snoc ?_
  have := List.mem_range.mp ht
  omega
theorem late_snoc {n : Nat} {e : Ev1} : lates room n (es ++ [e]) = lates room n es ++ (if (isMiss e && decide (szAt room n es es.length = room)) = true then [es.length] else []) := by
  unfold lates
  rw [List.length_append]
  show (List.range (es.length + 1)).filter _ = _
  rw [List.range_succ, List.filter_append]
  congr 1
  · refine List.filter_congr fun t ht => ?_
    have ht' := List.mem_range.mp ht
    unfold lateB
    rw [List.getElem?_append_left ht', szAt_snoc (Nat.le_of_lt ht')]
  · have e1 : lateB room n (es ++ [e]) es.length = (isMiss e && decide (szAt room n es es.length = room)) := by
      unfold lateB
      rw [List.getElem?_append_right (Nat.le_refl _), Nat.sub_self, szAt_snoc (Nat.le_refl _)]
      rfl
    rw [List.filter_cons, e1]
    split <;> rfl
theorem miss_isMiss (p : Str) : isMiss (missS, p) = true := by
  show decide (missS = missS) = true
  decide
theorem hit_isMiss (p : Str) : isMiss (hitS, p) = false := by
  show decide (hitS = missS) = false
  decide
/-- what the sizes of a run are -/
theorem RunTo.facts (h0 : c0.length ≤ room) (n0 : c0.Nodup) (p0 : ∀ p ∈ c0, pageB p = true) (r : RunTo room c0 es gs css cs) :
    cs.length = szAt room c0.length es es.length ∧ css.map List.length = szs room c0.length es ∧ gs.length = (lates room c0.length es).length ∧ cs.Nodup ∧ (∀ p ∈ cs, pageB p = true) ∧ (∀ e ∈ es, okE e) ∧ szAt room c0.length es es.length = min room (c0.length + misses es) := by
  have top : ∀ es : List Ev1, szAt room c0.length es es.length = min room (c0.length + misses es) := fun es => by
    unfold szAt
    rw [List.take_length]
  induction r with
  | nil =>
    have e0 : szAt room c0.length [] 0 = c0.length := by
      show min room (c0.length + 0) = c0.length
      omega
    refine ⟨e0.symm, ?_, rfl, n0, p0, (fun e he => nomatch he), top _⟩
    show [c0.length] = [szAt room c0.length [] 0]
    rw [e0]
  | @hit es gs css cs p r h ih =>
    obtain ⟨i1, i2, i3, i4, i5, i6, i7⟩ := ih
    have e1 : szAt room c0.length (es ++ [(hitS, p)]) (es.length + 1) = cs.length := by
      rw [szAt_end, hit_isMiss, i1, i7]
      rfl
    refine ⟨by rw [List.length_append]; exact e1.symm, ?_, ?_, i4, i5, fun e he => ?_, top _⟩
    · rw [List.map_append, i2, szs_snoc, e1]
      rfl
    · rw [late_snoc, hit_isMiss, i3]
      simp
    · rcases List.mem_append.mp he with q | q
      · exact i6 e q
      · rw [List.mem_singleton.mp q]
        exact ⟨.inl rfl, i5 p h⟩
  | @add es gs css cs p r h hp hl ih =>
    obtain ⟨i1, i2, i3, i4, i5, i6, i7⟩ := ih
    have e1 : szAt room c0.length (es ++ [(missS, p)]) (es.length + 1) = (cs ++ [p]).length := by
      rw [szAt_end, miss_isMiss, List.length_append, i1, i7]
      rw [i1, i7] at hl
      show _ = _ + 1
      simp only [if_true]
      omega
    refine ⟨by rw [show (es ++ [(missS, p)]).length = es.length + 1 by simp]; exact e1.symm, ?_, ?_, ?_, fun q hq => ?_, fun e he => ?_, top _⟩
    · rw [List.map_append, i2, szs_snoc, e1]
      rfl
    · rw [late_snoc, i3]
      have : ¬ (isMiss (missS, p) && decide (szAt room c0.length es es.length = room)) = true := by
        rw [← i1]
        simp [hl]
      rw [if_neg this, List.append_nil]
    · exact List.nodup_append.mpr ⟨i4, by simp, fun a ha b hb z => h (by rw [← List.mem_singleton.mp hb, ← z]; exact ha)⟩
    · rcases List.mem_append.mp hq with q2 | q2
      · exact i5 q q2
      · rw [List.mem_singleton.mp q2]
        exact hp
    · rcases List.mem_append.mp he with q | q
      · exact i6 e q
      · rw [List.mem_singleton.mp q]
        exact ⟨.inr rfl, hp⟩
  | @evict es gs css cs p g j r h hp hl hj ih =>
    obtain ⟨i1, i2, i3, i4, i5, i6, i7⟩ := ih
    have jl : j < cs.length := (List.getElem?_eq_some_iff.mp hj).1
    have el := erase_len cs j jl
    have e1 : szAt room c0.length (es ++ [(missS, p)]) (es.length + 1) = (cs.eraseIdx j ++ [p]).length := by
      rw [szAt_end, miss_isMiss, List.length_append]
      rw [hl] at el
      rw [i1, i7] at hl
      show _ = _ + 1
      simp only [if_true]
      omega
    have sub : ∀ q ∈ cs.eraseIdx j, q ∈ cs := fun q hq => List.mem_of_mem_eraseIdx hq
    refine ⟨by rw [show (es ++ [(missS, p)]).length = es.length + 1 by simp]; exact e1.symm, ?_, ?_, ?_, fun q hq => ?_, fun e he => ?_, top _⟩
    · rw [List.map_append, i2, szs_snoc, e1]
      rfl
    · rw [late_snoc, List.length_append, i3]
      have : (isMiss (missS, p) && decide (szAt room c0.length es es.length = room)) = true := by
        rw [← i1]
        simp [hl, miss_isMiss]
      rw [if_pos this, List.length_append]
      rfl
    · exact List.nodup_append.mpr ⟨i4.sublist (List.eraseIdx_sublist _ _), by simp, fun a ha b hb z => h (by rw [← List.mem_singleton.mp hb, ← z]; exact sub a ha)⟩
    · rcases List.mem_append.mp hq with q2 | q2
      · exact i5 q (sub q q2)
      · rw [List.mem_singleton.mp q2]
        exact hp
    · rcases List.mem_append.mp he with q | q
      · exact i6 e q
      · rw [List.mem_singleton.mp q]
        exact ⟨.inr rfl, hp⟩
end
end KB

set_option Elab.async false
set_option linter.all false
set_option maxRecDepth 100000
set_option maxHeartbeats 4000000
/-! KR: the law's run of a shelf: its state. -/
namespace KB
open PySem L2 Evl
abbrev TupAt (H : Hp) (t : Addr) (e : Ev1) : Prop := H t = some (.tup [.str e.1, .str e.2])
abbrev LstAt (H : Hp) (q : Addr) (c : List Str) : Prop := H q = some (.lst (c.map V.str))
/-- what a run holds in memory; H: the memory at its entry -/
structure RS (H H' : Hp) (a : Addr) (B : Int) (cp hp gp cq : Addr) (ts qs : List Addr) (es : List Ev1) (gs : List Str) (css : List (List Str)) (cs : List Str) : Prop where
  ex : Ex (hid H a) H'
  src : SrcAt H' a B
  hcp : H' cp = some (.lst (cs.map V.str))
  hhp : H' hp = some (.lst (ts.map V.ref))
  hts : Paired (TupAt H') ts es
  hgp : H' gp = some (.lst (gs.map V.str))
  hcq : H' cq = some (.lst (qs.map V.ref))
  hqs : Paired (LstAt H') qs css
  f1 : H cp = none
  f2 : H hp = none
  f3 : H gp = none
  f4 : H cq = none
  d1 : cp ≠ hp
  d2 : cp ≠ gp
  d3 : cp ≠ cq
  d4 : hp ≠ gp
  d5 : hp ≠ cq
  d6 : gp ≠ cq
  a1 : a ≠ cp
  a2 : a ≠ hp
  a3 : a ≠ gp
  a4 : a ≠ cq
  dq : ∀ q ∈ qs, q ≠ cp ∧ q ≠ hp ∧ q ≠ gp ∧ q ≠ cq ∧ q ≠ a ∧ H q = none
theorem SrcAt.upd {H : Hp} {a l : Addr} {B : Int} {o : HO} (h : SrcAt H a B) (n : a ≠ l) : SrcAt (L2.upd H l o) a B := by
  obtain ⟨x, y, z, e, r⟩ := h
  exact ⟨x, y, z, by rw [upd_ne n]; exact e, r⟩
theorem Paired.impM {α β : Type} {R S : α → β → Prop} : ∀ {as : List α} {bs : List β}, Paired R as bs → (∀ a b, a ∈ as → R a b → S a b) → Paired S as bs
  | _, _, .nil, _ => .nil
  | _, _, .cons h t, k => .cons (k _ _ List.mem_cons_self h) (Paired.impM t fun a b ha => k a b (List.mem_cons_of_mem _ ha))
theorem tup_upd {H : Hp} {l : Addr} {xs : List V} {o : HO} {ts : List Addr} {es : List Ev1} (hl : H l = some (.lst xs)) (h : Paired (TupAt H) ts es) : Paired (TupAt (L2.upd H l o)) ts es :=
  Paired.imp h fun t e z => by
    show L2.upd H l o t = _
    rw [upd_ne (ne_of z hl (by intro q; cases q))]
    exact z
section
variable {H H' H1 : Hp} {a cp hp gp cq : Addr} {B : Int} {ts qs : List Addr} {es : List Ev1} {gs : List Str} {css : List (List Str)} {cs : List Str}
theorem RS.mono (s : RS H H' a B cp hp gp cq ts qs es gs css cs) (e : Ex H' H1) : RS H H1 a B cp hp gp cq ts qs es gs css cs :=
  { s with ex := s.ex.trans e, src := s.src.mono e, hcp := e _ _ s.hcp, hhp := e _ _ s.hhp, hts := Paired.imp s.hts fun _ _ z => e _ _ z, hgp := e _ _ s.hgp, hcq := e _ _ s.hcq, hqs := Paired.imp s.hqs fun _ _ z => e _ _ z }
theorem RS.draw {B' : Int} (s : RS H H' a B cp hp gp cq ts qs es gs css cs) (e : Ex (hid H' a) H1) (S : SrcAt H1 a B') : RS H H1 a B' cp hp gp cq ts qs es gs css cs := by
  have k : ∀ {b o}, b ≠ a → H' b = some o → H1 b = some o := fun n h => e _ _ (by rw [hid_ne n]; exact h)
  obtain ⟨xs, ha⟩ := s.src.is
  exact { s with ex := ex_hid2 s.ex e, src := S, hcp := k s.a1.symm s.hcp, hhp := k s.a2.symm s.hhp, hts := Paired.imp s.hts (fun t v z => k (ne_of z ha (fun q => by cases q)) z), hgp := k s.a3.symm s.hgp, hcq := k s.a4.symm s.hcq, hqs := Paired.impM s.hqs fun q c hq z => k (s.dq q hq).2.2.2.2.1 z }
theorem RS.le {B' : Int} (s : RS H H' a B cp hp gp cq ts qs es gs css cs) (h : B ≤ B') : RS H H' a B' cp hp gp cq ts qs es gs css cs := { s with src := s.src.le h }
/-- happened.append((mark, page)) -/
theorem RS.event {t : Addr} {e : Ev1} (s : RS H H' a B cp hp gp cq ts qs es gs css cs) (ht : H' t = some (.tup [.str e.1, .str e.2])) : RS H (L2.upd H' hp (.lst ((ts ++ [t]).map V.ref))) a B cp hp gp cq (ts ++ [t]) qs (es ++ [e]) gs css cs := by
  have nt : t ≠ hp := ne_of ht s.hhp (by intro q; cases q)
  exact { s with
    ex := Ex.mut s.ex (hid_none s.f2), src := s.src.upd s.a2, hcp := by rw [upd_ne s.d1]; exact s.hcp, hhp := upd_same
    hts := paired_snoc (by show L2.upd H' hp _ t = _; rw [upd_ne nt]; exact ht) (tup_upd s.hhp s.hts)
    hgp := by rw [upd_ne s.d4.symm]; exact s.hgp
    hcq := by rw [upd_ne s.d5.symm]; exact s.hcq
    hqs := Paired.impM s.hqs fun q c hq z => by show L2.upd H' hp _ q = _; rw [upd_ne (s.dq q hq).2.1]; exact z }
/-- gone.append(page) -/
theorem RS.left {g : Str} (s : RS H H' a B cp hp gp cq ts qs es gs css cs) : RS H (L2.upd H' gp (.lst ((gs ++ [g]).map V.str))) a B cp hp gp cq ts qs es (gs ++ [g]) css cs :=
  { s with
    ex := Ex.mut s.ex (hid_none s.f3), src := s.src.upd s.a3, hcp := by rw [upd_ne s.d2]; exact s.hcp, hgp := upd_same
    hts := tup_upd s.hgp s.hts
    hhp := by rw [upd_ne s.d4]; exact s.hhp
    hcq := by rw [upd_ne s.d6.symm]; exact s.hcq
    hqs := Paired.impM s.hqs fun q c hq z => by show L2.upd H' gp _ q = _; rw [upd_ne (s.dq q hq).2.2.1]; exact z }
/-- content.pop(j) -/
theorem RS.popped {j : Nat} (s : RS H H' a B cp hp gp cq ts qs es gs css cs) : RS H (L2.upd H' cp (.lst ((cs.map V.str).eraseIdx j))) a B cp hp gp cq ts qs es gs css (cs.eraseIdx j) :=
  { s with
    ex := Ex.mut s.ex (hid_none s.f1), src := s.src.upd s.a1, hcp := by rw [upd_same, erase_map]
    hts := tup_upd s.hcp s.hts
    hhp := by rw [upd_ne s.d1.symm]; exact s.hhp
    hgp := by rw [upd_ne s.d2.symm]; exact s.hgp
    hcq := by rw [upd_ne s.d3.symm]; exact s.hcq
    hqs := Paired.impM s.hqs fun q c hq z => by show L2.upd H' cp _ q = _; rw [upd_ne (s.dq q hq).1]; exact z }
/-- content = .. : another list -/
theorem RS.anew {c2 : Addr} {cs2 : List Str} (s : RS H H' a B cp hp gp cq ts qs es gs css cs) (e : Ex H' H1) (hn : H' c2 = none) (h2 : H1 c2 = some (.lst (cs2.map V.str))) : RS H H1 a B c2 hp gp cq ts qs es gs css cs2 := by
  have s' := s.mono e
  obtain ⟨xs, ha⟩ := s.src.is
  have nq : ∀ {b o}, H' b = some o → c2 ≠ b := fun h z => by rw [z, h] at hn; cases hn
  refine { s' with hcp := h2, f1 := fresh_hid s.ex ha hn, d1 := nq s.hhp, d2 := nq s.hgp, d3 := nq s.hcq, a1 := (nq ha).symm, dq := fun q hq => ⟨?_, (s.dq q hq).2⟩ }
  obtain ⟨i, hi⟩ := List.mem_iff_getElem?.mp hq
  obtain ⟨c, _, hc⟩ := paired_at' s.hqs hi
  exact (nq hc).symm
/-- contents.append(list(content)) -/
theorem RS.noted {q : Addr} (s : RS H H' a B cp hp gp cq ts qs es gs css cs) (e : Ex H' H1) (hn : H' q = none) (h2 : H1 q = some (.lst (cs.map V.str))) : RS H (L2.upd H1 cq (.lst ((qs ++ [q]).map V.ref))) a B cp hp gp cq ts (qs ++ [q]) es gs (css ++ [cs]) cs := by
  have s' := s.mono e
  obtain ⟨xs, ha⟩ := s.src.is
  have nq : ∀ {b o}, H' b = some o → q ≠ b := fun h z => by rw [z, h] at hn; cases hn
  exact { s' with
    ex := Ex.mut s'.ex (hid_none s.f4), src := s'.src.upd s.a4, hcp := by rw [upd_ne s.d3]; exact s'.hcp, hcq := upd_same
    hts := tup_upd s'.hcq s'.hts
    hhp := by rw [upd_ne s.d5]; exact s'.hhp
    hgp := by rw [upd_ne s.d6]; exact s'.hgp
    hqs := paired_snoc (by show L2.upd H1 cq _ q = _; rw [upd_ne (nq s.hcq)]; exact h2) (Paired.impM s'.hqs fun r c hr z => by show L2.upd H1 cq _ r = _; rw [upd_ne (s.dq r hr).2.2.2.1]; exact z)
    dq := fun r hr => by
      rcases List.mem_append.mp hr with z | z
      · exact s.dq r z
      · rw [List.mem_singleton.mp z]
        exact ⟨nq s.hcp, nq s.hhp, nq s.hgp, nq s.hcq, nq ha, fresh_hid s.ex ha hn⟩ }
end
/-- the test of a turn -/
theorem w_cond {K : PySem.W.Frag} {σ : L2.St} {H : Hp} {cs ab : List Str} {cp ap a : Addr} {B : Int} {busy : Int} {Q : Bool → Hp → Prop} (h5 : σ[5]? = some (some (.ref cp))) (h12 : σ[12]? = some (some (.ref ap))) (h0 : σ[0]? = some (some (.ref a))) (h9 : σ[9]? = some (some (.int busy)))
    (hc : H cp = some (.lst (cs.map V.str))) (ha : H ap = some (.lst (ab.map V.str))) (pc : ∀ x ∈ cs, pageB x = true) (pa : ∀ x ∈ ab, pageB x = true) (na : cs = [] → ab ≠ []) (S : SrcAt H a B) (hB : B ≤ 1000000)
    (k : ∀ b H', Ex (hid H a) H' → SrcAt H' a (B + 1) → (b = true → cs ≠ []) → (b = false → ab ≠ []) → Q b H') :
    tAnd (tTest (tOp (rNeD K) (tVar 5) (tLst tNil))) (tOr (tTest (tOp (rEqD K) (tVar 12) (tLst tNil))) (tTest (tOp (rI0 fun i j => .bl (decide (i < j))) (tCall spDraw [] E0 (tCons (tVar 0) (tCons (tC (.int 6)) tNil))) (tVar 9)))) σ H Q := by
  have t1 : EvT (tTest (tOp (rNeD K) (tVar 5) (tLst tNil))) σ H (!cs.isEmpty) := et_test (ev_opL (ev_var h5) (el_lst ea_nil (Nat.zero_le _)) fun p H1 hp e1 H2 e2 Q' k' => ⟨.list (cs.map PyData.str), .list [], .lst (sq_of (e2 _ _ (e1 _ _ hc))) (dp_strs cs), .lst (sq_of (e2 _ _ hp)) .nil, shaped_strs pc, by decide, by
    rw [eqv_nil]
    exact k' H2 (Ex.refl H2)⟩)
  have t2 : EvT (tTest (tOp (rEqD K) (tVar 12) (tLst tNil))) σ H ab.isEmpty := et_test (ev_opL (ev_var h12) (el_lst ea_nil (Nat.zero_le _)) fun p H1 hp e1 H2 e2 Q' k' => ⟨.list (ab.map PyData.str), .list [], .lst (sq_of (e2 _ _ (e1 _ _ ha))) (dp_strs ab), .lst (sq_of (e2 _ _ hp)) .nil, shaped_strs pa, by decide, by
    rw [eqv_nil]
    exact k' H2 (Ex.refl H2)⟩)
  refine t1 H (Ex.refl H) _ fun H1 e1 => ?_
  have S1 := S.mono e1
  cases hcs : cs with
  | nil =>
    show Q false H1
    exact k false H1 (hidE e1 a) (S1.le (by omega)) (fun z => nomatch z) fun _ => na hcs
  | cons c r =>
    refine t2 H1 e1 _ fun H2 e2 => ?_
    cases hab : ab with
    | nil =>
      show Q true H2
      exact k true H2 (hidE (e1.trans e2) a) ((S1.mono e2).le (by omega)) (fun _ => by rw [hcs]; exact List.cons_ne_nil _ _) fun z => nomatch z
    | cons x y =>
      show tTest (tOp _ (tCall spDraw [] E0 (tCons (tVar 0) (tCons (tC (.int 6)) tNil))) (tVar 9)) σ H2 Q
      refine w_draw h0 ev_c (by decide) (by decide) (S1.mono e2) hB fun d H3 d0 d1 e3 S3 => ⟨.int busy, h9, d, busy, rfl, rfl, _, rfl, ?_⟩
      refine k _ H3 (ex_hid2 (hidE (e1.trans e2) a) e3) S3 (fun _ => by rw [hcs]; exact List.cons_ne_nil _ _) fun _ => by rw [hab]; exact List.cons_ne_nil _ _
end KB

set_option Elab.async false
set_option linter.all false
set_option maxRecDepth 100000
set_option maxHeartbeats 8000000
/-! KR2: the law's run of a shelf, walked. -/
namespace KB
open PySem L2 Evl
section
variable {K : PySem.W.Frag} {σ : L2.St} {H : Hp} {te ta : TE} {D : Ends}
/-- list(e) of a list or tuple -/
theorem el_listT {p : Addr} {xs : List V} (ha : Ev ta σ H (.ref p)) (h : SqT K H p xs) : EvL (tCB (rListS K) (tCons ta tNil)) σ H xs := fun H1 e Q q =>
  ha H1 e _ fun H2 e2 => ⟨p, xs, rfl, Or.inr (ex_t (e.trans e2) h), fun l hl => q l _ (fresh_back e2 hl) (e2.trans (Ex.new hl)) upd_same⟩
end
section
variable {P : Program} {w : World} {K : PySem.W.Frag} {mg : Str → Option Value} {base : Heap}
abbrev NRun : List Str := ["source", "room", "initial", "pages", "size", "content", "happened", "gone", "contents", "busy", "k", "page", "absent"]
theorem scRun : FnScope NRun ["source", "room", "initial", "pages", "size"] (defScope sRun) := ⟨rfl, rfl, rfl, by decide +kernel, rfl, by decide +kernel, by decide +kernel⟩
def spRun (K : PySem.W.Frag) : Sp := fun vs H Q _ => ∃ (a t pg : Addr) (room n : Nat) (c0 pages : List Str) (B : Int), vs = [.ref a, .int (room : Int), .ref t, .ref pg, .int (n : Int)] ∧ SrcAt H a B ∧ B ≤ 800000 ∧ 1 ≤ room ∧ room ≤ 1000 ∧
  SqT K H t (c0.map V.str) ∧ Pages c0 ∧ c0.length ≤ room ∧ SqL K H pg (pages.map V.str) ∧ pg ≠ a ∧ Pages pages ∧ pages ≠ [] ∧ n ≤ 200 ∧
  ∀ T cp hp gp cq ts qs es gs css cs H2, H T = none → H2 T = some (.tup [.ref hp, .ref gp, .ref cq]) → RS H H2 a (B + 700) cp hp gp cq ts qs es gs css cs → RunTo room c0 es gs css cs → es.length = n → Q (.ref T) H2
theorem ok_run {f : Addr} {fd : FuncData} (F : Fun K "_law_run" "_law_run" sRun f fd) (B0 : Bn mg) (cD : Cl P w K mg base 1 "_law_draw" ["source", "bound"] spDraw) : FnOk P w K mg base CX0 2 f fd ["source", "room", "initial", "pages", "size"] (spRun K) := by
  refine F.ok scRun (fun vs H Q E h => ?_) (fun cdv A outer s H vs Q E hr h => ?_)
  · obtain ⟨a, t, pg, room, n, c0, pages, B, rfl, _⟩ := h
    rfl
  · obtain ⟨a, t, pg, room, n, c0, pages, B, rfl, hS, hB, hr1, hr2, ht, pc0, hc0, hpg, npg, ppg, nepg, hn, q⟩ := h
    have nd := scRun.nd
    refine ⟨_, pss_cons (ps_asg (pe_tup (pa_cons (pe_callTy call_list_of (by rfl) B0.list bt_list (pa_cons (pv 2) pa_nil)) (pa_cons (pe_lst pa_nil) (pa_cons (pe_lst pa_nil) (pa_cons (pe_lst (pa_cons (pe_callTy call_list_of (by rfl) B0.list bt_list (pa_cons (pv 2) pa_nil)) pa_nil)) pa_nil)))))
        (pg_tup rfl (pgs_cons (pg_name (i := 5) nd rfl (Or.inr rfl)) (pgs_cons (pg_name (i := 6) nd rfl (Or.inl rfl)) (pgs_cons (pg_name (i := 7) nd rfl (Or.inl rfl)) (pgs_cons (pg_name (i := 8) nd rfl (Or.inl rfl)) pgs_nil))))))
      (pss_cons (ps_set (i := 9) nd rfl (Or.inl rfl) (pe_op op_add pe_int (pe_cl cD hr (pa_cons (pv 0) (pa_cons pe_int pa_nil)))))
      (pss_cons (ps_for PassesOwn.never rfl (pi_range1 (by rfl) B0.range (pa_cons (pv 4) pa_nil)) (pg_name (i := 10) nd rfl (Or.inl rfl))
        (pss_cons (ps_setLc (i := 12) (own := [("page", 11)]) (g := gName 11) (tt := tTest (tOp (rIn K true) (tVar 11) (tVar 5))) (te := tVar 11) (by rfl) nd rfl rfl (sw_true rfl rfl rfl (by decide +kernel)) (pi_list (pv 3)) (blkOk_by (N := NRun) (sc := defScope sRun) (by decide +kernel))
            (fun _ _ _ _ _ => pg_name (i := 11) nd rfl (Or.inl rfl)) (fun _ _ _ _ _ => pts_one (pt_cmpR (r := rIn K true) op_notIn_seq (pv 11) (pv 5) (by with_unfolding_all rfl))) (fun _ _ _ _ _ => pv 11))
        (pss_cut (ps_if (PW.pt (pw_and (pt_cmpR (op_neD hr.units) (pv 5) (pe_lst pa_nil) (nomark _)) (pw_and1 (PW.pt (pw_or (pt_cmpR (op_eqD hr.units) (pv 12) (pe_lst pa_nil) (nomark _)) (pw_or1 (pt_cmpR op_lt (pe_cl cD hr (pa_cons (pv 0) (pa_cons pe_int pa_nil))) (pv 9) (nomark _))))))))
          (pss_one (ps_expr (pe_bm PySem.F.plainAttrs_list PySem.F.slot_list_append PySem.F.type_list_append mt_append (pv 6) (pa_cons (pe_tup (pa_cons pe_str (pa_cons (pe_ix ix_list (pv 5) (pe_cl cD hr (pa_cons (pv 0) (pa_cons (pe_callB call_len_seq (by rfl) B0.len bt_len (pa_cons (pv 5) pa_nil)) pa_nil))) (fun _ _ => rfl)) pa_nil))) pa_nil))))
          (pss_cons (ps_set (i := 11) nd rfl (Or.inl rfl) (pe_ix ix_list (pv 12) (pe_cl cD hr (pa_cons (pv 0) (pa_cons (pe_callB call_len_seq (by rfl) B0.len bt_len (pa_cons (pv 12) pa_nil)) pa_nil))) (fun _ _ => rfl)))
          (pss_cons (ps_expr (pe_bm PySem.F.plainAttrs_list PySem.F.slot_list_append PySem.F.type_list_append mt_append (pv 6) (pa_cons (pe_tup (pa_cons pe_str (pa_cons (pv 11) pa_nil))) pa_nil)))
          (pss_cut (ps_if (pt_cmpR op_eq (pe_callB call_len_seq (by rfl) B0.len bt_len (pa_cons (pv 5) pa_nil)) (pv 1) (nomark _))
            (pss_one (ps_expr (pe_bm PySem.F.plainAttrs_list PySem.F.slot_list_append PySem.F.type_list_append mt_append (pv 7) (pa_cons (pe_bm PySem.F.plainAttrs_list PySem.F.slot_list_pop PySem.F.type_list_pop mt_popAt (pv 5) (pa_cons (pe_cl cD hr (pa_cons (pv 0) (pa_cons (pv 1) pa_nil))) pa_nil)) pa_nil)))) pss_nil)
          (pss_one (ps_set (i := 5) nd rfl (Or.inr rfl) (pe_op op_cat (pv 5) (pe_lst (pa_cons (pv 11) pa_nil)))))))))
        (pss_one (ps_expr (pe_bm PySem.F.plainAttrs_list PySem.F.slot_list_append PySem.F.type_list_append mt_append (pv 8) (pa_cons (pe_callTy call_list_of (by rfl) B0.list bt_list (pa_cons (pv 5) pa_nil)) pa_nil)))))))
      (pss_one (ps_ret (pe_tup (pa_cons (pv 6) (pa_cons (pv 7) (pa_cons (pv 8) pa_nil)))))))), ?_⟩
    have hcl : c0.length ≤ 200 := pc0.len
    have hpl : pages.length ≤ 200 := ppg.len
    -- the four lists
    refine ⟨.ref t, rfl, t, c0.map V.str, rfl, .inr ht, fun cp n1 => ?_⟩
    refine ⟨Nat.zero_le _, fun hp n2 => ⟨Nat.zero_le _, fun gp n3 => ?_⟩⟩
    have x1 := Ex.new (o := .lst (c0.map V.str)) n1
    have x2 := Ex.new (o := .lst []) n2
    have x3 := Ex.new (o := .lst []) n3
    refine ⟨.ref t, rfl, t, c0.map V.str, rfl, .inr (ex_t ((x1.trans x2).trans x3) ht), fun q0 n4 => ?_⟩
    have x4 := Ex.new (o := .lst (c0.map V.str)) n4
    refine ⟨by show 1 ≤ sizeLine; decide, fun cq n5 => ⟨by show 4 ≤ sizeLine; decide, fun T0 n6 => ?_⟩⟩
    have x5 := Ex.new (o := .lst [.ref q0]) n5
    have x6 := Ex.new (o := .tup [.ref cp, .ref hp, .ref gp, .ref cq]) n6
    obtain ⟨xsa, ha⟩ := hS.is
    have y12 := x1.trans x2
    have y13 := y12.trans x3
    have y14 := y13.trans x4
    have y15 := y14.trans x5
    have w0 : RS H _ a B cp hp gp cq [] [q0] [] [] [c0] c0 := {
      ex := hidE (y15.trans x6) a, src := hS.mono (y15.trans x6), hcp := x6 _ _ (x5 _ _ (x4 _ _ (x3 _ _ (x2 _ _ upd_same)))), hhp := x6 _ _ (x5 _ _ (x4 _ _ (x3 _ _ upd_same))), hts := .nil, hgp := x6 _ _ (x5 _ _ (x4 _ _ upd_same)), hcq := x6 _ _ upd_same
      hqs := .cons (x6 _ _ (x5 _ _ upd_same)) .nil
      f1 := n1, f2 := fresh_back x1 n2, f3 := fresh_back y12 n3, f4 := fresh_back y14 n5
      d1 := ne_of_none upd_same n2, d2 := ne_of_none (x2 _ _ upd_same) n3, d3 := ne_of_none (x4 _ _ (x3 _ _ (x2 _ _ upd_same))) n5, d4 := ne_of_none upd_same n3, d5 := ne_of_none (x4 _ _ (x3 _ _ upd_same)) n5, d6 := ne_of_none (x4 _ _ upd_same) n5
      a1 := ne_of_none ha n1, a2 := ne_of_none (x1 _ _ ha) n2, a3 := ne_of_none (y12 _ _ ha) n3, a4 := ne_of_none (y14 _ _ ha) n5
      dq := fun z hz => by
        rw [List.mem_singleton.mp hz]
        exact ⟨(ne_of_none (x3 _ _ (x2 _ _ upd_same)) n4).symm, (ne_of_none (x3 _ _ upd_same) n4).symm, (ne_of_none upd_same n4).symm, ne_of_none upd_same n5, (ne_of_none (y13 _ _ ha) n4).symm, fresh_back y13 n4⟩ }
    refine ⟨T0, _, rfl, .inl (.inl upd_same), rfl, .ref cp, _, rfl, .ref hp, _, rfl, .ref gp, _, rfl, .ref cq, _, rfl, rfl, ?_⟩
    generalize upd _ T0 _ = H1 at w0 ⊢
    -- busy
    show tCall spDraw [] E0 (tCons (tVar 0) (tCons (tC (.int 4)) tNil)) _ H1 _
    refine w_draw rfl ev_c (by decide) (by decide) w0.src (by omega) fun bz H2 _ _ e2 S2 => ⟨1, bz, rfl, rfl, ?_⟩
    have w1 := w0.draw e2 S2
    have hpgK : ∀ {H' : Hp}, Ex (hid H a) H' → SqL K H' pg (pages.map V.str) := fun e => ex_l e (sql_hid hpg npg)
    refine q_forN (n := n) (ea_cons (ev_var rfl) ea_nil) (by omega) (fun i σ H' => ∃ cp cs ts qs es gs css z10 z11 z12, σ = [some (.ref a), some (.int (room : Int)), some (.ref t), some (.ref pg), some (.int (n : Int)), some (.ref cp), some (.ref hp), some (.ref gp), some (.ref cq), some (.int (1 + bz)), z10, z11, z12] ∧
      RS H H' a (B + 1 + 3 * (i : Int)) cp hp gp cq ts qs es gs css cs ∧ RunTo room c0 es gs css cs ∧ es.length = i ∧ qs.length = i + 1)
      (fun H3 e3 => ⟨cp, c0, [], [q0], [], [], [c0], none, none, none, rfl, (w1.mono e3).le (by omega), .nil, rfl, rfl⟩) (fun i σ H' hi hP => ?_) (fun σ H' hP => ?_)
    · obtain ⟨cp, cs, ts, qs, es, gs, css, z10, z11, z12, rfl, w, r, hes, hqs⟩ := hP
      obtain ⟨i1, i2, i3, i4, i5, i6, i7⟩ := r.facts hc0 pc0.nd pc0.all
      have hts := paired_len w.hts
      have hgs : gs.length ≤ i := by
        rw [i3]
        unfold lates
        have := List.length_filter_le (lateB room c0.length es) (List.range es.length)
        rw [List.length_range] at this
        omega
      have hcs : cs.length ≤ room := by
        rw [i1, i7]
        omega
      -- absent
      refine q_asgL (xs := (pages.filter fun x => !decide (x ∈ cs)).map V.str) ?_ fun ap H3 hap e3 h3 => ?_
      · rw [← given_filter pages (fun x => !decide (x ∈ cs)) ""]
        have hm : (pages.map V.str).length = pages.length := List.length_map ..
        rw [← hm]
        refine el_lcL _ _ (ev_var rfl) (hpgK w.ex) (by omega) (fun _ => rfl) (fun j x H4 e4 hx => ?_) (fun j x H4 e4 hx _ => ?_)
        all_goals
          rw [List.getElem?_map] at hx
          obtain ⟨y, hy, rfl⟩ := Option.map_eq_some_iff.mp hx
          have ey : pages.getD j "" = y := by rw [List.getD_eq_getElem?_getD, hy]; rfl
          rw [ey]
        · exact et_is (et_test (ev_op (ev_var rfl) (ev_var rfl) (rv_niL (sq_of (e4 _ _ w.hcp)) rfl (flat_all cs)))) (by rw [in_strs])
        · exact ev_var rfl
      · have habs : ∀ x ∈ pages.filter (fun x => !decide (x ∈ cs)), x ∈ pages ∧ x ∉ cs := fun x hx => by
          obtain ⟨q1, q2⟩ := List.mem_filter.mp hx
          exact ⟨q1, by simpa using q2⟩
        have hne : cs = [] → pages.filter (fun x => !decide (x ∈ cs)) ≠ [] := fun z => by
          subst z
          rw [List.filter_eq_self.mpr (fun _ _ => by simp)]
          exact nepg
        have hab : (pages.filter fun x => !decide (x ∈ cs)).length ≤ 200 := Nat.le_trans (List.length_filter_le _ _) hpl
        generalize (pages.filter fun x => !decide (x ∈ cs)) = ab at h3 habs hne hab
        have w3 := w.mono e3
        obtain ⟨xs3, ha3⟩ := w.src.is
        have nap : ap ≠ a := (ne_of_none ha3 hap).symm
        refine ⟨fun σ' H'' => ∃ cp cs ts es gs z10 z11 z12, σ' = [some (.ref a), some (.int (room : Int)), some (.ref t), some (.ref pg), some (.int (n : Int)), some (.ref cp), some (.ref hp), some (.ref gp), some (.ref cq), some (.int (1 + bz)), z10, z11, z12] ∧
          RS H H'' a (B + 1 + 3 * ((i + 1 : Nat) : Int)) cp hp gp cq ts qs es gs css cs ∧ RunTo room c0 es gs (css ++ [cs]) cs ∧ es.length = i + 1, ?_, fun σ' H'' hM => ?_⟩
        · refine w_cond (cs := cs) (ab := ab) (cp := cp) (ap := ap) (a := a) (busy := 1 + bz) rfl rfl rfl rfl w3.hcp h3 i5 (fun x hx => ppg.all x (habs x hx).1) hne w3.src (by omega) fun b H4 e4 S4 kt kf => ite2 (fun hb => ?_) (fun hb => ?_)
          · -- a hit
            have w4 := w3.draw e4 S4
            have cpos : 0 < cs.length := List.length_pos_iff.mpr (kt hb)
            refine ⟨.ref hp, rfl, .inl ⟨rfl, _, sq_of w4.hhp⟩, .ref cp, rfl, ?_⟩
            refine w_draw rfl (b := (cs.length : Int)) (ev_is (ev_len (ev_var rfl) (sq_of w4.hcp)) (by rw [List.length_map])) (by omega) (by omega) w4.src (by omega) fun g H5 g0 g1 e5 S5 => ?_
            have w5 := w4.draw e5 S5
            have gi : g.toNat < cs.length := by omega
            have gat : cs[g.toNat]? = some cs[g.toNat] := List.getElem?_eq_getElem gi
            refine ⟨cp, cs.map V.str, g, .str cs[g.toNat], rfl, rfl, sq_of w5.hcp, at_of (j := g.toNat) (by omega) (by rw [List.getElem?_map, gat]; rfl), ?_⟩
            refine ⟨by show 2 ≤ sizeLine; decide, fun tp ntp => ⟨hp, ts.map V.ref, .ref tp, rfl, rfl, Ex.new ntp _ _ w5.hhp, ?_, ?_⟩⟩
            · rw [List.length_map, hts, hes]
              exact Nat.lt_of_le_of_lt (show i ≤ 200 by omega) (by decide)
            · have w6 := (w5.mono (Ex.new ntp)).event (e := (hitS, cs[g.toNat])) upd_same
              have em : (ts ++ [tp]).map V.ref = ts.map V.ref ++ [V.ref tp] := by rw [List.map_append]; rfl
              rw [em] at w6
              exact ⟨cp, cs, ts ++ [tp], _, gs, _, _, _, rfl, w6.le (by omega), r.hit (List.mem_of_getElem? gat), by rw [List.length_append, hes]; rfl⟩
          · -- a miss
            have w4 := w3.draw e4 S4
            have hb' : b = false := by simpa using hb
            have apos : 0 < ab.length := List.length_pos_iff.mpr (kf hb')
            have h4 : H4 ap = some (.lst (ab.map V.str)) := e4 _ _ (by rw [hid_ne nap]; exact h3)
            refine ⟨.ref ap, rfl, ?_⟩
            refine w_draw rfl (b := (ab.length : Int)) (ev_is (ev_len (ev_var rfl) (sq_of h4)) (by rw [List.length_map])) (by omega) (by omega) w4.src (by omega) fun g H5 g0 g1 e5 S5 => ?_
            have w5 := w4.draw e5 S5
            have h5 : H5 ap = some (.lst (ab.map V.str)) := e5 _ _ (by rw [hid_ne nap]; exact h4)
            have gi : g.toNat < ab.length := by omega
            have gat : ab[g.toNat]? = some ab[g.toNat] := List.getElem?_eq_getElem gi
            obtain ⟨g_in, g_out⟩ := habs _ (List.mem_of_getElem? gat)
            have g_page := ppg.all _ g_in
            refine ⟨ap, ab.map V.str, g, .str ab[g.toNat], rfl, rfl, sq_of h5, at_of (j := g.toNat) (by omega) (by rw [List.getElem?_map, gat]; rfl), ?_⟩
            generalize ab[g.toNat] = p at g_in g_out g_page
            refine q_appU (l := hp) (xs := ts.map V.ref) (ys := [.str "miss", .str p]) w5.hhp (ev_var rfl) (eu_tup (ea_cons ev_c (ea_cons (ev_var rfl) ea_nil)) (show 2 ≤ 100000 by decide)) (by rw [List.length_map, hts, hes]; omega) fun tp H6 htp e6 h6 => ?_
            have w6 := (w5.mono e6).event (e := (missS, p)) h6
            have em : (ts ++ [tp]).map V.ref = ts.map V.ref ++ [V.ref tp] := by rw [List.map_append]; rfl
            rw [em] at w6
            generalize upd H6 hp (.lst (ts.map V.ref ++ [V.ref tp])) = H7 at w6 ⊢
            refine ⟨fun σ' H'' => ∃ cs2 gs2 z10 z12, σ' = [some (.ref a), some (.int (room : Int)), some (.ref t), some (.ref pg), some (.int (n : Int)), some (.ref cp), some (.ref hp), some (.ref gp), some (.ref cq), some (.int (1 + bz)), z10, some (.str p), z12] ∧
              RS H H'' a (B + 1 + 3 * ((i + 1 : Nat) : Int)) cp hp gp cq (ts ++ [tp]) qs (es ++ [(missS, p)]) gs2 css cs2 ∧ RunTo room c0 (es ++ [(missS, p)]) gs2 (css ++ [cs2 ++ [p]]) (cs2 ++ [p]) ∧ cs2.length ≤ room, ?_, fun σ' H'' hM => ?_⟩
            · refine s_when (b := decide (V.int (((cs.map V.str).length : Nat) : Int) = V.int (room : Int))) (et_test (ev_op (ev_len (ev_var rfl) (sq_of w6.hcp)) (ev_var rfl) (rv_eq rfl))) (fun hb2 H8 e8 => ?_) (fun hb2 H8 e8 => ?_)
              · have full : cs.length = room := by
                  rw [dec_int, List.length_map] at hb2
                  exact of_decide_eq_true hb2
                have w8 := w6.mono e8
                refine ⟨.ref gp, rfl, .inl ⟨rfl, _, sq_of w8.hgp⟩, .ref cp, rfl, .inl ⟨rfl, _, sq_of w8.hcp⟩, ?_⟩
                refine w_draw rfl (b := (room : Int)) (ev_var rfl) (by omega) (by omega) w8.src (by omega) fun k2 H9 k0 k1 e9 S9 => ?_
                have w9 := w8.draw e9 S9
                have ki : k2.toNat < cs.length := by omega
                have kat : cs[k2.toNat]? = some cs[k2.toNat] := List.getElem?_eq_getElem ki
                refine ⟨cp, cs.map V.str, k2, k2.toNat, .str cs[k2.toNat], rfl, rfl, w9.hcp, by omega, by omega, by rw [List.length_map]; exact seq_nat k0 (by omega), by rw [List.getElem?_map, kat]; rfl, ?_⟩
                have wa := w9.popped (j := k2.toNat)
                refine ⟨gp, gs.map V.str, .str cs[k2.toNat], rfl, rfl, wa.hgp, ?_, ?_⟩
                · rw [List.length_map]
                  exact Nat.lt_of_le_of_lt (show gs.length ≤ 200 by omega) (by decide)
                · have wb := wa.left (g := cs[k2.toNat])
                  have eg : (gs ++ [cs[k2.toNat]]).map V.str = gs.map V.str ++ [V.str cs[k2.toNat]] := by rw [List.map_append]; rfl
                  rw [eg] at wb
                  have el := erase_len cs k2.toNat ki
                  exact ⟨cs.eraseIdx k2.toNat, gs ++ [cs[k2.toNat]], _, _, rfl, wb.le (by omega), r.evict g_out g_page full kat, by omega⟩
              · have notfull : cs.length ≠ room := by
                  rw [dec_int, List.length_map] at hb2
                  exact of_decide_eq_false hb2
                exact ⟨cs, gs, _, _, rfl, (w6.mono e8).le (by omega), r.add g_out g_page notfull, hcs⟩
            · obtain ⟨cs2, gs2, z10', z12', rfl, w7, r7, hcs2⟩ := hM
              refine ⟨.ref cp, rfl, .str p, rfl, by show 1 ≤ sizeLine; decide, fun p1 np1 => ?_⟩
              have xa := Ex.new (o := .lst [V.str p]) np1
              refine ⟨cp, p1, cs2.map V.str, [.str p], rfl, rfl, xa _ _ w7.hcp, upd_same, ?_, fun c2 nc2 => ?_⟩
              · rw [List.length_map]
                exact Nat.le_trans (show cs2.length + 1 ≤ 1001 by omega) (by decide)
              · have xb := Ex.new (o := .lst (cs2.map V.str ++ [V.str p])) nc2
                have w8 := w7.anew (cs2 := cs2 ++ [p]) (xa.trans xb) (fresh_back xa nc2) (by rw [upd_same, List.map_append]; rfl)
                exact ⟨c2, cs2 ++ [p], ts ++ [tp], es ++ [(missS, p)], gs2, _, _, _, rfl, w8, r7, by rw [List.length_append, hes]; rfl⟩
        · obtain ⟨cp, cs, ts, es, gs, z10, z11, z12, rfl, w, r, hes⟩ := hM
          refine s_appL (l := cq) (xs := qs.map V.ref) (ys := cs.map V.str) w.hcq (ev_var rfl) (el_list (ev_var rfl) (sq_of w.hcp)) (by rw [List.length_map, hqs]; omega) fun q1 H5 hq e5 h5 => ?_
          have w5 := w.noted e5 hq h5
          have em : (qs ++ [q1]).map V.ref = qs.map V.ref ++ [V.ref q1] := by rw [List.map_append]; rfl
          rw [em] at w5
          exact ⟨cp, cs, ts, qs ++ [q1], es, gs, css ++ [cs], _, _, _, rfl, w5, r, hes, by rw [List.length_append, hqs]; rfl⟩
    · obtain ⟨cp, cs, ts, qs, es, gs, css, z10, z11, z12, rfl, w, r, hes, hqs⟩ := hP
      refine s_retU (eu_tup (ea_cons (ev_var rfl) (ea_cons (ev_var rfl) (ea_cons (ev_var rfl) ea_nil))) (show 3 ≤ 100000 by decide)) fun T H3 hT e3 h3 => ?_
      obtain ⟨xs3, ha3⟩ := w.src.is
      exact q T cp hp gp cq ts qs es gs css cs H3 (fresh_hid w.ex ha3 hT) h3 ((w.mono e3).le (by omega)) r hes
end
end KB

set_option Elab.async false
set_option linter.all false
set_option maxRecDepth 100000
set_option maxHeartbeats 8000000
/-! KS: the law's setup and count, walked. -/
namespace KB
open PySem L2 Evl
theorem drop_cut (xs : List V) {n : Nat} (h : n ≤ xs.length) : cutV xs (some (n : Int)) none = xs.drop n := by
  unfold cutV
  rw [HT.sIx_none, HT.sIx_nat, Nat.min_eq_left h, List.take_of_length_le (by rw [List.length_drop]; exact Nat.le_refl _)]
section
variable {P : Program} {w : World} {K : PySem.W.Frag} {mg : Str → Option Value} {base : Heap}
theorem scSetup : FnScope ["source", "most", "size", "pages", "room", "initial"] ["source", "most", "size"] (defScope sSetup) := ⟨rfl, rfl, rfl, by decide +kernel, rfl, by decide +kernel, by decide +kernel⟩
def spSetup : Sp := fun vs H Q _ => ∃ (a : Addr) (m sz B : Int), vs = [.ref a, .int m, .int sz] ∧ SrcAt H a B ∧ B ≤ 700000 ∧ 1 ≤ m ∧ m ≤ 150 ∧ 0 ≤ sz ∧ sz ≤ 199 ∧
  ∀ (T t pg : Addr) (room n : Nat) (c0 pages : List Str) H2, H T = none → H t = none → H pg = none → pg ≠ a → Ex (hid H a) H2 → SrcAt H2 a (B + 170) → H2 T = some (.tup [.int (room : Int), .ref t, .ref pg, .int (n : Int)]) →
    H2 t = some (.tup (c0.map V.str)) → H2 pg = some (.lst (pages.map V.str)) → 1 ≤ room → room ≤ 41 → Pages c0 → c0.length ≤ room → Pages pages → pages ≠ [] → (n : Int) ≤ sz → Q (.ref T) H2
theorem caps_at {d : Int} (h0 : 0 ≤ d) (h1 : d < 3) : ∃ v : Int, atI [V.int 2, V.int 5, V.int 40] d = some (V.int v) ∧ 0 < v ∧ v ≤ 40 := by
  have : d = 0 ∨ d = 1 ∨ d = 2 := by omega
  rcases this with rfl | rfl | rfl
  · exact ⟨2, rfl, by decide, by decide⟩
  · exact ⟨5, rfl, by decide, by decide⟩
  · exact ⟨40, rfl, by decide, by decide⟩
theorem nat_of {i : Int} (h : 0 ≤ i) : ∃ n : Nat, i = (n : Int) := ⟨i.toNat, (Int.toNat_of_nonneg h).symm⟩
theorem ok_setup {f : Addr} {fd : FuncData} (F : Fun K "_law_setup" "_law_setup" sSetup f fd) (B0 : Bn mg) (cD : Cl P w K mg base 1 "_law_draw" ["source", "bound"] spDraw) (cP : Cl P w K mg base 2 "_law_pages" ["source", "count"] spPages) : FnOk P w K mg base CX0 3 f fd ["source", "most", "size"] spSetup := by
  refine F.ok scSetup (fun vs H Q E h => ?_) (fun cdv A outer s H vs Q E hr h => ?_)
  · obtain ⟨a, m, sz, B, rfl, _⟩ := h
    rfl
  · obtain ⟨a, m, sz, B, rfl, hS, hB, m0, m1, s0, s1, q⟩ := h
    have nd := scSetup.nd
    refine ⟨_, pss_cons (ps_set (i := 3) nd rfl (Or.inl rfl) (pe_cl cP hr (pa_cons (pv 0) (pa_cons (pe_op op_add pe_int (pe_cl cD hr (pa_cons (pv 0) (pa_cons (pv 1) pa_nil)))) pa_nil))))
      (pss_cons (ps_set (i := 4) nd rfl (Or.inl rfl) (pe_op op_add pe_int (pe_cl cD hr (pa_cons (pv 0) (pa_cons (pe_ix ix_list (pe_lst (pa_cons pe_int (pa_cons pe_int (pa_cons pe_int pa_nil)))) (pe_cl cD hr (pa_cons (pv 0) (pa_cons pe_int pa_nil))) (fun _ _ => rfl)) pa_nil)))))
      (pss_cons (ps_set (i := 5) nd rfl (Or.inl rfl) (pe_callTy call_tuple_of (by rfl) B0.tuple bt_tuple (pa_cons (pe_slice sl_list (pv 3) po_none (po_some (pe_callB (call_min2 rfl) (by rfl) B0.min bt_min (pa_cons (pv 4) (pa_cons (pe_cl cD hr (pa_cons (pv 0) (pa_cons (pe_op op_add (pe_callB call_len_seq (by rfl) B0.len bt_len (pa_cons (pv 3) pa_nil)) pe_int) pa_nil))) pa_nil))))) pa_nil)))
      (pss_one (ps_ret (pe_tup (pa_cons (pv 4) (pa_cons (pv 5) (pa_cons (pe_op op_cat (pe_slice sl_list (pv 3) (po_some (pe_callB call_len_seq (by rfl) B0.len bt_len (pa_cons (pv 5) pa_nil))) po_none) (pe_callTy call_list_of (by rfl) B0.list bt_list (pa_cons (pv 5) pa_nil)))
        (pa_cons (pe_cl cD hr (pa_cons (pv 0) (pa_cons (pe_op op_add (pv 2) pe_int) pa_nil))) pa_nil))))))))), ?_⟩
    obtain ⟨xsa, ha⟩ := hS.is
    -- pages
    refine ⟨.ref a, rfl, ?_⟩
    refine w_draw rfl (ev_var rfl) (by omega) (by omega) hS (by omega) fun d H1 d0 d1 e1 S1 => ⟨1, d, rfl, rfl, ?_⟩
    obtain ⟨n1, hn1⟩ := nat_of (show 0 ≤ 1 + d by omega)
    refine ⟨a, n1, B + 1, by rw [← hn1]; rfl, by omega, by omega, S1, by omega, fun pg ps H2 hpg0 e2 S2 pps hps hpg => ?_⟩
    have k2 : Ex (hid H a) H2 := ex_hid2 e1 e2
    obtain ⟨xs1, ha1⟩ := S1.is
    have fpg : H pg = none := fresh_hid e1 ha1 hpg0
    have npg : pg ≠ a := (ne_of_none ha fpg).symm
    -- room
    refine ⟨.ref a, rfl, by show 3 ≤ sizeLine; decide, fun lp nlp => ?_⟩
    have x1 := Ex.new (o := .lst [V.int 2, V.int 5, V.int 40]) nlp
    obtain ⟨xs2, ha2⟩ := S2.is
    have nla : lp ≠ a := (ne_of_none ha2 nlp).symm
    refine w_draw rfl ev_c (by decide) (by decide) (S2.mono x1) (by omega) fun d2 H3 f0 f1 e3 S3 => ?_
    obtain ⟨v, hv, v0, v1⟩ := caps_at f0 f1
    have hlp : H3 lp = some (.lst [V.int 2, V.int 5, V.int 40]) := e3 _ _ (by rw [hid_ne nla, upd_same])
    have k3 : Ex (hid H a) H3 := ex_hid2 (k2.trans x1) e3
    have hpg3 : H3 pg = some (.lst (ps.map V.str)) := e3 _ _ (by rw [hid_ne npg]; exact x1 _ _ hpg)
    refine ⟨lp, [V.int 2, V.int 5, V.int 40], d2, .int v, rfl, rfl, sq_of hlp, hv, ?_⟩
    refine ⟨a, v, _, rfl, v0, by omega, S3, by omega, fun d3 H4 g0 g1 e4 S4 => ⟨1, d3, rfl, rfl, ?_⟩⟩
    have k4 : Ex (hid H a) H4 := ex_hid2 k3 e4
    have hpg4 : H4 pg = some (.lst (ps.map V.str)) := e4 _ _ (by rw [hid_ne npg]; exact hpg3)
    obtain ⟨room, hroom⟩ := nat_of (show 0 ≤ 1 + d3 by omega)
    -- initial
    refine ⟨.ref pg, rfl, .int (1 + d3), rfl, ?_⟩
    refine w_draw rfl (b := (ps.length : Int) + 1) (ev_op (ev_is (ev_len (ev_var rfl) (sq_of hpg4)) (by rw [List.length_map])) ev_c rv_I0) (by omega) (by omega) S4 (by omega) fun d4 H5 h0 h1 e5 S5 => ?_
    have k5 : Ex (hid H a) H5 := ex_hid2 k4 e5
    have hpg5 : H5 pg = some (.lst (ps.map V.str)) := e5 _ _ (by rw [hid_ne npg]; exact hpg4)
    obtain ⟨mn, hmn⟩ := nat_of (show 0 ≤ (if d4 < 1 + d3 then d4 else 1 + d3) by split <;> omega)
    have mn1 : mn ≤ ps.length := by
      split at hmn <;> omega
    have mn2 : mn ≤ room := by
      split at hmn <;> omega
    refine ⟨1 + d3, d4, rfl, (if d4 < 1 + d3 then d4 else 1 + d3), rfl, pg, ps.map V.str, rfl, sq_of hpg5, fun sp1 nsp => ?_⟩
    have hcut : cutV (ps.map V.str) none (some (if d4 < 1 + d3 then d4 else 1 + d3)) = (ps.take mn).map V.str := by rw [hmn, take_cut, List.map_take]
    have x2 := Ex.new (o := .lst (cutV (ps.map V.str) none (some (if d4 < 1 + d3 then d4 else 1 + d3)))) nsp
    refine ⟨sp1, _, rfl, .inl ⟨sq_of upd_same, fun t nt => ?_⟩⟩
    have x3 := Ex.new (o := .tup (cutV (ps.map V.str) none (some (if d4 < 1 + d3 then d4 else 1 + d3)))) nt
    have ht : upd (upd H5 sp1 (.lst (cutV (ps.map V.str) none (some (if d4 < 1 + d3 then d4 else 1 + d3))))) t (.tup (cutV (ps.map V.str) none (some (if d4 < 1 + d3 then d4 else 1 + d3)))) t = some (.tup ((ps.take mn).map V.str)) := by rw [upd_same, hcut]
    have k6 : Ex (hid H a) _ := k5.trans (x2.trans x3)
    have S6 := S5.mono (x2.trans x3)
    have hpg6 := (x2.trans x3) _ _ hpg5
    obtain ⟨xs5, ha5⟩ := S5.is
    have ft : H t = none := fresh_hid k5 ha5 (fresh_back x2 nt)
    have tlen : ((ps.take mn).map V.str).length = mn := by
      rw [List.length_map, List.length_take]
      omega
    generalize upd (upd H5 sp1 _) t _ = H6 at ht k6 S6 hpg6 ⊢
    -- return
    refine ⟨.int (1 + d3), rfl, .ref t, rfl, .ref pg, rfl, .ref t, rfl, t, _, rfl, .inr (.inl (.inl ht)), _, rfl, pg, ps.map V.str, rfl, sq_of hpg6, fun p2 np2 => ?_⟩
    have hdrop : cutV (ps.map V.str) (some ((((ps.take mn).map V.str).length : Nat) : Int)) none = (ps.drop mn).map V.str := by rw [tlen, drop_cut _ (by rw [List.length_map]; exact mn1), List.map_drop]
    have y1 := Ex.new (o := .lst (cutV (ps.map V.str) (some ((((ps.take mn).map V.str).length : Nat) : Int)) none)) np2
    refine ⟨.ref t, rfl, t, _, rfl, .inr (.inl (.inl (y1 _ _ ht))), fun p3 np3 => ?_⟩
    have y2 := Ex.new (o := .lst ((ps.take mn).map V.str)) np3
    refine ⟨p2, p3, _, _, rfl, rfl, y2 _ _ upd_same, upd_same, ?_, fun p4 np4 => ?_⟩
    · rw [hdrop, List.length_map, List.length_drop, tlen]
      exact Nat.le_trans (show _ ≤ 1000 by omega) (by decide)
    · have y3 := Ex.new (o := .lst (cutV (ps.map V.str) (some ((((ps.take mn).map V.str).length : Nat) : Int)) none ++ (ps.take mn).map V.str)) np4
      have yy := (y1.trans y2).trans y3
      have hp4 : upd (upd (upd H6 p2 (.lst (cutV (ps.map V.str) (some ((((ps.take mn).map V.str).length : Nat) : Int)) none))) p3 (.lst ((ps.take mn).map V.str))) p4 (.lst (cutV (ps.map V.str) (some ((((ps.take mn).map V.str).length : Nat) : Int)) none ++ (ps.take mn).map V.str)) p4 = some (.lst ((ps.drop mn ++ ps.take mn).map V.str)) := by rw [upd_same, hdrop, List.map_append]
      have S7 := S6.mono yy
      have ht7 := yy _ _ ht
      obtain ⟨xs6, ha6⟩ := S6.is
      have fp4 : H p4 = none := fresh_hid k6 ha6 (fresh_back (y1.trans y2) np4)
      have k7 : Ex (hid H a) _ := k6.trans yy
      generalize upd (upd (upd H6 p2 _) p3 _) p4 _ = H7 at hp4 S7 ht7 k7 ⊢
      refine w_draw rfl (b := sz + 1) (ev_op (ev_var rfl) ev_c rv_I0) (by omega) (by omega) S7 (by omega) fun d5 H8 i0 i1 e8 S8 => ?_
      have n4a : p4 ≠ a := (ne_of_none ha fp4).symm
      have hp8 : H8 p4 = some (.lst ((ps.drop mn ++ ps.take mn).map V.str)) := e8 _ _ (by rw [hid_ne n4a]; exact hp4)
      obtain ⟨xs7, ha7⟩ := S7.is
      have nta : t ≠ a := ne_of ht7 ha7 (by intro z; cases z)
      have ht8 : H8 t = some (.tup ((ps.take mn).map V.str)) := e8 _ _ (by rw [hid_ne nta]; exact ht7)
      have k8 : Ex (hid H a) H8 := ex_hid2 k7 e8
      refine ⟨by show 4 ≤ sizeLine; decide, fun T nT => ?_⟩
      obtain ⟨nn, hnn⟩ := nat_of i0
      have z1 := Ex.new (o := .tup [V.int (1 + d3), .ref t, .ref p4, .int d5]) nT
      obtain ⟨xs8, ha8⟩ := S8.is
      have fT : H T = none := fresh_hid k8 ha8 nT
      have perm : (ps.drop mn ++ ps.take mn).Perm ps := List.perm_append_comm.trans (by rw [List.take_append_drop])
      have ptake : Pages (ps.take mn) := ⟨fun x hx => pps.all x (List.mem_of_mem_take hx), pps.nd.sublist (List.take_sublist _ _), by have := pps.len; rw [List.length_take]; omega⟩
      refine q T t p4 room nn (ps.take mn) (ps.drop mn ++ ps.take mn) _ fT ft fp4 n4a (k8.trans z1) ((S8.mono z1).le (by omega)) (by rw [upd_same, hnn, hroom]) (z1 _ _ ht8) (z1 _ _ hp8) (by omega) (by omega) ptake ?_ (pps.perm perm) ?_ (by omega)
      · rw [List.length_take]
        omega
      · intro z
        have := perm.length_eq
        rw [z] at this
        simp at this
        omega
end
end KB

set_option Elab.async false
set_option linter.all false
set_option maxRecDepth 100000
set_option maxHeartbeats 8000000
namespace KB
open PySem PySem.Spec PyProof.Rows L2 Evl
def evD (e : Ev1) : PyData := .tuple [.str e.1, .str e.2]
def logD (es : List Ev1) : PyData := .list (es.map evD)
theorem page_ok {x : Str} (h : pageB x = true) : PyData.strOk x = true := by
  have := lay_strs (xs := [x]) fun y hy => by rw [List.mem_singleton.mp hy]; exact h
  have e : (PyData.canLay0 (.str x) && PyData.canLayAll0 []) = true := this
  rw [Bool.and_eq_true] at e
  exact e.1
theorem mark_ok {x : Str} (h : x = hitS ∨ x = missS) : PyData.strOk x = true ∧ x.cps.size ≤ 4 := by
  rcases h with rfl | rfl <;> decide +kernel
theorem evs_lay : ∀ {es : List Ev1}, (∀ e ∈ es, okE e) → PyData.canLayAll0 (es.map evD) = true
  | [], _ => rfl
  | e :: es, h => by
    have ih := evs_lay (es := es) fun y hy => h y (List.mem_cons_of_mem _ hy)
    obtain ⟨h1, h2⟩ := h e List.mem_cons_self
    rw [List.map_cons, PyData.canLayAll0, ih, Bool.and_true]
    show (PyData.strOk e.1 && (PyData.strOk e.2 && true)) = true
    rw [(mark_ok h1).1, page_ok h2]
    rfl
theorem evs_depth : ∀ es : List Ev1, PyData.depthAll (es.map evD) ≤ 1
  | [] => Nat.zero_le _
  | e :: es => by
    have ih := evs_depth es
    rw [List.map_cons, PyData.depthAll]
    have : PyData.depth (evD e) = 1 := rfl
    omega
theorem evs_weight : ∀ {es : List Ev1}, (∀ e ∈ es, okE e) → PyData.weightAll (es.map evD) ≤ 11 * es.length
  | [], _ => Nat.zero_le _
  | e :: es, h => by
    have ih := evs_weight (es := es) fun y hy => h y (List.mem_cons_of_mem _ hy)
    obtain ⟨h1, h2⟩ := h e List.mem_cons_self
    rw [List.map_cons, PyData.weightAll, List.length_cons]
    have m := (mark_ok h1).2
    have p : e.2.cps.size ≤ 4 := pageB_len h2
    have : PyData.weight (evD e) = e.1.cps.size + 1 + (e.2.cps.size + 1 + 0) := rfl
    omega
theorem evs_show : ∀ es : List Ev1, PyData.showableAll (es.map evD) = true
  | [] => rfl
  | e :: es => by
    rw [List.map_cons, PyData.showableAll, evs_show es]
    rfl
theorem evs_short : ∀ es : List Ev1, PyData.intsShortAll 13 (es.map evD) = true
  | [] => rfl
  | e :: es => by
    rw [List.map_cons, PyData.intsShortAll, evs_short es]
    rfl
theorem dp_evs {K : PySem.W.Frag} {H : Hp} : ∀ {ts : List Addr} {es : List Ev1}, Paired (fun t (e : Ev1) => SqT K H t [.str e.1, .str e.2]) ts es → DpAll K H (ts.map V.ref) (es.map evD)
  | _, _, .nil => .nil
  | _, _, .cons h t => .cons (.tup h (.cons (.str _) (.cons (.str _) .nil))) (dp_evs t)
theorem shaped_evs {es : List Ev1} (h : ∀ e ∈ es, okE e) : SeqAt.shaped (logD es) = true := by
  unfold SeqAt.shaped
  rw [show PyData.canLay0 (logD es) = PyData.canLayAll0 (es.map evD) from rfl, evs_lay h, Bool.true_and, decide_eq_true_eq]
  have h1 := evs_depth es
  have : PyData.depth (logD es) = PyData.depthAll (es.map evD) + 1 := rfl
  omega
/-- a log that is the law's own -/
structure EvM (H : Hp) (l : Addr) (es : List Ev1) : Prop where
  at_ : ∃ ts : List Addr, H l = some (.lst (ts.map V.ref)) ∧ Paired (TupAt H) ts es
section
variable {H H' H1 : Hp} {a l t : Addr} {es : List Ev1} {e : Ev1} {B : Int}
theorem EvM.mono (h : EvM H l es) (k : Ex H H') : EvM H' l es := by
  obtain ⟨⟨ts, h1, h2⟩⟩ := h
  exact ⟨ts, k _ _ h1, Paired.imp h2 fun _ _ z => k _ _ z⟩
theorem EvM.draw (h : EvM H l es) (n : l ≠ a) (S : SrcAt H a B) (k : Ex (hid H a) H') : EvM H' l es := by
  obtain ⟨⟨ts, h1, h2⟩⟩ := h
  obtain ⟨xs, ha⟩ := S.is
  exact ⟨ts, k _ _ (by rw [hid_ne n]; exact h1), Paired.imp h2 fun t v z => k _ _ (by rw [hid_ne (ne_of (show H t = _ from z) ha (fun q => by cases q))]; exact z)⟩
end
section
variable {P : Program} {w : World} {K : PySem.W.Frag} {mg : Str → Option Value} {base : Heap} {k : Nat} {x : Str} {ps : List Str} {sp : Sp}
/-- a promise under which nothing is raised -/
def calmSp (sp : Sp) : Sp := fun vs H Q _ => sp vs H Q fun _ _ _ => False
theorem FnOk.calm {f : Addr} {fd : FuncData} (F : FnOk P w K mg base (L2.CX P w) k f fd ps sp) : FnOk P w K mg base CX0 k f fd ps (calmSp sp) :=
  ⟨fun vs H Q E h => F.len vs H Q _ h, fun A outer s H args us vs Q E hr he hb hv hs => codeAny_mono (F.run A outer s H args us vs Q (fun _ _ _ => False) hr he hb hv hs) fun r s' h => by
    cases r with
    | error e =>
      obtain ⟨_, _, _, _, _, _, _, _, _, _, _, _, z⟩ := (show L2.CX P w outer H s (fun _ _ _ => False) e s' from h)
      exact z.elim
    | ok fl => cases fl <;> exact h⟩
theorem ClX.calm (c : ClX P w K mg base k x ps sp) : Cl P w K mg base k x ps (calmSp sp) := by
  obtain ⟨f, fd, F, hm, kp, hb⟩ := c.ex
  exact ⟨f, fd, FnOk.calm F, hm, kp, hb⟩
theorem Cl.imp {sp' : Sp} (c : Cl P w K mg base k x ps sp) (h : ∀ vs H Q E, sp' vs H Q E → sp vs H Q E) : Cl P w K mg base k x ps sp' := by
  obtain ⟨f, fd, F, hm, kp, hb⟩ := c.ex
  exact ⟨f, fd, F.imp h, hm, kp, hb⟩
end
def pD (ps : List Str) : List PyData := ps.map PyData.str
theorem dvs_strs {K : PySem.W.Frag} {H : Hp} : ∀ xs : List Str, DVs K H (xs.map V.str) (pD xs)
  | [] => .nil
  | x :: xs => .cons (.str x) (dvs_strs xs)
theorem dvs_evs {K : PySem.W.Frag} {H : Hp} : ∀ {ts : List Addr} {es : List Ev1}, Paired (TupAt H) ts es → DVs K H (ts.map V.ref) (es.map evD)
  | _, _, .nil => .nil
  | _, _, .cons h t => .cons (.tup (.inl (.inl h)) (.cons (.str _) (.cons (.str _) .nil))) (dvs_evs t)
theorem small_all : ∀ {ds : List PyData}, smallAll ds = true ↔ ∀ d ∈ ds, smallD d = true
  | [] => by simp [smallAll]
  | d :: ds => by
    rw [smallAll, Bool.and_eq_true, small_all (ds := ds)]
    simp
theorem page_small {x : Str} (h : pageB x = true) : smallD (.str x) = true := by
  have h2 := page_ok h
  rw [smallD, Bool.and_eq_true, decide_eq_true_eq]
  refine ⟨?_, h2⟩
  have : x.length ≤ 4 := pageB_len h
  omega
/-- a capacity, a shelf, a log -/
structure PL (H : Hp) (t l : Addr) (c : Nat) (ps : List Str) (es : List Ev1) : Prop where
  c1 : 1 ≤ c
  ht : H t = some (.tup (ps.map V.str))
  pg : Pages ps
  le : ps.length ≤ c
  ev : EvM H l es
  ok : ∀ e ∈ es, okE e
  el : es.length ≤ 300
theorem PL.mono {H H' : Hp} {t l : Addr} {c : Nat} {ps : List Str} {es : List Ev1} (p : PL H t l c ps es) (e : Ex H H') : PL H' t l c ps es := { p with ht := e _ _ p.ht, ev := p.ev.mono e }
theorem pD_text (ps : List Str) : (pD ps).map textD = ps := by
  unfold pD
  rw [List.map_map]
  exact List.map_id _
theorem pD_len (ps : List Str) : (pD ps).length = ps.length := List.length_map ..
theorem shelf_pD {ps : List Str} (hp : Pages ps) : shelfD (.tuple (pD ps)) = true := by
  show ((pD ps).all pageD && decide (((pD ps).map textD).Nodup)) = true
  rw [pD_text, decide_eq_true hp.nd, Bool.and_true, List.all_eq_true]
  intro d hd
  obtain ⟨x, hx, rfl⟩ := List.mem_map.mp hd
  exact hp.all x hx
theorem log_evD {es : List Ev1} (ho : ∀ e ∈ es, okE e) : logB (.list (es.map evD)) = true := by
  show (es.map evD).all eventD = true
  rw [List.all_eq_true]
  intro d hd
  obtain ⟨e, he, rfl⟩ := List.mem_map.mp hd
  obtain ⟨h1, h2⟩ := ho e he
  show (markD (.str e.1) && pageD (.str e.2)) = true
  rw [Bool.and_eq_true]
  refine ⟨?_, h2⟩
  show (decide (e.1 = hitS) || decide (e.1 = missS)) = true
  rcases h1 with h | h
  · rw [decide_eq_true h]; rfl
  · rw [decide_eq_true h, Bool.or_true]
theorem small_tup {ps : List Str} (hp : Pages ps) : smallD (.tuple (pD ps)) = true := by
  rw [smallD, Bool.and_eq_true, decide_eq_true_eq]
  refine ⟨by rw [pD_len]; have := hp.len; omega, small_all.mpr fun d hd => ?_⟩
  obtain ⟨x, hx, rfl⟩ := List.mem_map.mp hd
  exact page_small (hp.all x hx)
theorem small_log {es : List Ev1} (ho : ∀ e ∈ es, okE e) (hl : es.length ≤ 1000) : smallD (.list (es.map evD)) = true := by
  rw [smallD, Bool.and_eq_true, decide_eq_true_eq]
  refine ⟨by rw [List.length_map]; omega, small_all.mpr fun d hd => ?_⟩
  obtain ⟨e, he, rfl⟩ := List.mem_map.mp hd
  obtain ⟨h1, h2⟩ := ho e he
  show smallD (.tuple [.str e.1, .str e.2]) = true
  rw [smallD, Bool.and_eq_true, decide_eq_true_eq]
  refine ⟨by show 2 ≤ 1000; decide, ?_⟩
  rw [smallAll, smallAll, smallAll, page_small h2]
  have hm := mark_ok h1
  have : smallD (.str e.1) = true := by
    rw [smallD, Bool.and_eq_true, decide_eq_true_eq]
    exact ⟨by have z : e.1.length ≤ 4 := hm.2; omega, hm.1⟩
  rw [this]
  rfl
theorem bad_none {c : Nat} {ps : List Str} {es : List Ev1} (h1 : 1 ≤ c) (hp : Pages ps) (hl : ps.length ≤ c) (ho : ∀ e ∈ es, okE e) : badD (.int (c : Int)) (.tuple (pD ps)) (.list (es.map evD)) = none := by
  have a1 : capB (.int (c : Int)) = true := decide_eq_true (by omega)
  have a2 : startB (intOf (.int (c : Int))) (.tuple (pD ps)) = true := by
    unfold startB
    rw [shelf_pD hp, Bool.true_and]
    exact decide_eq_true (by show ((pD ps).length : Int) ≤ (c : Int); rw [pD_len]; omega)
  unfold badD
  rw [a1, if_neg (by decide), a2, if_neg (by decide), log_evD ho, if_neg (by decide)]
theorem ofE (es : List Ev1) : (es.map evD).map evOf = es := by
  rw [List.map_map]
  exact List.map_id _
theorem PL.dv3 {K : PySem.W.Frag} {H : Hp} {t l : Addr} {c : Nat} {ps : List Str} {es : List Ev1} (p : PL H t l c ps es) : DV3 K H (.int (c : Int)) (.ref t) (.ref l) (.int (c : Int)) (.tuple (pD ps)) (.list (es.map evD)) := by
  obtain ⟨⟨ts, h1, h2⟩⟩ := p.ev
  exact ⟨.int _, .tup (.inl (.inl p.ht)) (dvs_strs ps), .lst h1 (dvs_evs h2), rfl, small_tup p.pg, small_log p.ok (by have := p.el; omega), by show (pD ps).length ≤ 200; rw [pD_len]; exact p.pg.len, by show (es.map evD).length ≤ 300; rw [List.length_map]; exact p.el⟩
end KB

set_option Elab.async false
set_option linter.all false
set_option maxRecDepth 100000
set_option maxHeartbeats 4000000
/-! RT: what replay gives; the law's own following of the events gives the same. -/
namespace KB
open PySem L2 Evl
/-- what is evicted at event e -/
def evAt (ms : List Nat) (gs : List Str) (e : Nat) : Option Str := ((ms.zip gs).find? fun q => decide (q.1 = e)).map (·.2)
def alB (S : List Str) (m p : Str) (g : Option Str) : Bool := (decide (p ∈ S) == decide (m = hitS)) && (match g with | none => true | some x => decide (x ∈ S))
def afM (S : List Str) (p : Str) (g : Option Str) : List Str := sortS ((S.filter fun o => match g with | none => true | some x => !decide (o = x)) ++ [p])
def nxS (S : List Str) (e : Ev1) (g : Option Str) : List Str := if e.1 = missS then afM S e.2 g else S
def rp (ev : Nat → Option Str) : Nat → List Str → List Ev1 → Option (List (List Str))
  | _, _, [] => some []
  | i, S, e :: es => if alB S e.1 e.2 (ev i) = true then (rp ev (i + 1) (nxS S e (ev i)) es).map (nxS S e (ev i) :: ·) else none
def replayD (c : Nat) (ps : List Str) (es : List Ev1) : PyData → Option (List (List Str))
  | .list ds => if (ds.all pageD && decide (ds.length = (lates c ps.length es).length)) = true then (rp (evAt (lates c ps.length es) (ds.map textD)) 0 (sortS ps) es).map (sortS ps :: ·) else none
  | _ => none
/-- the law's way -/
def strIn (S : List Str) : PyData → Option Str
  | .str x => if x ∈ S then some x else none
  | _ => none
def fw (c : Nat) (ds : List PyData) : List Str → Nat → List Ev1 → Option (List (List Str))
  | S, u, [] => if u = ds.length then some [] else none
  | S, u, e :: es =>
    if (decide (e.1 = hitS) == decide (e.2 ∈ S)) = false then none else
    if e.1 = missS ∧ S.length = c then
      (match ds[u]?.bind (strIn S) with
        | none => none
        | some x => (fw c ds (afM S e.2 (some x)) (u + 1) es).map (afM S e.2 (some x) :: ·))
    else (fw c ds (nxS S e none) u es).map (nxS S e none :: ·)
def fwD (c : Nat) (ps : List Str) (es : List Ev1) : PyData → Option (List (List Str))
  | .list ds => (fw c ds (sortS ps) 0 es).map (sortS ps :: ·)
  | _ => none
/-! ### the misses -/
def cntL (c n : Nat) (es : List Ev1) (i : Nat) : Nat := ((List.range i).filter (lateB c n es)).length
theorem cnt_succ {c n : Nat} {es : List Ev1} {i : Nat} : cntL c n es (i + 1) = cntL c n es i + (if lateB c n es i = true then 1 else 0) := by
  unfold cntL
  rw [List.range_succ, List.filter_append, List.length_append, List.filter_cons]
  split <;> rfl
theorem cnt_end {c n : Nat} {es : List Ev1} : cntL c n es es.length = (lates c n es).length := rfl
theorem filt_at {q : Nat → Bool} {i N : Nat} (h : i < N) (hq : q i = true) : ((List.range N).filter q)[((List.range i).filter q).length]? = some i := by
  obtain ⟨k, rfl⟩ : ∃ k, N = i + 1 + k := ⟨N - (i + 1), by omega⟩
  rw [List.range_add, List.range_succ, List.filter_append, List.filter_append, List.append_assoc, List.getElem?_append_right (Nat.le_refl _), Nat.sub_self, List.filter_cons, if_pos hq]
  rfl
theorem find_zip : ∀ {ms : List Nat} {gs : List Str} {j e : Nat} {x : Str}, ms.Nodup → ms[j]? = some e → gs[j]? = some x → evAt ms gs e = some x
  | [], _, j, _, _, _, h, _ => by simp at h
  | _ :: _, [], j, _, _, _, _, h => by simp at h
  | m :: ms, g :: gs, 0, e, x, _, h1, h2 => by
    have e1 : m = e := by simpa using h1
    have e2 : g = x := by simpa using h2
    subst e1 e2
    simp [evAt]
  | m :: ms, g :: gs, j + 1, e, x, nd, h1, h2 => by
    have h1' : ms[j]? = some e := by simpa using h1
    have ne : m ≠ e := fun z => (List.nodup_cons.mp nd).1 (by rw [z]; exact List.mem_of_getElem? h1')
    have ih := find_zip (List.nodup_cons.mp nd).2 h1' (show gs[j]? = some x by simpa using h2)
    unfold evAt at ih ⊢
    rw [List.zip_cons_cons, List.find?_cons_of_neg (by simpa using ne)]
    exact ih
theorem find_no : ∀ {ms : List Nat} {gs : List Str} {e : Nat}, e ∉ ms → evAt ms gs e = none
  | [], _, _, _ => rfl
  | _ :: _, [], _, _ => rfl
  | m :: ms, g :: gs, e, h => by
    have ne : m ≠ e := fun z => h (by rw [z]; exact List.mem_cons_self)
    have ih := find_no (ms := ms) (gs := gs) (e := e) fun z => h (List.mem_cons_of_mem _ z)
    unfold evAt at ih ⊢
    rw [List.zip_cons_cons, List.find?_cons_of_neg (by simpa using ne)]
    exact ih
theorem late_mem {c n : Nat} {es : List Ev1} {i : Nat} : i ∈ lates c n es ↔ i < es.length ∧ lateB c n es i = true := by
  unfold lates
  rw [List.mem_filter, List.mem_range]
theorem lates_nd (c n : Nat) (es : List Ev1) : (lates c n es).Nodup := List.Pairwise.filter _ List.nodup_range
theorem evAt_late {c n : Nat} {es : List Ev1} {gs : List Str} {i : Nat} (hi : i < es.length) (h : lateB c n es i = true) (hl : gs.length = (lates c n es).length) : evAt (lates c n es) gs i = gs[cntL c n es i]? ∧ cntL c n es i < gs.length := by
  have h1 : (lates c n es)[cntL c n es i]? = some i := filt_at hi h
  have h2 : cntL c n es i < gs.length := by
    rw [hl]
    exact (List.getElem?_eq_some_iff.mp h1).1
  exact ⟨by rw [List.getElem?_eq_getElem h2]; exact find_zip (lates_nd c n es) h1 (List.getElem?_eq_getElem h2), h2⟩
theorem evAt_not {c n : Nat} {es : List Ev1} {gs : List Str} {i : Nat} (h : lateB c n es i = false) : evAt (lates c n es) gs i = none :=
  find_no fun z => by rw [(late_mem.mp z).2] at h; cases h
theorem lateB_at {c n : Nat} {es : List Ev1} {i : Nat} {e : Ev1} (h : es[i]? = some e) : lateB c n es i = (isMiss e && decide (szAt c n es i = c)) := by
  unfold lateB
  rw [h]
theorem sz_next {c n : Nat} {es : List Ev1} {i : Nat} {e : Ev1} (h : es[i]? = some e) : szAt c n es (i + 1) = min c (n + misses (es.take i) + (if isMiss e = true then 1 else 0)) := by
  unfold szAt
  rw [misses_succ h, Nat.add_assoc]
theorem mark_ne : ¬ (missS : Str) = hitS := by decide
/-! ### the shelf as it goes -/
structure ShS (c n : Nat) (es : List Ev1) (i : Nat) (S : List Str) : Prop where
  len : S.length = szAt c n es i
  nd : S.Nodup
  pg : ∀ p ∈ S, pageB p = true
theorem afM_mem {S : List Str} {p : Str} {g : Option Str} {x : Str} (h : x ∈ afM S p g) : x ∈ S ∨ x = p := by
  unfold afM at h
  rw [sortS_mem, List.mem_append, List.mem_filter, List.mem_singleton] at h
  exact h.imp (·.1) id
theorem afM_nd {S : List Str} {p : Str} {g : Option Str} (h : S.Nodup) (hp : p ∉ S) : (afM S p g).Nodup := by
  unfold afM
  refine (sortS_perm _).nodup_iff.mpr (List.nodup_append.mpr ⟨List.Pairwise.filter _ h, by simp, fun a ha b hb z => hp ?_⟩)
  rw [← List.mem_singleton.mp hb, ← z]
  exact (List.mem_filter.mp ha).1
theorem filter_ne {S : List Str} {x : Str} (h : S.Nodup) (hx : x ∈ S) : (S.filter fun o => !decide (o = x)).length + 1 = S.length := by
  induction S with
  | nil => cases hx
  | cons a r ih =>
    obtain ⟨h1, h2⟩ := List.nodup_cons.mp h
    by_cases e : a = x
    · subst e
      rw [List.filter_cons, if_neg (by simp), List.filter_eq_self.mpr fun b hb => by
        simp only [Bool.not_eq_true', decide_eq_false_iff_not]
        exact fun z => h1 (by rw [← z]; exact hb), List.length_cons]
    · have hr : x ∈ r := (List.mem_cons.mp hx).resolve_left fun z => e z.symm
      rw [List.filter_cons, if_pos (by simpa using e), List.length_cons, List.length_cons]
      have := ih h2 hr
      omega
theorem afM_len {S : List Str} {p x : Str} (h : S.Nodup) (hx : x ∈ S) : (afM S p (some x)).length = S.length := by
  unfold afM
  rw [sortS_len, List.length_append]
  exact filter_ne h hx
theorem afM_len0 {S : List Str} {p : Str} : (afM S p none).length = S.length + 1 := by
  unfold afM
  rw [sortS_len, List.length_append, List.filter_eq_self.mpr fun _ _ => rfl]
  rfl
/-- a hit -/
theorem ShS.hit {c n : Nat} {es : List Ev1} {i : Nat} {S : List Str} {p : Str} (s : ShS c n es i S) (hn : n ≤ c) (h : es[i]? = some (hitS, p)) : ShS c n es (i + 1) S := by
  refine { s with len := ?_ }
  rw [s.len, sz_next h]
  have : isMiss (hitS, p) = false := hit_isMiss p
  rw [this]
  rfl
theorem ShS.evict {c n : Nat} {es : List Ev1} {i : Nat} {S : List Str} {p x : Str} (s : ShS c n es i S) (h : es[i]? = some (missS, p)) (hp : p ∉ S) (pg : pageB p = true) (hx : x ∈ S) (hc : S.length = c) : ShS c n es (i + 1) (afM S p (some x)) := by
  refine ⟨?_, afM_nd s.nd hp, fun q hq => (afM_mem hq).elim (s.pg q) fun z => by rw [z]; exact pg⟩
  rw [afM_len s.nd hx, sz_next h, hc]
  have h1 := s.len
  rw [hc] at h1
  unfold szAt at h1
  omega
theorem ShS.add {c n : Nat} {es : List Ev1} {i : Nat} {S : List Str} {p : Str} (s : ShS c n es i S) (h : es[i]? = some (missS, p)) (hp : p ∉ S) (pg : pageB p = true) (hc : ¬ S.length = c) : ShS c n es (i + 1) (afM S p none) := by
  refine ⟨?_, afM_nd s.nd hp, fun q hq => (afM_mem hq).elim (s.pg q) fun z => by rw [z]; exact pg⟩
  have h1 := s.len
  have e1 : isMiss (missS, p) = true := miss_isMiss p
  rw [afM_len0, sz_next h, e1]
  unfold szAt at h1
  simp only [if_true]
  omega
theorem drop_at {α : Type} {es : List α} {i : Nat} {e : α} {r : List α} (h : es.drop i = e :: r) : es[i]? = some e ∧ es.drop (i + 1) = r := by
  refine ⟨?_, ?_⟩
  · have := List.getElem?_drop (xs := es) (i := i) (j := 0)
    rw [h] at this
    simpa using this.symm
  · rw [← List.drop_drop, h]
    rfl
theorem strIn_some {S : List Str} {d : PyData} {x : Str} (h : strIn S d = some x) : d = .str x ∧ x ∈ S := by
  cases d with
  | str y =>
    by_cases hy : y ∈ S
    · have e : strIn S (.str y) = some y := if_pos hy
      rw [e] at h
      injection h with h
      subst h
      exact ⟨rfl, hy⟩
    · have e : strIn S (.str y) = none := if_neg hy
      rw [e] at h
      cases h
  | _ => cases h
section
variable {c n : Nat} {es : List Ev1}
/-- with a list of pages of the right length the two ways agree -/
theorem rp_fw {gs : List Str} (hn : n ≤ c) (ok : ∀ e ∈ es, okE e) (hl : gs.length = (lates c n es).length) : ∀ (r : List Ev1) (i : Nat) (S : List Str), es.drop i = r → ShS c n es i S →
    rp (evAt (lates c n es) gs) i S r = fw c (gs.map PyData.str) S (cntL c n es i) r
  | [], i, S, hd, s => by
    have hle : es.length ≤ i := List.drop_eq_nil_iff.mp hd
    have e1 : cntL c n es i = (gs.map PyData.str).length := by
      rw [List.length_map, hl, ← cnt_end]
      obtain ⟨k, rfl⟩ : ∃ k, i = es.length + k := ⟨i - es.length, by omega⟩
      clear hd s hle
      induction k with
      | zero => rfl
      | succ k ih =>
        rw [← Nat.add_assoc, cnt_succ, ih]
        have : lateB c n es (es.length + k) = false := by
          unfold lateB
          rw [List.getElem?_eq_none (Nat.le_add_right _ _)]
        rw [this]
        rfl
    show some [] = if cntL c n es i = _ then some [] else none
    rw [if_pos e1]
  | (m, p) :: r, i, S, hd, s => by
    obtain ⟨hat, hd2⟩ := drop_at hd
    have hi : i < es.length := (List.getElem?_eq_some_iff.mp hat).1
    have hok := ok _ (List.mem_of_getElem? hat)
    have hmk : m = hitS ∨ m = missS := hok.1
    have hpg : pageB p = true := hok.2
    have hcs := cnt_succ (c := c) (n := n) (es := es) (i := i)
    have hlb := lateB_at (c := c) (n := n) hat
    by_cases hb : (decide (m = hitS) == decide (p ∈ S)) = false
    · have e1 : alB S m p (evAt (lates c n es) gs i) = false := by
        unfold alB
        rw [show (decide (p ∈ S) == decide (m = hitS)) = (decide (m = hitS) == decide (p ∈ S)) from Bool.beq_comm .., hb]
        rfl
      show (if alB S m p _ = true then _ else none) = if (decide (m = hitS) == decide (p ∈ S)) = false then none else _
      rw [if_neg (by rw [e1]; decide), if_pos hb]
    · have hb' : (decide (m = hitS) == decide (p ∈ S)) = true := by simpa using hb
      rcases hmk with rfl | rfl
      · -- a hit
        have hp : p ∈ S := by simpa using hb'
        have e1 : isMiss (hitS, p) = false := hit_isMiss p
        have l1 : lateB c n es i = false := by rw [hlb, e1]; rfl
        have e2 := evAt_not (gs := gs) l1
        rw [l1] at hcs
        have ih := rp_fw hn ok hl r (i + 1) S hd2 (s.hit hn hat)
        show (if alB S hitS p (evAt _ gs i) = true then (rp _ (i + 1) (nxS S (hitS, p) (evAt _ gs i)) r).map _ else none) = if _ = false then none else if hitS = missS ∧ S.length = c then _ else (fw c _ (nxS S (hitS, p) none) (cntL c n es i) r).map _
        have n1 : ∀ g, nxS S (hitS, p) g = S := fun g => if_neg fun z => mark_ne z.symm
        rw [e2, n1, if_pos (by unfold alB; simp [hp]), if_neg hb, if_neg (fun z => mark_ne z.1.symm), ih]
        rw [show cntL c n es (i + 1) = cntL c n es i from hcs]
      · have hp : p ∉ S := by
          have : decide ((missS : Str) = hitS) = false := decide_eq_false mark_ne
          rw [this] at hb'
          simpa using hb'
        have e1 : isMiss (missS, p) = true := miss_isMiss p
        have l1 : lateB c n es i = decide (S.length = c) := by rw [hlb, e1, s.len]; rfl
        have n1 : ∀ g, nxS S (missS, p) g = afM S p g := fun g => if_pos rfl
        show (if alB S missS p (evAt _ gs i) = true then (rp _ (i + 1) (nxS S (missS, p) (evAt _ gs i)) r).map _ else none) = if _ = false then none else if missS = missS ∧ S.length = c then (match ((gs.map PyData.str)[cntL c n es i]?).bind (strIn S) with | none => none | some x => (fw c _ (afM S p (some x)) (cntL c n es i + 1) r).map (afM S p (some x) :: ·)) else (fw c _ (nxS S (missS, p) none) (cntL c n es i) r).map _
        rw [if_neg hb]
        by_cases hc : S.length = c
        · rw [decide_eq_true hc] at l1
          rw [l1] at hcs
          obtain ⟨e2, lt⟩ := evAt_late hi l1 hl
          have gx : gs[cntL c n es i]? = some gs[cntL c n es i] := List.getElem?_eq_getElem lt
          rw [gx] at e2
          generalize gs[cntL c n es i] = x at e2 gx
          rw [if_pos (⟨rfl, hc⟩ : missS = missS ∧ S.length = c), e2, n1, List.getElem?_map, gx]
          show _ = (match strIn S (PyData.str x) with | none => none | some x => (fw c (gs.map PyData.str) (afM S p (some x)) (cntL c n es i + 1) r).map (afM S p (some x) :: ·))
          by_cases hx : x ∈ S
          · have ih := rp_fw hn ok hl r (i + 1) (afM S p (some x)) hd2 (s.evict hat hp hpg hx hc)
            have hs : strIn S (PyData.str x) = some x := if_pos hx
            rw [hs, if_pos (by unfold alB; simp [hp, hx, mark_ne]), ih, show cntL c n es (i + 1) = cntL c n es i + 1 from hcs]
          · have hs : strIn S (PyData.str x) = none := if_neg hx
            rw [hs, if_neg (by unfold alB; simp [hx])]
        · rw [decide_eq_false hc] at l1
          have e2 := evAt_not (gs := gs) l1
          rw [l1] at hcs
          have ih := rp_fw hn ok hl r (i + 1) (afM S p none) hd2 (s.add hat hp hpg hc)
          rw [if_neg (show ¬ (missS = missS ∧ S.length = c) from fun z => hc z.2), e2, n1, if_pos (by unfold alB; simp [hp, mark_ne]), ih, show cntL c n es (i + 1) = cntL c n es i from hcs]
/-- what the law follows to the end is a list of pages of the right length -/
theorem fw_some {ds : List PyData} (hn : n ≤ c) (ok : ∀ e ∈ es, okE e) : ∀ (r : List Ev1) (i : Nat) (S : List Str) (o : List (List Str)), es.drop i = r → i ≤ es.length → ShS c n es i S → fw c ds S (cntL c n es i) r = some o →
    ds.length = (lates c n es).length ∧ ∀ j d, cntL c n es i ≤ j → ds[j]? = some d → pageD d = true
  | [], i, S, o, hd, hle, s, h => by
    have hi : i = es.length := Nat.le_antisymm hle (List.drop_eq_nil_iff.mp hd)
    subst hi
    have h : (if cntL c n es es.length = ds.length then some [] else none) = some o := h
    split at h
    · rename_i e
      refine ⟨by rw [← e]; rfl, fun j d hj hd => ?_⟩
      have := (List.getElem?_eq_some_iff.mp hd).1
      omega
    · cases h
  | (m, p) :: r, i, S, o, hd, hle, s, h => by
    obtain ⟨hat, hd2⟩ := drop_at hd
    have hi : i < es.length := (List.getElem?_eq_some_iff.mp hat).1
    have hok := ok _ (List.mem_of_getElem? hat)
    have hmk : m = hitS ∨ m = missS := hok.1
    have hpg : pageB p = true := hok.2
    have hcs := cnt_succ (c := c) (n := n) (es := es) (i := i)
    have hlb := lateB_at (c := c) (n := n) hat
    have h : (if (decide (m = hitS) == decide (p ∈ S)) = false then none else if m = missS ∧ S.length = c then (match (ds[cntL c n es i]?).bind (strIn S) with | none => none | some x => (fw c ds (afM S p (some x)) (cntL c n es i + 1) r).map (afM S p (some x) :: ·)) else (fw c ds (nxS S (m, p) none) (cntL c n es i) r).map (nxS S (m, p) none :: ·)) = some o := h
    by_cases hb : (decide (m = hitS) == decide (p ∈ S)) = false
    · rw [if_pos hb] at h
      cases h
    · have hb' : (decide (m = hitS) == decide (p ∈ S)) = true := by simpa using hb
      rw [if_neg hb] at h
      rcases hmk with rfl | rfl
      · have e1 : isMiss (hitS, p) = false := hit_isMiss p
        have l1 : lateB c n es i = false := by rw [hlb, e1]; rfl
        rw [l1] at hcs
        have n1 : nxS S (hitS, p) none = S := if_neg fun z => mark_ne z.symm
        rw [if_neg (fun z => mark_ne z.1.symm), n1, ← show cntL c n es (i + 1) = cntL c n es i from hcs] at h
        obtain ⟨o', h', _⟩ := Option.map_eq_some_iff.mp h
        have ih := fw_some hn ok r (i + 1) S o' hd2 hi (s.hit hn hat) h'
        rw [show cntL c n es (i + 1) = cntL c n es i from hcs] at ih
        exact ih
      · have hp : p ∉ S := by
          have : decide ((missS : Str) = hitS) = false := decide_eq_false mark_ne
          rw [this] at hb'
          simpa using hb'
        have e1 : isMiss (missS, p) = true := miss_isMiss p
        have l1 : lateB c n es i = decide (S.length = c) := by rw [hlb, e1, s.len]; rfl
        by_cases hc : S.length = c
        · rw [decide_eq_true hc] at l1
          rw [l1] at hcs
          rw [if_pos ⟨rfl, hc⟩] at h
          cases hg : ds[cntL c n es i]? with
          | none => rw [hg] at h; cases h
          | some d =>
            rw [hg] at h
            cases hx : strIn S d with
            | none =>
              have : (some d).bind (strIn S) = none := hx
              rw [this] at h
              cases h
            | some x =>
              have : (some d).bind (strIn S) = some x := hx
              rw [this] at h
              obtain ⟨rfl, hxS⟩ := strIn_some hx
              obtain ⟨o', h', _⟩ := Option.map_eq_some_iff.mp h
              rw [← show cntL c n es (i + 1) = cntL c n es i + 1 from hcs] at h'
              have ih := fw_some hn ok r (i + 1) _ o' hd2 hi (s.evict hat hp hpg hxS hc) h'
              refine ⟨ih.1, fun j d hj hjd => ?_⟩
              by_cases e : j = cntL c n es i
              · subst e
                rw [hg] at hjd
                cases hjd
                exact s.pg x hxS
              · exact ih.2 j d (by rw [show cntL c n es (i + 1) = cntL c n es i + 1 from hcs]; omega) hjd
        · rw [decide_eq_false hc] at l1
          rw [l1] at hcs
          have n1 : nxS S (missS, p) none = afM S p none := if_pos rfl
          rw [if_neg (fun z => hc z.2), n1, ← show cntL c n es (i + 1) = cntL c n es i from hcs] at h
          obtain ⟨o', h', _⟩ := Option.map_eq_some_iff.mp h
          have ih := fw_some hn ok r (i + 1) _ o' hd2 hi (s.add hat hp hpg hc) h'
          rw [show cntL c n es (i + 1) = cntL c n es i from hcs] at ih
          exact ih
end
theorem page_text {ds : List PyData} (h : ds.all pageD = true) : (ds.map textD).map PyData.str = ds := by
  induction ds with
  | nil => rfl
  | cons d ds ih =>
    rw [List.all_cons, Bool.and_eq_true] at h
    rw [List.map_cons, List.map_cons, ih h.2]
    cases d with
    | str x => rfl
    | _ => exact absurd h.1 (by simp [pageD])
theorem shS0 {c : Nat} {ps : List Str} {es : List Ev1} (hp : Pages ps) (hl : ps.length ≤ c) : ShS c ps.length es 0 (sortS ps) :=
  ⟨by rw [sortS_len]; show _ = min c (ps.length + 0); omega, (sortS_perm ps).nodup_iff.mpr hp.nd, fun p h => hp.all p (sortS_mem.mp h)⟩
/-- the law's way and the program's agree -/
theorem replay_fw {c : Nat} {ps : List Str} {es : List Ev1} (hp : Pages ps) (hl : ps.length ≤ c) (ok : ∀ e ∈ es, okE e) (d : PyData) : replayD c ps es d = fwD c ps es d := by
  cases d with
  | list ds =>
    show (if _ then _ else none) = (fw c ds (sortS ps) 0 es).map _
    by_cases h : (ds.all pageD && decide (ds.length = (lates c ps.length es).length)) = true
    · rw [if_pos h]
      rw [Bool.and_eq_true, decide_eq_true_eq] at h
      have e := rp_fw (gs := ds.map textD) hl ok (by rw [List.length_map]; exact h.2) es 0 (sortS ps) rfl (shS0 hp hl)
      rw [page_text h.1] at e
      rw [e]
      rfl
    · rw [if_neg h]
      cases hf : fw c ds (sortS ps) 0 es with
      | none => rfl
      | some o =>
        have := fw_some hl ok es 0 (sortS ps) o rfl (Nat.zero_le _) (shS0 hp hl) hf
        refine absurd ?_ h
        rw [Bool.and_eq_true, decide_eq_true_eq, List.all_eq_true]
        refine ⟨fun d hd => ?_, this.1⟩
        obtain ⟨j, hj⟩ := List.mem_iff_getElem?.mp hd
        exact this.2 j d (Nat.zero_le _) hj
  | _ => rfl
/-- a run is followed -/
theorem fw_run {c : Nat} {c0 : List Str} {es : List Ev1} {gs : List Str} {css : List (List Str)} {cs : List Str} (h0 : c0.length ≤ c) (p0 : Pages c0) (r : RunTo c c0 es gs css cs) :
    ∃ t, css = c0 :: t ∧ ∀ (gs' : List PyData) (es' : List Ev1), fw c (gs.map PyData.str ++ gs') (sortS c0) 0 (es ++ es') = (fw c (gs.map PyData.str ++ gs') (sortS cs) gs.length es').map (t.map sortS ++ ·) := by
  induction r with
  | nil => exact ⟨[], rfl, fun gs' es' => by simp⟩
  | @hit es gs css cs p r h ih =>
    obtain ⟨t, rfl, ih⟩ := ih
    refine ⟨t ++ [cs], rfl, fun gs' es' => ?_⟩
    rw [List.append_assoc, List.singleton_append, ih gs' ((hitS, p) :: es')]
    have n1 : nxS (sortS cs) (hitS, p) none = sortS cs := if_neg fun z => mark_ne z.symm
    have e1 : fw c (gs.map PyData.str ++ gs') (sortS cs) gs.length ((hitS, p) :: es') = (fw c (gs.map PyData.str ++ gs') (sortS cs) gs.length es').map (sortS cs :: ·) := by
      show (if _ = false then none else if hitS = missS ∧ _ then _ else (fw c _ (nxS (sortS cs) (hitS, p) none) _ es').map (nxS (sortS cs) (hitS, p) none :: ·)) = _
      rw [if_neg (by simp [sortS_mem, h]), if_neg (fun z => mark_ne z.1.symm), n1]
    rw [e1, Option.map_map]
    congr 1
    funext o
    simp
  | @add es gs css cs p r h hp hl ih =>
    obtain ⟨t, rfl, ih⟩ := ih
    refine ⟨t ++ [cs ++ [p]], rfl, fun gs' es' => ?_⟩
    rw [List.append_assoc, List.singleton_append, ih gs' ((missS, p) :: es')]
    have n1 : nxS (sortS cs) (missS, p) none = sortS (cs ++ [p]) := by
      show (if missS = missS then afM (sortS cs) p none else _) = _
      rw [if_pos rfl]
      unfold afM
      rw [List.filter_eq_self.mpr fun _ _ => rfl]
      exact sortS_of ((sortS_perm cs).append_right [p])
    have e1 : fw c (gs.map PyData.str ++ gs') (sortS cs) gs.length ((missS, p) :: es') = (fw c (gs.map PyData.str ++ gs') (sortS (cs ++ [p])) gs.length es').map (sortS (cs ++ [p]) :: ·) := by
      show (if _ = false then none else if missS = missS ∧ _ then _ else (fw c _ (nxS (sortS cs) (missS, p) none) _ es').map (nxS (sortS cs) (missS, p) none :: ·)) = _
      rw [if_neg (by simp [sortS_mem, h, mark_ne]), if_neg (fun z => hl (by rw [← z.2, sortS_len])), n1]
    rw [e1, Option.map_map]
    congr 1
    funext o
    simp
  | @evict es gs css cs p g j r h hp hl hj ih =>
    have hfc := (r.facts h0 p0.nd p0.all).2.2.2.1
    obtain ⟨t, rfl, ih⟩ := ih
    refine ⟨t ++ [cs.eraseIdx j ++ [p]], rfl, fun gs' es' => ?_⟩
    have eg : (gs ++ [g]).map PyData.str ++ gs' = gs.map PyData.str ++ (PyData.str g :: gs') := by simp
    rw [List.append_assoc, List.singleton_append, eg, ih _ ((missS, p) :: es')]
    have gin : g ∈ cs := List.mem_of_getElem? hj
    have n1 : afM (sortS cs) p (some g) = sortS (cs.eraseIdx j ++ [p]) := by
      unfold afM
      refine sortS_of (List.Perm.append_right [p] ?_)
      refine ((sortS_perm cs).filter _).trans ?_
      have pp := perm_pop cs j g hj
      have nd := pp.nodup_iff.mp hfc
      refine (pp.filter _).trans ?_
      rw [List.filter_cons, if_neg (by simp), List.filter_eq_self.mpr fun b hb => by
        simp only [Bool.not_eq_true', decide_eq_false_iff_not]
        exact fun z => (List.nodup_cons.mp nd).1 (by rw [← z]; exact hb)]
    have e1 : fw c (gs.map PyData.str ++ (PyData.str g :: gs')) (sortS cs) gs.length ((missS, p) :: es') = (fw c (gs.map PyData.str ++ (PyData.str g :: gs')) (sortS (cs.eraseIdx j ++ [p])) (gs ++ [g]).length es').map (sortS (cs.eraseIdx j ++ [p]) :: ·) := by
      have hat : (gs.map PyData.str ++ (PyData.str g :: gs'))[gs.length]? = some (PyData.str g) := by
        rw [List.getElem?_append_right (by rw [List.length_map]; exact Nat.le_refl _), List.length_map, Nat.sub_self]
        rfl
      have hs : strIn (sortS cs) (PyData.str g) = some g := if_pos (sortS_mem.mpr gin)
      show (if _ = false then none else if missS = missS ∧ (sortS cs).length = c then (match ((gs.map PyData.str ++ (PyData.str g :: gs'))[gs.length]?).bind (strIn (sortS cs)) with | none => none | some x => (fw c _ (afM (sortS cs) p (some x)) (gs.length + 1) es').map (afM (sortS cs) p (some x) :: ·)) else _) = _
      rw [if_neg (by simp [sortS_mem, h, mark_ne]), if_pos ⟨rfl, by rw [sortS_len]; exact hl⟩, hat]
      show (match strIn (sortS cs) (PyData.str g) with | none => none | some x => _) = _
      rw [hs]
      show (fw c _ (afM (sortS cs) p (some g)) (gs.length + 1) es').map (afM (sortS cs) p (some g) :: ·) = _
      rw [n1, List.length_append]
      rfl
    rw [e1, Option.map_map]
    congr 1
    funext o
    simp
theorem replay_run {c : Nat} {c0 : List Str} {es : List Ev1} {gs : List Str} {css : List (List Str)} {cs : List Str} (h0 : c0.length ≤ c) (p0 : Pages c0) (ok : ∀ e ∈ es, okE e) (r : RunTo c c0 es gs css cs) :
    replayD c c0 es (.list (gs.map PyData.str)) = some (css.map sortS) := by
  rw [replay_fw p0 h0 ok]
  obtain ⟨t, rfl, h⟩ := fw_run h0 p0 r
  have := h [] []
  rw [List.append_nil, List.append_nil] at this
  show (fw c (gs.map PyData.str) (sortS c0) 0 es).map _ = _
  rw [this]
  have e1 : fw c (gs.map PyData.str) (sortS cs) gs.length [] = some [] := by
    show (if gs.length = (gs.map PyData.str).length then some [] else none) = _
    rw [if_pos (List.length_map ..).symm]
  rw [e1]
  simp
theorem replay_long {c : Nat} {ps : List Str} {es : List Ev1} {ds : List PyData} (h : ds.length ≠ (lates c ps.length es).length) : replayD c ps es (.list ds) = none :=
  if_neg fun z => by
    rw [Bool.and_eq_true, decide_eq_true_eq] at z
    exact h z.2
end KB

set_option Elab.async false
set_option linter.all false
set_option maxRecDepth 100000
set_option maxHeartbeats 4000000
/-! A6: displays of values of any kind, with some places hidden. -/
namespace KB
open PySem L2 Evl
open Classical in
/-- the abstract heap without the places of L -/
noncomputable def hidS (H : Hp) (L : Addr → Prop) : Hp := fun b => if L b then none else H b
theorem hidS_some {H : Hp} {L : Addr → Prop} {b : Addr} {o : HO} (h : hidS H L b = some o) : ¬ L b ∧ H b = some o := by
  unfold hidS at h
  by_cases e : L b
  · rw [if_pos e] at h
    cases h
  · rw [if_neg e] at h
    exact ⟨e, h⟩
theorem hidS_at {H : Hp} {L : Addr → Prop} {b : Addr} {o : HO} (n : ¬ L b) (h : H b = some o) : hidS H L b = some o := by
  unfold hidS
  rw [if_neg n]
  exact h
theorem exS {H H' : Hp} {L : Addr → Prop} (e : Ex H H') : Ex (hidS H L) (hidS H' L) := fun b o h => let ⟨n, z⟩ := hidS_some h; hidS_at n (e b o z)
theorem exS_hid {H H' : Hp} {L : Addr → Prop} {a : Addr} (ha : L a) (e : Ex (hid H a) H') : Ex (hidS H L) (hidS H' L) := fun b o h => by
  obtain ⟨n, z⟩ := hidS_some h
  exact hidS_at n (e b o (by rw [hid_ne fun q => n (by rw [q]; exact ha)]; exact z))
theorem exS_sub {H : Hp} {L L' : Addr → Prop} (h : ∀ b, L b → L' b) : Ex (hidS H L') (hidS H L) := fun b o q => let ⟨n, z⟩ := hidS_some q; hidS_at (fun y => n (h b y)) z
theorem exS_mut {H : Hp} {L : Addr → Prop} {p : Addr} {o : HO} (hp : L p) : Ex (hidS H L) (hidS (upd H p o) L) := fun b u q => by
  obtain ⟨n, z⟩ := hidS_some q
  exact hidS_at n (by rw [upd_ne fun y => n (by rw [y]; exact hp)]; exact z)
def addL (L : Addr → Prop) (l : Addr) : Addr → Prop := fun b => L b ∨ b = l
def KnownL (L : Addr → Prop) (H : Hp) : Prop := ∀ b, L b → ∃ o, H b = some o
theorem KnownL.mono {L : Addr → Prop} {H H' : Hp} (e : Ex H H') (h : KnownL L H) : KnownL L H' := fun b hb => let ⟨o, z⟩ := h b hb; ⟨o, e b o z⟩
theorem KnownL.fresh {L : Addr → Prop} {H : Hp} {p : Addr} (h : KnownL L H) (hp : H p = none) : ¬ L p := fun z => by
  obtain ⟨o, q⟩ := h p z
  rw [hp] at q
  cases q
theorem KnownL.add {L : Addr → Prop} {H : Hp} {l : Addr} {o : HO} (h : KnownL L H) (hl : H l = some o) : KnownL (addL L l) H := fun b hb => by
  rcases hb with hb | hb
  · exact h b hb
  · rw [hb]
    exact ⟨o, hl⟩
/-- a place that is new need not be hidden from what was there -/
theorem exS_new {H H' : Hp} {L : Addr → Prop} {l : Addr} (e : Ex H H') (hl : H l = none) : Ex (hidS H L) (hidS H' (addL L l)) := fun b o q => by
  obtain ⟨n, z⟩ := hidS_some q
  refine hidS_at (fun y => ?_) (e b o z)
  rcases y with y | y
  · exact n y
  · rw [y, hl] at z
    cases z
section
variable {K : PySem.W.Frag} {σ : L2.St} {H H' : Hp} {L : Addr → Prop} {ta tb te : TE} {as : TA} {x v : V} {d : PyData} {ds ds2 : List PyData} {D : Ends}
/-- the value of te is d, apart from the places of L -/
def EvD (K : PySem.W.Frag) (te : TE) (σ : L2.St) (H : Hp) (L : Addr → Prop) (d : PyData) : Prop := ∀ H1, Ex H H1 → ∀ Q : VK, (∀ v H2, Ex H1 H2 → DV K (hidS H2 L) v d → Q v H2) → te σ H1 Q
def EvDs (K : PySem.W.Frag) (ta : TA) (σ : L2.St) (H : Hp) (L : Addr → Prop) (ds : List PyData) : Prop := ∀ H1, Ex H H1 → ∀ Q : List V → Hp → Prop, (∀ vs H2, Ex H1 H2 → DVs K (hidS H2 L) vs ds → Q vs H2) → ta σ H1 Q
/-- the value of te is a new list of this def's own -/
def EvO (K : PySem.W.Frag) (te : TE) (σ : L2.St) (H : Hp) (L : Addr → Prop) (ds : List PyData) : Prop := ∀ H1, Ex H H1 → ∀ Q : VK, (∀ l xs H2, H1 l = none → Ex H1 H2 → H2 l = some (.lst xs) → DVs K (hidS H2 (addL L l)) xs ds → Q (.ref l) H2) → te σ H1 Q
theorem ed_c (h : ∀ H, DV K H v d) : EvD K (tC v) σ H L d := fun H1 _ Q q => q v H1 (Ex.refl H1) (h _)
theorem ed_var {i : Nat} (hv : σ[i]? = some (some v)) (h : DV K (hidS H L) v d) : EvD K (tVar i) σ H L d := fun H1 e Q q => ⟨v, hv, q v H1 (Ex.refl H1) (DV.mono (exS e) _ _ h)⟩
theorem eds_nil : EvDs K tNil σ H L [] := fun H1 _ Q q => q [] H1 (Ex.refl H1) .nil
theorem eds_cons (h : EvD K te σ H L d) (hr : EvDs K as σ H L ds) : EvDs K (tCons te as) σ H L (d :: ds) := fun H1 e Q q =>
  h H1 e _ fun v H2 e2 hv => hr H2 (e.trans e2) _ fun vs H3 e3 hvs => q (v :: vs) H3 (e2.trans e3) (.cons (DV.mono (exS e3) _ _ hv) hvs)
theorem ed_tup (hL : KnownL L H) (h : EvDs K as σ H L ds) (hl : ds.length ≤ 100000) : EvD K (tTup as) σ H L (.tuple ds) := fun H1 e Q q =>
  h H1 e _ fun vs H2 e2 hv => ⟨sz_of (by rw [dvs_len hv]; exact hl), fun p hp => q (.ref p) _ (e2.trans (Ex.new hp))
    (.tup (.inl (.inl (hidS_at ((hL.mono (e.trans e2)).fresh hp) upd_same))) (DVs.mono (exS (Ex.new hp)) _ _ hv))⟩
theorem ed_lst (hL : KnownL L H) (h : EvDs K as σ H L ds) (hl : ds.length ≤ 100000) : EvD K (tLst as) σ H L (.list ds) := fun H1 e Q q =>
  h H1 e _ fun vs H2 e2 hv => ⟨sz_of (by rw [dvs_len hv]; exact hl), fun p hp => q (.ref p) _ (e2.trans (Ex.new hp))
    (.lst (hidS_at ((hL.mono (e.trans e2)).fresh hp) upd_same) (DVs.mono (exS (Ex.new hp)) _ _ hv))⟩
theorem ed_dnew (hL : KnownL L H) : EvD K tDNewK σ H L (.dict []) := fun H1 e Q q => fun p hp => q (.ref p) _ (Ex.new hp) (.dct (kvs := []) (hidS_at ((hL.mono e).fresh hp) upd_same))
theorem eo_lst (h : EvDs K as σ H L ds) (hl : ds.length ≤ 100000) : EvO K (tLst as) σ H L ds := fun H1 e Q q =>
  h H1 e _ fun vs H2 e2 hv => ⟨sz_of (by rw [dvs_len hv]; exact hl), fun p hp => q p vs _ (fresh_back e2 hp) (e2.trans (Ex.new hp)) upd_same (DVs.mono (exS_new (Ex.new hp) hp) _ _ hv)⟩
theorem dvs_app : ∀ {ds ds2 : List PyData} {vs ws : List V}, DVs K H vs ds → DVs K H ws ds2 → DVs K H (vs ++ ws) (ds ++ ds2)
  | [], _, _, _, h, h2 => by cases h; exact h2
  | d :: ds, _, _, _, h, h2 => by
    cases h with
    | cons a b => exact .cons a (dvs_app b h2)
theorem dvs_drop : ∀ (n : Nat) {ds : List PyData} {vs : List V}, DVs K H vs ds → DVs K H (vs.drop n) (ds.drop n)
  | 0, _, _, h => h
  | _ + 1, [], _, h => by cases h; exact .nil
  | n + 1, _ :: _, _, h => by
    cases h with
    | cons h1 h2 => exact dvs_drop n h2
theorem dvs_set : ∀ (j : Nat) {ds : List PyData} {vs : List V}, DVs K H vs ds → DV K H v d → DVs K H (vs.set j v) (ds.set j d)
  | _, [], _, h, _ => by cases h; exact .nil
  | 0, _ :: _, _, h, hv => by
    cases h with
    | cons h1 h2 => exact .cons hv h2
  | j + 1, _ :: _, _, h, hv => by
    cases h with
    | cons h1 h2 => exact .cons h1 (dvs_set j h2 hv)
theorem dvs_erase : ∀ (j : Nat) {ds : List PyData} {vs : List V}, DVs K H vs ds → DVs K H (vs.eraseIdx j) (ds.eraseIdx j)
  | _, [], _, h => by cases h; exact .nil
  | 0, _ :: _, _, h => by
    cases h with
    | cons h1 h2 => exact h2
  | j + 1, _ :: _, _, h => by
    cases h with
    | cons h1 h2 => exact .cons h1 (dvs_erase j h2)
/-- own list + new list -/
theorem eo_catV {a : Addr} {xs : List V} (ha : Ev ta σ H (.ref a)) (hx : H a = some (.lst xs)) (hd : DVs K (hidS H (addL L a)) xs ds) (hb : EvO K tb σ H L ds2) (hz : ds.length + ds2.length ≤ 100000) : EvO K (tOp rCat ta tb) σ H L (ds ++ ds2) := fun H1 e Q q =>
  ha H1 e _ fun H2 e2 => hb H2 (e.trans e2) _ fun b ys H3 hbn e3 hy hd2 => ⟨a, b, xs, ys, rfl, rfl, ((e.trans e2).trans e3) _ _ hx, hy, sz_of (by rw [dvs_len hd, dvs_len hd2]; exact hz), fun p hp => by
    have x1 := Ex.new (o := .lst (xs ++ ys)) hp
    refine q p (xs ++ ys) _ (fresh_back (e2.trans e3) hp) ((e2.trans e3).trans x1) upd_same (dvs_app (DVs.mono ?_ _ _ hd) (DVs.mono ?_ _ _ hd2))
    · exact (exS_sub (L' := addL L a) fun _ h => .inl h).trans ((exS ((e.trans e2).trans e3)).trans (exS_new x1 hp))
    · exact (exS_sub (L' := addL L b) fun _ h => .inl h).trans (exS_new x1 hp)⟩
end
end KB

set_option Elab.async false
set_option linter.all false
set_option maxRecDepth 100000
set_option maxHeartbeats 16000000
/-! A7: the law's change at some depth, walked. -/
namespace KB
open PySem L2 Evl
/-! sizes of values, so that each may be judged and told -/
def shortS : PyData → Bool
  | .str x => decide (x.length ≤ 10) && PyData.strOk x
  | _ => false
mutual
def okM (m : Nat) : PyData → Bool
  | .none | .bool _ => true
  | .int i => decide (i.natAbs < 100)
  | .str x => decide (x.length ≤ 10) && PyData.strOk x
  | .list ds | .tuple ds => decide (ds.length ≤ m) && okAllM m ds
  | .dict kvs => decide (kvs.length ≤ 1) && kvs.all fun p => shortS p.1 && shortS p.2
def okAllM (m : Nat) : List PyData → Bool
  | [] => true
  | d :: ds => okM m d && okAllM m ds
end
def oddD : List PyData := [.none, .int 0, .int 1, .bool true, .str "", .str "a", .str "A", .str "abcde", .str "hit", .str "Miss", .str "a b", .tuple [], .list [], .dict [], .tuple [.str "hit"], .tuple [.str "hit", .str "a", .str "b"],
  .list [.str "miss", .str "a"], .tuple [.str "miss", .int 1], .tuple [.str "out", .str "a"], .tuple [.str "hit", .str "`"], .tuple [.str "miss", .str "{"], .str "a1", .tuple [.str "miss", .str ""], .tuple [.str "hit", .list [.str "a"]]]
theorem okAllM_iff (m : Nat) : ∀ ds : List PyData, okAllM m ds = true ↔ ∀ d ∈ ds, okM m d = true
  | [] => by simp [okAllM]
  | d :: ds => by
    rw [okAllM, Bool.and_eq_true, okAllM_iff m ds]
    simp
/-- the sum of the weights, one more for each -/
theorem weight_at : ∀ {ds : List PyData} {i : Nat} {d : PyData}, ds[i]? = some d → PyData.weight d + 1 + PyData.weightAll (ds.eraseIdx i) = PyData.weightAll ds
  | [], _, _, h => by simp at h
  | a :: t, 0, d, h => by
    have : a = d := by simpa using h
    subst this
    rfl
  | a :: t, i + 1, d, h => by
    have ih := weight_at (ds := t) (i := i) (d := d) (by simpa using h)
    rw [List.eraseIdx_cons_succ, PyData.weightAll, PyData.weightAll]
    omega
theorem weight_set : ∀ {ds : List PyData} {i : Nat} {d e : PyData}, ds[i]? = some d → PyData.weightAll (ds.set i e) + PyData.weight d = PyData.weightAll ds + PyData.weight e
  | [], _, _, _, h => by simp at h
  | a :: t, 0, d, e, h => by
    have : a = d := by simpa using h
    subst this
    rw [List.set_cons_zero, PyData.weightAll, PyData.weightAll]
    omega
  | a :: t, i + 1, d, e, h => by
    have ih := weight_set (ds := t) (i := i) (d := d) (e := e) (by simpa using h)
    rw [List.set_cons_succ, PyData.weightAll, PyData.weightAll]
    omega
theorem weight_app : ∀ (as bs : List PyData), PyData.weightAll (as ++ bs) = PyData.weightAll as + PyData.weightAll bs
  | [], bs => by
    show _ = 0 + _
    rw [List.nil_append]
    omega
  | a :: t, bs => by
    rw [List.cons_append, PyData.weightAll, PyData.weightAll, weight_app t bs]
    omega
theorem depth_le : ∀ {ds : List PyData} {n : Nat}, (∀ d ∈ ds, PyData.depth d ≤ n) → PyData.depthAll ds ≤ n
  | [], _, _ => Nat.zero_le _
  | d :: t, n, h => by
    have h1 := h d List.mem_cons_self
    have h2 := depth_le (ds := t) (n := n) fun e he => h e (List.mem_cons_of_mem _ he)
    rw [PyData.depthAll]
    omega
theorem depth_of : ∀ {ds : List PyData} {d : PyData}, d ∈ ds → PyData.depth d ≤ PyData.depthAll ds
  | a :: t, d, h => by
    rw [PyData.depthAll]
    rcases List.mem_cons.mp h with h | h
    · subst h
      omega
    · have := depth_of h
      omega
theorem odd_good : (oddD.all fun d => okM 3 d && (decide (PyData.weight d ≤ 20) && decide (PyData.depth d ≤ 2))) = true := by decide +kernel
theorem odd_len : oddD.length = 24 := rfl
mutual
theorem okM_mono {m m' : Nat} (h : m ≤ m') : ∀ d : PyData, okM m d = true → okM m' d = true
  | .none, _ => rfl
  | .bool _, _ => rfl
  | .int i, q => q
  | .str x, q => q
  | .list ds, q => by
    rw [okM, Bool.and_eq_true, decide_eq_true_eq] at q ⊢
    exact ⟨by omega, okAllM_mono h ds q.2⟩
  | .tuple ds, q => by
    rw [okM, Bool.and_eq_true, decide_eq_true_eq] at q ⊢
    exact ⟨by omega, okAllM_mono h ds q.2⟩
  | .dict kvs, q => q
theorem okAllM_mono {m m' : Nat} (h : m ≤ m') : ∀ ds : List PyData, okAllM m ds = true → okAllM m' ds = true
  | [], _ => rfl
  | d :: ds, q => by
    rw [okAllM, Bool.and_eq_true] at q ⊢
    exact ⟨okM_mono h d q.1, okAllM_mono h ds q.2⟩
end
/-- what a value after n more changes below is held to -/
structure Fit (m w n : Nat) (d : PyData) : Prop where
  ok : okM m d = true
  wt : PyData.weight d ≤ w
  dp : PyData.depth d ≤ n
theorem odd_fit {i : Nat} {d : PyData} (h : oddD[i]? = some d) {m w n : Nat} (hm : 3 ≤ m) (hw : 20 ≤ w) (hn : 2 ≤ n) : Fit m w n d := by
  have := List.all_eq_true.mp odd_good d (List.mem_of_getElem? h)
  rw [Bool.and_eq_true, Bool.and_eq_true, decide_eq_true_eq, decide_eq_true_eq] at this
  exact ⟨okM_mono hm d this.1, by omega, by omega⟩
def seqD (b : Bool) (ds : List PyData) : PyData := if b = true then .list ds else .tuple ds
theorem fit_seq {m w n : Nat} {b : Bool} {ds : List PyData} (hl : ds.length ≤ m) (ho : ∀ d ∈ ds, okM m d = true) (hw : PyData.weightAll ds ≤ w) (hd : ∀ d ∈ ds, PyData.depth d + 1 ≤ n) (hn : 1 ≤ n) : Fit m w n (seqD b ds) := by
  have ha := (okAllM_iff m ds).mpr ho
  have hdp : PyData.depthAll ds + 1 ≤ n := by
    have := depth_le (ds := ds) (n := n - 1) fun d hd' => by have := hd d hd'; omega
    omega
  cases b with
  | true => exact ⟨by show (decide (ds.length ≤ m) && okAllM m ds) = true; rw [decide_eq_true hl, ha]; rfl, hw, hdp⟩
  | false => exact ⟨by show (decide (ds.length ≤ m) && okAllM m ds) = true; rw [decide_eq_true hl, ha]; rfl, hw, hdp⟩
section
variable {K : PySem.W.Frag} {σ : L2.St} {H H1 H' : Hp} {ta tb tc te tx tl : TE} {x y z v : V} {D : Ends} {Q : VK}
theorem ev_isiLTD {d : PyData} (ha : Ev ta σ H x) (hx : DV K H x d) : Ev (tCB (rIsiT K) (tCons ta (tCons (tTup (tCons (tC (.ty "list")) (tCons (tC (.ty "tuple")) tNil))) tNil))) σ H (.bl (isLstD d || isTupD d)) := fun H1 e Q q =>
  ha H1 e _ fun H2 e2 => ⟨by show 2 ≤ sizeLine; decide, fun p hp => ⟨x, p, [.ty "list", .ty "tuple"], .type (tyD d), [.type "list", .type "tuple"], isLstD d || isTupD d, rfl, upd_same, .cons (.ty "list") (.cons (.ty "tuple") .nil), (DV.mono ((e.trans e2).trans (Ex.new hp)) _ _ hx).ty,
    kitAny_cons (kit_ty (kit_lst d)) (fun z => by rw [z]; exact kitAny_cons (kit_ty (kit_tup d)) (fun z => by rw [z]; rfl) (fun z => by rw [z]; rfl)) (fun z => by rw [z]; rfl), q _ (e2.trans (Ex.new hp))⟩⟩
theorem ex_hidS {L : Addr → Prop} : Ex (hidS H L) H := fun b o h => (hidS_some h).2
theorem ev_lenE7 {p : Addr} {xs : List V} (ha : Ev ta σ H (.ref p)) (h : SqL K H p xs ∨ SqT K H p xs) : Ev (tCB (rLenS K) (tCons ta tNil)) σ H (.int (xs.length : Int)) := fun H1 e Q q =>
  ha H1 e _ fun H2 e2 => ⟨p, xs, rfl, h.imp (ex_l (e.trans e2)) (ex_t (e.trans e2)), q H2 e2⟩
end
section
variable {H H' H1 : Hp} {a l : Addr} {L : Addr → Prop} {B B' : Int}
theorem KnownL.draw (h : KnownL L H) (e : Ex (hid H a) H') (S : SrcAt H' a B) : KnownL L H' := fun b hb => by
  by_cases z : b = a
  · obtain ⟨xs, hx⟩ := S.is
    rw [z]
    exact ⟨_, hx⟩
  · obtain ⟨o, ho⟩ := h b hb
    exact ⟨o, e _ _ (by rw [hid_ne z]; exact ho)⟩
end
theorem KnownL.upd {L : Addr → Prop} {H : Hp} {l : Addr} {o : HO} (h : KnownL L H) : KnownL L (L2.upd H l o) := fun b hb => by
  by_cases z : b = l
  · rw [z]
    exact ⟨o, upd_same⟩
  · obtain ⟨u, hu⟩ := h b hb
    exact ⟨u, by rw [upd_ne z]; exact hu⟩
end KB

set_option Elab.async false
set_option linter.all false
set_option maxRecDepth 100000
set_option maxHeartbeats 8000000
/-! A8: repr at values of any kind. -/
namespace KB
open PySem PySem.Spec PyProof.Rows L2 Evl
/-- the module table's place is written out, or told of as a thing that nobody writes: so no list of one's own stands there -/
def Sys (K : PySem.W.Frag) (H : Hp) : Prop := (∃ o u, H sysModules = some (.frz o u)) ∨ ∃ o, K.lookup sysModules = some o
theorem Sys.mono {K : PySem.W.Frag} {H H' : Hp} (e : Ex H H') (h : Sys K H) : Sys K H' := h.imp (fun ⟨o, u, z⟩ => ⟨o, u, e _ _ z⟩) id
section
variable {X : Cx} {pins : List (Addr × Obj)} {σ : L2.St} {H : Hp} {s : Shared}
theorem Sys.ne {a : Addr} {xs : List V} (h : Sys X.K H) (I : Inv X pins σ H s) (hl : H a = some (.lst xs)) : a ≠ sysModules := fun z => by
  rcases h with ⟨o, u, q⟩ | ⟨o, q⟩
  · rw [z, q] at hl
    cases hl
  · have := (I.bs _ _ (I.mod.kin _ _ q)).2
    rw [z, this] at hl
    cases hl
theorem reads_pairs {P : Program} {w : World} {h : Heap} : ∀ (kvs : List (Str × Str)) (es : List DictEntry) (vs : List (Key × Value)), KV (kvs.map fun p => (Sum.inr p.1, V.str p.2)) vs → Pairs (mixKind P w) es vs → ReadsAll h (es.map (·.key)) (kvs.map fun p => PyData.str p.1) [] ∧ ReadsAll h (es.map (·.val)) (kvs.map fun p => PyData.str p.2) []
  | [], _, _, r, p => by
    cases r
    cases p
    exact ⟨.nil, .nil⟩
  | k :: kvs, _, _, r, p => by
    cases r with
    | cons r1 r2 =>
      cases p with
      | @cons e kv es2 kvs2 p1 p2 p3 =>
        obtain ⟨q1, q2⟩ := reads_pairs kvs _ _ r2 p3
        obtain ⟨e1, e2⟩ := r1
        rw [← e1] at p1
        have hk : ∃ t, e.key = .str k.1 t := by
          rcases keyIs_shape (show keyIs (Sum.inr k.1) e.key = true from p1) with ⟨i, t, z, _⟩ | ⟨x, t, z, z2⟩
          · cases z
          · injection z with z
            rw [z]
            exact ⟨t, z2⟩
        obtain ⟨t, hk⟩ := hk
        obtain ⟨t2, hv⟩ := e2
        refine ⟨?_, ?_⟩
        · rw [List.map_cons, List.map_cons, hk]
          exact ReadsAll.cons (Reads.str _ _) q1
        · rw [List.map_cons, List.map_cons, p2, hv]
          exact ReadsAll.cons (Reads.str _ _) q2
mutual
theorem DV.reads (hm : Sys X.K H) (I : Inv X pins σ H s) : ∀ (d : PyData) (v : V) (u : Value), DV X.K H v d → RelV v u → ∃ as, Reads s.heap u d as ∧ sysModules ∉ as
  | .none, _, _, h, r => by
    cases h
    cases r
    exact ⟨_, Reads.none, by simp⟩
  | .bool b, _, _, h, r => by
    cases h
    cases r
    exact ⟨_, Reads.bool b, by simp⟩
  | .int i, _, _, h, r => by
    cases h
    obtain ⟨t, rfl⟩ := r
    exact ⟨_, Reads.int i t, by simp⟩
  | .str x, _, _, h, r => by
    cases h
    obtain ⟨t, rfl⟩ := r
    exact ⟨_, Reads.str x t, by simp⟩
  | .list ds, _, _, h, r => by
    cases h with
    | lst hs ha =>
      cases r
      obtain ⟨its, rv, ⟨o, n, ho, hc, _, hd⟩, _⟩ := I.list (sq_of hs)
      obtain ⟨as, hr, hn⟩ := DVs.reads hm I ds _ its ha rv
      refine ⟨_, Reads.list ho hc hd hr, fun z => ?_⟩
      rcases List.mem_cons.mp z with z | z
      · exact hm.ne I hs z.symm
      · exact hn z
  | .tuple ds, _, _, h, r => by
    cases h with
    | tup hs ha =>
      cases r
      obtain ⟨its, rv, ⟨o, ho, hc, n, hd⟩, _⟩ := I.tuple hs
      obtain ⟨as, hr, hn⟩ := DVs.reads hm I ds _ its ha rv
      exact ⟨_, Reads.tuple ho hc hd hr, hn⟩
  | .dict _, _, _, h, r => by
    cases h with
    | dct h1 =>
      rename_i a kvs
      cases r
      obtain ⟨_, hsys, vs, rel, o, es, ep, ho, hx, hd, _, hp, _⟩ := (show ObjOk X.prog X.w H s.heap a (.dK (kvs.map fun p => (.inr p.1, V.str p.2))) from I.hok a _ h1)
      obtain ⟨q1, q2⟩ := reads_pairs (h := s.heap) kvs es.toList vs rel hp
      refine ⟨_, Reads.dict (kvs := kvs.map fun p => (PyData.str p.1, PyData.str p.2)) ho hx.1 hd (by rw [List.map_map]; exact q1) (by rw [List.map_map]; exact q2), fun z => ?_⟩
      have z' : sysModules = a := by simpa using z
      rw [← z'] at hsys
      simp at hsys
theorem DVs.reads (hm : Sys X.K H) (I : Inv X pins σ H s) : ∀ (ds : List PyData) (vs : List V) (us : List Value), DVs X.K H vs ds → Vals vs us → ∃ as, ReadsAll s.heap us ds as ∧ sysModules ∉ as
  | [], _, _, h, r => by
    cases h
    cases r
    exact ⟨_, ReadsAll.nil, by simp⟩
  | d :: ds, _, _, h, r => by
    cases h with
    | cons h1 h2 =>
      cases r with
      | cons r1 r2 =>
        obtain ⟨as, q1, n1⟩ := DV.reads hm I d _ _ h1 r1
        obtain ⟨bs, q2, n2⟩ := DVs.reads hm I ds _ _ h2 r2
        exact ⟨_, ReadsAll.cons q1 q2, fun z => (List.mem_append.mp z).elim n1 n2⟩
end
/-- any value told -/
def rReprV (K : PySem.W.Frag) : List V → Hp → VK → Prop := fun xs H Q => ∃ (v : V) (d : PyData), xs = [v] ∧ Sys K H ∧ DV K H v d ∧ d.showable = true ∧ d.depth ≤ 40 ∧ d.shown.length ≤ sizeLine ∧ Q (.str d.shown) H
theorem call_reprV {X : Cx} {k : Nat} (hr : Room k X.A) (hG : X.A.guards = some []) : CallR X (.builtin "repr") (rReprV X.K) := by
  intro pins s σ H xs us Q I r h
  obtain ⟨v, d, rfl, hm, hd, hs, hdep, hz, q⟩ := h
  have hu := hr.units
  have ref : ∀ a : Addr, us = [.ref a] → v = .ref a → wpAny (model X.prog X.w) X.A (call (.builtin "repr") us) (EP X pins σ Q) X.xe s := fun a e1 e2 => by
    subst e1 e2
    obtain ⟨as, hR, hn⟩ := DV.reads hm I d _ _ hd rfl
    refine PySem.repr_of_reads' (h₀ := s.heap) hR hs (fun _ => hn) hG (by omega) (fun _ _ z => z) (fun h' u tk hk => ?_) hz
    exact ⟨.str d.shown, H, I.kept hk, ⟨u, rfl⟩, q⟩
  cases hd with
  | non =>
    cases r with
    | cons r1 r2 =>
      cases r2
      cases r1
      exact PySem.P.repr_of_none ⟨.str _, H, I.tok _, ⟨_, rfl⟩, q⟩
  | bl b =>
    cases r with
    | cons r1 r2 =>
      cases r2
      cases r1
      refine PySem.P.repr_of_bool ⟨.str _, H, I.tok _, ⟨_, rfl⟩, ?_⟩
      cases b <;> exact q
  | int i =>
    cases r with
    | cons r1 r2 =>
      cases r2
      obtain ⟨t, rfl⟩ := r1
      exact PySem.P.repr_of_int (by simpa [PyData.showable] using hs) ⟨.str _, H, I.tok _, ⟨_, rfl⟩, q⟩
  | str x =>
    cases r with
    | cons r1 r2 =>
      cases r2
      obtain ⟨t, rfl⟩ := r1
      exact PySem.P.repr_of_str ⟨.str _, H, I.tok _, ⟨_, rfl⟩, q⟩ hz
  | lst h1 h2 => exact ref _ (Vals.ref1 r) rfl
  | tup h1 h2 => exact ref _ (Vals.ref1 r) rfl
  | dct h1 => exact ref _ (Vals.ref1 r) rfl
end
end KB

set_option Elab.async false
set_option linter.all false
set_option maxRecDepth 100000
set_option maxHeartbeats 8000000
/-! A9: what fits may be judged and told. -/
namespace KB
open PySem L2 Evl
theorem short_leaf {x : Str} (h : PyData.strOk x = true) : PyData.leavesShort 13 (.str x) = true := by
  unfold PyData.strOk at h
  rw [← Array.all_toList, List.all_eq_true] at h
  show (x.cps.toList.all fun c => decide (c < 16 ^ 8)) = true
  rw [List.all_eq_true]
  intro c hc
  have h1 := of_decide_eq_true (h c hc)
  have e : (16 : Nat) ^ 8 = 4294967296 := by decide
  exact decide_eq_true (by omega)
theorem short_kv : ∀ kvs : List (PyData × PyData), (kvs.all fun p => shortS p.1 && shortS p.2) = true → PyData.showableKv kvs = true ∧ PyData.leavesShortKv 13 kvs = true
  | [], _ => ⟨rfl, rfl⟩
  | (a, b) :: r, h => by
    rw [List.all_cons, Bool.and_eq_true, Bool.and_eq_true] at h
    obtain ⟨⟨h1, h2⟩, h3⟩ := h
    obtain ⟨i1, i2⟩ := short_kv r h3
    cases a with
    | str x =>
      cases b with
      | str y =>
        have x1 : PyData.strOk x = true := by
          have : (decide (x.length ≤ 10) && PyData.strOk x) = true := h1
          rw [Bool.and_eq_true] at this
          exact this.2
        have y1 : PyData.strOk y = true := by
          have : (decide (y.length ≤ 10) && PyData.strOk y) = true := h2
          rw [Bool.and_eq_true] at this
          exact this.2
        refine ⟨?_, ?_⟩
        · rw [PyData.showableKv, i1]
          rfl
        · rw [PyData.leavesShortKv, i2, short_leaf x1, short_leaf y1]
          rfl
      | _ => cases h2
    | _ => cases h1
mutual
theorem ok_tell {m : Nat} (hm : m ≤ 1000) : ∀ d : PyData, okM m d = true → smallD d = true ∧ PyData.showable d = true ∧ PyData.leavesShort 13 d = true
  | .none, _ => ⟨rfl, rfl, rfl⟩
  | .bool _, _ => ⟨rfl, rfl, rfl⟩
  | .int i, h => by
    rw [okM, decide_eq_true_eq] at h
    refine ⟨rfl, ?_, ?_⟩
    · show decide (i.natAbs.log2 < 1920) = true
      have := PySem.Flt.log2_lt_of (n := i.natAbs) (k := 1920) (by decide) (Nat.lt_of_lt_of_le h (by decide +kernel))
      exact decide_eq_true this
    · show decide ((PyData.shown (.int i)).length ≤ 13) = true
      exact decide_eq_true (PyData.shown_int_le (by omega))
  | .str x, h => by
    rw [okM, Bool.and_eq_true, decide_eq_true_eq] at h
    refine ⟨?_, rfl, short_leaf h.2⟩
    rw [smallD, Bool.and_eq_true, decide_eq_true_eq]
    exact ⟨by omega, h.2⟩
  | .list ds, h => by
    rw [okM, Bool.and_eq_true, decide_eq_true_eq] at h
    obtain ⟨h1, h2, h3⟩ := ok_tells hm ds h.2
    refine ⟨?_, h2, h3⟩
    rw [smallD, Bool.and_eq_true, decide_eq_true_eq]
    exact ⟨by omega, h1⟩
  | .tuple ds, h => by
    rw [okM, Bool.and_eq_true, decide_eq_true_eq] at h
    obtain ⟨h1, h2, h3⟩ := ok_tells hm ds h.2
    refine ⟨?_, h2, h3⟩
    rw [smallD, Bool.and_eq_true, decide_eq_true_eq]
    exact ⟨by omega, h1⟩
  | .dict kvs, h => by
    rw [okM, Bool.and_eq_true] at h
    obtain ⟨h1, h2⟩ := short_kv kvs h.2
    exact ⟨rfl, h1, h2⟩
theorem ok_tells {m : Nat} (hm : m ≤ 1000) : ∀ ds : List PyData, okAllM m ds = true → smallAll ds = true ∧ PyData.showableAll ds = true ∧ PyData.leavesShortAll 13 ds = true
  | [], _ => ⟨rfl, rfl, rfl⟩
  | d :: ds, h => by
    rw [okAllM, Bool.and_eq_true] at h
    obtain ⟨a1, a2, a3⟩ := ok_tell hm d h.1
    obtain ⟨b1, b2, b3⟩ := ok_tells hm ds h.2
    refine ⟨?_, ?_, ?_⟩
    · rw [smallAll, a1, b1]; rfl
    · rw [PyData.showableAll, a2, b2]; rfl
    · rw [PyData.leavesShortAll, a3, b3]; rfl
end
theorem Fit.tell {m w n : Nat} {d : PyData} (h : Fit m w n d) (hm : m ≤ 1000) (hw : w ≤ 100000) (hn : n ≤ 40) : smallD d = true ∧ d.showable = true ∧ d.depth ≤ 40 ∧ d.shown.length ≤ sizeLine := by
  obtain ⟨h1, h2, h3⟩ := ok_tell hm d h.ok
  refine ⟨h1, h2, by have := h.dp; omega, PyData.shown_fits (B := 13) (by decide) (by decide) h3 ?_⟩
  have := h.wt
  have e : (2 : Nat) ^ 20 = 1048576 := by decide
  omega
section
variable {K : PySem.W.Frag} {σ : L2.St} {H H1 H' : Hp} {ta tb : TE} {v : V} {d : PyData} {D : Ends} {Q : VK}
theorem ev_reprV {m w n : Nat} (hm0 : Sys K H) (ha : Ev ta σ H v) (hd : DV K H v d) (hf : Fit m w n d) (hm : m ≤ 1000) (hw : w ≤ 100000) (hn : n ≤ 40) : Ev (tCB (rReprV K) (tCons ta tNil)) σ H (.str d.shown) := fun H1 e Q q => ha H1 e _ fun H2 e2 => by
  obtain ⟨h1, h2, h3, h4⟩ := hf.tell hm hw hn
  exact ⟨v, d, rfl, hm0.mono (e.trans e2), DV.mono (e.trans e2) _ _ hd, h2, h3, h4, q H2 e2⟩
end
end KB

set_option Elab.async false
set_option linter.all false
set_option maxRecDepth 100000
set_option maxHeartbeats 16000000
/-! RP1: replay, walked. -/
namespace KB
open PySem PySem.Spec PyProof.Rows L2 Evl StX
/-- a new list of contents -/
structure CsM (H : Hp) (p : Addr) (css : List (List Str)) : Prop where
  at_ : ∃ ts : List Addr, H p = some (.lst (ts.map V.ref)) ∧ Paired (fun t (S : List Str) => H t = some (.tup (S.map V.str))) ts css
theorem CsM.mono {H H' : Hp} {p : Addr} {css : List (List Str)} (c : CsM H p css) (e : Ex H H') : CsM H' p css := by
  obtain ⟨ts, h1, h2⟩ := c.at_
  exact ⟨ts, e _ _ h1, Paired.imp h2 fun _ _ z => e _ _ z⟩
/-- one more tuple at the end -/
theorem CsM.snoc {H : Hp} {p t : Addr} {css : List (List Str)} {S : List Str} {ts : List Addr} (h1 : H p = some (.lst (ts.map V.ref))) (h2 : Paired (fun t (S : List Str) => H t = some (.tup (S.map V.str))) ts css) (ht : H t = some (.tup (S.map V.str))) : CsM (upd H p (.lst (ts.map V.ref ++ [V.ref t]))) p (css ++ [S]) := by
  have k : ∀ {b : Addr} {xs : List V}, H b = some (.tup xs) → upd H p (.lst (ts.map V.ref ++ [V.ref t])) b = some (.tup xs) := fun {b xs} h => by
    rw [upd_ne (ne_of h h1 (by intro q; cases q))]
    exact h
  exact ⟨ts ++ [t], by rw [upd_same, List.map_append]; rfl, paired_app (Paired.imp h2 fun _ _ z => k z) (.cons (k ht) .nil)⟩
section
variable {K : PySem.W.Frag} {σ : L2.St} {H H1 H' : Hp} {ta tb tc te tx tl : TE} {x y z v : V} {D : Ends} {Q : VK}
abbrev rTupOf (K : PySem.W.Frag) : List V → Hp → VK → Prop := fun xs H Q => ∃ p ys, xs = [.ref p] ∧ ((SqL K H p ys ∧ ∀ l, H l = none → Q (.ref l) (upd H l (.tup ys))) ∨ (SqT K H p ys ∧ Q (.ref p) H))
/-- tuple(sorted(xs)) of texts -/
theorem eu_tupSort {a : Addr} {xs : List Str} (h : Ev te σ H (.ref a)) (hx : SqL K H a (xs.map V.str) ∨ SqT K H a (xs.map V.str)) : EvU (tCB (rTupOf K) (tCons (tCB (rSortedTx K) (tCons te tNil)) tNil)) σ H ((sortS xs).map V.str) := fun H1 e Q q =>
  h H1 e _ fun H2 e2 => ⟨a, xs, rfl, hx.imp (ex_l (e.trans e2)) (ex_t (e.trans e2)), fun ys p hp hs np => by
    rw [sortS_eq hp hs]
    exact ⟨p, (sortS xs).map V.str, rfl, .inl ⟨sq_of upd_same, fun t nt => q t _ (fresh_back (e2.trans (Ex.new np)) nt) ((e2.trans (Ex.new np)).trans (Ex.new nt)) upd_same⟩⟩⟩
end
section
variable {P : Program} {w : World} {K : PySem.W.Frag} {mg : Str → Option Value} {base : Heap}
def plistD : PyData → Bool | .list ds => ds.all pageD | _ => false
theorem scplist : FnScope ["value", "page"] ["value"] (defScope sIsPageList) := ⟨rfl, rfl, rfl, by decide +kernel, rfl, by decide +kernel, by decide +kernel⟩
theorem ok_isPageList {f : Addr} {fd : FuncData} (F : Fun K "is_page_list" "is_page_list" sIsPageList f fd) (B : Bn mg) (cE : Cl P w K mg base 1 "is_page" ["value"] (spAny K pageD)) : FnOk P w K mg base CX0 2 f fd ["value"] (spAny K plistD) := by
  refine F.ok scplist any_len (fun cdv A outer s H vs Q E hr h => ?_)
  obtain ⟨v, d, rfl, hd, hs, q⟩ := h
  refine ⟨_, pss_one (ps_ret (pe_and (pe_callB call_isi (by rfl) B.isinstance bt_isinstance (pa_cons (pv 0) (pa_cons (pe_bltn (v := .ty "list") (by rfl) B.list bt_list rfl) pa_nil)))
      (pe_one (pe_callB (cr_all rfl) (by rfl) B.all bt_all (pa_cons (pe_lc (own := [("page", 1)]) (g := gName 1) (tt := tYes) rfl scplist.nd (pi_list (pv 0)) (blkOk_by (N := ["value", "page"]) (sc := defScope sIsPageList) (by decide +kernel))
          (fun _ _ _ _ _ => pg_name (i := 1) scplist.nd rfl (Or.inl rfl)) (fun _ _ _ _ _ => pts_nil) (fun _ _ _ _ _ => pe_cl cE hr (pa_cons (pv 1) pa_nil))) pa_nil))))), ?_⟩
  by_cases hlst : isLstD d = true
  · cases d with
    | list ds =>
      cases hd with
      | lst h1 h2 =>
      rename_i a xs
      have hl := dvs_len h2
      have hD : DV K H (.ref a) (.list ds) := .lst h1 h2
      rw [smallD, Bool.and_eq_true, decide_eq_true_eq] at hs
      refine s_ret (v := .bl (true && (ds.map pageD).all id)) ?_ fun H1 e1 => ?_
      · refine ev_andV (ev_isiD (ev_var rfl) hD (kit_lst _)) fun _ => ev_all ?_
        rw [← bits_given, ← hl]
        refine el_lcL _ _ (ev_var rfl) (sq_of h1) (by omega) (fun _ => rfl) (fun i x H3 e3 hx => et_yes) fun i x H3 e3 hx _ => ?_
        obtain ⟨d, hd1, hd2⟩ := dvs_at h2 hx
        have ed : ds.getD i .none = d := by rw [List.getD_eq_getElem?_getD, hd1]; rfl
        rw [ed]
        exact ev_fn (ea_cons (ev_var rfl) ea_nil) fun H4 e4 Q' k => ⟨x, d, rfl, DV.mono (e3.trans e4) _ _ hd2, small_at hs.2 hd1, k⟩
      · rw [all_id]
        exact q H1 e1
    | _ => cases hlst
  · have hf : isLstD d = false := by simpa using hlst
    have e0 : plistD d = false := by cases d <;> first | rfl | (exact (hlst rfl).elim)
    rw [e0] at q
    exact s_ret (v := .bl (false && false)) (ev_andV (b := false) (ev_isiD (ev_var rfl) hd (by rw [kit_lst, hf])) fun z => by cases z) fun H1 e1 => q H1 e1
/-- a page or none -/
def optS : Option Str → V | none => .non | some x => .str x
theorem optS_flat (g : Option Str) : flatV (optS g) = true := by cases g <;> rfl
abbrev Nalw : List Str := ["shelf", "mark", "page", "evicted"]
theorem scalw : FnScope Nalw ["shelf", "mark", "page", "evicted"] (defScope sAllows) := ⟨rfl, rfl, rfl, by decide +kernel, rfl, by decide +kernel, by decide +kernel⟩
def spAlw (K : PySem.W.Frag) : Sp := fun vs H Q _ => ∃ (t : Addr) (S : List Str) (m p : Str) (g : Option Str), vs = [.ref t, .str m, .str p, optS g] ∧ H t = some (.tup (S.map V.str)) ∧ RetV (.bl (alB S m p g)) H Q
theorem dec_strs (a b : Str) : decide (V.str a = V.str b) = decide (a = b) := by simp
theorem ne_beq (a b : Bool) : (!decide (V.bl a = V.bl b)) = !(a == b) := by cases a <;> cases b <;> rfl
theorem ok_allows {f : Addr} {fd : FuncData} (F : Fun K "_allows" "_allows" sAllows f fd) (B : Bn mg) : FnOk P w K mg base CX0 1 f fd Nalw (spAlw K) := by
  refine F.ok scalw (fun vs H Q E h => ?_) (fun cdv A outer s H vs Q E hr h => ?_)
  · obtain ⟨t, S, m, p, g, rfl, _⟩ := h
    rfl
  · obtain ⟨t, S, m, p, g, rfl, ht, q⟩ := h
    have nd := scalw.nd
    obtain ⟨th, m_HIT⟩ := B.HIT
    refine ⟨_, pss_cons (ps_if (pt_cmpR op_ne (pe_cmpR (r := rIn K false) op_in_seq (pv 2) (pv 0) (by with_unfolding_all rfl)) (pe_cmpR op_eq (pv 1) (pe_glob (v := .str "hit") (by rfl) m_HIT ⟨_, rfl⟩) (nomark _)) (nomark _))
        (pss_one (ps_ret pe_bl))
        pss_nil)
      (pss_one (ps_ret (pe_or (pe_cmp (pc_isN (pv 3)) rfl) (pe_one (pe_cmpR (r := rIn K false) op_in_seq (pv 3) (pv 0) (by with_unfolding_all rfl)))))), ?_⟩
    refine q_when (b := !(decide (p ∈ S) == decide (m = hitS))) (et_is (et_test (ev_op (ev_op (ev_var rfl) (ev_var rfl) (rv_inT (.inl (.inl ht)) rfl (flat_all S))) (ev_op (ev_var rfl) ev_c (rv_eq rfl)) (rv_ne rfl))) ?_) (fun hb H1 e1 => ?_) (fun hb H1 e1 => ?_)
    · show (!decide (V.bl (inV (.str p) (S.map V.str)) = V.bl (decide (V.str m = V.str "hit")))) = _
      rw [ne_beq, in_strs, dec_strs]
      rfl
    · refine s_ret ev_c fun H2 e2 => ?_
      have : alB S m p g = false := by
        unfold alB
        rw [Bool.not_eq_true'] at hb
        rw [hb]
        rfl
      rw [this] at q
      exact q H2 (e1.trans e2)
    · have e0 : alB S m p g = (decide (optS g = V.non) || inV (optS g) (S.map V.str)) := by
        unfold alB
        rw [Bool.not_eq_false'] at hb
        rw [hb, Bool.true_and]
        cases g with
        | none => rfl
        | some x =>
          show decide (x ∈ S) = (false || inV (.str x) (S.map V.str))
          rw [in_strs, Bool.false_or]
      rw [e0] at q
      exact s_ret (ev_orV (ev_isN (ev_var rfl)) fun _ => ev_op (ev_var rfl) (ev_var rfl) (rv_inT (.inl (.inl (e1 _ _ ht))) (optS_flat g) (flat_all S))) fun H2 e2 => q H2 (e1.trans e2)
abbrev Naft : List Str := ["shelf", "page", "evicted", "kept", "other"]
theorem scaft : FnScope Naft ["shelf", "page", "evicted"] (defScope sAfterMiss) := ⟨rfl, rfl, rfl, by decide +kernel, rfl, by decide +kernel, by decide +kernel⟩
def spAft : Sp := fun vs H Q _ => ∃ (t : Addr) (S : List Str) (p : Str) (g : Option Str), vs = [.ref t, .str p, optS g] ∧ H t = some (.tup (S.map V.str)) ∧ S.length ≤ 1000 ∧ ∀ r H2, H r = none → Ex H H2 → H2 r = some (.tup ((afM S p g).map V.str)) → Q (.ref r) H2
def neO (g : Option Str) (o : Str) : Bool := match g with | none => true | some x => !decide (o = x)
theorem afM_neO {S : List Str} {p : Str} {g : Option Str} : afM S p g = sortS (S.filter (neO g) ++ [p]) := by cases g <;> rfl
theorem ok_aft {f : Addr} {fd : FuncData} (F : Fun K "_after_miss" "_after_miss" sAfterMiss f fd) (B0 : Bn mg) (BS : Bs mg) : FnOk P w K mg base CX0 1 f fd ["shelf", "page", "evicted"] spAft := by
  refine F.ok scaft (fun vs H Q E h => ?_) (fun cdv A outer s H vs Q E hr h => ?_)
  · obtain ⟨t, S, p, g, rfl, _⟩ := h
    rfl
  · obtain ⟨t, S, p, g, rfl, ht, hz, q⟩ := h
    have nd := scaft.nd
    refine ⟨_, pss_cons (ps_setLc (i := 3) (own := [("other", 4)]) (g := gName 4) (tt := tTest (tOp rNe (tVar 4) (tVar 2))) (te := tVar 4) (by rfl) nd rfl rfl (sw_true rfl rfl rfl (by decide +kernel)) (pi_tup (pv 0)) (blkOk_by (N := Naft) (sc := defScope sAfterMiss) (by decide +kernel))
        (fun _ _ _ _ _ => pg_name (i := 4) nd rfl (Or.inl rfl)) (fun _ _ _ _ _ => pts_one (pt_cmpR op_ne (pv 4) (pv 2) (nomark _))) (fun _ _ _ _ _ => pv 4))
      (pss_one (ps_ret (pe_callTy call_tuple_of (by rfl) B0.tuple bt_tuple (pa_cons (pe_callB cr_sortedTx (by rfl) BS.sorted bt_sorted (pa_cons (pe_lst (pa_star (pv 3) (pa_cons (pv 1) pa_nil))) pa_nil)) pa_nil)))), ?_⟩
    refine q_asgL (xs := (S.filter (neO g)).map V.str) ?_ fun kp H1 hk e1 h1 => ?_
    · rw [← given_filter S (neO g) ""]
      have hm : (S.map V.str).length = S.length := List.length_map ..
      rw [← hm]
      refine el_lcT _ _ (ev_var rfl) (.inl (.inl ht)) (by omega) (fun _ => rfl) (fun j x H4 e4 hx => ?_) (fun j x H4 e4 hx _ => ?_)
      all_goals
        rw [List.getElem?_map] at hx
        obtain ⟨y, hy, rfl⟩ := Option.map_eq_some_iff.mp hx
        have ey : S.getD j "" = y := by rw [List.getD_eq_getElem?_getD, hy]; rfl
        rw [ey]
      · refine et_is (et_test (ev_op (ev_var rfl) (ev_var rfl) (rv_ne (by cases g <;> rfl)))) ?_
        cases g with
        | none => rfl
        | some x =>
          show (!decide (V.str y = V.str x)) = !decide (y = x)
          rw [dec_strs]
      · exact ev_var rfl
    · refine go_ret ?_
      have hf := List.length_filter_le (neO g) S
      refine ⟨.ref kp, rfl, kp, (S.filter (neO g)).map V.str, rfl, .inr (sq_of h1), .str p, rfl, sz_of (by rw [List.length_append, List.length_map]; show _ + 1 ≤ 100000; omega), fun l hl => ?_⟩
      have x1 := Ex.new (o := .lst ((S.filter (neO g)).map V.str ++ [V.str p])) hl
      have em : (S.filter (neO g)).map V.str ++ [V.str p] = ((S.filter (neO g)) ++ [p]).map V.str := by rw [List.map_append]; rfl
      refine ⟨l, (S.filter (neO g)) ++ [p], rfl, .inl (sq_of (by rw [← em]; exact upd_same)), fun ys p2 hp hs np => ?_⟩
      rw [sortS_eq hp hs]
      refine ⟨p2, _, rfl, .inl ⟨sq_of upd_same, fun r nr => ?_⟩⟩
      exact q r _ (fresh_back (e1.trans (x1.trans (Ex.new np))) nr) ((e1.trans (x1.trans (Ex.new np))).trans (Ex.new nr)) (by rw [afM_neO]; exact upd_same)
end
end KB

set_option Elab.async false
set_option linter.all false
set_option maxRecDepth 100000
set_option maxHeartbeats 16000000
/-! RP2: replay, walked. -/
namespace KB
open PySem PySem.Spec PyProof.Rows L2 Evl StX
abbrev msK (ms : List Nat) : List Key := ms.map fun n : Nat => (Sum.inl (n : Int) : Key)
theorem msK_v (ms : List Nat) : (msK ms).map kV = ms.map natV := by
  unfold msK
  rw [List.map_map]
  rfl
theorem val_zip : ∀ (ms : List Nat) (gs : List Str) (kvs : List (Key × V)) (e : Nat), ms.Nodup → valV (mergeK kvs ((msK ms).zip (gs.map V.str))) (.inl (e : Int)) = (match evAt ms gs e with | some x => some (V.str x) | none => valV kvs (.inl (e : Int)))
  | [], _, _, _, _ => rfl
  | _ :: _, [], _, _, _ => rfl
  | m :: ms, g :: gs, kvs, e, nd => by
    have nd2 := List.nodup_cons.mp nd
    have ih := val_zip ms gs (putK kvs (.inl (m : Int)) (V.str g)) e nd2.2
    show valV (mergeK (putK kvs (.inl (m : Int)) (V.str g)) ((msK ms).zip (gs.map V.str))) _ = _
    rw [ih, valV_put]
    by_cases h : m = e
    · subst h
      have e1 : evAt ms gs m = none := find_no nd2.1
      have e2 : evAt (m :: ms) (g :: gs) m = some g := by simp [evAt]
      rw [e1, e2]
      exact if_pos rfl
    · have e2 : evAt (m :: ms) (g :: gs) e = evAt ms gs e := by
        unfold evAt
        rw [List.zip_cons_cons, List.find?_cons_of_neg (by simpa using h)]
      rw [e2, if_neg (fun z => h (by injection z with z; omega))]
theorem val_ev {ms : List Nat} {gs : List Str} {e : Nat} (nd : ms.Nodup) : (valV (mergeK [] ((msK ms).zip (gs.map V.str))) (.inl (e : Int))).getD .non = optS (evAt ms gs e) := by
  rw [val_zip ms gs [] e nd]
  cases evAt ms gs e <;> rfl
section
variable {K : PySem.W.Frag} {σ : L2.St} {H H1 H' : Hp} {td ty : TE}
theorem ev_dgetI {d : Addr} {kvs : List (Key × V)} {e : Int} (hd : H d = some (.dK kvs)) (h1 : Ev td σ H (.ref d)) (h2 : Ev ty σ H (.int e)) : Ev (tDGet1 td ty) σ H ((valV kvs (.inl e)).getD .non) := fun H1 e Q q =>
  h1 H1 e _ fun H2 e2 => ⟨d, rfl, .inl ⟨kvs, .inl (e2 _ _ (e _ _ hd))⟩, h2 H2 (e.trans e2) _ fun H3 e3 => ⟨_, DGet.k (k := .inl _) (e3 _ _ (e2 _ _ (e _ _ hd))), q H3 (e2.trans e3)⟩⟩
end
theorem s_asgW {te : TE} {i : Nat} {D : Ends} {σ : L2.St} {H : Hp} (h : te σ H fun x H1 => D.nx (σ.set i (some x)) H1) : tAsg te (gName i) D σ H := h
structure Brp (mg : Str → Option Value) : Prop where
  dict : mg "dict" = none
  zip : mg "zip" = none
theorem bt_dict : bootBuiltins "dict" = some (.type "dict") := by decide +kernel
theorem dvs_texts {K : PySem.W.Frag} {H : Hp} {v : V} {d : PyData} (hd : DV K H v d) (h : plistD d = true) : ∃ (a : Addr) (gs : List Str), v = .ref a ∧ d = .list (gs.map PyData.str) ∧ H a = some (.lst (gs.map V.str)) ∧ ∀ g ∈ gs, pageB g = true := by
  cases d with
  | list ds =>
    cases hd with
    | lst h1 h2 =>
      rename_i a xs
      have ht := dvs_text h2 h
      have hg := page_text h
      refine ⟨a, ds.map textD, rfl, by rw [hg], by rw [h1, ht], fun g hgm => ?_⟩
      obtain ⟨d, hd, rfl⟩ := List.mem_map.mp hgm
      have := List.all_eq_true.mp h d hd
      cases d with
      | str x => exact this
      | _ => exact absurd this (by simp [pageD])
  | _ => cases h
section
variable {P : Program} {w : World} {K : PySem.W.Frag} {mg : Str → Option Value} {base : Heap}
def spEmsV : Sp := fun vs H Q _ => ∃ (c : Nat) (t l : Addr) (ps : List Str) (es : List Ev1), vs = [.int (c : Int), .ref t, .ref l] ∧ PL H t l c ps es ∧ RetL ((lates c ps.length es).map natV) H Q
theorem cl_emsV {C : Nat → Addr} {k : Nat} (c : ClX P w K mg base k "evicting_misses" P3 (spL3 K C latesD)) : Cl P w K mg base k "evicting_misses" P3 spEmsV :=
  Cl.imp (ClX.calm c) fun vs H Q E h => by
    obtain ⟨c, t, l, ps, es, rfl, p, q⟩ := h
    have hb := bad_none p.c1 p.pg p.le p.ok
    refine ⟨_, _, _, _, _, _, rfl, p.dv3, fun _ => ?_, fun k hk => ?_⟩
    · have : latesD (.int (c : Int)) (.tuple (pD ps)) (.list (es.map evD)) = (lates c ps.length es).map natV := by
        show (lates c ((pD ps).map textD).length ((es.map evD).map evOf)).map natV = _
        rw [pD_text, ofE]
      rw [this]
      exact q
    · rw [hb] at hk
      cases hk
abbrev P4r : List Str := ["capacity", "start", "log", "evicted"]
abbrev Nrep : List Str := ["capacity", "start", "log", "evicted", "misses", "evicted_at", "shelf", "contents", "e", "mark", "page"]
theorem screp : FnScope Nrep P4r (defScope sReplay) := ⟨rfl, rfl, rfl, by decide +kernel, rfl, by decide +kernel, by decide +kernel⟩
def spRep (K : PySem.W.Frag) (C : Addr) : Sp := fun vs H Q E => ∃ (c : Nat) (t l : Addr) (v4 : V) (d4 : PyData) (ps : List Str) (es : List Ev1), vs = [.int (c : Int), .ref t, .ref l, v4] ∧ PL H t l c ps es ∧ DV K H v4 d4 ∧ smallD d4 = true ∧
  (∀ css, replayD c ps es d4 = some css → ∀ p H2, H p = none → Ex H H2 → CsM H2 p css → Q (.ref p) H2) ∧ (replayD c ps es d4 = none → ∀ H2, Ex H H2 → E (.ref C) none H2)
theorem rep_len {C : Addr} : ∀ vs H Q E, spRep K C vs H Q E → vs.length = 4 := fun _ _ _ _ ⟨_, _, _, _, _, _, _, e, _⟩ => by rw [e]; rfl
theorem ok_replay {f C : Addr} {fd : FuncData} (F : Fun K "replay" "replay" sReplay f fd) (B0 : Bn mg) (BS : Bs mg) (BR : Brp mg) (cE : Cl P w K mg base 8 "evicting_misses" P3 spEmsV) (cPL : Cl P w K mg base 2 "is_page_list" ["value"] (spAny K plistD))
    (cA : Cl P w K mg base 1 "_allows" Nalw (spAlw K)) (cM : Cl P w K mg base 1 "_after_miss" ["shelf", "page", "evicted"] spAft) (T : ErC K mg "InvalidHistory" C) : FnOk P w K mg base (L2.CX P w) 9 f fd P4r (spRep K C) := by
  refine F.okX screp rep_len (fun cdv A outer s H vs Q E hr h => ?_)
  obtain ⟨c, t, l, v4, d4, ps, es, rfl, hp, hd, hs, q, qe⟩ := h
  have nd := screp.nd
  obtain ⟨tm, m_MISS⟩ := B0.MISS
  refine ⟨_, pss_cons (ps_set (i := 4) nd rfl (Or.inl rfl) (pe_cl cE hr (pa_cons (pv 0) (pa_cons (pv 1) (pa_cons (pv 2) pa_nil)))))
      (pss_cons (ps_if (PW.pt (pw_or (pt_not (pt_val (pe_cl cPL hr (pa_cons (pv 3) pa_nil)))) (pw_or1 (pt_cmpR op_ne (pe_callB call_len_seq (by rfl) B0.len bt_len (pa_cons (pv 3) pa_nil)) (pe_callB call_len_seq (by rfl) B0.len bt_len (pa_cons (pv 4) pa_nil)) (nomark _)))))
        (pss_one (ps_raise rfl (takes_of rfl rfl rfl rfl) (pmk_own PySem.F.excBase_ValueError T.xP T.gC T.kP (raises_own T.bP T.tP) rfl)))
        pss_nil)
      (pss_cons (ps_set (i := 5) nd rfl (Or.inl rfl) (pe_dictZip rfl (by rfl) BR.dict bt_dict (by rfl) BR.zip (pa_cons (pv 4) (pa_cons (pv 3) pa_nil))))
      (pss_cons (ps_set (i := 6) nd rfl (Or.inl rfl) (pe_callTy call_tuple_of (by rfl) B0.tuple bt_tuple (pa_cons (pe_callB cr_sortedTx (by rfl) BS.sorted bt_sorted (pa_cons (pv 1) pa_nil)) pa_nil)))
      (pss_cons (ps_set (i := 7) nd rfl (Or.inl rfl) (pe_lst (pa_cons (pv 6) pa_nil)))
      (pss_cons (ps_for PassesOwn.leaving rfl (pi_range1 (by rfl) B0.range (pa_cons (pe_callB call_len_seq (by rfl) B0.len bt_len (pa_cons (pv 2) pa_nil)) pa_nil)) (pg_name (i := 8) nd rfl (Or.inl rfl))
        (pss_cons (ps_asg (pe_ix (r := rIxL K) ix_list (pv 2) (pv 8) (fun _ _ => rfl)) (pg_tup rfl (pgs_cons (pg_name (i := 9) nd rfl (Or.inl rfl)) (pgs_cons (pg_name (i := 10) nd rfl (Or.inl rfl)) pgs_nil))))
        (pss_cons (ps_if (pt_not (pt_val (pe_cl cA hr (pa_cons (pv 6) (pa_cons (pv 9) (pa_cons (pv 10) (pa_cons (pe_dget1 hr.units1 (pv 5) (pv 8) ⟨by rfl, by rfl, by rfl, by rfl⟩) pa_nil)))))))
          (pss_one (ps_raise rfl (takes_of rfl rfl rfl rfl) (pmk_own PySem.F.excBase_ValueError T.xP T.gC T.kP (raises_own T.bP T.tP) rfl)))
          pss_nil)
        (pss_cons (ps_if (pt_cmpR op_eq (pv 9) (pe_glob (v := .str "miss") (by rfl) m_MISS ⟨_, rfl⟩) (nomark _))
          (pss_one (ps_set (i := 6) nd rfl (Or.inl rfl) (pe_cl cM hr (pa_cons (pv 6) (pa_cons (pv 10) (pa_cons (pe_dget1 hr.units1 (pv 5) (pv 8) ⟨by rfl, by rfl, by rfl, by rfl⟩) pa_nil))))))
          pss_nil)
        (pss_one (ps_expr (pe_bm PySem.F.plainAttrs_list PySem.F.slot_list_append PySem.F.type_list_append mt_append (pv 7) (pa_cons (pv 6) pa_nil))))))))
      (pss_one (ps_ret (pv 7)))))))), ?_⟩
  have hel := hp.el
  have hps := hp.pg.len
  refine q_asgL (el_fn (ea_cons (ev_var rfl) (ea_cons (ev_var rfl) (ea_cons (ev_var rfl) ea_nil))) fun H1 e1 Q' k => ⟨c, t, l, ps, es, rfl, hp.mono e1, k⟩) fun mp H1 hm e1 h1 => ?_
  have hll := lates_len c ps.length es
  by_cases hpl : plistD d4 = true
  · obtain ⟨a, gs, rfl, rfl, ha, hgp⟩ := dvs_texts hd hpl
    have hgl : gs.length ≤ 1000 := by
      rw [smallD, Bool.and_eq_true, decide_eq_true_eq, List.length_map] at hs
      exact hs.1
    have egs : (gs.map PyData.str).map textD = gs := pD_text gs
    refine q_when (b := !true || (!decide (V.int ((gs.length : Nat) : Int) = V.int (((lates c ps.length es).length : Nat) : Int)))) (et_or (et_not (et_B (ev_is (ev_fn (ea_cons (ev_var rfl) ea_nil) fun H4 e4 Q' k => ⟨_, _, rfl, DV.mono (e1.trans e4) _ _ hd, hs, k⟩) (by rw [hpl])))) fun _ =>
        et_test (ev_op (ev_is (ev_len (ev_var rfl) (sq_of (e1 _ _ ha))) (by rw [List.length_map])) (ev_is (ev_len (ev_var rfl) (sq_of h1)) (by rw [List.length_map])) (rv_ne rfl))) (fun hb H2 e2 => ?_) (fun hb H2 e2 => ?_)
    · refine qe ?_ H2 (e1.trans e2)
      rw [Bool.not_true, Bool.false_or, dec_int, Bool.not_eq_true', decide_eq_false_iff_not] at hb
      exact replay_long (by rw [List.length_map]; exact hb)
    · rw [Bool.not_true, Bool.false_or, dec_int, Bool.not_eq_false', decide_eq_true_eq] at hb
      have e12 := e1.trans e2
      have nd2 := lates_nd c ps.length es
      have rD : replayD c ps es (.list (gs.map PyData.str)) = (rp (evAt (lates c ps.length es) gs) 0 (sortS ps) es).map (sortS ps :: ·) := by
        show (if ((gs.map PyData.str).all pageD && decide ((gs.map PyData.str).length = (lates c ps.length es).length)) = true then _ else _) = _
        have : (gs.map PyData.str).all pageD = true := hpl
        rw [this, List.length_map, decide_eq_true hb, if_pos (by rfl), egs]
      rw [rD] at q qe
      generalize hev : evAt (lates c ps.length es) gs = ev at q qe rD
      refine q_asgW ((show EvA (tCons (tVar 4) (tCons (tVar 3) tNil)) _ _ [.ref mp, .ref a] from ea_cons (ev_var rfl) (ea_cons (ev_var rfl) ea_nil)) H2 (Ex.refl _) _ fun H3 e3 => ⟨mp, a, msK (lates c ps.length es), gs.map V.str, rfl, by rw [msK_v]; exact sq_of ((e2.trans e3) _ _ h1), sq_of ((e12.trans e3) _ _ ha), by rw [List.length_map, List.length_map]; exact hb.symm, fun dp hdp => ?_⟩)
      have xd := Ex.new (o := .dK (mergeK [] ((msK (lates c ps.length es)).zip (gs.map V.str)))) hdp
      have e14 := (e12.trans e3).trans xd
      have hdk : upd H3 dp (.dK (mergeK [] ((msK (lates c ps.length es)).zip (gs.map V.str)))) dp = _ := upd_same
      generalize upd H3 dp _ = H4 at hdk e14 xd ⊢
      have hval : ∀ i : Nat, (valV (mergeK [] ((msK (lates c ps.length es)).zip (gs.map V.str))) (.inl (i : Int))).getD .non = optS (ev i) := fun i => by rw [← hev]; exact val_ev nd2
      generalize mergeK [] ((msK (lates c ps.length es)).zip (gs.map V.str)) = kvs at hdk hval
      refine q_asgU (eu_tupSort (ev_var rfl) (.inr (.inl (.inl (e14 _ _ hp.ht))))) fun sp H5 hsp e5 h5 => ?_
      have e15 := e14.trans e5
      refine q_asgL (el_lst (ea_cons (ev_var rfl) ea_nil) (show 1 ≤ 100000 by decide)) fun cp H6 hcp e6 h6 => ?_
      have e16 := e15.trans e6
      have fcp : H cp = none := fresh_back e15 hcp
      obtain ⟨⟨ts, l1, l2⟩⟩ := hp.ev
      have hlt := paired_len l2
      have hd5 := e5 _ _ hdk
      have ndc : dp ≠ cp := ne_of_none hd5 hcp
      refine q_forN (n := es.length) (ea_cons (ev_is (ev_len (ev_var rfl) (sq_of (e16 _ _ l1))) (by rw [List.length_map, hlt])) ea_nil) (by omega)
        (fun i σ H' => ∃ sp S us css z8 z9 z10, σ = [some (.int (c : Int)), some (.ref t), some (.ref l), some (.ref a), some (.ref mp), some (.ref dp), some (.ref sp), some (.ref cp), z8, z9, z10] ∧ Ex H H' ∧ H' dp = some (.dK kvs) ∧ H' sp = some (.tup (S.map V.str)) ∧ H' cp = some (.lst (us.map V.ref)) ∧ Paired (fun t (S : List Str) => H' t = some (.tup (S.map V.str))) us css ∧ css.length = i + 1 ∧ S.length ≤ 200 + i ∧
          (rp ev 0 (sortS ps) es).map (sortS ps :: ·) = (rp ev i S (es.drop i)).map (css ++ ·))
        (fun H7 e7 => ⟨sp, sortS ps, [sp], [sortS ps], none, none, none, rfl, e16.trans e7, (e6.trans e7) _ _ hd5, (e6.trans e7) _ _ h5, e7 _ _ h6, .cons ((e6.trans e7) _ _ h5) .nil, rfl, by rw [sortS_len]; omega, by rw [List.drop_zero]; rfl⟩) (fun i σ H' hi hP => ?_) (fun σ H' hP => ?_)
      · obtain ⟨sp, S, us, css, z8, z9, z10, rfl, ex, hdK, hS, hcs, hus, hlc, hSl, heq⟩ := hP
        have hul := paired_len hus
        have hat : es[i]? = some es[i] := List.getElem?_eq_getElem hi
        obtain ⟨tp, htp, hev1⟩ := paired_at l2 hat
        have hdrop : es.drop i = es[i] :: es.drop (i + 1) := List.drop_eq_getElem_cons hi
        have hok := hp.ok _ (List.mem_of_getElem? hat)
        generalize es[i] = e at hat hev1 hdrop hok
        obtain ⟨m, p⟩ := e
        refine q_unp2 (x := .str m) (y := .str p) (ev_op (ev_var rfl) (ev_var rfl) (rv_ixL (sq_of (ex _ _ l1)) (atI_nat (j := i) (by rw [List.getElem?_map, htp]; rfl)))) (.inl (.inl (ex _ _ hev1))) fun H7 e7 => ?_
        have dg : ∀ {z9 z10 : Option V} {H8 : Hp}, Ex H' H8 → Ev (tDGet1 (tVar 5) (tVar 8)) [some (.int (c : Int)), some (.ref t), some (.ref l), some (.ref a), some (.ref mp), some (.ref dp), some (.ref sp), some (.ref cp), some (.int (i : Int)), z9, z10] H8 (optS (ev i)) := fun e8 => ev_is (ev_dgetI (e8 _ _ hdK) (ev_var rfl) (ev_var rfl)) (hval i)
        refine q_when (b := !alB S m p (ev i)) (et_not (et_B (ev_fn (ea_cons (ev_var rfl) (ea_cons (ev_var rfl) (ea_cons (ev_var rfl) (ea_cons (dg e7) ea_nil)))) fun H8 e8 Q' k => ⟨sp, S, m, p, ev i, rfl, (e7.trans e8) _ _ hS, k⟩))) (fun hb8 H8 e8 => ?_) (fun hb8 H8 e8 => ?_)
        · refine qe ?_ H8 (ex.trans (e7.trans e8))
          rw [heq, hdrop]
          rw [Bool.not_eq_true'] at hb8
          show Option.map _ (if alB S m p (ev i) = true then _ else none) = none
          rw [if_neg (by rw [hb8]; decide)]
          rfl
        · rw [Bool.not_eq_false'] at hb8
          have e78 := e7.trans e8
          have hrp : (rp ev i S (es.drop i)).map (css ++ ·) = (rp ev (i + 1) (nxS S (m, p) (ev i)) (es.drop (i + 1))).map ((css ++ [nxS S (m, p) (ev i)]) ++ ·) := by
            rw [hdrop]
            show Option.map _ (if alB S m p (ev i) = true then (rp ev (i + 1) (nxS S (m, p) (ev i)) _).map (nxS S (m, p) (ev i) :: ·) else none) = _
            rw [if_pos hb8, Option.map_map]
            congr 1
            funext o
            simp
          have ncs : ∀ {b : Addr} {xs : List V} {H9 : Hp}, Ex H8 H9 → H9 b = some (.tup xs) → b ≠ cp := fun {b xs H9} e9 hb => ne_of hb ((e78.trans e9) _ _ hcs) (by intro q; cases q)
          have fin : ∀ (sp2 : Addr) (S2 : List Str) (H9 : Hp), Ex H8 H9 → H9 sp2 = some (.tup (S2.map V.str)) → S2 = nxS S (m, p) (ev i) → S2.length ≤ 200 + (i + 1) → ∃ sp S us' css' z8 z9 z10, [some (V.int (c : Int)), some (.ref t), some (.ref l), some (.ref a), some (.ref mp), some (.ref dp), some (.ref sp2), some (.ref cp), some (.int (i : Int)), some (.str m), some (.str p)] = [some (V.int (c : Int)), some (.ref t), some (.ref l), some (.ref a), some (.ref mp), some (.ref dp), some (.ref sp), some (.ref cp), z8, z9, z10] ∧ Ex H (upd H9 cp (.lst (us.map V.ref ++ [V.ref sp2]))) ∧ upd H9 cp (.lst (us.map V.ref ++ [V.ref sp2])) dp = some (.dK kvs) ∧ upd H9 cp (.lst (us.map V.ref ++ [V.ref sp2])) sp = some (.tup (S.map V.str)) ∧ upd H9 cp (.lst (us.map V.ref ++ [V.ref sp2])) cp = some (.lst (us'.map V.ref)) ∧ Paired (fun t (S : List Str) => upd H9 cp (.lst (us.map V.ref ++ [V.ref sp2])) t = some (.tup (S.map V.str))) us' css' ∧ css'.length = i + 1 + 1 ∧ S.length ≤ 200 + (i + 1) ∧
              (rp ev 0 (sortS ps) es).map (sortS ps :: ·) = (rp ev (i + 1) S (es.drop (i + 1))).map (css' ++ ·) := fun sp2 S2 H9 e9 h9 eS hl9 => by
            refine ⟨sp2, S2, us ++ [sp2], css ++ [S2], _, _, _, rfl, Ex.mut (ex.trans (e78.trans e9)) fcp, by rw [upd_ne ndc]; exact (e78.trans e9) _ _ hdK, by rw [upd_ne (ncs e9 h9)]; exact h9, by rw [upd_same, List.map_append]; rfl, ?_, by rw [List.length_append, hlc]; rfl, hl9, ?_⟩
            · refine paired_app (Paired.imp hus fun y Y hy => ?_) (.cons ?_ .nil)
              · have := (e78.trans e9) _ _ hy
                show upd H9 cp _ y = _
                rw [upd_ne (ncs e9 this)]
                exact this
              · show upd H9 cp _ sp2 = _
                rw [upd_ne (ncs e9 h9)]
                exact h9
            · rw [heq, hrp, eS]
          have hcl : (us.map V.ref).length < 100000 := by rw [List.length_map, hul, hlc]; omega
          refine q_when (b := decide (V.str m = V.str "miss")) (et_test (ev_op (ev_var rfl) ev_c (rv_eq rfl))) (fun hb9 H9 e9 => ?_) (fun hb9 H9 e9 => ?_)
          · have hm9 : m = missS := by
              have z := of_decide_eq_true hb9
              injection z
            have en : nxS S (m, p) (ev i) = afM S p (ev i) := if_pos hm9
            refine s_asgW (go_call (go_cons ((show Ev (tVar 6) _ _ (.ref sp) from ev_var rfl) H9 (Ex.refl _) _ fun H10 e10 => go_cons ((show Ev (tVar 10) _ _ (.str p) from ev_var rfl) H10 (Ex.refl _) _ fun H11 e11 => go_cons (dg (e78.trans (e9.trans (e10.trans e11))) H11 (Ex.refl _) _ fun H12 e12' => go_nil ?_)))))
            have e912 := e9.trans (e10.trans (e11.trans e12'))
            refine ⟨sp, S, p, ev i, rfl, (e78.trans e912) _ _ hS, by omega, fun r H13 hr e13 h13 => ?_⟩
            have e8r := e912.trans e13
            refine s_app (l := cp) (xs := us.map V.ref) ((e78.trans e8r) _ _ hcs) (ev_var rfl) (ev_var rfl) hcl fun H14 e14' => fin r _ H14 (e8r.trans e14') (e14' _ _ h13) en.symm ?_
            have h1 := List.length_filter_le (neO (ev i)) S
            rw [afM_neO, sortS_len, List.length_append]
            show _ + 1 ≤ _
            omega
          · have hm9 : ¬ m = missS := fun z => (of_decide_eq_false hb9) (by rw [z]; rfl)
            have en : nxS S (m, p) (ev i) = S := if_neg hm9
            refine s_app (l := cp) (xs := us.map V.ref) ((e78.trans e9) _ _ hcs) (ev_var rfl) (ev_var rfl) hcl fun H14 e14' => fin sp S H14 (e9.trans e14') ((e78.trans (e9.trans e14')) _ _ hS) en.symm (by omega)
      · obtain ⟨sp, S, us, css, z8, z9, z10, rfl, ex, hdK, hS, hcs, hus, hlc, hSl, heq⟩ := hP
        rw [List.drop_length] at heq
        have heq2 : (rp ev 0 (sortS ps) es).map (sortS ps :: ·) = some css := by
          rw [heq]
          show Option.map _ (some []) = _
          simp
        exact s_ret (ev_var rfl) fun H7 e7 => q css heq2 cp H7 fcp (ex.trans e7) ((CsM.mk ⟨us, hcs, hus⟩).mono e7)
  · have hpf : plistD d4 = false := by simpa using hpl
    refine q_when (b := !false || false) (et_or (et_not (et_B (ev_is (ev_fn (ea_cons (ev_var rfl) ea_nil) fun H4 e4 Q' k => ⟨_, _, rfl, DV.mono (e1.trans e4) _ _ hd, hs, k⟩) (by rw [hpf])))) fun hb => by cases hb) (fun _ H2 e2 => ?_) (fun hb => by cases hb)
    refine qe ?_ H2 (e1.trans e2)
    cases d4 with
    | list ds =>
      refine if_neg fun z => ?_
      rw [Bool.and_eq_true] at z
      exact hpl z.1
    | _ => rfl
end
end KB

set_option Elab.async false
set_option linter.all false
set_option maxRecDepth 100000
set_option maxHeartbeats 16000000
/-! RP3: the law's own way, walked. -/
namespace KB
open PySem PySem.Spec PyProof.Rows L2 Evl StX
def txtOk : PyData → Bool | .str x => decide (x.length ≤ 1000) && PyData.strOk x | _ => false
def goneI : PyData → Bool
  | .none => true
  | .str x => decide (x.length ≤ 1000) && PyData.strOk x
  | .list ds => ds.all txtOk && decide (ds.length ≤ 500)
  | _ => false
def goneT : PyData → Bool
  | .list ds => ds.all goneI && decide (ds.length ≤ 500)
  | _ => true
theorem txts_dp {K : PySem.W.Frag} {H : Hp} : ∀ {ds : List PyData} {xs : List V}, DVs K H xs ds → ds.all txtOk = true → DpAll K H xs ds ∧ PyData.canLayAll0 ds = true ∧ PyData.depthAll ds = 0
  | [], _, h, _ => by cases h; exact ⟨.nil, rfl, rfl⟩
  | d :: ds, _, h, a => by
    rw [List.all_cons, Bool.and_eq_true] at a
    cases h with
    | cons h1 h2 =>
      obtain ⟨i1, i2, i3⟩ := txts_dp h2 a.2
      cases d with
      | str x =>
        cases h1
        have ha : (decide (x.length ≤ 1000) && PyData.strOk x) = true := a.1
        rw [Bool.and_eq_true] at ha
        refine ⟨.cons (.str x) i1, ?_, ?_⟩
        · rw [PyData.canLayAll0, i2, Bool.and_true]
          exact ha.2
        · rw [PyData.depthAll, i3]
          rfl
      | _ => exact absurd a.1 (by simp [txtOk])
theorem item_dp {K : PySem.W.Frag} {H : Hp} {v : V} {d : PyData} (h : DV K H v d) (hg : goneI d = true) : Dp K H v d ∧ SeqAt.shaped d = true := by
  cases h with
  | non => exact ⟨.non, by decide⟩
  | str x =>
    have ha : (decide (x.length ≤ 1000) && PyData.strOk x) = true := hg
    rw [Bool.and_eq_true] at ha
    refine ⟨.str x, ?_⟩
    unfold SeqAt.shaped
    rw [show PyData.canLay0 (.str x) = true from ha.2]
    rfl
  | lst h1 h2 =>
    rename_i a xs ds
    have ha : (ds.all txtOk && decide (ds.length ≤ 500)) = true := hg
    rw [Bool.and_eq_true] at ha
    obtain ⟨i1, i2, i3⟩ := txts_dp h2 ha.1
    refine ⟨.lst (sq_of h1) i1, ?_⟩
    unfold SeqAt.shaped
    rw [show PyData.canLay0 (.list ds) = true from i2, show PyData.depth (.list ds) = PyData.depthAll ds + 1 from rfl, i3]
    rfl
  | _ => cases hg
theorem any_eqv (d : PyData) : ∀ S : List Str, ((S.map PyData.str).any fun z => PyData.eqv z d) = (strIn S d).isSome
  | [] => by
    cases d with
    | str x =>
      simp [strIn]
    | _ => rfl
  | y :: S => by
    have ih := any_eqv d S
    rw [List.map_cons, List.any_cons, ih]
    cases d with
    | str x =>
      show ((y == x) || (strIn S (.str x)).isSome) = _
      unfold strIn
      by_cases h : y = x
      · subst h
        simp
      · have h2 : ¬ x = y := fun z => h z.symm
        by_cases h3 : x ∈ S <;> simp [h, h2, h3]
    | _ => rfl
section
variable {K : PySem.W.Frag} {σ : L2.St} {H H1 H' : Hp} {ta tb tc te tx tl : TE} {x y z v : V} {D : Ends} {Q : VK}
theorem rv_niD {p : Addr} {S : List Str} {d : PyData} (hp : H p = some (.lst (S.map V.str))) (pg : ∀ p ∈ S, pageB p = true) (hd : DV K H v d) (hg : goneI d = true) : RV (rNotInD K) v (.ref p) H (.bl (!(strIn S d).isSome)) := fun H1 e Q k =>
  ⟨d, S.map PyData.str, (item_dp (DV.mono e _ _ hd) hg).1, .lst (sq_of (e _ _ hp)) (dp_strs S), (item_dp hd hg).2, shaped_strs pg, by
    rw [any_eqv]
    exact k H1 (Ex.refl H1)⟩
theorem go_tIf {t : TT} (h : t σ H fun c H1 => if c = true then ta σ H1 Q else tb σ H1 Q) : tIf t ta tb σ H Q := h
theorem go_tC (h : Q v H) : tC v σ H Q := h
theorem go_lstS {t : TA} (h : t σ H fun xs H1 => xs.length ≤ sizeLine ∧ ∀ p, H1 p = none → Q (.ref p) (upd H1 p (.lst xs))) : tLst t σ H Q := h
/-- sorted(xs) of texts, a list -/
theorem el_sortTx {a : Addr} {xs : List Str} (h : Ev te σ H (.ref a)) (hx : SqL K H a (xs.map V.str) ∨ SqT K H a (xs.map V.str)) : EvL (tCB (rSortedTx K) (tCons te tNil)) σ H ((sortS xs).map V.str) := fun H1 e Q q =>
  h H1 e _ fun H2 e2 => ⟨a, xs, rfl, hx.imp (ex_l (e.trans e2)) (ex_t (e.trans e2)), fun ys p hp hs np => by
    rw [sortS_eq hp hs]
    exact q p _ (fresh_back e2 np) (e2.trans (Ex.new np)) upd_same⟩
theorem eu_tupOf {a : Addr} {xs : List V} (h : Ev te σ H (.ref a)) (hx : SqL K H a xs) : EvU (tCB (rTupOf K) (tCons te tNil)) σ H xs := fun H1 e Q q =>
  h H1 e _ fun H2 e2 => ⟨a, xs, rfl, .inl ⟨ex_l (e.trans e2) hx, fun t nt => q t _ (fresh_back e2 nt) (e2.trans (Ex.new nt)) upd_same⟩⟩
theorem el_sortL {xs : List Str} (h : EvL te σ H (xs.map V.str)) : EvL (tCB (rSortedTx K) (tCons te tNil)) σ H ((sortS xs).map V.str) := fun H1 e Q q =>
  h H1 e _ fun a H2 na e2 h2 => ⟨a, xs, rfl, .inl (sq_of h2), fun ys p hp hs np => by
    rw [sortS_eq hp hs]
    exact q p _ (fresh_back e2 np) (e2.trans (Ex.new np)) upd_same⟩
/-- xs + [v] -/
theorem el_cat1 {a : Addr} {xs : List V} (ha : Ev ta σ H (.ref a)) (hx : H a = some (.lst xs)) (hv : Ev te σ H v) (hz : xs.length < 100000) : EvL (tOp rCat ta (tLst (tCons te tNil))) σ H (xs ++ [v]) := fun H1 e Q q =>
  ha H1 e _ fun H2 e2 => (el_lst (ea_cons hv ea_nil) (show 1 ≤ 100000 by decide)) H2 (e.trans e2) _ fun b H3 nb e3 h3 => ⟨a, b, xs, [v], rfl, rfl, (e.trans (e2.trans e3)) _ _ hx, h3, sz_of (by rw [show [v].length = 1 from rfl]; omega), fun r hr => q r _ (fresh_back (e2.trans e3) hr) ((e2.trans e3).trans (Ex.new hr)) upd_same⟩
end
section
variable {P : Program} {w : World} {K : PySem.W.Frag} {mg : Str → Option Value} {base : Heap}
abbrev Nfol : List Str := ["room", "initial", "happened", "gone", "here", "used", "found", "mark", "page", "other"]
theorem scfol : FnScope Nfol ["room", "initial", "happened", "gone"] (defScope sFollowed) := ⟨rfl, rfl, rfl, by decide +kernel, rfl, by decide +kernel, by decide +kernel⟩
def spFol (K : PySem.W.Frag) : Sp := fun vs H Q _ => ∃ (c : Nat) (t l : Addr) (v4 : V) (d4 : PyData) (ps : List Str) (es : List Ev1), vs = [.int (c : Int), .ref t, .ref l, v4] ∧ PL H t l c ps es ∧ DV K H v4 d4 ∧ goneT d4 = true ∧
  (∀ css, fwD c ps es d4 = some css → ∀ p H2, H p = none → Ex H H2 → CsM H2 p css → Q (.ref p) H2) ∧ (fwD c ps es d4 = none → RetV .non H Q)
theorem ok_followed {f : Addr} {fd : FuncData} (F : Fun K "_law_followed" "_law_followed" sFollowed f fd) (B0 : Bn mg) (BS : Bs mg) : FnOk P w K mg base CX0 1 f fd ["room", "initial", "happened", "gone"] (spFol K) := by
  refine F.ok scfol (fun vs H Q E h => ?_) (fun cdv A outer s H vs Q E hr h => ?_)
  · obtain ⟨c, t, l, v4, d4, ps, es, rfl, _⟩ := h
    rfl
  obtain ⟨c, t, l, v4, d4, ps, es, rfl, hp, hd, hg, q, qn⟩ := h
  have nd := scfol.nd
  have hu := hr.un
  have hu65 : (A.deeper (envOfC "_law_followed" (defScope sFollowed) s.heap.objs.size f cdv)).units + 65 < cLine := by omega
  refine ⟨_, pss_cons (ps_if (pt_not (pt_val (pe_callB call_isi (by rfl) B0.isinstance bt_isinstance (pa_cons (pv 3) (pa_cons (pe_bltn (v := .ty "list") (by rfl) B0.list bt_list rfl) pa_nil)))))
        (pss_one (ps_ret pe_non))
        pss_nil)
      (pss_cons (ps_asg (pe_tup (pa_cons (pe_callB cr_sortedTx (by rfl) BS.sorted bt_sorted (pa_cons (pv 1) pa_nil)) (pa_cons pe_int (pa_cons (pe_lst (pa_cons (pe_callTy call_tuple_of (by rfl) B0.tuple bt_tuple (pa_cons (pe_callB cr_sortedTx (by rfl) BS.sorted bt_sorted (pa_cons (pv 1) pa_nil)) pa_nil)) pa_nil)) pa_nil)))) (pg_tup rfl (pgs_cons (pg_name (i := 4) nd rfl (Or.inl rfl)) (pgs_cons (pg_name (i := 5) nd rfl (Or.inr rfl)) (pgs_cons (pg_name (i := 6) nd rfl (Or.inl rfl)) pgs_nil)))))
      (pss_cons (ps_for PassesOwn.never rfl (pi_list (pv 2)) (pg_tup rfl (pgs_cons (pg_name (i := 7) nd rfl (Or.inl rfl)) (pgs_cons (pg_name (i := 8) nd rfl (Or.inl rfl)) pgs_nil)))
        (pss_cons (ps_if (pt_cmpR op_ne (pe_cmpR op_eq (pv 7) pe_str (nomark _)) (pe_cmpR (r := rIn K false) op_in_seq (pv 8) (pv 4) (by with_unfolding_all rfl)) (nomark _))
          (pss_one (ps_ret pe_non))
          pss_nil)
        (pss_cons (ps_if (PW.pt (pw_and (pt_cmpR op_eq (pv 7) pe_str (nomark _)) (pw_and1 (pt_cmpR op_eq (pe_callB call_len_seq (by rfl) B0.len bt_len (pa_cons (pv 4) pa_nil)) (pv 0) (nomark _)))))
          (pss_cons (ps_if (PW.pt (pw_or (pt_cmpR op_eq (pv 5) (pe_callB call_len_seq (by rfl) B0.len bt_len (pa_cons (pv 3) pa_nil)) (nomark _)) (pw_or1 (pt_cmpR (r := rNotInD K) (op_notInD hu65) (pe_ix (r := rIxL K) ix_list (pv 3) (pv 5) (fun _ _ => rfl)) (pv 4) (by with_unfolding_all rfl)))))
            (pss_one (ps_ret pe_non))
            pss_nil)
          (pss_cons (ps_setLc (i := 4) (own := [("other", 9)]) (g := gName 9) (tt := tTest (tOp rNe (tVar 9) (tOp (rIxL K) (tVar 3) (tVar 5)))) (te := tVar 9) (by rfl) nd rfl rfl (sw_true rfl rfl rfl (by decide +kernel)) (pi_list (pv 4)) (blkOk_by (N := Nfol) (sc := defScope sFollowed) (by decide +kernel))
        (fun _ _ _ _ _ => pg_name (i := 9) nd rfl (Or.inl rfl)) (fun _ _ _ _ _ => pts_one (pt_cmpR op_ne (pv 9) (pe_ix (r := rIxL K) ix_list (pv 3) (pv 5) (fun _ _ => rfl)) (nomark _))) (fun _ _ _ _ _ => pv 9))
          (pss_one (ps_set (i := 5) nd rfl (Or.inr rfl) (pe_op op_add (pv 5) pe_int)))))
          pss_nil)
        (pss_cons (ps_if (pt_cmpR op_eq (pv 7) pe_str (nomark _))
          (pss_one (ps_set (i := 4) nd rfl (Or.inl rfl) (pe_callB cr_sortedTx (by rfl) BS.sorted bt_sorted (pa_cons (pe_op op_cat (pv 4) (pe_lst (pa_cons (pv 8) pa_nil))) pa_nil))))
          pss_nil)
        (pss_one (ps_expr (pe_bm PySem.F.plainAttrs_list PySem.F.slot_list_append PySem.F.type_list_append mt_append (pv 6) (pa_cons (pe_callTy call_tuple_of (by rfl) B0.tuple bt_tuple (pa_cons (pv 4) pa_nil)) pa_nil))))))))
      (pss_one (ps_ret (pe_ifExp (pt_cmpR op_eq (pv 5) (pe_callB call_len_seq (by rfl) B0.len bt_len (pa_cons (pv 3) pa_nil)) (nomark _)) (pv 6) pe_non))))), ?_⟩
  have hel := hp.el
  have hps := hp.pg.len
  by_cases hl4 : isLstD d4 = true
  · cases d4 with
    | list ds =>
      cases hd with
      | lst h1 hds =>
      rename_i a xs
      have hxl := dvs_len hds
      have hD : DV K H (.ref a) (.list ds) := .lst h1 hds
      have hg : (ds.all goneI && decide (ds.length ≤ 500)) = true := hg
      rw [Bool.and_eq_true, decide_eq_true_eq, List.all_eq_true] at hg
      refine q_when (b := !true) (et_not (et_B (ev_isiD (ev_var rfl) hD (kit_lst _)))) (fun hb => by cases hb) (fun _ H1 e1 => ?_)
      obtain ⟨⟨ts, l1, l2⟩⟩ := hp.ev
      have hlt := paired_len l2
      have hlm : (ts.map V.ref).length = es.length := by rw [List.length_map, hlt]
      refine q_asgG (go_cons ((el_sortTx (ev_var rfl) (.inr (.inl (.inl (e1 _ _ hp.ht))))) H1 (Ex.refl _) _ fun hp0 H2 nh e2 h2 => go_cons ?_))
      refine go_tC ?_
      refine go_cons ?_
      refine go_lstS ?_
      refine go_cons ((eu_tupSort (ev_var rfl) (.inr (.inl (.inl ((e1.trans e2) _ _ hp.ht))))) H2 (Ex.refl _) _ fun tp H3 nt e3 h3 => go_nil ⟨show 1 ≤ sizeLine by decide, fun fp nf => go_nil ⟨show 3 ≤ sizeLine by decide, fun T nT =>
        ⟨T, [.ref hp0, .int 0, .ref fp], rfl, .inl (.inl upd_same), rfl, .ref hp0, _, rfl, .int 0, _, rfl, .ref fp, [], rfl, rfl, ?_⟩⟩⟩)
      have xf := Ex.new (o := .lst [V.ref tp]) nf
      have xT := Ex.new (o := .tup [.ref hp0, .int 0, .ref fp]) nT
      have hfp : upd (upd H3 fp (.lst [V.ref tp])) T (.tup [.ref hp0, .int 0, .ref fp]) fp = some (.lst [V.ref tp]) := xT _ _ upd_same
      have e3T := (e3.trans xf).trans xT
      have ffp : H fp = none := fresh_back (e1.trans (e2.trans e3)) nf
      have h34 : upd (upd H3 fp (.lst [V.ref tp])) T (.tup [.ref hp0, .int 0, .ref fp]) tp = some (.tup ((sortS ps).map V.str)) := xT _ _ (xf _ _ h3)
      generalize upd _ T _ = H4 at hfp e3T h34 ⊢
      have e14 := e1.trans (e2.trans e3T)
      have h24 := e3T _ _ h2
      have nhf : hp0 ≠ fp := ne_of_none (e3 _ _ h2) nf
      refine q_forL (a := l) (xs := ts.map V.ref) (ev_var rfl) (sq_of (e14 _ _ l1)) (fun i σ H' => ∃ hq S u us css z7 z8 z9, σ = [some (.int (c : Int)), some (.ref t), some (.ref l), some (.ref a), some (.ref hq), some (.int ((u : Nat) : Int)), some (.ref fp), z7, z8, z9] ∧ Ex H H' ∧ H' hq = some (.lst (S.map V.str)) ∧ hq ≠ fp ∧ H' fp = some (.lst (us.map V.ref)) ∧ Paired (fun t (S : List Str) => H' t = some (.tup (S.map V.str))) us css ∧ css.length = i + 1 ∧ S.length ≤ 200 + i ∧ (∀ p ∈ S, pageB p = true) ∧ u ≤ i ∧ u ≤ xs.length ∧
          (fw c ds (sortS ps) 0 es).map (sortS ps :: ·) = (fw c ds S u (es.drop i)).map (css ++ ·))
        (fun H5 e5 => ⟨hp0, sortS ps, 0, [tp], [sortS ps], none, none, none, rfl, e14.trans e5, e5 _ _ h24, nhf, e5 _ _ hfp, .cons (e5 _ _ h34) .nil, rfl, by rw [sortS_len]; omega, fun p hpm => hp.pg.all p (sortS_mem.mp hpm), Nat.le_refl _, Nat.zero_le _, by rw [List.drop_zero]; rfl⟩)
        (fun i σ H' _ hP => ?_) (fun i x σ H' hx hP => ?_) (fun σ H' hP => ?_)
      · obtain ⟨hq, S, u, us, css, z7, z8, z9, rfl, ex, _⟩ := hP
        exact sq_of (ex _ _ l1)
      · obtain ⟨hq, S, u, us, css, z7, z8, z9, rfl, ex, hqS, nq, hf, hus, hlc, hSl, hSp, hui, hun, heq⟩ := hP
        have hul := paired_len hus
        rw [List.getElem?_map] at hx
        obtain ⟨tp, htp, rfl⟩ := Option.map_eq_some_iff.mp hx
        have hi : i < ts.length := (List.getElem?_eq_some_iff.mp htp).1
        have hi2 : i < es.length := by omega
        have hat : es[i]? = some es[i] := List.getElem?_eq_getElem hi2
        obtain ⟨e, he, hev1⟩ := paired_at' l2 htp
        rw [hat] at he
        cases he
        have hdrop : es.drop i = es[i] :: es.drop (i + 1) := List.drop_eq_getElem_cons hi2
        have hok := hp.ok _ (List.mem_of_getElem? hat)
        generalize es[i] = e at hat hev1 hdrop hok
        obtain ⟨m, p⟩ := e
        have hmk : m = hitS ∨ m = missS := hok.1
        have hpg : pageB p = true := hok.2
        rw [hdrop] at heq
        refine ⟨tp, [.str m, .str p], rfl, .inl (.inl (ex _ _ hev1)), rfl, .str m, [.str p], rfl, .str p, [], rfl, rfl, ?_⟩
        have hfull : fw c ds S u ((m, p) :: es.drop (i + 1)) = (if (decide (m = hitS) == decide (p ∈ S)) = false then none else if m = missS ∧ S.length = c then (match (ds[u]?).bind (strIn S) with | none => none | some x => (fw c ds (afM S p (some x)) (u + 1) (es.drop (i + 1))).map (afM S p (some x) :: ·)) else (fw c ds (nxS S (m, p) none) u (es.drop (i + 1))).map (nxS S (m, p) none :: ·)) := rfl
        refine q_when (b := !(decide (m = hitS) == decide (p ∈ S))) (et_is (et_test (ev_op (ev_op (ev_var rfl) ev_c (rv_eq rfl)) (ev_op (ev_var rfl) (ev_var rfl) (rv_inL (sq_of hqS) rfl (flat_all S))) (rv_ne rfl))) ?_) (fun hb H5 e5 => ?_) (fun hb H5 e5 => ?_)
        · show (!decide (V.bl (decide (V.str m = V.str "hit")) = V.bl (inV (.str p) (S.map V.str)))) = _
          rw [ne_beq, in_strs, dec_strs]
          rfl
        · rw [Bool.not_eq_true'] at hb
          rw [hfull, if_pos hb] at heq
          exact s_ret ev_c fun H6 e6 => qn heq H6 (ex.trans (e5.trans e6))
        · rw [Bool.not_eq_false'] at hb
          rw [hfull, if_neg (by rw [hb]; decide)] at heq
          have nfp : ∀ {b : Addr} {xs : List V} {H9 : Hp}, Ex H' H9 → H9 b = some (.tup xs) → b ≠ fp := fun {b xs H9} e9 hb => ne_of hb (e9 _ _ hf) (by intro q; cases q)
          -- the end of a turn
          have fin : ∀ (hq2 : Addr) (S2 : List Str) (u2 : Nat) (z9 : Option V) (tp2 : Addr) (H9 : Hp), Ex H' H9 → H9 hq2 = some (.lst (S2.map V.str)) → hq2 ≠ fp → H9 tp2 = some (.tup (S2.map V.str)) → S2.length ≤ 200 + (i + 1) → (∀ p ∈ S2, pageB p = true) → u2 ≤ i + 1 → u2 ≤ xs.length →
              (fw c ds (sortS ps) 0 es).map (sortS ps :: ·) = ((fw c ds S2 u2 (es.drop (i + 1))).map (S2 :: ·)).map (css ++ ·) →
              ∃ hq S u us' css' z7 z8 z9', [some (V.int (c : Int)), some (.ref t), some (.ref l), some (.ref a), some (.ref hq2), some (.int ((u2 : Nat) : Int)), some (.ref fp), some (.str m), some (.str p), z9] = [some (V.int (c : Int)), some (.ref t), some (.ref l), some (.ref a), some (.ref hq), some (.int ((u : Nat) : Int)), some (.ref fp), z7, z8, z9'] ∧ Ex H (upd H9 fp (.lst (us.map V.ref ++ [V.ref tp2]))) ∧ upd H9 fp (.lst (us.map V.ref ++ [V.ref tp2])) hq = some (.lst (S.map V.str)) ∧ hq ≠ fp ∧ upd H9 fp (.lst (us.map V.ref ++ [V.ref tp2])) fp = some (.lst (us'.map V.ref)) ∧ Paired (fun t (S : List Str) => upd H9 fp (.lst (us.map V.ref ++ [V.ref tp2])) t = some (.tup (S.map V.str))) us' css' ∧ css'.length = i + 1 + 1 ∧ S.length ≤ 200 + (i + 1) ∧ (∀ p ∈ S, pageB p = true) ∧ u ≤ i + 1 ∧ u ≤ xs.length ∧
                (fw c ds (sortS ps) 0 es).map (sortS ps :: ·) = (fw c ds S u (es.drop (i + 1))).map (css' ++ ·) := fun hq2 S2 u2 z9 tp2 H9 e9 h9 n9 ht9 hl9 hp9 hu9 hx9 eq9 => by
            refine ⟨hq2, S2, u2, us ++ [tp2], css ++ [S2], _, _, _, rfl, Ex.mut (ex.trans e9) ffp, by rw [upd_ne n9]; exact h9, n9, by rw [upd_same, List.map_append]; rfl, ?_, by rw [List.length_append, hlc]; rfl, hl9, hp9, hu9, hx9, ?_⟩
            · refine paired_app (Paired.imp hus fun y Y hy => ?_) (.cons ?_ .nil)
              · have := e9 _ _ hy
                show upd H9 fp _ y = _
                rw [upd_ne (nfp e9 this)]
                exact this
              · show upd H9 fp _ tp2 = _
                rw [upd_ne (nfp e9 ht9)]
                exact ht9
            · rw [eq9, Option.map_map]
              congr 1
              funext o
              simp
          have hcl : (us.map V.ref).length < 100000 := by rw [List.length_map, hul, hlc]; omega
          rcases hmk with rfl | rfl
          · -- a hit
            have n1 : nxS S (hitS, p) none = S := if_neg fun z => mark_ne z.symm
            rw [if_neg (fun z => mark_ne z.1.symm), n1] at heq
            refine q_when (b := false && false) (et_and (et_is (et_test (ev_op (ev_var rfl) ev_c (rv_eq rfl))) (by decide)) fun z => by cases z) (fun z => by cases z) (fun _ H6 e6 => ?_)
            refine q_when (b := false) (et_is (et_test (ev_op (ev_var rfl) ev_c (rv_eq rfl))) (by decide)) (fun z => by cases z) (fun _ H7 e7 => ?_)
            have e57 := e5.trans (e6.trans e7)
            refine s_appU (l := fp) (xs := us.map V.ref) (e57 _ _ hf) (ev_var rfl) (eu_tupOf (ev_var rfl) (sq_of (e57 _ _ hqS))) hcl fun tp2 H8 _ e8 h8 => fin hq S u _ tp2 H8 (e57.trans e8) ((e57.trans e8) _ _ hqS) nq h8 (by omega) hSp (by omega) hun heq
          · have hpS : p ∉ S := by
              have : decide ((missS : Str) = hitS) = false := decide_eq_false mark_ne
              rw [this] at hb
              simpa using hb
            -- the page is added
            by_cases hc : S.length = c
            · rw [if_pos (⟨rfl, hc⟩ : missS = missS ∧ S.length = c)] at heq
              refine q_when (b := true && true) (et_and (et_is (et_test (ev_op (ev_var rfl) ev_c (rv_eq rfl))) (by decide)) fun _ => et_is (et_test (ev_op (ev_len (ev_var rfl) (sq_of (e5 _ _ hqS))) (ev_var rfl) (rv_eq rfl))) (by rw [List.length_map, dec_int]; exact decide_eq_true hc)) (fun _ H6 e6 => ?_) (fun z => by cases z)
              have e56 := e5.trans e6
              have hx6 := (ex.trans e56) _ _ h1
              by_cases hu9 : u < ds.length
              · have hdat : ds[u]? = some ds[u] := List.getElem?_eq_getElem hu9
                obtain ⟨v, hv, hdv⟩ := dvs_at' hds hdat
                have hgi := hg.1 _ (List.mem_of_getElem? hdat)
                rw [hdat] at heq
                generalize ds[u] = d at hdat hdv hgi heq
                have heq : (fw c ds (sortS ps) 0 es).map (sortS ps :: ·) = Option.map (css ++ ·) (match strIn S d with | none => none | some x => (fw c ds (afM S p (some x)) (u + 1) (es.drop (i + 1))).map (afM S p (some x) :: ·)) := heq
                refine q_when (b := decide (V.int ((u : Nat) : Int) = V.int ((xs.length : Nat) : Int)) || (!(strIn S d).isSome)) (et_or (et_test (ev_op (ev_var rfl) (ev_len (ev_var rfl) (sq_of hx6)) (rv_eq rfl))) fun _ => et_test (ev_op (ev_op (ev_var rfl) (ev_var rfl) (rv_ixL (sq_of hx6) (atI_nat hv))) (ev_var rfl) (rv_niD (e56 _ _ hqS) hSp (DV.mono (ex.trans e56) _ _ hdv) hgi))) (fun hb7 H7 e7 => ?_) (fun hb7 H7 e7 => ?_)
                · have hnone : strIn S d = none := by
                    rw [dec_int, decide_eq_false (by omega), Bool.false_or, Bool.not_eq_true', Option.isSome_eq_false_iff, Option.isNone_iff_eq_none] at hb7
                    exact hb7
                  rw [hnone] at heq
                  exact s_ret ev_c fun H8 e8 => qn heq H8 (ex.trans (e56.trans (e7.trans e8)))
                · have hsome : ∃ x, strIn S d = some x := by
                    rw [dec_int, decide_eq_false (by omega), Bool.false_or, Bool.not_eq_false'] at hb7
                    exact Option.isSome_iff_exists.mp hb7
                  obtain ⟨x, hx2⟩ := hsome
                  rw [hx2] at heq
                  have heq3 : (fw c ds (sortS ps) 0 es).map (sortS ps :: ·) = ((fw c ds (afM S p (some x)) (u + 1) (es.drop (i + 1))).map (afM S p (some x) :: ·)).map (css ++ ·) := heq
                  obtain ⟨rfl, hxS⟩ := strIn_some hx2
                  have hvx : v = .str x := by cases hdv; rfl
                  subst hvx
                  have e57 := e56.trans e7
                  have hlf := List.length_filter_le (neO (some x)) S
                  refine q_asgL (xs := (S.filter (neO (some x))).map V.str) ?_ fun hq1 H8 nq1 e8 h8 => ?_
                  · rw [← given_filter S (neO (some x)) ""]
                    have hm : (S.map V.str).length = S.length := List.length_map ..
                    rw [← hm]
                    refine el_lcL _ _ (ev_var rfl) (sq_of (e57 _ _ hqS)) (by omega) (fun _ => rfl) (fun j y H9 e9 hy => ?_) (fun j y H9 e9 hy _ => ?_)
                    all_goals
                      rw [List.getElem?_map] at hy
                      obtain ⟨y2, hy2, rfl⟩ := Option.map_eq_some_iff.mp hy
                      have ey : S.getD j "" = y2 := by rw [List.getD_eq_getElem?_getD, hy2]; rfl
                      rw [ey]
                    · refine et_is (et_test (ev_op (ev_var rfl) (ev_op (ev_var rfl) (ev_var rfl) (rv_ixL (sq_of ((ex.trans (e57.trans e9)) _ _ h1)) (atI_nat hv))) (rv_ne rfl))) ?_
                      show (!decide (V.str y2 = V.str x)) = !decide (y2 = x)
                      rw [dec_strs]
                    · exact ev_var rfl
                  · refine s_asg (v := .int ((u + 1 : Nat) : Int)) (ev_is (ev_op (ev_var rfl) ev_c (show RV (rI0 fun i j => .int (i + j)) (.int ((u : Nat) : Int)) (.int 1) _ (.int ((u : Int) + 1)) from fun H1 _ _ q => ⟨_, _, rfl, rfl, q H1 (Ex.refl H1)⟩)) (by push_cast; rfl)) fun H9 e9 => ?_
                    have e89 := e8.trans e9
                    refine q_when (b := true) (et_is (et_test (ev_op (ev_var rfl) ev_c (rv_eq rfl))) (by decide)) (fun _ H10 e10 => ?_) (fun z => by cases z)
                    have en := afM_neO (S := S) (p := p) (g := (some x))
                    have hlf2 := List.length_filter_le (neO (some x)) S
                    refine s_asgL (xs := (afM S p (some x)).map V.str) ?_ fun hr H11 nhr e11 h11 => ?_
                    · rw [en]
                      refine el_sortL ?_
                      have em : ((S.filter (neO (some x))) ++ [p]).map V.str = (S.filter (neO (some x))).map V.str ++ [V.str p] := by rw [List.map_append]; rfl
                      rw [em]
                      exact el_cat1 (ev_var rfl) ((e9.trans e10) _ _ h8) (ev_var rfl) (by rw [List.length_map]; omega)
                    · have e11' := ((e57.trans e89).trans e10).trans e11
                      have nr : hr ≠ fp := (ne_of_none (((e57.trans e89).trans e10) _ _ hf) nhr).symm
                      refine s_appU (l := fp) (xs := us.map V.ref) (e11' _ _ hf) (ev_var rfl) (eu_tupOf (ev_var rfl) (sq_of h11)) hcl fun tp2 H12 _ e12 h12 => fin hr (afM S p (some x)) (u + 1) _ tp2 H12 (e11'.trans e12) (e12 _ _ h11) nr h12 ?_ (fun y hy => (afM_mem hy).elim (hSp y) fun z => by rw [z]; exact hpg) (by omega) (by omega) heq3
                      rw [en, sortS_len, List.length_append]
                      show _ + 1 ≤ _
                      omega
              · have hnat : ds[u]? = none := List.getElem?_eq_none (by omega)
                rw [hnat] at heq
                by_cases hux : u = xs.length
                · refine q_when (b := true || false) (et_or (et_is (et_test (ev_op (ev_var rfl) (ev_len (ev_var rfl) (sq_of hx6)) (rv_eq rfl))) (by rw [hux, decide_eq_true rfl])) fun z => by cases z) (fun _ H7 e7 => s_ret ev_c fun H8 e8 => qn heq H8 (ex.trans (e56.trans (e7.trans e8)))) (fun z => by cases z)
                · exact absurd hun (by omega)
            · rw [if_neg (show ¬ (missS = missS ∧ S.length = c) from fun z => hc z.2)] at heq
              have n1 : nxS S (missS, p) none = afM S p none := if_pos rfl
              rw [n1] at heq
              refine q_when (b := true && false) (et_and (et_is (et_test (ev_op (ev_var rfl) ev_c (rv_eq rfl))) (by decide)) fun _ => et_is (et_test (ev_op (ev_len (ev_var rfl) (sq_of (e5 _ _ hqS))) (ev_var rfl) (rv_eq rfl))) (by rw [List.length_map, dec_int]; exact decide_eq_false hc)) (fun z => by cases z) (fun _ H6 e6 => ?_)
              have hfn : S.filter (neO none) = S := List.filter_eq_self.mpr fun _ _ => rfl
              refine q_when (b := true) (et_is (et_test (ev_op (ev_var rfl) ev_c (rv_eq rfl))) (by decide)) (fun _ H10 e10 => ?_) (fun z => by cases z)
              have en := afM_neO (S := S) (p := p) (g := none)
              have hlf2 := List.length_filter_le (neO none) S
              refine s_asgL (xs := (afM S p none).map V.str) ?_ fun hr H11 nhr e11 h11 => ?_
              · rw [en]
                refine el_sortL ?_
                have em : ((S.filter (neO none)) ++ [p]).map V.str = (S.filter (neO none)).map V.str ++ [V.str p] := by rw [List.map_append]; rfl
                rw [em]
                exact el_cat1 (ev_var rfl) (by rw [hfn]; exact (e5.trans (e6.trans e10)) _ _ hqS) (ev_var rfl) (by rw [List.length_map]; omega)
              · have e11' := ((e5.trans e6).trans e10).trans e11
                have nr : hr ≠ fp := (ne_of_none (((e5.trans e6).trans e10) _ _ hf) nhr).symm
                refine s_appU (l := fp) (xs := us.map V.ref) (e11' _ _ hf) (ev_var rfl) (eu_tupOf (ev_var rfl) (sq_of h11)) hcl fun tp2 H12 _ e12 h12 => fin hr (afM S p none) u _ tp2 H12 (e11'.trans e12) (e12 _ _ h11) nr h12 ?_ (fun y hy => (afM_mem hy).elim (hSp y) fun z => by rw [z]; exact hpg) (by omega) (by omega) heq
                rw [en, sortS_len, List.length_append]
                show _ + 1 ≤ _
                omega
      · obtain ⟨hq, S, u, us, css, z7, z8, z9, rfl, ex, hqS, nq, hf, hus, hlc, hSl, hSp, hui, hun, heq⟩ := hP
        rw [hlm, List.drop_length] at heq
        have hlast : fw c ds S u [] = if u = ds.length then some [] else none := rfl
        rw [hlast] at heq
        refine go_ret (go_tIf ?_)
        refine (et_test (ev_op (ev_var rfl) (ev_len (ev_var rfl) (sq_of ((ex) _ _ h1))) (rv_eq rfl))) H' (Ex.refl _) _ fun H5 e5 => ?_
        rw [dec_int, hxl]
        by_cases hfu : u = ds.length
        · rw [if_pos hfu] at heq
          rw [decide_eq_true hfu, if_pos rfl]
          refine ⟨_, rfl, q css (by rw [show fwD c ps es (.list ds) = (fw c ds (sortS ps) 0 es).map (sortS ps :: ·) from rfl, heq]; simp) fp H5 ffp (ex.trans e5) ((CsM.mk ⟨us, hf, hus⟩).mono e5)⟩
        · rw [if_neg hfu] at heq
          rw [decide_eq_false hfu, if_neg (by decide)]
          exact qn heq H5 (ex.trans e5)
    | _ => cases hl4
  · have hf : isLstD d4 = false := by simpa using hl4
    have e0 : fwD c ps es d4 = none := by cases d4 <;> first | rfl | (exact (hl4 rfl).elim)
    exact q_when (b := !false) (et_not (et_B (ev_isiD (ev_var rfl) hd (by rw [kit_lst, hf])))) (fun _ H1 e1 => s_ret ev_c fun H2 e2 => qn e0 H2 (e1.trans e2)) (fun hb => by cases hb)
end
end KB

set_option Elab.async false
set_option linter.all false
set_option maxRecDepth 100000
set_option maxHeartbeats 16000000
/-! RP4: replay asked, its error caught. -/
namespace KB
open PySem PySem.Spec PyProof.Rows L2 Evl StX
section
variable {K : PySem.W.Frag} {σ : L2.St} {H : Hp} {tk : TA} {D : Ends} {tz : TS} {sp : Sp} {E : L2.St → XK} {zs : List V} {gV : List V → List V → List V} {t : TS} {i : Nat}
theorem s_asgKS (h : EvA tk σ H zs) (hs : ∀ H1, Ex H H1 → sp (gV [] zs) H1 (fun x H2 => D.nx (σ.set i (some x)) H2) (E σ)) : tAsg (tCallKS sp gV E tk) (gName i) D σ H := h H (Ex.refl H) _ fun H1 e1 => hs H1 e1
theorem s_asgS {ta : TA} {vs : List V} (h : EvA ta σ H vs) (hs : ∀ H1, Ex H H1 → sp vs H1 (fun x H2 => D.nx (σ.set i (some x)) H2) (E σ)) : tAsg (tCallS sp E ta) (gName i) D σ H := h H (Ex.refl H) _ fun H1 e1 => hs H1 e1
theorem go_seq (h : t { D with nx := tz D } σ H) : tSeq t tz D σ H := h
end
section
variable {P : Program} {w : World} {K : PySem.W.Frag} {mg : Str → Option Value} {base : Heap}
def kwSame (vs zs : List V) : List V := if vs = [] then zs else []
abbrev Ntol : List Str := ["room", "initial", "happened", "gone", "named", "found"]
theorem sctol : FnScope Ntol ["room", "initial", "happened", "gone", "named"] (defScope sTold) := ⟨rfl, rfl, rfl, by decide +kernel, rfl, by decide +kernel, by decide +kernel⟩
def spTol (K : PySem.W.Frag) : Sp := fun vs H Q _ => ∃ (c : Nat) (t l : Addr) (v4 : V) (d4 : PyData) (ps : List Str) (es : List Ev1) (named : Bool), vs = [.int (c : Int), .ref t, .ref l, v4, .bl named] ∧ PL H t l c ps es ∧ DV K H v4 d4 ∧ smallD d4 = true ∧
  (∀ css, replayD c ps es d4 = some css → ∀ p H2, H p = none → Ex H H2 → CsM H2 p css → Q (.ref p) H2) ∧ (replayD c ps es d4 = none → RetV .non H Q)
theorem ok_told {f C : Addr} {fd : FuncData} (F : Fun K "_law_told" "_law_told" sTold f fd) (gC : mg "InvalidHistory" = some (.ref C)) (hx : PySem.W.exmOne K (.ref C) (.ref C) = some true)
    (cR : ClX P w K mg base 9 "replay" P4r (spRep K C)) (kR : ClXK P w K mg base 9 "replay" P4r P4r kwSame (spRep K C)) : FnOk P w K mg base CX0 10 f fd ["room", "initial", "happened", "gone", "named"] (spTol K) := by
  refine F.ok sctol (fun vs H Q E h => ?_) (fun cdv A outer s H vs Q E hr h => ?_)
  · obtain ⟨c, t, l, v4, d4, ps, es, named, rfl, _⟩ := h
    rfl
  · obtain ⟨c, t, l, v4, d4, ps, es, named, rfl, hp, hd, hs, q, qn⟩ := h
    have nd := sctol.nd
    refine ⟨_, pss_cons (ps_set (i := 5) nd rfl (Or.inl rfl) pe_non)
      (pss_cons (ps_try_only rfl rfl ⟨rfl, by decide, .inl gC⟩ takes0
          (fun W pn xe tk _ => pss_one (ps_if (pt_val (pv 4)) (pss_one (ps_set (i := 5) nd rfl (Or.inl rfl) (pe_clXK kR tk hr (pk_cons (pv 0) (pk_cons (pv 1) (pk_cons (pv 2) (pk_cons (pv 3) pk_nil)))))))
            (pss_one (ps_set (i := 5) nd rfl (Or.inl rfl) (pe_clX cR tk hr (pa_cons (pv 0) (pa_cons (pv 1) (pa_cons (pv 2) (pa_cons (pv 3) pa_nil)))))))))
          (fun a oe cls d pn _ _ => pss_one (ps_set (i := 5) nd rfl (Or.inl rfl) pe_non)))
      (pss_one (ps_ret (pv 5)))), ?_⟩
    refine q_asg ev_c fun H1 e1 => ?_
    refine go_seq ?_
    have hd1 := DV.mono e1 _ _ hd
    have hp1 := hp.mono e1
    refine s_if (b := named) (et_B (ev_var rfl)) (fun _ H2 e2 => ?_) (fun _ H2 e2 => ?_)
    · refine s_asgKS (ea_cons (ev_var rfl) (ea_cons (ev_var rfl) (ea_cons (ev_var rfl) (ea_cons (ev_var rfl) ea_nil)))) fun H3 e3 => ⟨c, t, l, v4, d4, ps, es, rfl, hp1.mono (e2.trans e3), DV.mono (e2.trans e3) _ _ hd1, hs, fun css hc p H4 np e4 h4 => ?_, fun hc H4 e4 => ⟨true, hx, fun _ a na => ?_, fun z => by cases z⟩⟩
      · exact s_ret (ev_var rfl) fun H5 e5 => q css hc p H5 (fresh_back (e1.trans (e2.trans e3)) np) (e1.trans (e2.trans (e3.trans (e4.trans e5)))) (h4.mono e5)
      · exact s_asg ev_c fun H5 e5 => s_ret (ev_var rfl) fun H6 e6 => qn hc H6 (e1.trans (e2.trans (e3.trans (e4.trans (e5.trans e6)))))
    · refine s_asgS (ea_cons (ev_var rfl) (ea_cons (ev_var rfl) (ea_cons (ev_var rfl) (ea_cons (ev_var rfl) ea_nil)))) fun H3 e3 => ⟨c, t, l, v4, d4, ps, es, rfl, hp1.mono (e2.trans e3), DV.mono (e2.trans e3) _ _ hd1, hs, fun css hc p H4 np e4 h4 => ?_, fun hc H4 e4 => ⟨true, hx, fun _ a na => ?_, fun z => by cases z⟩⟩
      · exact s_ret (ev_var rfl) fun H5 e5 => q css hc p H5 (fresh_back (e1.trans (e2.trans e3)) np) (e1.trans (e2.trans (e3.trans (e4.trans e5)))) (h4.mono e5)
      · exact s_asg ev_c fun H5 e5 => s_ret (ev_var rfl) fun H6 e6 => qn hc H6 (e1.trans (e2.trans (e3.trans (e4.trans (e5.trans e6)))))
end
end KB

set_option Elab.async false
set_option linter.all false
set_option maxRecDepth 100000
set_option maxHeartbeats 16000000
/-! RP5: the law's changes of a log and of evicted pages. -/
namespace KB
open PySem PySem.Spec PyProof.Rows L2 Evl StX
section
variable {K : PySem.W.Frag} {σ : L2.St} {H H1 H' : Hp} {ta tb tc te tx tl : TE} {as : TA} {x y z v : V} {D : Ends} {Q : VK} {d : PyData} {ds ds2 : List PyData}
/-! values that are told of -/
def EvDn (K : PySem.W.Frag) (te : TE) (σ : L2.St) (H : Hp) (d : PyData) : Prop := ∀ H1, Ex H H1 → ∀ Q : VK, (∀ v H2, Ex H1 H2 → DV K H2 v d → Q v H2) → te σ H1 Q
def EvDns (K : PySem.W.Frag) (ta : TA) (σ : L2.St) (H : Hp) (ds : List PyData) : Prop := ∀ H1, Ex H H1 → ∀ Q : List V → Hp → Prop, (∀ vs H2, Ex H1 H2 → DVs K H2 vs ds → Q vs H2) → ta σ H1 Q
def EvOn (K : PySem.W.Frag) (te : TE) (σ : L2.St) (H : Hp) (ds : List PyData) : Prop := ∀ H1, Ex H H1 → ∀ Q : VK, (∀ l xs H2, H1 l = none → Ex H1 H2 → H2 l = some (.lst xs) → DVs K H2 xs ds → Q (.ref l) H2) → te σ H1 Q
def EvP (to : TO) (σ : L2.St) (H : Hp) (o : Option Int) : Prop := ∀ H1, Ex H H1 → ∀ Q : Option Int → Hp → Prop, (∀ H2, Ex H1 H2 → Q o H2) → to σ H1 Q
theorem dn_c (h : ∀ H, DV K H v d) : EvDn K (tC v) σ H d := fun H1 _ Q q => q v H1 (Ex.refl H1) (h _)
theorem dn_ev (h : Ev te σ H v) (hd : DV K H v d) : EvDn K te σ H d := fun H1 e Q q => h H1 e _ fun H2 e2 => q v H2 e2 (DV.mono (e.trans e2) _ _ hd)
theorem dns_nil : EvDns K tNil σ H [] := fun H1 _ Q q => q [] H1 (Ex.refl H1) .nil
theorem dns_cons (h : EvDn K te σ H d) (hr : EvDns K as σ H ds) : EvDns K (tCons te as) σ H (d :: ds) := fun H1 e Q q =>
  h H1 e _ fun v H2 e2 hv => hr H2 (e.trans e2) _ fun vs H3 e3 hs => q (v :: vs) H3 (e2.trans e3) (.cons (DV.mono e3 _ _ hv) hs)
theorem on_lst (h : EvDns K as σ H ds) (hl : ds.length ≤ 100000) : EvOn K (tLst as) σ H ds := fun H1 e Q q =>
  h H1 e _ fun vs H2 e2 hs => ⟨sz_of (by rw [dvs_len hs]; exact hl), fun p hp => q p vs _ (fresh_back e2 hp) (e2.trans (Ex.new hp)) upd_same (DVs.mono (Ex.new hp) _ _ hs)⟩
theorem dn_o (h : EvOn K te σ H ds) : EvDn K te σ H (.list ds) := fun H1 e Q q => h H1 e _ fun l xs H2 _ e2 h2 hs => q _ H2 e2 (.lst h2 hs)
theorem dn_dict : EvDn K tDNewK σ H (.dict []) := fun H1 e Q q => fun p hp => q (.ref p) _ (Ex.new hp) (.dct (kvs := []) upd_same)
theorem dvs_appN : ∀ {ds ds2 : List PyData} {vs ws : List V}, DVs K H vs ds → DVs K H ws ds2 → DVs K H (vs ++ ws) (ds ++ ds2)
  | [], _, _, _, h, h2 => by cases h; exact h2
  | d :: ds, _, _, _, h, h2 => by
    cases h with
    | cons a b => exact .cons a (dvs_appN b h2)
theorem on_cat (ha : EvOn K ta σ H ds) (hb : EvOn K tb σ H ds2) (hz : ds.length + ds2.length ≤ 100000) : EvOn K (tOp rCat ta tb) σ H (ds ++ ds2) := fun H1 e Q q =>
  ha H1 e _ fun a xs H2 na e2 h2 d2 => hb H2 (e.trans e2) _ fun b ys H3 nb e3 h3 d3 => ⟨a, b, xs, ys, rfl, rfl, e3 _ _ h2, h3, sz_of (by rw [dvs_len d2, dvs_len d3]; exact hz), fun p hp =>
    q p (xs ++ ys) _ (fresh_back (e2.trans e3) hp) ((e2.trans e3).trans (Ex.new hp)) upd_same (dvs_appN (DVs.mono (e3.trans (Ex.new hp)) _ _ d2) (DVs.mono (Ex.new hp) _ _ d3))⟩
/-- a list by a name -/
theorem on_catV {a : Addr} {xs : List V} (ha : Ev ta σ H (.ref a)) (hx : H a = some (.lst xs)) (hd : DVs K H xs ds) (hb : EvOn K tb σ H ds2) (hz : ds.length + ds2.length ≤ 100000) : EvOn K (tOp rCat ta tb) σ H (ds ++ ds2) := fun H1 e Q q =>
  ha H1 e _ fun H2 e2 => hb H2 (e.trans e2) _ fun b ys H3 nb e3 h3 d3 => ⟨a, b, xs, ys, rfl, rfl, (e.trans (e2.trans e3)) _ _ hx, h3, sz_of (by rw [dvs_len hd, dvs_len d3]; exact hz), fun p hp =>
    q p (xs ++ ys) _ (fresh_back (e2.trans e3) hp) ((e2.trans e3).trans (Ex.new hp)) upd_same (dvs_appN (DVs.mono (e.trans (e2.trans (e3.trans (Ex.new hp)))) _ _ hd) (DVs.mono (Ex.new hp) _ _ d3))⟩
def cutDs (ds : List PyData) (lo hi : Option Int) : List PyData := (ds.drop (HT.sIx ds.length 0 lo)).take (HT.sIx ds.length ds.length hi - HT.sIx ds.length 0 lo)
theorem dvs_takeN : ∀ (n : Nat) {ds : List PyData} {vs : List V}, DVs K H vs ds → DVs K H (vs.take n) (ds.take n)
  | 0, _, _, _ => .nil
  | n + 1, [], _, h => by cases h; exact .nil
  | n + 1, d :: ds, _, h => by
    cases h with
    | cons a b => exact .cons a (dvs_takeN n b)
theorem dvs_dropN : ∀ (n : Nat) {ds : List PyData} {vs : List V}, DVs K H vs ds → DVs K H (vs.drop n) (ds.drop n)
  | 0, _, _, h => h
  | n + 1, [], _, h => by cases h; exact .nil
  | n + 1, d :: ds, _, h => by
    cases h with
    | cons a b => exact dvs_dropN n b
theorem ep_no : EvP tNoPart σ H none := fun H1 _ Q q => q H1 (Ex.refl H1)
theorem ep_i {i : Int} (h : Ev te σ H (.int i)) : EvP (tPart te) σ H (some i) := fun H1 e Q q => h H1 e _ fun H2 e2 => ⟨i, rfl, q H2 e2⟩
theorem on_sl {a : Addr} {xs : List V} {tlo thi : TO} {lo hi : Option Int} (ha : Ev ta σ H (.ref a)) (hx : H a = some (.lst xs)) (hd : DVs K H xs ds) (h1 : EvP tlo σ H lo) (h2 : EvP thi σ H hi) : EvOn K (tSl (rSlL K) ta tlo thi) σ H (cutDs ds lo hi) := fun H1 e Q q =>
  ha H1 e _ fun H2 e2 => h1 H2 (e.trans e2) _ fun H3 e3 => h2 H3 (e.trans (e2.trans e3)) _ fun H4 e4 => ⟨a, xs, rfl, sq_of ((e.trans (e2.trans (e3.trans e4))) _ _ hx), fun p hp => by
    have xp := Ex.new (o := .lst (cutV xs lo hi)) hp
    refine q p (cutV xs lo hi) _ (fresh_back (e2.trans (e3.trans e4)) hp) ((e2.trans (e3.trans e4)).trans xp) upd_same ?_
    have hd2 := DVs.mono (e.trans (e2.trans (e3.trans (e4.trans xp)))) _ _ hd
    generalize upd H4 p (.lst (cutV xs lo hi)) = H5 at hd2 ⊢
    unfold cutV cutDs
    rw [dvs_len hd]
    exact dvs_takeN _ (dvs_dropN _ hd2)⟩
theorem cut_mem {lo hi : Option Int} (h : d ∈ cutDs ds lo hi) : d ∈ ds := List.mem_of_mem_drop (List.mem_of_mem_take h)
theorem cut_len (lo hi : Option Int) : (cutDs ds lo hi).length ≤ ds.length := by
  unfold cutDs
  rw [List.length_take, List.length_drop]
  omega
theorem dn_tup {a : Addr} {xs : List V} (ha : Ev ta σ H (.ref a)) (hx : H a = some (.lst xs)) (hd : DVs K H xs ds) : EvDn K (tCB (rTupOf K) (tCons ta tNil)) σ H (.tuple ds) := fun H1 e Q q =>
  (eu_tupOf ha (sq_of hx)) H1 e _ fun t H2 nt e2 h2 => q _ H2 e2 (.tup (.inl (.inl h2)) (DVs.mono (e.trans e2) _ _ hd))
theorem ev_reprN {m w n : Nat} (hm0 : Sys K H) (ha : EvDn K ta σ H d) (hf : Fit m w n d) (hm : m ≤ 1000) (hw : w ≤ 100000) (hn : n ≤ 40) : Ev (tCB (rReprV K) (tCons ta tNil)) σ H (.str d.shown) := fun H1 e Q q => ha H1 e _ fun v H2 e2 hd => by
  obtain ⟨h1, h2, h3, h4⟩ := hf.tell hm hw hn
  exact ⟨v, d, rfl, hm0.mono (e.trans e2), hd, h2, h3, h4, q H2 e2⟩
end
/-! what is tried -/
structure GI (d : PyData) : Prop where
  ok : okM 200 d = true
  wt : PyData.weight d ≤ 20
  dp : PyData.depth d ≤ 2
  gi : goneI d = true
theorem gi_page {x : Str} (h : pageB x = true) : GI (.str x) := by
  have h1 := pageB_len h
  have h2 := page_ok h
  have h3 : x.cps.size ≤ 4 := h1
  refine ⟨?_, ?_, ?_, ?_⟩
  · show (decide (x.length ≤ 10) && PyData.strOk x) = true
    rw [h2, decide_eq_true (by omega)]
    rfl
  · show x.cps.size ≤ 20
    omega
  · exact Nat.zero_le _
  · show (decide (x.length ≤ 1000) && PyData.strOk x) = true
    rw [h2, decide_eq_true (by omega)]
    rfl
theorem gi_one {x : Str} (h : pageB x = true) : GI (.list [.str x]) := by
  have g := gi_page h
  refine ⟨?_, ?_, ?_, ?_⟩
  · show (decide (1 ≤ 200) && (okM 200 (.str x) && true)) = true
    rw [g.ok]
    rfl
  · show PyData.weight (.str x) + 1 + 0 ≤ 20
    have h1 := pageB_len h
    have h3 : x.cps.size ≤ 4 := h1
    show x.cps.size + 1 + 0 ≤ 20
    omega
  · show max 0 0 + 1 ≤ 2
    decide
  · show (([.str x] : List PyData).all txtOk && decide (1 ≤ 500)) = true
    have : txtOk (.str x) = true := g.gi
    rw [List.all_cons, this]
    rfl
structure ThD (d : PyData) : Prop where
  gt : goneT d = true
  fit : Fit 400 9000 4 d
theorem weight_leN : ∀ {ds : List PyData} {w : Nat}, (∀ d ∈ ds, PyData.weight d ≤ w) → PyData.weightAll ds ≤ (w + 1) * ds.length
  | [], w, _ => Nat.zero_le _
  | d :: ds, w, h => by
    have h1 := h d List.mem_cons_self
    have h2 := weight_leN (ds := ds) (w := w) fun x hx => h x (List.mem_cons_of_mem _ hx)
    rw [PyData.weightAll, List.length_cons, Nat.mul_succ]
    omega
theorem seq_fitN {b : Bool} {ds : List PyData} (hl : ds.length ≤ 300) (h : ∀ d ∈ ds, GI d) : Fit 400 9000 4 (seqD b ds) := by
  have hw := weight_leN (ds := ds) (w := 20) fun d hd => (h d hd).wt
  exact fit_seq (by omega) (fun d hd => okM_mono (by omega) _ (h d hd).ok) (by omega) (fun d hd => by have := (h d hd).dp; omega) (by omega)
theorem th_list {ds : List PyData} (hl : ds.length ≤ 300) (h : ∀ d ∈ ds, GI d) : ThD (.list ds) :=
  ⟨by
    show (ds.all goneI && decide (ds.length ≤ 500)) = true
    rw [decide_eq_true (by omega), Bool.and_true, List.all_eq_true]
    exact fun d hd => (h d hd).gi, seq_fitN (b := true) hl h⟩
section
variable {P : Program} {w : World} {K : PySem.W.Frag} {mg : Str → Option Value} {base : Heap}
abbrev Ncha : List Str := ["source", "gone", "pages", "at", "other", "some"]
theorem sccha : FnScope Ncha ["source", "gone", "pages"] (defScope sChanged) := ⟨rfl, rfl, rfl, by decide +kernel, rfl, by decide +kernel, by decide +kernel⟩
def spCha (K : PySem.W.Frag) : Sp := fun vs H Q _ => ∃ (a gp pg : Addr) (gs pages : List Str) (B : Int), vs = [.ref a, .ref gp, .ref pg] ∧ SrcAt H a B ∧ B ≤ 900000 ∧ H gp = some (.lst (gs.map V.str)) ∧ gp ≠ a ∧ H pg = some (.lst (pages.map V.str)) ∧ pg ≠ a ∧ pages ≠ [] ∧ pages.length ≤ 1000 ∧ (∀ p ∈ pages, pageB p = true) ∧ (∀ p ∈ gs, pageB p = true) ∧ gs.length ≤ 140 ∧
  ∀ r xs ds H2, H r = none → Ex (hid H a) H2 → SrcAt H2 a (B + 2) → H2 r = some (.lst xs) → DVs K H2 xs ds → (∀ d ∈ ds, ThD d) → ds.length ≤ 20 → Q (.ref r) H2
theorem ok_changed {f : Addr} {fd : FuncData} (F : Fun K "_law_changed" "_law_changed" sChanged f fd) (B0 : Bn mg) (cD : Cl P w K mg base 1 "_law_draw" ["source", "bound"] spDraw) : FnOk P w K mg base CX0 2 f fd ["source", "gone", "pages"] (spCha K) := by
  refine F.ok sccha (fun vs H Q E h => ?_) (fun cdv A outer s H vs Q E hr h => ?_)
  · obtain ⟨a, gp, pg, gs, pages, B, rfl, _⟩ := h
    rfl
  · obtain ⟨a, gp, pg, gs, pages, B, rfl, hS, hB, hgp, ngp, hpg, npg, hne, hpl, hpp, hgg, hgl, q⟩ := h
    have nd := sccha.nd
    refine ⟨_, pss_cons (ps_set (i := 3) nd rfl (Or.inl rfl) (pe_cl cD hr (pa_cons (pv 0) (pa_cons (pe_op op_add (pe_callB call_len_seq (by rfl) B0.len bt_len (pa_cons (pv 1) pa_nil)) pe_int) pa_nil))))
      (pss_cons (ps_set (i := 4) nd rfl (Or.inl rfl) (pe_ix (r := rIxL K) ix_list (pv 2) (pe_cl cD hr (pa_cons (pv 0) (pa_cons (pe_callB call_len_seq (by rfl) B0.len bt_len (pa_cons (pv 2) pa_nil)) pa_nil))) (fun _ _ => rfl)))
      (pss_cons (ps_set (i := 5) nd rfl (Or.inl rfl) (pe_lst (pa_cons (pe_op op_cat (pe_op op_cat (pe_slice sl_list (pv 1) po_none (po_some (pv 3))) (pe_lst (pa_cons (pv 4) pa_nil))) (pe_slice sl_list (pv 1) (po_some (pe_op op_add (pv 3) pe_int)) po_none)) (pa_cons (pe_op op_cat (pe_slice sl_list (pv 1) po_none (po_some (pv 3))) (pe_slice sl_list (pv 1) (po_some (pe_op op_add (pv 3) pe_int)) po_none)) (pa_cons (pe_op op_cat (pe_op op_cat (pe_slice sl_list (pv 1) po_none (po_some (pv 3))) (pe_lst (pa_cons (pv 4) pa_nil))) (pe_slice sl_list (pv 1) (po_some (pv 3)) po_none)) pa_nil)))))
      (pss_cons (ps_set (i := 5) nd rfl (Or.inl rfl) (pe_op op_cat (pv 5) (pe_lst (pa_cons (pe_op op_cat (pe_slice sl_list (pv 1) (po_some pe_int) po_none) (pe_slice sl_list (pv 1) po_none (po_some pe_int))) (pa_cons (pe_op op_cat (pv 1) (pe_slice sl_list (pv 1) (po_some (pe_un un_neg pe_int)) po_none)) (pa_cons (pe_callTy call_tuple_of (by rfl) B0.tuple bt_tuple (pa_cons (pv 1) pa_nil)) (pa_cons pe_non (pa_cons pe_int (pa_cons pe_str (pa_cons pe_dnewK (pa_cons (pe_lst (pa_cons pe_non pa_nil)) pa_nil)))))))))))
      (pss_one (ps_ret (pe_op op_cat (pv 5) (pe_lst (pa_cons (pe_op op_cat (pe_op op_cat (pe_slice sl_list (pv 1) po_none (po_some (pv 3))) (pe_lst (pa_cons (pe_lst (pa_cons (pv 4) pa_nil)) pa_nil))) (pe_slice sl_list (pv 1) (po_some (pe_op op_add (pv 3) pe_int)) po_none)) (pa_cons (pe_op op_cat (pe_op op_cat (pe_slice sl_list (pv 1) po_none (po_some (pv 3))) (pe_lst (pa_cons pe_str pa_nil))) (pe_slice sl_list (pv 1) (po_some (pe_op op_add (pv 3) pe_int)) po_none)) pa_nil))))))))), ?_⟩
    have hplen : 0 < pages.length := List.length_pos_iff.mpr hne
    refine q_asgW (w_draw (b := (gs.length : Int) + 1) rfl (ev_op (ev_is (ev_len (ev_var rfl) (sq_of hgp)) (by rw [List.length_map])) ev_c rv_I0) (by omega) (by omega) hS (by omega) fun d H1 d0 d1 e1 S1 => ?_)
    have hgp1 := e1 _ _ (by rw [hid_ne ngp]; exact hgp)
    have hpg1 := e1 _ _ (by rw [hid_ne npg]; exact hpg)
    refine q_asgW (go_op ((show Ev (tVar 2) _ _ (.ref pg) from ev_var rfl) H1 (Ex.refl _) _ fun H2 e2 => ?_))
    refine w_draw (b := (pages.length : Int)) rfl (ev_is (ev_len (ev_var rfl) (sq_of (e2 _ _ hpg1))) (by rw [List.length_map])) (by omega) (by omega) (S1.mono e2) (by omega) fun g H3 g0 g1 e3 S3 => ?_
    have hgp3 := e3 _ _ (by rw [hid_ne ngp]; exact e2 _ _ hgp1)
    have hpg3 := e3 _ _ (by rw [hid_ne npg]; exact e2 _ _ hpg1)
    have k3 : Ex (hid H a) H3 := ex_hid2 (e1.trans e2) e3
    have hgi : g.toNat < pages.length := by omega
    have hat : pages[g.toNat]? = some pages[g.toNat] := List.getElem?_eq_getElem hgi
    refine ⟨pg, pages.map V.str, g, .str pages[g.toNat], rfl, rfl, sq_of hpg3, at_of (j := g.toNat) (by omega) (by rw [List.getElem?_map, hat]; rfl), ?_⟩
    have hop := hpp _ (List.mem_of_getElem? hat)
    generalize pages[g.toNat] = o at hop
    have hgd : ∀ {H4 : Hp}, DVs K H4 (gs.map V.str) (pD gs) := dvs_strs gs
    obtain ⟨xa, ha⟩ := hS.is
    have hpl2 : (pD gs).length = gs.length := List.length_map ..
    have hcl : ∀ lo hi, (cutDs (pD gs) lo hi).length ≤ gs.length := fun lo hi => by have := cut_len (ds := pD gs) lo hi; omega
    -- the first three
    have sl : ∀ {H4 : Hp} {z5 : Option V} {tlo thi : TO} {lo hi : Option Int}, Ex H3 H4 → EvP tlo [some (.ref a), some (.ref gp), some (.ref pg), some (.int d), some (.str o), z5] H4 lo → EvP thi [some (.ref a), some (.ref gp), some (.ref pg), some (.int d), some (.str o), z5] H4 hi → EvOn K (tSl (rSlL K) (tVar 1) tlo thi) [some (.ref a), some (.ref gp), some (.ref pg), some (.int d), some (.str o), z5] H4 (cutDs (pD gs) lo hi) := fun e4 p1 p2 => on_sl (ev_var rfl) (e4 _ _ hgp3) hgd p1 p2
    have pd : ∀ {H4 : Hp} {z5 : Option V}, EvP (tPart (tVar 3)) [some (.ref a), some (.ref gp), some (.ref pg), some (.int d), some (.str o), z5] H4 (some d) := ep_i (ev_var rfl)
    have pd1 : ∀ {H4 : Hp} {z5 : Option V}, EvP (tPart (tOp (rI0 fun i j => .int (i + j)) (tVar 3) (tC (.int 1)))) [some (.ref a), some (.ref gp), some (.ref pg), some (.int d), some (.str o), z5] H4 (some (d + 1)) := ep_i (ev_op (ev_var rfl) ev_c rv_I0)
    have o1 : ∀ {H4 : Hp} {z5 : Option V}, EvOn K (tLst (tCons (tVar 4) tNil)) [some (.ref a), some (.ref gp), some (.ref pg), some (.int d), some (.str o), z5] H4 [.str o] := on_lst (dns_cons (dn_ev (ev_var rfl) (.str o)) dns_nil) (show 1 ≤ 100000 by decide)
    have lc1 := hcl none (some d)
    have lc2 := hcl (some (d + 1)) none
    have lc3 := hcl (some d) none
    have lc4 := hcl (some 1) none
    have lc5 := hcl none (some 1)
    have lc6 := hcl (some (-1)) none
    refine q_asgW ((on_lst (dns_cons (dn_o (on_cat (on_cat (sl (Ex.refl _) ep_no pd) o1 (by show _ + 1 ≤ _; omega)) (sl (Ex.refl _) pd1 ep_no) (by rw [List.length_append]; show _ + 1 + _ ≤ _; omega)))
      (dns_cons (dn_o (on_cat (sl (Ex.refl _) ep_no pd) (sl (Ex.refl _) pd1 ep_no) (by omega)))
      (dns_cons (dn_o (on_cat (on_cat (sl (Ex.refl _) ep_no pd) o1 (by show _ + 1 ≤ _; omega)) (sl (Ex.refl _) pd ep_no) (by rw [List.length_append]; show _ + 1 + _ ≤ _; omega))) dns_nil))) (show 3 ≤ 100000 by decide)) H3 (Ex.refl _) _ fun l1 xs1 H4 n4 e4 h4 d4 => ?_)
    refine q_asgW ((on_catV (ev_var rfl) h4 d4 (on_lst (dns_cons (dn_o (on_cat (sl e4 (ep_i ev_c) ep_no) (sl e4 ep_no (ep_i ev_c)) (by omega)))
      (dns_cons (dn_o (on_catV (ev_var rfl) (e4 _ _ hgp3) hgd (sl e4 (ep_i (ev_un ev_c ru_neg)) ep_no) (by omega)))
      (dns_cons (dn_tup (ev_var rfl) (e4 _ _ hgp3) hgd)
      (dns_cons (dn_c fun _ => .non) (dns_cons (dn_c fun _ => .int 0) (dns_cons (dn_c fun _ => .str "a") (dns_cons dn_dict (dns_cons (dn_o (on_lst (dns_cons (dn_c fun _ => .non) dns_nil) (show 1 ≤ 100000 by decide))) dns_nil)))))))) (show 8 ≤ 100000 by decide)) (show 3 + 8 ≤ 100000 by decide)) H4 (Ex.refl _) _ fun l2 xs2 H5 n5 e5 h5 d5 => ?_)
    have e45 := e4.trans e5
    refine go_ret ((on_catV (ev_var rfl) h5 d5 (on_lst (dns_cons (dn_o (on_cat (on_cat (sl e45 ep_no pd) (on_lst (dns_cons (dn_o o1) dns_nil) (show 1 ≤ 100000 by decide)) (by show _ + 1 ≤ _; omega)) (sl e45 pd1 ep_no) (by rw [List.length_append]; show _ + 1 + _ ≤ _; omega)))
      (dns_cons (dn_o (on_cat (on_cat (sl e45 ep_no pd) (on_lst (dns_cons (dn_c fun _ => .str "zqzq") dns_nil) (show 1 ≤ 100000 by decide)) (by show _ + 1 ≤ _; omega)) (sl e45 pd1 ep_no) (by rw [List.length_append]; show _ + 1 + _ ≤ _; omega))) dns_nil)) (show 2 ≤ 100000 by decide)) (show 11 + 2 ≤ 100000 by decide)) H5 (Ex.refl _) _ fun r xs H6 n6 e6 h6 d6 => ?_)
    have fr : H r = none := fresh_hid (k3.trans e45) ((S3.mono e45).is.choose_spec) n6
    refine q r xs _ H6 fr (k3.trans (e45.trans e6)) ((S3.mono (e45.trans e6)).le (by omega)) h6 d6 (fun z hz => ?_) (by show 13 ≤ 20; decide)
    have gG : ∀ x ∈ pD gs, GI x := fun x hx => by
      obtain ⟨y, hy, rfl⟩ := List.mem_map.mp hx
      exact gi_page (hgg y hy)
    have gC : ∀ {lo hi : Option Int}, ∀ x ∈ cutDs (pD gs) lo hi, GI x := fun x hx => gG x (cut_mem hx)
    have gO : GI (.str o) := gi_page hop
    have gZ : GI (.str "zqzq") := gi_page (by decide +kernel)
    have gN : GI .none := ⟨rfl, by decide, by decide, rfl⟩
    have mid : ∀ {lo hi lo2 hi2 : Option Int} {m : PyData}, GI m → ThD (.list ((cutDs (pD gs) lo hi ++ [m]) ++ cutDs (pD gs) lo2 hi2)) := fun {lo hi lo2 hi2 m} hm => by
      have l1 := hcl lo hi
      have l2 := hcl lo2 hi2
      refine th_list (by rw [List.length_append, List.length_append]; show _ + 1 + _ ≤ _; omega) fun x hx => ?_
      rcases List.mem_append.mp hx with z | z
      · rcases List.mem_append.mp z with z | z
        · exact gC x z
        · rw [List.mem_singleton.mp z]; exact hm
      · exact gC x z
    have two : ∀ {lo hi lo2 hi2 : Option Int}, ThD (.list (cutDs (pD gs) lo hi ++ cutDs (pD gs) lo2 hi2)) := fun {lo hi lo2 hi2} => by
      have l1 := hcl lo hi
      have l2 := hcl lo2 hi2
      refine th_list (by rw [List.length_append]; omega) fun x hx => ?_
      rcases List.mem_append.mp hx with z | z
      · exact gC x z
      · exact gC x z
    simp only [List.cons_append, List.nil_append, List.mem_cons, List.not_mem_nil, or_false] at hz
    rcases hz with rfl | rfl | rfl | rfl | rfl | rfl | rfl | rfl | rfl | rfl | rfl | rfl | rfl
    · exact mid gO
    · exact two
    · exact mid gO
    · exact two
    · refine th_list (by rw [List.length_append]; omega) fun x hx => ?_
      rcases List.mem_append.mp hx with z | z
      · exact gG x z
      · exact gC x z
    · exact ⟨rfl, seq_fitN (b := false) (by omega) gG⟩
    · exact ⟨rfl, rfl, by decide, by decide⟩
    · exact ⟨rfl, rfl, by decide, by decide⟩
    · exact ⟨rfl, by decide +kernel, by decide, by decide⟩
    · exact ⟨rfl, by decide +kernel, by decide, by decide⟩
    · exact th_list (show 1 ≤ 300 by decide) fun x hx => by
        rw [List.mem_singleton.mp hx]
        exact gN
    · exact mid (gi_one hop)
    · exact mid gZ
end
end KB

set_option Elab.async false
set_option linter.all false
set_option maxRecDepth 100000
set_option maxHeartbeats 16000000
/-! RP6: the law's change of a log. -/
namespace KB
open PySem PySem.Spec PyProof.Rows L2 Evl StX
theorem paired_drop {α β : Type} {R : α → β → Prop} : ∀ (n : Nat) {as : List α} {bs : List β}, Paired R as bs → Paired R (as.drop n) (bs.drop n)
  | 0, _, _, h => h
  | _ + 1, _, _, .nil => .nil
  | n + 1, _, _, .cons h t => paired_drop n t
theorem eqv_nilE (es : List Ev1) : PyData.eqv (logD es) (.list []) = es.isEmpty := by
  cases es <;> rfl
section
variable {K : PySem.W.Frag} {σ : L2.St} {H H1 H' : Hp} {ta tb tc te tx tl : TE}
theorem el_slL {a : Addr} {xs : List V} {tlo thi : TO} {lo hi : Option Int} (ha : Ev ta σ H (.ref a)) (hx : SqL K H a xs) (h1 : EvP tlo σ H lo) (h2 : EvP thi σ H hi) : EvL (tSl (rSlL K) ta tlo thi) σ H (cutV xs lo hi) := fun H1 e Q q =>
  ha H1 e _ fun H2 e2 => h1 H2 (e.trans e2) _ fun H3 e3 => h2 H3 (e.trans (e2.trans e3)) _ fun H4 e4 => ⟨a, xs, rfl, ex_l (e.trans (e2.trans (e3.trans e4))) hx, fun p hp => q p _ (fresh_back (e2.trans (e3.trans e4)) hp) ((e2.trans (e3.trans e4)).trans (Ex.new hp)) upd_same⟩
theorem el_catLL {xs ys : List V} (ha : EvL ta σ H xs) (hb : EvL tb σ H ys) (hz : xs.length + ys.length ≤ 100000) : EvL (tOp rCat ta tb) σ H (xs ++ ys) := fun H1 e Q q =>
  ha H1 e _ fun a H2 na e2 h2 => hb H2 (e.trans e2) _ fun b H3 nb e3 h3 => ⟨a, b, xs, ys, rfl, rfl, e3 _ _ h2, h3, sz_of hz, fun p hp => q p _ (fresh_back (e2.trans e3) hp) ((e2.trans e3).trans (Ex.new hp)) upd_same⟩
end
section
variable {P : Program} {w : World} {K : PySem.W.Frag} {mg : Str → Option Value} {base : Heap}
abbrev Nben : List Str := ["source", "happened", "at", "mark", "page"]
theorem scben : FnScope Nben ["source", "happened"] (defScope sBent) := ⟨rfl, rfl, rfl, by decide +kernel, rfl, by decide +kernel, by decide +kernel⟩
def spBen : Sp := fun vs H Q _ => ∃ (a l : Addr) (es : List Ev1) (B : Int), vs = [.ref a, .ref l] ∧ SrcAt H a B ∧ B ≤ 900000 ∧ EvM H l es ∧ l ≠ a ∧ (∀ e ∈ es, okE e) ∧ es.length ≤ 290 ∧
  ∀ r es' H2, H r = none → Ex (hid H a) H2 → SrcAt H2 a (B + 2) → EvM H2 r es' → (∀ e ∈ es', okE e) → es'.length ≤ 291 → Q (.ref r) H2
theorem ok_bent {f : Addr} {fd : FuncData} (F : Fun K "_law_bent" "_law_bent" sBent f fd) (B0 : Bn mg) (cD : Cl P w K mg base 1 "_law_draw" ["source", "bound"] spDraw) : FnOk P w K mg base CX0 2 f fd ["source", "happened"] spBen := by
  refine F.ok scben (fun vs H Q E h => ?_) (fun cdv A outer s H vs Q E hr h => ?_)
  · obtain ⟨a, l, es, B, rfl, _⟩ := h
    rfl
  · obtain ⟨a, l, es, B, rfl, hS, hB, hev, nla, ho, hl, q⟩ := h
    have nd := scben.nd
    refine ⟨_, pss_cons (ps_if (pt_cmpR (op_eqD hr.units) (pv 1) (pe_lst pa_nil) (nomark _))
        (pss_one (ps_ret (pe_lst (pa_cons (pe_tup (pa_cons pe_str (pa_cons pe_str pa_nil))) pa_nil))))
        pss_nil)
      (pss_cons (ps_set (i := 2) nd rfl (Or.inl rfl) (pe_cl cD hr (pa_cons (pv 0) (pa_cons (pe_callB call_len_seq (by rfl) B0.len bt_len (pa_cons (pv 1) pa_nil)) pa_nil))))
      (pss_cons (ps_asg (pe_ix (r := rIxL K) ix_list (pv 1) (pv 2) (fun _ _ => rfl)) (pg_tup rfl (pgs_cons (pg_name (i := 3) nd rfl (Or.inl rfl)) (pgs_cons (pg_name (i := 4) nd rfl (Or.inl rfl)) pgs_nil))))
      (pss_one (ps_ret (pe_op op_cat (pe_op op_cat (pe_slice sl_list (pv 1) po_none (po_some (pv 2))) (pe_lst (pa_cons (pe_tup (pa_cons (pe_ifExp (pt_cmpR op_eq (pv 3) pe_str (nomark _)) pe_str pe_str) (pa_cons (pv 4) pa_nil))) pa_nil))) (pe_slice sl_list (pv 1) (po_some (pe_op op_add (pv 2) pe_int)) po_none)))))), ?_⟩
    obtain ⟨xa, ha⟩ := hS.is
    refine q_when (b := es.isEmpty) ?_ (fun hb H1 e1 => ?_) (fun hb H1 e1 => ?_)
    · obtain ⟨⟨ts, h1, h2⟩⟩ := hev
      refine et_test (ev_opL (ev_var rfl) (el_lst ea_nil (Nat.zero_le _)) fun p H1 hp e1 H2 e2 Q' k => ⟨logD es, .list [], .lst (sq_of ((e1.trans e2) _ _ h1)) (dp_evs (Paired.imp h2 fun _ _ z => .inl (.inl ((e1.trans e2) _ _ z)))), .lst (sq_of (e2 _ _ hp)) .nil, shaped_evs ho, by decide, ?_⟩)
      rw [eqv_nilE]
      exact k H2 (Ex.refl H2)
    · refine go_ret (go_lstS (go_cons ((eu_tup (ea_cons ev_c (ea_cons ev_c ea_nil)) (show 2 ≤ 100000 by decide)) H1 (Ex.refl _) _ fun T H2 nT e2 h2 => go_nil ⟨show 1 ≤ sizeLine by decide, fun r hr => ?_⟩)))
      have xr := Ex.new (o := .lst [V.ref T]) hr
      have e1r := (e1.trans e2).trans xr
      refine q r [("hit", "a")] _ (fresh_back (e1.trans e2) hr) (hidE e1r a) ((hS.mono e1r).le (by omega)) ⟨⟨[T], upd_same, .cons (xr _ _ h2) .nil⟩⟩ (fun e he => ?_) (show 1 ≤ 291 by decide)
      rw [List.mem_singleton.mp he]
      exact ⟨.inl rfl, by decide +kernel⟩
    · have hne : es ≠ [] := by
        intro z
        rw [z] at hb
        cases hb
      have hpos : 0 < es.length := List.length_pos_iff.mpr hne
      have hev1 := hev.mono e1
      obtain ⟨⟨ts, h1, h2⟩⟩ := hev1
      have hlt := paired_len h2
      refine q_asgW (w_draw (b := (es.length : Int)) rfl (ev_is (ev_len (ev_var rfl) (sq_of h1)) (by rw [List.length_map, hlt])) (by omega) (by omega) (hS.mono e1) (by omega) fun d H2 d0 d1 e2 S2 => ?_)
      obtain ⟨x1, ha1⟩ := (hS.mono e1).is
      have h1' := e2 _ _ (by rw [hid_ne nla]; exact h1)
      have h2' : Paired (TupAt H2) ts es := Paired.imp h2 fun t e z => e2 _ _ (by rw [hid_ne (ne_of z ha1 (by intro q; cases q))]; exact z)
      have k2 : Ex (hid H a) H2 := ex_hid2 (hidE e1 a) e2
      have hdi : d.toNat < es.length := by omega
      have hat : es[d.toNat]? = some es[d.toNat] := List.getElem?_eq_getElem hdi
      obtain ⟨tp, htp, hev2⟩ := paired_at h2' hat
      have hok := ho _ (List.mem_of_getElem? hat)
      generalize es[d.toNat] = e at hat hev2 hok
      obtain ⟨m, p⟩ := e
      refine q_unp2 (x := .str m) (y := .str p) (ev_op (ev_var rfl) (ev_var rfl) (rv_ixL (sq_of h1') (at_of (j := d.toNat) (by omega) (by rw [List.getElem?_map, htp]; rfl)))) (.inl (.inl hev2)) fun H3 e3 => ?_
      have h13 := e3 _ _ h1'
      have edn : d = ((d.toNat : Nat) : Int) := by omega
      have k3 : Ex (hid H a) H3 := k2.trans e3
      -- the event turned
      refine go_ret ?_
      have hm : (if m = hitS then missS else hitS) = hitS ∨ (if m = hitS then missS else hitS) = missS := by
        by_cases z : m = hitS
        · rw [if_pos z]; exact .inr rfl
        · rw [if_neg z]; exact .inl rfl
      have evm : ∀ {H4 : Hp}, Ev (tIf (tTest (tOp rEq (tVar 3) (tC (.str "hit")))) (tC (.str "miss")) (tC (.str "hit"))) [some (.ref a), some (.ref l), some (.int d), some (.str m), some (.str p)] H4 (.str (if m = hitS then missS else hitS)) := ev_if (b := decide (V.str m = V.str "hit")) (et_test (ev_op (ev_var rfl) ev_c (rv_eq rfl))) (fun hb => by
          have z : m = hitS := V.str.inj (of_decide_eq_true hb)
          rw [if_pos z]
          exact ev_c) (fun hb => by
          have z : ¬ m = hitS := fun z => of_decide_eq_false hb (by rw [z]; rfl)
          rw [if_neg z]
          exact ev_c)
      refine go_op (go_op ((el_slL (ev_var rfl) (sq_of h13) ep_no (ep_i (ev_var rfl))) H3 (Ex.refl _) _ fun b1 H4 n4 e4 h4 => ?_))
      refine go_lstS (go_cons ((eu_tup (ea_cons evm (ea_cons (ev_var rfl) ea_nil)) (show 2 ≤ 100000 by decide)) H4 (Ex.refl _) _ fun T H5 nT e5 h5 => go_nil ⟨show 1 ≤ sizeLine by decide, fun b2 n6 => ?_⟩))
      have x6 := Ex.new (o := .lst [V.ref T]) n6
      rw [edn, take_cut] at h4
      have hl4 : ((ts.map V.ref).take d.toNat).length ≤ 290 := by rw [List.length_take, List.length_map]; omega
      refine ⟨b1, b2, (ts.map V.ref).take d.toNat, [V.ref T], rfl, rfl, (e5.trans x6) _ _ h4, upd_same, sz_of (by show _ + 1 ≤ _; omega), fun b3 n7 => ?_⟩
      have x7 := Ex.new (o := .lst ((ts.map V.ref).take d.toNat ++ [V.ref T])) n7
      have e47 := (e4.trans (e5.trans x6)).trans x7
      have hb3 : upd (upd H5 b2 (.lst [V.ref T])) b3 (.lst ((ts.map V.ref).take d.toNat ++ [V.ref T])) b3 = some (.lst ((ts.map V.ref).take d.toNat ++ [V.ref T])) := upd_same
      have hT7 : upd (upd H5 b2 (.lst [V.ref T])) b3 (.lst ((ts.map V.ref).take d.toNat ++ [V.ref T])) T = some (.tup [.str (if m = hitS then missS else hitS), .str p]) := x7 _ _ (x6 _ _ h5)
      have fb3 : H3 b3 = none := fresh_back (e4.trans (e5.trans x6)) n7
      generalize upd _ b3 _ = H7 at hb3 hT7 e47 ⊢
      refine (el_slL (ev_var rfl) (sq_of (e47 _ _ h13)) (ep_i (ev_op (ev_var rfl) ev_c rv_I0)) ep_no) H7 (Ex.refl _) _ fun b4 H8 n8 e8 h8 => ?_
      have ed1 : d + 1 = ((d.toNat + 1 : Nat) : Int) := by omega
      rw [ed1, drop_cut _ (by rw [List.length_map, hlt]; omega)] at h8
      refine ⟨b3, b4, _, _, rfl, rfl, e8 _ _ hb3, h8, sz_of (by rw [List.length_append, List.length_drop, List.length_map]; show _ + 1 + _ ≤ _; omega), fun r hr => ?_⟩
      have xr := Ex.new (o := .lst ((ts.map V.ref).take d.toNat ++ [V.ref T] ++ (ts.map V.ref).drop (d.toNat + 1))) hr
      have e3r := (e47.trans e8).trans xr
      have k9 : Ex (hid H a) _ := k3.trans e3r
      have S9 := (S2.mono e3).mono e3r
      have fr : H r = none := fresh_hid k3 (((S2.mono e3).is).choose_spec) (fresh_back (e47.trans e8) hr)
      refine q r (es.take d.toNat ++ [((if m = hitS then missS else hitS), p)] ++ es.drop (d.toNat + 1)) _ fr k9 (S9.le (by omega)) ⟨⟨ts.take d.toNat ++ [T] ++ ts.drop (d.toNat + 1), ?_, ?_⟩⟩ (fun e he => ?_) ?_
      · rw [upd_same, List.map_append, List.map_append, List.map_take, List.map_drop]
        rfl
      · have h2r : Paired (TupAt _) ts es := Paired.imp h2' fun t e z => (e3.trans e3r) _ _ z
        have hTr := (e8.trans xr) _ _ hT7
        exact paired_app (paired_app (paired_take _ h2r) (.cons hTr .nil)) (paired_drop _ h2r)
      · rcases List.mem_append.mp he with z | z
        · rcases List.mem_append.mp z with z | z
          · exact ho e (List.mem_of_mem_take z)
          · rw [List.mem_singleton.mp z]
            exact ⟨hm, hok.2⟩
        · exact ho e (List.mem_of_mem_drop z)
      · rw [List.length_append, List.length_append, List.length_take, List.length_drop]
        show _ + 1 + _ ≤ _
        omega
end
end KB

set_option Elab.async false
set_option linter.all false
set_option maxRecDepth 100000
set_option maxHeartbeats 16000000
/-! RL1: what the law of replay needs. -/
namespace KB
open PySem PySem.Spec PyProof.Rows L2 Evl StX
section
variable {c n : Nat} {es : List Ev1}
theorem sz_le (i : Nat) : szAt c n es i ≤ c := Nat.min_le_left _ _
/-- the contents on the way -/
theorem fw_all {ds : List PyData} (hn : n ≤ c) (ok : ∀ e ∈ es, okE e) : ∀ (r : List Ev1) (i : Nat) (S : List Str) (u : Nat) (o : List (List Str)), es.drop i = r → ShS c n es i S → fw c ds S u r = some o →
    o.length = r.length ∧ ∀ T ∈ o, T.length ≤ c ∧ ∀ p ∈ T, pageB p = true
  | [], i, S, u, o, hd, s, h => by
    have h : (if u = ds.length then some [] else none) = some o := h
    split at h
    · cases h
      exact ⟨rfl, fun T hT => nomatch hT⟩
    · cases h
  | (m, p) :: r, i, S, u, o, hd, s, h => by
    obtain ⟨hat, hd2⟩ := drop_at hd
    have hok := ok _ (List.mem_of_getElem? hat)
    have hmk : m = hitS ∨ m = missS := hok.1
    have hpg : pageB p = true := hok.2
    have h : (if (decide (m = hitS) == decide (p ∈ S)) = false then none else if m = missS ∧ S.length = c then (match (ds[u]?).bind (strIn S) with | none => none | some x => (fw c ds (afM S p (some x)) (u + 1) r).map (afM S p (some x) :: ·)) else (fw c ds (nxS S (m, p) none) u r).map (nxS S (m, p) none :: ·)) = some o := h
    have fin : ∀ {S2 : List Str} {u2 : Nat}, ShS c n es (i + 1) S2 → (fw c ds S2 u2 r).map (S2 :: ·) = some o → o.length = r.length + 1 ∧ ∀ T ∈ o, T.length ≤ c ∧ ∀ p ∈ T, pageB p = true := fun {S2 u2} s2 h2 => by
      obtain ⟨o', h', rfl⟩ := Option.map_eq_some_iff.mp h2
      have ih := fw_all hn ok r (i + 1) S2 u2 o' hd2 s2 h'
      refine ⟨by rw [List.length_cons, ih.1], fun T hT => ?_⟩
      rcases List.mem_cons.mp hT with z | z
      · rw [z]
        exact ⟨by rw [s2.len]; exact sz_le _, s2.pg⟩
      · exact ih.2 T z
    by_cases hb : (decide (m = hitS) == decide (p ∈ S)) = false
    · rw [if_pos hb] at h
      cases h
    · have hb' : (decide (m = hitS) == decide (p ∈ S)) = true := by simpa using hb
      rw [if_neg hb] at h
      rcases hmk with rfl | rfl
      · have n1 : nxS S (hitS, p) none = S := if_neg fun z => mark_ne z.symm
        rw [if_neg (fun z => mark_ne z.1.symm), n1] at h
        exact fin (s.hit hn hat) h
      · have hp : p ∉ S := by
          have : decide ((missS : Str) = hitS) = false := decide_eq_false mark_ne
          rw [this] at hb'
          simpa using hb'
        by_cases hc : S.length = c
        · rw [if_pos ⟨rfl, hc⟩] at h
          cases hg : ds[u]? with
          | none => rw [hg] at h; cases h
          | some d =>
            rw [hg] at h
            cases hx : strIn S d with
            | none =>
              have : (some d).bind (strIn S) = none := hx
              rw [this] at h
              cases h
            | some x =>
              have : (some d).bind (strIn S) = some x := hx
              rw [this] at h
              exact fin (s.evict hat hp hpg (strIn_some hx).2 hc) h
        · have n1 : nxS S (missS, p) none = afM S p none := if_pos rfl
          rw [if_neg (fun z => hc z.2), n1] at h
          exact fin (s.add hat hp hpg hc) h
end
structure CsG (css : List (List Str)) : Prop where
  len : css.length ≤ 310
  row : ∀ T ∈ css, T.length ≤ 60 ∧ ∀ p ∈ T, pageB p = true
theorem replay_good {c : Nat} {ps : List Str} {es : List Ev1} {d : PyData} {css : List (List Str)} (hp : Pages ps) (hl : ps.length ≤ c) (hc : c ≤ 60) (ok : ∀ e ∈ es, okE e) (hel : es.length ≤ 300) (h : replayD c ps es d = some css) : CsG css := by
  rw [replay_fw hp hl ok] at h
  cases d with
  | list ds =>
    have h : (fw c ds (sortS ps) 0 es).map (sortS ps :: ·) = some css := h
    obtain ⟨o, h', rfl⟩ := Option.map_eq_some_iff.mp h
    have s0 := shS0 (es := es) hp hl
    have ih := fw_all hl ok es 0 (sortS ps) 0 o rfl s0 h'
    refine ⟨by rw [List.length_cons, ih.1]; omega, fun T hT => ?_⟩
    rcases List.mem_cons.mp hT with z | z
    · rw [z]
      exact ⟨by rw [sortS_len]; omega, s0.pg⟩
    · have := ih.2 T z
      exact ⟨by omega, this.2⟩
  | _ => cases h
def cssD (css : List (List Str)) : PyData := .list (css.map fun S => .tuple (pD S))
def optD : Option (List (List Str)) → PyData | none => .none | some css => cssD css
theorem cs_dvs {K : PySem.W.Frag} {H : Hp} : ∀ {ts : List Addr} {css : List (List Str)}, Paired (fun t (S : List Str) => H t = some (.tup (S.map V.str))) ts css → DVs K H (ts.map V.ref) (css.map fun S => .tuple (pD S))
  | _, _, .nil => .nil
  | _, _, .cons h t => .cons (.tup (.inl (.inl h)) (dvs_strs _)) (cs_dvs t)
theorem CsM.dv {K : PySem.W.Frag} {H : Hp} {p : Addr} {css : List (List Str)} (c : CsM H p css) : DV K H (.ref p) (cssD css) := by
  obtain ⟨ts, h1, h2⟩ := c.at_
  exact .lst h1 (cs_dvs h2)
theorem strs_dp {K : PySem.W.Frag} {H : Hp} : ∀ {S : List Str} {vs : List V}, DVs K H vs (pD S) → DpAll K H vs (pD S)
  | [], _, h => by cases h; exact .nil
  | x :: S, _, h => by
    cases h with
    | cons h1 h2 =>
      cases h1
      exact .cons (.str x) (strs_dp h2)
theorem rows_dp {K : PySem.W.Frag} {H : Hp} : ∀ {css : List (List Str)} {vs : List V}, DVs K H vs (css.map fun S => .tuple (pD S)) → DpAll K H vs (css.map fun S => .tuple (pD S))
  | [], _, h => by cases h; exact .nil
  | S :: css, _, h => by
    cases h with
    | cons h1 h2 =>
      cases h1 with
      | tup a b => exact .cons (.tup a (strs_dp b)) (rows_dp h2)
theorem cs_dp {K : PySem.W.Frag} {H : Hp} {v : V} {css : List (List Str)} (h : DV K H v (cssD css)) : Dp K H v (cssD css) := by
  cases h with
  | lst a b => exact .lst (sq_of a) (rows_dp b)
theorem depth_strsN (S : List Str) : PyData.depthAll (pD S) = 0 := depth_strs S
theorem cs_lay : ∀ {css : List (List Str)}, (∀ T ∈ css, ∀ p ∈ T, pageB p = true) → PyData.canLayAll0 (css.map fun S => PyData.tuple (pD S)) = true ∧ PyData.depthAll (css.map fun S => PyData.tuple (pD S)) ≤ 1
  | [], _ => ⟨rfl, Nat.zero_le _⟩
  | S :: css, h => by
    obtain ⟨i1, i2⟩ := cs_lay (css := css) fun T hT => h T (List.mem_cons_of_mem _ hT)
    refine ⟨?_, ?_⟩
    · rw [List.map_cons, PyData.canLayAll0, i1, Bool.and_true]
      exact lay_strs (h S List.mem_cons_self)
    · rw [List.map_cons, PyData.depthAll]
      have : PyData.depth (PyData.tuple (pD S)) = PyData.depthAll (pD S) + 1 := rfl
      rw [depth_strsN] at this
      omega
theorem cs_shaped {css : List (List Str)} (g : ∀ T ∈ css, ∀ p ∈ T, pageB p = true) : PyData.canLay0 (cssD css) = true ∧ SeqAt.shaped (cssD css) = true := by
  obtain ⟨i1, i2⟩ := cs_lay g
  refine ⟨i1, ?_⟩
  unfold SeqAt.shaped
  rw [show PyData.canLay0 (cssD css) = true from i1, Bool.true_and, decide_eq_true_eq]
  have : PyData.depth (cssD css) = PyData.depthAll (css.map fun S => PyData.tuple (pD S)) + 1 := rfl
  omega
theorem row_fit {S : List Str} (hl : S.length ≤ 200) (h : ∀ p ∈ S, pageB p = true) : Fit 400 4300 4 (.tuple (pD S)) := by
  have hw := weight_leN (ds := pD S) (w := 20) fun d hd => by
    obtain ⟨x, hx, rfl⟩ := List.mem_map.mp hd
    exact (gi_page (h x hx)).wt
  have hlen : (pD S).length = S.length := List.length_map ..
  refine fit_seq (b := false) (by omega) (fun d hd => ?_) (by omega) (fun d hd => ?_) (by omega)
  · obtain ⟨x, hx, rfl⟩ := List.mem_map.mp hd
    exact okM_mono (by omega) _ (gi_page (h x hx)).ok
  · obtain ⟨x, hx, rfl⟩ := List.mem_map.mp hd
    exact Nat.succ_le_succ (Nat.zero_le _)
theorem page_wt {x : Str} (h : pageB x = true) : PyData.weight (.str x) ≤ 4 := by
  have h1 := pageB_len h
  exact h1
theorem cs_fit {css : List (List Str)} (g : CsG css) : Fit 400 95000 5 (cssD css) := by
  have hlen : (css.map fun S => PyData.tuple (pD S)).length = css.length := List.length_map ..
  have g1 := g.len
  have rw5 : ∀ T ∈ css, PyData.weight (.tuple (pD T)) ≤ 300 := fun T hT => by
    obtain ⟨a, b⟩ := g.row T hT
    have hw := weight_leN (ds := pD T) (w := 4) fun d hd => by
      obtain ⟨x, hx, rfl⟩ := List.mem_map.mp hd
      exact page_wt (b x hx)
    have hl : (pD T).length = T.length := List.length_map ..
    have : PyData.weight (.tuple (pD T)) = PyData.weightAll (pD T) := rfl
    omega
  have hw := weight_leN (ds := css.map fun S => PyData.tuple (pD S)) (w := 300) fun d hd => by
    obtain ⟨T, hT, rfl⟩ := List.mem_map.mp hd
    exact rw5 T hT
  refine fit_seq (b := true) (by omega) (fun d hd => ?_) (by omega) (fun d hd => ?_) (by omega)
  all_goals
    obtain ⟨T, hT, rfl⟩ := List.mem_map.mp hd
    obtain ⟨a, b⟩ := g.row T hT
    have f := row_fit (by omega) b
  · exact okM_mono (by omega) _ f.ok
  · have := f.dp
    omega
theorem opt_fit {o : Option (List (List Str))} (h : ∀ css, o = some css → CsG css) : Fit 400 95000 5 (optD o) := by
  cases o with
  | none => exact ⟨rfl, Nat.zero_le _, Nat.zero_le _⟩
  | some css => exact cs_fit (h css rfl)
/-- [initial, row, thing] -/
theorem three_fit {ps : List Str} {es : List Ev1} {d : PyData} (hp : Pages ps) (ho : ∀ e ∈ es, okE e) (hl : es.length ≤ 300) (h : ThD d) : Fit 400 30000 5 (.list [.tuple (pD ps), logD es, d]) := by
  have f1 := row_fit hp.len hp.all
  have hlen : (es.map evD).length = es.length := List.length_map ..
  have hev : ∀ x ∈ es.map evD, okM 400 x = true ∧ PyData.weight x ≤ 20 ∧ PyData.depth x ≤ 2 := fun x hx => by
    obtain ⟨e, he, rfl⟩ := List.mem_map.mp hx
    obtain ⟨h1, h2⟩ := ho e he
    have m := mark_ok h1
    have p := gi_page h2
    refine ⟨?_, ?_, ?_⟩
    · show (decide (2 ≤ 400) && (okM 400 (.str e.1) && (okM 400 (.str e.2) && true))) = true
      have a : okM 400 (.str e.1) = true := by
        show (decide (e.1.length ≤ 10) && PyData.strOk e.1) = true
        have : e.1.length ≤ 4 := m.2
        rw [m.1, decide_eq_true (by omega)]
        rfl
      rw [a, okM_mono (by omega) _ p.ok]
      rfl
    · have a := page_wt h2
      have b : e.1.cps.size ≤ 4 := m.2
      have : PyData.weight (evD e) = e.1.cps.size + 1 + (PyData.weight (.str e.2) + 1 + 0) := rfl
      omega
    · show max 0 (max 0 0) + 1 ≤ 2
      decide
  have hw := weight_leN (ds := es.map evD) (w := 20) fun x hx => (hev x hx).2.1
  have f2 : Fit 400 7000 4 (logD es) := fit_seq (b := true) (by omega) (fun x hx => (hev x hx).1) (by omega) (fun x hx => by have := (hev x hx).2.2; omega) (by omega)
  have f3 := h.fit
  refine fit_seq (b := true) (show 3 ≤ 400 by decide) (fun x hx => ?_) ?_ (fun x hx => ?_) (by omega)
  · simp only [List.mem_cons, List.not_mem_nil, or_false] at hx
    rcases hx with rfl | rfl | rfl
    · exact f1.ok
    · exact f2.ok
    · exact f3.ok
  · have a := f1.wt
    have b := f2.wt
    have c := f3.wt
    have : PyData.weightAll [PyData.tuple (pD ps), logD es, d] = PyData.weight (PyData.tuple (pD ps)) + 1 + (PyData.weight (logD es) + 1 + (PyData.weight d + 1 + 0)) := rfl
    omega
  · simp only [List.mem_cons, List.not_mem_nil, or_false] at hx
    have a := f1.dp
    have b := f2.dp
    have c := f3.dp
    rcases hx with rfl | rfl | rfl <;> omega
section
variable {K : PySem.W.Frag} {σ : L2.St} {H H1 H' : Hp} {ta tb tc te tx tl : TE} {as : TA} {x y z v : V} {D : Ends} {Q : VK} {css : List (List Str)}
theorem ev_neCs (ha : EvDn K ta σ H (cssD css)) (hb : EvDn K tb σ H (cssD css)) (g : ∀ T ∈ css, ∀ p ∈ T, pageB p = true) : Ev (tOp (rNeD K) ta tb) σ H (.bl false) := fun H1 e Q q =>
  ha H1 e _ fun v H2 e2 h2 => hb H2 (e.trans e2) _ fun u H3 e3 h3 => ⟨cssD css, cssD css, cs_dp (DV.mono e3 _ _ h2), cs_dp h3, (cs_shaped g).2, (cs_shaped g).2, by
    rw [SeqAt.eqv_refl _ (cs_shaped g).1]
    exact q H3 (e2.trans e3)⟩
theorem ev_eqCs (ha : EvDn K ta σ H (cssD css)) (hb : EvDn K tb σ H (cssD css)) (g : ∀ T ∈ css, ∀ p ∈ T, pageB p = true) : Ev (tOp (rEqD K) ta tb) σ H (.bl true) := fun H1 e Q q =>
  ha H1 e _ fun v H2 e2 h2 => hb H2 (e.trans e2) _ fun u H3 e3 h3 => ⟨cssD css, cssD css, cs_dp (DV.mono e3 _ _ h2), cs_dp h3, (cs_shaped g).2, (cs_shaped g).2, by
    rw [SeqAt.eqv_refl _ (cs_shaped g).1]
    exact q H3 (e2.trans e3)⟩
/-- replay, asked or followed -/
theorem dn_told {c : Nat} {t l : Addr} {v4 : V} {d4 : PyData} {ps : List Str} {es : List Ev1} {b : Bool} (ha : EvA as σ H [.int (c : Int), .ref t, .ref l, v4, .bl b]) (hp : PL H t l c ps es) (hd : DV K H v4 d4) (hs : smallD d4 = true) : EvDn K (tCall (spTol K) [] E0 as) σ H (optD (replayD c ps es d4)) := fun H1 e Q q =>
  ha H1 e _ fun H2 e2 => by
    rw [List.append_nil]
    refine ⟨c, t, l, v4, d4, ps, es, b, rfl, hp.mono (e.trans e2), DV.mono (e.trans e2) _ _ hd, hs, fun css hc p H3 np e3 h3 => q _ H3 (e2.trans e3) ?_, fun hn H3 e3 => q _ H3 (e2.trans e3) ?_⟩
    · rw [hc]
      exact h3.dv
    · rw [hn]
      exact .non
theorem dn_fol {c : Nat} {t l : Addr} {v4 : V} {d4 : PyData} {ps : List Str} {es : List Ev1} (ha : EvA as σ H [.int (c : Int), .ref t, .ref l, v4]) (hp : PL H t l c ps es) (hd : DV K H v4 d4) (hg : goneT d4 = true) : EvDn K (tCall (spFol K) [] E0 as) σ H (optD (fwD c ps es d4)) := fun H1 e Q q =>
  ha H1 e _ fun H2 e2 => by
    rw [List.append_nil]
    refine ⟨c, t, l, v4, d4, ps, es, rfl, hp.mono (e.trans e2), DV.mono (e.trans e2) _ _ hd, hg, fun css hc p H3 np e3 h3 => q _ H3 (e2.trans e3) ?_, fun hn H3 e3 => q _ H3 (e2.trans e3) ?_⟩
    · rw [hc]
      exact h3.dv
    · rw [hn]
      exact .non
/-- replay, no error -/
def spRepV (K : PySem.W.Frag) : Sp := fun vs H Q _ => ∃ (c : Nat) (t l : Addr) (v4 : V) (d4 : PyData) (ps : List Str) (es : List Ev1) (css : List (List Str)), vs = [.int (c : Int), .ref t, .ref l, v4] ∧ PL H t l c ps es ∧ DV K H v4 d4 ∧ smallD d4 = true ∧ replayD c ps es d4 = some css ∧
  ∀ p H2, H p = none → Ex H H2 → CsM H2 p css → Q (.ref p) H2
theorem rep_imp {C : Addr} : ∀ vs H Q E, spRepV K vs H Q E → calmSp (spRep K C) vs H Q E := fun vs H Q E h => by
  obtain ⟨c, t, l, v4, d4, ps, es, css, rfl, hp, hd, hs, hr, q⟩ := h
  refine ⟨c, t, l, v4, d4, ps, es, rfl, hp, hd, hs, fun css' hc => ?_, fun hn => ?_⟩
  · rw [hr] at hc
    cases hc
    exact q
  · rw [hr] at hn
    cases hn
theorem dn_rep {c : Nat} {t l : Addr} {v4 : V} {d4 : PyData} {ps : List Str} {es : List Ev1} (ha : EvA as σ H [.int (c : Int), .ref t, .ref l, v4]) (hp : PL H t l c ps es) (hd : DV K H v4 d4) (hs : smallD d4 = true) (hr : replayD c ps es d4 = some css) : EvDn K (tCall (spRepV K) [] E0 as) σ H (cssD css) := fun H1 e Q q =>
  ha H1 e _ fun H2 e2 => by
    rw [List.append_nil]
    exact ⟨c, t, l, v4, d4, ps, es, css, rfl, hp.mono (e.trans e2), DV.mono (e.trans e2) _ _ hd, hs, hr, fun p H3 np e3 h3 => q _ H3 (e2.trans e3) h3.dv⟩
/-- [tuple(sorted(one)) for one in contents] -/
theorem dn_lcCs {a : Addr} {qs : List Addr} {j : Nat} {vs : List Nat} (hlj : ∀ x : V, ((wipe σ vs).set j (some x))[j]? = some (some x)) (h : Ev tl σ H (.ref a)) (hq : H a = some (.lst (qs.map V.ref))) (hp : Paired (LstAt H) qs css) (hz : css.length ≤ 400) (hw : ∀ x, wipe ((wipe σ vs).set j (some x)) vs = wipe σ vs) :
    EvDn K (tLc (iList K tl) (gName j) tYes (tCB (rTupOf K) (tCons (tCB (rSortedTx K) (tCons (tVar j) tNil)) tNil)) vs) σ H (cssD (css.map sortS)) := fun H1 e Q q => by
  have hlen := paired_len hp
  refine w_lcL (H := H1) (xs := qs.map V.ref) (fun H2 e2 => h H2 (e.trans e2)) (sq_of (e _ _ hq)) (fun Dl i H2 => H1 Dl = none ∧ Ex H1 H2 ∧ ∃ ts : List Addr, H2 Dl = some (.lst (ts.map V.ref)) ∧ Paired (fun t (S : List Str) => H2 t = some (.tup (S.map V.str))) ts ((css.take i).map sortS))
    (fun Dl H2 n2 e2 => ⟨fresh_back e2 n2, e2.trans (Ex.new n2), [], upd_same, .nil⟩) (fun Dl i H2 hP => sq_of (hP.2.1 _ _ (e _ _ hq))) hw (fun Dl i x H2 hx hP => ?_) (fun Dl H2 hP => ?_)
  · obtain ⟨n2, e2, ts, h2, hts⟩ := hP
    rw [List.getElem?_map] at hx
    obtain ⟨y, hy, rfl⟩ := Option.map_eq_some_iff.mp hx
    obtain ⟨S, hS, hyS⟩ := paired_at' hp hy
    have hil : i < css.length := (List.getElem?_eq_some_iff.mp hS).1
    have hlt := paired_len hts
    rw [List.length_map, List.length_take] at hlt
    refine (eu_tupSort (ev_var (hlj _)) (.inl (sq_of ((e.trans e2) _ _ hyS)))) H2 (Ex.refl _) _ fun t H3 nt e3 h3 => ?_
    have hD3 := e3 _ _ h2
    refine ⟨ts.map V.ref, hD3, sz_of (by rw [List.length_map]; omega), n2, Ex.mut (e2.trans e3) n2, ts ++ [t], by rw [upd_same, List.map_append]; rfl, ?_⟩
    have et : (css.take (i + 1)).map sortS = (css.take i).map sortS ++ [sortS S] := by
      rw [List.take_add_one, hS, List.map_append]
      rfl
    rw [et]
    have nD : ∀ {b : Addr} {ys : List V}, H3 b = some (.tup ys) → upd H3 Dl (.lst (ts.map V.ref ++ [V.ref t])) b = some (.tup ys) := fun hb => by
      rw [upd_ne (ne_of hb hD3 (by intro q; cases q))]
      exact hb
    exact paired_app (Paired.imp hts fun _ _ z => nD (e3 _ _ z)) (.cons (nD h3) .nil)
  · obtain ⟨n2, e2, ts, h2, hts⟩ := hP
    rw [List.length_map, hlen, List.take_length] at hts
    exact q _ H2 e2 (CsM.dv ⟨ts, h2, hts⟩)
end
end KB

set_option Elab.async false
set_option linter.all false
set_option maxRecDepth 100000
set_option maxHeartbeats 32000000
/-! RL2: the law of replay. -/
namespace KB
open PySem PySem.Spec PyProof.Rows L2 Evl StX
abbrev pA : Str := "a"
abbrev pB : Str := "b"
abbrev cAB : List (List Str) := [[], [pA], [pB]]
theorem exP0 {H H' H'' : Hp} {p : Addr} (e0 : Ex H H') (fp : H p = none) (e : Ex (hid H' p) H'') : Ex H H'' := fun b o h => e b o (by rw [hid_ne (ne_of_none h fp)]; exact e0 b o h)
/-- what the law holds in memory -/
structure KT (H H' : Hp) (p t hp gp cq pg : Addr) (room : Nat) (c0 pages : List Str) (es : List Ev1) (gs : List Str) (css : List (List Str)) (B : Int) : Prop where
  ex : Ex H H'
  src : SrcAt H' p B
  ht : H' t = some (.tup (c0.map V.str))
  ev : EvM H' hp es
  hg : H' gp = some (.lst (gs.map V.str))
  hc : ∃ qs : List Addr, H' cq = some (.lst (qs.map V.ref)) ∧ Paired (LstAt H') qs css ∧ cq ≠ p ∧ ∀ q ∈ qs, q ≠ p
  hpg : H' pg = some (.lst (pages.map V.str))
  fp : H p = none
  fg : H gp = none
  n1 : hp ≠ p
  n2 : gp ≠ p
  n3 : pg ≠ p
  n4 : hp ≠ gp
  c1 : 1 ≤ room
  c2 : room ≤ 41
  pc : Pages c0
  le : c0.length ≤ room
  pp : Pages pages
  ne : pages ≠ []
  ok : ∀ e ∈ es, okE e
  el : es.length ≤ 125
section
variable {H H' H1 : Hp} {p t hp gp cq pg : Addr} {room : Nat} {c0 pages : List Str} {es : List Ev1} {gs : List Str} {css : List (List Str)} {B B' : Int}
theorem KT.mono (s : KT H H' p t hp gp cq pg room c0 pages es gs css B) (e : Ex H' H1) : KT H H1 p t hp gp cq pg room c0 pages es gs css B := by
  obtain ⟨qs, h1, h2, h3, h4⟩ := s.hc
  exact { s with ex := s.ex.trans e, src := s.src.mono e, ht := e _ _ s.ht, ev := s.ev.mono e, hg := e _ _ s.hg, hc := ⟨qs, e _ _ h1, Paired.imp h2 fun _ _ z => e _ _ z, h3, h4⟩, hpg := e _ _ s.hpg }
theorem KT.draw (s : KT H H' p t hp gp cq pg room c0 pages es gs css B) (e : Ex (hid H' p) H1) (S : SrcAt H1 p B') : KT H H1 p t hp gp cq pg room c0 pages es gs css B' := by
  obtain ⟨qs, h1, h2, h3, h4⟩ := s.hc
  obtain ⟨xs, ha⟩ := s.src.is
  have k : ∀ {b : Addr} {o : HO}, b ≠ p → H' b = some o → H1 b = some o := fun n h => e _ _ (by rw [hid_ne n]; exact h)
  exact { s with ex := exP0 s.ex s.fp e, src := S, ht := k (ne_of s.ht ha (by intro q; cases q)) s.ht, ev := s.ev.draw s.n1 s.src e, hg := k s.n2 s.hg, hc := ⟨qs, k h3 h1, Paired.impM h2 fun q c hq z => k (h4 q hq) z, h3, h4⟩, hpg := k s.n3 s.hpg }
theorem KT.leB (s : KT H H' p t hp gp cq pg room c0 pages es gs css B) (h : B ≤ B') : KT H H' p t hp gp cq pg room c0 pages es gs css B' := { s with src := s.src.le h }
theorem KT.pl (s : KT H H' p t hp gp cq pg room c0 pages es gs css B) : PL H' t hp room c0 es := ⟨s.c1, s.ht, s.pc, s.le, s.ev, s.ok, by have := s.el; omega⟩
end
section
variable {K : PySem.W.Frag} {σ : L2.St} {H : Hp} {Q : VK} {D : Ends} {tl : TE}
theorem w_two {i : Nat} {p : Addr} {x y B : Int} (hs : σ[i]? = some (some (.ref p))) (S : SrcAt H p B) (hB : B ≤ 900000) (k : ∀ v H', (v = x ∨ v = y) → Ex (hid H p) H' → SrcAt H' p (B + 1) → Q (.int v) H') :
    tOp (rIxL K) (tLst (tCons (tC (.int x)) (tCons (tC (.int y)) tNil))) (tCall spDraw [] E0 (tCons (tVar i) (tCons (tC (.int 2)) tNil))) σ H Q := by
  refine ⟨by show 2 ≤ sizeLine; decide, fun lp nlp => ?_⟩
  have x1 := Ex.new (o := .lst [V.int x, V.int y]) nlp
  obtain ⟨xs, hp⟩ := S.is
  have n : lp ≠ p := (ne_of_none hp nlp).symm
  refine w_draw hs ev_c (by decide) (by decide) (S.mono x1) (by omega) fun d H3 d0 d1 e3 S3 => ?_
  have hlp : H3 lp = some (.lst [V.int x, V.int y]) := e3 _ _ (by rw [hid_ne n, upd_same])
  have k3 : Ex (hid H p) H3 := fun b o h => by
    obtain ⟨h1, h2⟩ := hid_some h
    exact e3 b o (by rw [hid_ne h1]; exact x1 _ _ h2)
  have : d = 0 ∨ d = 1 := by omega
  rcases this with rfl | rfl
  · exact ⟨lp, [V.int x, V.int y], 0, .int x, rfl, rfl, sq_of hlp, rfl, k x H3 (.inl rfl) k3 S3⟩
  · exact ⟨lp, [V.int x, V.int y], 1, .int y, rfl, rfl, sq_of hlp, rfl, k y H3 (.inr rfl) k3 S3⟩
theorem ev_notN {ta : TE} {x : V} (h : Ev ta σ H x) : Ev (tNotN ta) σ H (.bl (!decide (x = .non))) := fun H1 e Q q => h H1 e _ fun H2 e2 => q H2 e2
theorem cut_last (xs : List V) (v : V) : cutV (xs ++ [v]) none (some (-1)) = xs := by
  have ix : HT.sIx (xs ++ [v]).length (xs ++ [v]).length (some (-1)) = xs.length := by
    show (if (-1 : Int) < 0 then ((-1 : Int) + ((xs ++ [v]).length : Int)).toNat else min (-1 : Int).toNat (xs ++ [v]).length) = _
    rw [if_pos (by decide), List.length_append]
    show ((-1 : Int) + ((xs.length + 1 : Nat) : Int)).toNat = _
    omega
  unfold cutV
  rw [HT.sIx_none, ix, List.drop_zero, Nat.sub_zero, List.take_left]
theorem go_forL {g : TG} {tu : TS} (h : tl σ H fun x H1 => ∃ a, x = .ref a ∧ (∃ xs, SqL K H1 a xs) ∧ tFor (fun _ _ R => R (Itl K a) H1) g tu D σ H1) : tFor (iList K tl) g tu D σ H := h
theorem s_forFixL {a : Addr} {xs : List V} {g : TG} {tu : TS} (Pv : Nat → L2.St → Hp → Prop) (h0 : Pv 0 σ H) (hl : ∀ i σ' H', i ≤ xs.length → Pv i σ' H' → SqL K H' a xs)
    (hs : ∀ i x σ' H', xs[i]? = some x → Pv i σ' H' → g x σ' H' fun σ2 H2 => tu { D with nx := Pv (i + 1), ct := Pv (i + 1), bk := D.nx } σ2 H2) (hd : ∀ σ' H', Pv xs.length σ' H' → D.nx σ' H') : tFor (fun _ _ R => R (Itl K a) H) g tu D σ H := for_list Pv h0 hl hs hd
end
section
variable {P : Program} {w : World} {K : PySem.W.Frag} {mg : Str → Option Value} {base : Heap}
abbrev Nlaw : List Str := ["script", "k", "source", "turn", "longest", "room", "initial", "pages", "size", "happened", "gone", "contents", "row", "thing", "before", "found", "again", "one"]
theorem sclaw : FnScope Nlaw ["script"] (defScope sLaw) := ⟨rfl, rfl, rfl, by decide +kernel, rfl, by decide +kernel, by decide +kernel⟩
def spLaw (K : PySem.W.Frag) : Sp := fun vs H Q _ => ∃ (a : Addr) (ns : List Int), vs = [.ref a] ∧ SqL K H a (ns.map V.int) ∧ Sys K H ∧ ∀ H', Q (.bl true) H'
theorem ok_law {f : Addr} {fd : FuncData} (F : Fun K "law" "law" sLaw f fd) (B0 : Bn mg) (B2 : Bl mg) (BS : Bs mg) (cD : Cl P w K mg base 1 "_law_draw" ["source", "bound"] spDraw) (cSrc : Cl P w K mg base 1 "_law_source" ["script", "k"] (spSource K))
    (cSet : Cl P w K mg base 3 "_law_setup" ["source", "most", "size"] spSetup) (cRun : Cl P w K mg base 2 "_law_run" ["source", "room", "initial", "pages", "size"] (spRun K)) (cTol : Cl P w K mg base 10 "_law_told" ["room", "initial", "happened", "gone", "named"] (spTol K))
    (cFol : Cl P w K mg base 1 "_law_followed" ["room", "initial", "happened", "gone"] (spFol K)) (cCha : Cl P w K mg base 2 "_law_changed" ["source", "gone", "pages"] (spCha K)) (cBen : Cl P w K mg base 2 "_law_bent" ["source", "happened"] spBen)
    (cRep : Cl P w K mg base 9 "replay" P4r (spRepV K)) : FnG P w K mg base CX0 11 f fd ["script"] (spLaw K) := by
  refine okG F sclaw (fun vs H Q E h => ?_) (fun cdv A outer s H vs Q E hG hr h => ?_)
  · obtain ⟨a, ns, rfl, _⟩ := h
    rfl
  · obtain ⟨a, ns, rfl, hns, hsys, q⟩ := h
    have nd := sclaw.nd
    refine ⟨_, (pss_cons (ps_for PassesOwn.never rfl (pi_range1 (by rfl) B0.range (pa_cons (pe_callB (call_max2 rfl) (by rfl) B2.max bt_max (pa_cons pe_int (pa_cons (pe_callB (call_min2 rfl) (by rfl) B0.min bt_min (pa_cons pe_int (pa_cons (pe_callB call_len_seq (by rfl) B0.len bt_len (pa_cons (pv 0) pa_nil)) pa_nil))) pa_nil))) pa_nil)) (pg_name (i := 1) nd rfl (Or.inl rfl))
        (pss_cons (ps_set (i := 2) nd rfl (Or.inl rfl) (pe_cl cSrc hr (pa_cons (pv 0) (pa_cons (pv 1) pa_nil))))
        (pss_one (ps_for PassesOwn.never rfl (pi_range1 (by rfl) B0.range (pa_cons pe_int pa_nil)) (pg_name (i := 3) nd rfl (Or.inl rfl))
          (pss_cons (ps_set (i := 4) nd rfl (Or.inl rfl) (pe_ix (r := rIxL K) ix_list (pe_lst (pa_cons pe_int (pa_cons pe_int pa_nil))) (pe_cl cD hr (pa_cons (pv 2) (pa_cons pe_int pa_nil))) (fun _ _ => rfl)))
          (pss_cons (ps_asg (pe_cl cSet hr (pa_cons (pv 2) (pa_cons (pe_ix (r := rIxL K) ix_list (pe_lst (pa_cons pe_int (pa_cons pe_int pa_nil))) (pe_cl cD hr (pa_cons (pv 2) (pa_cons pe_int pa_nil))) (fun _ _ => rfl)) (pa_cons (pv 4) pa_nil)))) (pg_tup rfl (pgs_cons (pg_name (i := 5) nd rfl (Or.inl rfl)) (pgs_cons (pg_name (i := 6) nd rfl (Or.inl rfl)) (pgs_cons (pg_name (i := 7) nd rfl (Or.inl rfl)) (pgs_cons (pg_name (i := 8) nd rfl (Or.inl rfl)) pgs_nil))))))
          (pss_cons (ps_asg (pe_cl cRun hr (pa_cons (pv 2) (pa_cons (pv 5) (pa_cons (pv 6) (pa_cons (pv 7) (pa_cons (pv 8) pa_nil)))))) (pg_tup rfl (pgs_cons (pg_name (i := 9) nd rfl (Or.inl rfl)) (pgs_cons (pg_name (i := 10) nd rfl (Or.inl rfl)) (pgs_cons (pg_name (i := 11) nd rfl (Or.inl rfl)) pgs_nil)))))
          (pss_cons (ps_if (pt_cmpR (r := rNeD K) (op_neD hr.units) (pe_cl cTol hr (pa_cons (pv 5) (pa_cons (pv 6) (pa_cons (pv 9) (pa_cons (pv 10) (pa_cons pe_bl pa_nil)))))) (pe_lc (own := [("one", 17)]) (g := gName 17) (tt := tYes) (te := tCB (rTupOf K) (tCons (tCB (rSortedTx K) (tCons (tVar 17) tNil)) tNil)) rfl nd (pi_list (pv 11)) (blkOk_by (N := Nlaw) (sc := defScope sLaw) (by decide +kernel))
        (fun _ _ _ _ _ => pg_name (i := 17) nd rfl (Or.inl rfl)) (fun _ _ _ _ _ => pts_nil) (fun _ _ _ _ _ => pe_callTy call_tuple_of (by rfl) B0.tuple bt_tuple (pa_cons (pe_callB cr_sortedTx (by rfl) BS.sorted bt_sorted (pa_cons (pv 17) pa_nil)) pa_nil))) (nomark _))
            (pss_one (ps_ret pe_bl))
            pss_nil)
          (pss_cons (ps_for PassesOwn.never rfl (pi_list (pe_lst (pa_cons (pv 9) (pa_cons (pe_cl cBen hr (pa_cons (pv 2) (pa_cons (pv 9) pa_nil))) pa_nil)))) (pg_name (i := 12) nd rfl (Or.inl rfl))
            (pss_one (ps_for PassesOwn.never rfl (pi_list (pe_op op_cat (pe_lst (pa_cons (pv 10) pa_nil)) (pe_cl cCha hr (pa_cons (pv 2) (pa_cons (pv 10) (pa_cons (pv 7) pa_nil)))))) (pg_name (i := 13) nd rfl (Or.inl rfl))
              (pss_cons (ps_set (i := 14) nd rfl (Or.inl rfl) (pe_callB (call_reprV hr hG) (by rfl) B2.repr bt_repr (pa_cons (pe_lst (pa_cons (pv 6) (pa_cons (pv 12) (pa_cons (pv 13) pa_nil)))) pa_nil)))
              (pss_cons (ps_set (i := 15) nd rfl (Or.inl rfl) (pe_cl cTol hr (pa_cons (pv 5) (pa_cons (pv 6) (pa_cons (pv 12) (pa_cons (pv 13) (pa_cons (pe_cmpR op_eq (pv 3) pe_int (nomark _)) pa_nil)))))))
              (pss_cons (ps_if (pt_cmpR op_ne (pe_callB (call_reprV hr hG) (by rfl) B2.repr bt_repr (pa_cons (pv 15) pa_nil)) (pe_callB (call_reprV hr hG) (by rfl) B2.repr bt_repr (pa_cons (pe_cl cFol hr (pa_cons (pv 5) (pa_cons (pv 6) (pa_cons (pv 12) (pa_cons (pv 13) pa_nil))))) pa_nil)) (nomark _))
                (pss_one (ps_ret pe_bl))
                pss_nil)
              (pss_one (ps_if (pt_cmpR op_ne (pe_callB (call_reprV hr hG) (by rfl) B2.repr bt_repr (pa_cons (pe_lst (pa_cons (pv 6) (pa_cons (pv 12) (pa_cons (pv 13) pa_nil)))) pa_nil)) (pv 14) (nomark _))
                (pss_one (ps_ret pe_bl))
                pss_nil))))))))
          (pss_cons (ps_set (i := 16) nd rfl (Or.inl rfl) (pe_cl cRep hr (pa_cons (pv 5) (pa_cons (pv 6) (pa_cons (pv 9) (pa_cons (pv 10) pa_nil))))))
          (pss_cons (ps_expr (pe_bm PySem.F.plainAttrs_list PySem.F.slot_list_append PySem.F.type_list_append mt_append (pv 16) (pa_cons (pe_tup pa_nil) pa_nil)))
          (pss_cons (ps_if (pt_cmpR (r := rNeD K) (op_neD hr.units) (pe_cl cRep hr (pa_cons (pv 5) (pa_cons (pv 6) (pa_cons (pv 9) (pa_cons (pv 10) pa_nil))))) (pe_slice sl_list (pv 16) po_none (po_some (pe_un un_neg pe_int))) (nomark _))
            (pss_one (ps_ret pe_bl))
            pss_nil)
          (pss_cons (ps_expr (pe_bm PySem.F.plainAttrs_list PySem.F.slot_list_append PySem.F.type_list_append mt_append (pv 10) (pa_cons pe_str pa_nil)))
          (pss_one (ps_if (pt_cmp (pc_notN (pe_cl cTol hr (pa_cons (pv 5) (pa_cons (pv 6) (pa_cons (pv 9) (pa_cons (pv 10) (pa_cons pe_bl pa_nil))))))))
            (pss_one (ps_ret pe_bl))
            pss_nil)))))))))))))))
      (pss_one (ps_ret (pe_cmpR (r := rEqD K) (op_eqD hr.units) (pe_cl cRep hr (pa_cons pe_int (pa_cons (pe_tup pa_nil) (pa_cons (pe_lst (pa_cons (pe_tup (pa_cons pe_str (pa_cons pe_str pa_nil))) (pa_cons (pe_tup (pa_cons pe_str (pa_cons pe_str pa_nil))) pa_nil))) (pa_cons (pe_lst (pa_cons pe_str pa_nil)) pa_nil))))) (pe_lst (pa_cons (pe_tup pa_nil) (pa_cons (pe_tup (pa_cons pe_str pa_nil)) (pa_cons (pe_tup (pa_cons pe_str pa_nil)) pa_nil)))) (nomark _))))).nox, ?_⟩
    have hsc : (ns.map V.int).length = ns.length := List.length_map ..
    obtain ⟨rounds, hro, hr6⟩ : ∃ n : Nat, (if (if ((ns.map V.int).length : Int) < 6 then ((ns.map V.int).length : Int) else 6) > 1 then (if ((ns.map V.int).length : Int) < 6 then ((ns.map V.int).length : Int) else 6) else 1) = (n : Int) ∧ n ≤ 6 := by
      obtain ⟨n, hn⟩ := nat_of (show 0 ≤ (if (if ((ns.map V.int).length : Int) < 6 then ((ns.map V.int).length : Int) else 6) > 1 then (if ((ns.map V.int).length : Int) < 6 then ((ns.map V.int).length : Int) else 6) else 1) by split <;> (try split) <;> omega)
      refine ⟨n, hn, ?_⟩
      split at hn <;> (try split at hn) <;> omega
    refine q_forN (n := rounds) (ea_cons (ev_is (ev_cb (vs := [.int 1, .int (if ((ns.map V.int).length : Int) < 6 then ((ns.map V.int).length : Int) else 6)]) (ea_cons ev_c (ea_cons (ev_cb (ea_cons ev_c (ea_cons (ev_len (ev_var rfl) hns) ea_nil)) fun H7 e7 Q' k => ⟨_, _, rfl, k H7 (Ex.refl H7)⟩) ea_nil)) fun H7 e7 Q' k => ⟨_, _, rfl, k H7 (Ex.refl H7)⟩) (by rw [hro])) ea_nil) (by omega)
      (fun i σ H' => ∃ y1 y2 y3 y4 y5 y6 y7 y8 y9 y10 y11 y12 y13 y14 y15 y16 y17, σ = [some (.ref a), y1, y2, y3, y4, y5, y6, y7, y8, y9, y10, y11, y12, y13, y14, y15, y16, y17] ∧ Ex H H') (fun H1 e1 => ⟨_, _, _, _, _, _, _, _, _, _, _, _, _, _, _, _, _, rfl, e1⟩) (fun i σ H0 hi hP => ?_) (fun σ H0 hP => ?_)
    · obtain ⟨y1, y2, y3, y4, y5, y6, y7, y8, y9, y10, y11, y12, y13, y14, y15, y16, y17, rfl, e0⟩ := hP
      -- source
      refine ⟨.ref a, rfl, .int (i : Int), rfl, a, i, ns, rfl, ex_l e0 hns, by omega, fun p H1 hp1 e1 S1 => ?_⟩
      have k1 := e0.trans e1
      have fp : H p = none := fresh_back e0 hp1
      refine s_forR1 (n := 2) (ea_cons ev_c ea_nil) (by decide) (fun u σ H' => ∃ y3 y4 y5 y6 y7 y8 y9 y10 y11 y12 y13 y14 y15 y16 y17, σ = [some (.ref a), some (.int (i : Int)), some (.ref p), y3, y4, y5, y6, y7, y8, y9, y10, y11, y12, y13, y14, y15, y16, y17] ∧ Ex H H' ∧ SrcAt H' p (3000 * (u : Int)))
        (fun H2 e2 => ⟨_, _, _, _, _, _, _, _, _, _, _, _, _, _, _, rfl, k1.trans e2, (S1.mono e2).le (by omega)⟩) (fun u σ H2 hu hP => ?_) (fun σ H2 hP => ?_)
      · obtain ⟨y3, y4, y5, y6, y7, y8, y9, y10, y11, y12, y13, y14, y15, y16, y17, rfl, k2, S2⟩ := hP
        refine q_asgW (w_two rfl S2 (by omega) fun lv H3 hlv e3 S3 => ?_)
        have k3 : Ex H H3 := exP0 k2 fp e3
        refine q_asgG (go_call (go_cons ((show Ev (tVar 2) _ _ (.ref p) from ev_var rfl) H3 (Ex.refl _) _ fun H4 e4 => go_cons (w_two rfl (S3.mono e4) (by omega) fun mv H5 hmv e5 S5 => go_cons ((show Ev (tVar 4) _ _ (.int lv) from ev_var rfl) H5 (Ex.refl _) _ fun H6 e6 => go_nil ?_)))))
        have k5 : Ex H H6 := (exP0 (k3.trans e4) fp e5).trans e6
        refine ⟨p, mv, lv, _, rfl, S5.mono e6, by omega, by omega, by omega, by omega, by omega, fun T t pg room n c0 pages H7 _ _ _ npg e7 S7 hT ht hpg r1 r2 pc0 lc0 ppg nepg hn => ?_⟩
        have k7 : Ex H H7 := exP0 k5 fp e7
        refine ⟨T, _, rfl, .inl (.inl hT), rfl, .int (room : Int), _, rfl, .ref t, _, rfl, .ref pg, _, rfl, .int (n : Int), _, rfl, rfl, ?_⟩
        -- run
        refine ⟨.ref p, rfl, .int (room : Int), rfl, .ref t, rfl, .ref pg, rfl, .int (n : Int), rfl, p, t, pg, room, n, c0, pages, _, rfl, S7, by omega, r1, by omega, .inl (.inl ht), pc0, lc0, sq_of hpg, npg, ppg, nepg, by omega, fun T2 cp hp gp cq ts qs es gs css cs H8 _ hT2 ww r hes => ?_⟩
        refine ⟨T2, _, rfl, .inl (.inl hT2), rfl, .ref hp, _, rfl, .ref gp, _, rfl, .ref cq, _, rfl, rfl, ?_⟩
        obtain ⟨i1, i2, i3, i4, i5, i6, i7⟩ := r.facts lc0 pc0.nd pc0.all
        obtain ⟨xs7, hp7⟩ := S7.is
        have ntp : t ≠ p := ne_of ht hp7 (by intro z; cases z)
        have hes125 : es.length ≤ 125 := by omega
        have fgp : H gp = none := by
          cases z : H gp with
          | none => rfl
          | some o =>
            have := k7 _ _ z
            rw [ww.f3] at this
            cases this
        have hgr := replay_run lc0 pc0 i6 r
        have hgp : ∀ g ∈ gs, pageB g = true := fun g hg => by
          have h2 : (if ((gs.map PyData.str).all pageD && decide ((gs.map PyData.str).length = (lates room c0.length es).length)) = true then (rp (evAt (lates room c0.length es) ((gs.map PyData.str).map textD)) 0 (sortS c0) es).map (sortS c0 :: ·) else none) = some (css.map sortS) := hgr
          split at h2
          · rename_i hc
            rw [Bool.and_eq_true, List.all_eq_true] at hc
            exact hc.1 (.str g) (List.mem_map.mpr ⟨g, hg, rfl⟩)
          · cases h2
        have hgl : gs.length ≤ 125 := by
          rw [i3]
          have := lates_len room c0.length es
          omega
        have w8 : KT H H8 p t hp gp cq pg room c0 pages es gs css (3000 * (u : Int) + 1 + 1 + 170 + 700) := {
          ex := exP0 k7 fp ww.ex, src := ww.src, ht := ww.ex _ _ (by rw [hid_ne ntp]; exact ht), ev := ⟨⟨ts, ww.hhp, ww.hts⟩⟩, hg := ww.hgp, hc := ⟨qs, ww.hcq, ww.hqs, ww.a4.symm, fun q hq => (ww.dq q hq).2.2.2.2.1⟩, hpg := ww.ex _ _ (by rw [hid_ne npg]; exact hpg)
          fp := fp, fg := fgp, n1 := ww.a2.symm, n2 := ww.a3.symm, n3 := npg, n4 := ww.d4, c1 := r1, c2 := r2, pc := pc0, le := lc0, pp := ppg, ne := nepg, ok := i6, el := hes125 }
        have cg : CsG (css.map sortS) := replay_good pc0 lc0 (by omega) i6 (by omega) hgr
        have cgp : ∀ T ∈ css.map sortS, ∀ p ∈ T, pageB p = true := fun T hT => (cg.row T hT).2
        have hgD : ∀ {H' : Hp} {B : Int}, KT H H' p t hp gp cq pg room c0 pages es gs css B → DV K H' (.ref gp) (.list (pD gs)) := fun s => .lst s.hg (dvs_strs gs)
        have thG : ThD (.list (pD gs)) := th_list (by rw [pD_len]; omega) fun d hd => by
          obtain ⟨x, hx, rfl⟩ := List.mem_map.mp hd
          exact gi_page (hgp x hx)
        have smG : smallD (.list (pD gs)) = true := (thG.fit.tell (by decide) (by decide) (by decide)).1
        have hcl : css.length ≤ 310 := by have := cg.len; rw [List.length_map] at this; exact this
        clear ww i1 i2 i3 i4 i7 hT hT2 ht hpg
        refine gName_go ?_
        dsimp only
        -- the run is told
        refine q_when (b := false) (et_test ?_) (fun z => by cases z) (fun _ H9 e9 => ?_)
        · obtain ⟨qs', h1, h2, _, _⟩ := w8.hc
          refine ev_neCs (css := css.map sortS) ?_ (dn_lcCs (fun _ => rfl) (ev_var rfl) h1 h2 (by omega) (fun _ => rfl)) cgp
          have := dn_told (K := K) (σ := [some (.ref a), some (.int (i : Int)), some (.ref p), some (.int (u : Int)), some (.int lv), some (.int (room : Int)), some (.ref t), some (.ref pg), some (.int (n : Int)), some (.ref hp), some (.ref gp), some (.ref cq), y12, y13, y14, y15, y16, y17]) (H := H8) (as := tCons (tVar 5) (tCons (tVar 6) (tCons (tVar 9) (tCons (tVar 10) (tCons (tC (.bl false)) tNil))))) (ea_cons (ev_var rfl) (ea_cons (ev_var rfl) (ea_cons (ev_var rfl) (ea_cons (ev_var rfl) (ea_cons ev_c ea_nil))))) w8.pl (hgD w8) smG
          rw [show replayD room c0 es (.list (pD gs)) = some (css.map sortS) from hgr] at this
          exact this
        · have w9 := w8.mono e9
          have S10 := w9.src
          refine go_seq (go_forL (go_lstS (go_cons ((show Ev (tVar 9) _ _ (.ref hp) from ev_var rfl) H9 (Ex.refl _) _ fun H10 e10 => go_cons (go_call (go_cons ((show Ev (tVar 2) _ _ (.ref p) from ev_var rfl) H10 (Ex.refl _) _ fun H11 e11 => go_cons ((show Ev (tVar 9) _ _ (.ref hp) from ev_var rfl) H11 (Ex.refl _) _ fun H12 e12 => go_nil ?_))))))))
          have w12 := w9.mono (e10.trans (e11.trans e12))
          refine ⟨p, hp, es, _, rfl, w12.src, by omega, w12.ev, w12.n1, w12.ok, by omega, fun bp es2 H13 nbp e13 S13 ev13 ok13 len13 => go_nil ⟨show 2 ≤ sizeLine by decide, fun rl nrl => ⟨rl, rfl, ⟨_, sq_of upd_same⟩, ?_⟩⟩⟩
          have xr := Ex.new (o := .lst [V.ref hp, V.ref bp]) nrl
          have w14 := (w12.draw e13 S13).mono xr
          have ev14 := ev13.mono xr
          obtain ⟨xs12, hp12⟩ := w12.src.is
          have nbpp : bp ≠ p := (ne_of_none hp12 nbp).symm
          obtain ⟨xs13, hp13⟩ := S13.is
          have nrlp : rl ≠ p := (ne_of_none hp13 nrl).symm
          have hrl : upd H13 rl (.lst [V.ref hp, V.ref bp]) rl = some (.lst [V.ref hp, V.ref bp]) := upd_same
          generalize upd H13 rl _ = H14 at w14 ev14 hrl ⊢
          have two_xs : ([V.ref hp, V.ref bp] : List V).length = 2 := rfl
          refine s_forFixL (a := rl) (xs := [V.ref hp, V.ref bp]) (fun j σ H' => ∃ y12 y13 y14 y15 y16 y17, σ = [some (.ref a), some (.int (i : Int)), some (.ref p), some (.int (u : Int)), some (.int lv), some (.int (room : Int)), some (.ref t), some (.ref pg), some (.int (n : Int)), some (.ref hp), some (.ref gp), some (.ref cq), y12, y13, y14, y15, y16, y17] ∧ KT H H' p t hp gp cq pg room c0 pages es gs css (3000 * (u : Int) + 900 + 10 * (j : Int)) ∧ H' rl = some (.lst [V.ref hp, V.ref bp]) ∧ EvM H' bp es2)
            ⟨_, _, _, _, _, _, rfl, w14.leB (by omega), hrl, ev14⟩ (fun j σ H' _ hP => ?_) (fun j x σ H' hx hP => ?_) (fun σ H' hP => ?_)
          · obtain ⟨_, _, _, _, _, _, _, _, h2, _⟩ := hP
            exact sq_of h2
          · obtain ⟨y12, y13, y14, y15, y16, y17, rfl, wj, hrj, evj⟩ := hP
            have hj2 : j < 2 := (List.getElem?_eq_some_iff.mp hx).1
            have hrow : ∃ (rw : Addr) (es3 : List Ev1), x = .ref rw ∧ (∀ {H4 : Hp} {B : Int}, KT H H4 p t hp gp cq pg room c0 pages es gs css B → EvM H4 bp es2 → EvM H4 rw es3) ∧ (∀ e ∈ es3, okE e) ∧ es3.length ≤ 291 := by
              have : j = 0 ∨ j = 1 := by omega
              rcases this with rfl | rfl
              · have e1 : x = .ref hp := by
                  have : some (V.ref hp) = some x := hx
                  exact (Option.some.inj this).symm
                exact ⟨hp, es, e1, fun k _ => k.ev, w9.ok, by omega⟩
              · have e1 : x = .ref bp := by
                  have : some (V.ref bp) = some x := hx
                  exact (Option.some.inj this).symm
                exact ⟨bp, es2, e1, fun _ k => k, ok13, len13⟩
            obtain ⟨rw, es3, rfl, hev3, ok3, len3⟩ := hrow
            have plr : ∀ {H4 : Hp} {B : Int}, KT H H4 p t hp gp cq pg room c0 pages es gs css B → EvM H4 bp es2 → PL H4 t rw room c0 es3 := fun k k2 => ⟨k.c1, k.ht, k.pc, k.le, hev3 k k2, ok3, by omega⟩
            refine gName_go ?_
            dsimp only
            refine go_forL (go_op (go_lstS (go_cons ((show Ev (tVar 10) _ _ (.ref gp) from ev_var rfl) H' (Ex.refl _) _ fun H15 e15 => go_nil ⟨show 1 ≤ sizeLine by decide, fun l1 nl1 => ?_⟩))))
            have x1 := Ex.new (o := .lst [V.ref gp]) nl1
            have wk := (wj.mono e15).mono x1
            have evk := (evj.mono e15).mono x1
            have hl1 : upd H15 l1 (.lst [V.ref gp]) l1 = some (.lst [V.ref gp]) := upd_same
            have hrk := x1 _ _ (e15 _ _ hrj)
            obtain ⟨xs15, hp15⟩ := (wj.mono e15).src.is
            have nl1p : l1 ≠ p := (ne_of_none hp15 nl1).symm
            generalize upd H15 l1 _ = H16 at wk evk hl1 hrk ⊢
            refine go_call (go_cons ((show Ev (tVar 2) _ _ (.ref p) from ev_var rfl) H16 (Ex.refl _) _ fun H17 e17 => go_cons ((show Ev (tVar 10) _ _ (.ref gp) from ev_var rfl) H17 (Ex.refl _) _ fun H18 e18 => go_cons ((show Ev (tVar 7) _ _ (.ref pg) from ev_var rfl) H18 (Ex.refl _) _ fun H19 e19 => go_nil ?_))))
            have e1619 := e17.trans (e18.trans e19)
            have wm := wk.mono e1619
            refine ⟨p, gp, pg, gs, pages, _, rfl, wm.src, by omega, wm.hg, wm.n2, wm.hpg, wm.n3, wm.ne, by have := wm.pp.len; omega, wm.pp.all, hgp, by omega, fun cr xs ds H20 ncr e20 S20 hcr dv20 th20 len20 => ?_⟩
            have wn := wm.draw e20 S20
            have ev20 := (evk.mono e1619).draw nbpp wm.src e20
            have hl20 := e20 _ _ (by rw [hid_ne nl1p]; exact e1619 _ _ hl1)
            have hr20 := e20 _ _ (by rw [hid_ne nrlp]; exact e1619 _ _ hrk)
            refine ⟨l1, cr, [V.ref gp], xs, rfl, rfl, hl20, hcr, sz_of (by rw [dvs_len dv20]; show 1 + _ ≤ _; omega), fun tl ntl => ⟨tl, rfl, ⟨_, sq_of upd_same⟩, ?_⟩⟩
            have xt := Ex.new (o := .lst ([V.ref gp] ++ xs)) ntl
            have wt := wn.mono xt
            have evt := ev20.mono xt
            have hrt := xt _ _ hr20
            have htl : upd H20 tl (.lst ([V.ref gp] ++ xs)) tl = some (.lst ([V.ref gp] ++ xs)) := upd_same
            have dvt : DVs K (upd H20 tl (.lst ([V.ref gp] ++ xs))) ([V.ref gp] ++ xs) (.list (pD gs) :: ds) := .cons (hgD wt) (DVs.mono xt _ _ dv20)
            have tht : ∀ d ∈ (PyData.list (pD gs) :: ds), ThD d := fun d hd => (List.mem_cons.mp hd).elim (fun z => by rw [z]; exact thG) (th20 d)
            generalize upd H20 tl _ = H21 at wt evt hrt htl dvt ⊢
            refine s_forFixL (a := tl) (xs := [V.ref gp] ++ xs) (fun m σ H' => ∃ y13 y14 y15 y16 y17, σ = [some (.ref a), some (.int (i : Int)), some (.ref p), some (.int (u : Int)), some (.int lv), some (.int (room : Int)), some (.ref t), some (.ref pg), some (.int (n : Int)), some (.ref hp), some (.ref gp), some (.ref cq), some (.ref rw), y13, y14, y15, y16, y17] ∧ Ex H21 H')
              ⟨_, _, _, _, _, rfl, Ex.refl _⟩ (fun m σ H' _ hP => ?_) (fun m x σ H' hx hP => ?_) (fun σ H' hP => ?_)
            · obtain ⟨_, _, _, _, _, _, h2⟩ := hP
              exact sq_of (h2 _ _ htl)
            · obtain ⟨y13, y14, y15, y16, y17, rfl, ex⟩ := hP
              obtain ⟨d, hd, hdv⟩ := dvs_at dvt hx
              have th := tht d (List.mem_of_getElem? hd)
              have sm : smallD d = true := (th.fit.tell (by decide) (by decide) (by decide)).1
              have wx := wt.mono ex
              have evx := evt.mono ex
              have dvx := DV.mono ex _ _ hdv
              have plx := plr wx evx
              have f3 := three_fit (ps := c0) wx.pc ok3 (by omega) th
              have sysx : Sys K H' := hsys.mono wx.ex
              have row_dv : ∀ {H4 : Hp}, Ex H' H4 → DV K H4 (.ref rw) (logD es3) := fun e4 => by
                obtain ⟨⟨ts3, t1, t2⟩⟩ := (plx.mono e4).ev
                exact .lst t1 (dvs_evs t2)
              have three : ∀ {σ : L2.St} {H4 : Hp}, σ[6]? = some (some (.ref t)) → σ[12]? = some (some (.ref rw)) → σ[13]? = some (some x) → Ex H' H4 → Ev (tCB (rReprV K) (tCons (tLst (tCons (tVar 6) (tCons (tVar 12) (tCons (tVar 13) tNil)))) tNil)) σ H4 (.str (PyData.list [.tuple (pD c0), logD es3, d]).shown) := fun s6 s12 s13 e4 =>
                ev_reprN (sysx.mono e4) (dn_o (on_lst (dns_cons (dn_ev (ev_var s6) (.tup (.inl (.inl (e4 _ _ wx.ht))) (dvs_strs c0))) (dns_cons (dn_ev (ev_var s12) (row_dv e4)) (dns_cons (dn_ev (ev_var s13) (DV.mono e4 _ _ dvx)) dns_nil))) (show 3 ≤ 100000 by decide))) f3 (by decide) (by decide) (by decide)
              refine gName_go ?_
              dsimp only
              refine q_asg (three rfl rfl rfl (Ex.refl _)) fun H22 e22 => ?_
              have rG : ∀ cs2, replayD room c0 es3 d = some cs2 → CsG cs2 := fun cs2 h => replay_good wx.pc wx.le (by have := wx.c2; omega) ok3 (by omega) h
              refine q_asgW ((dn_told (b := decide (V.int (u : Int) = V.int 1)) (ea_cons (ev_var rfl) (ea_cons (ev_var rfl) (ea_cons (ev_var rfl) (ea_cons (ev_var rfl) (ea_cons (ev_op (ev_var rfl) ev_c (rv_eq rfl)) ea_nil))))) (plx.mono e22) (DV.mono e22 _ _ dvx) sm) H22 (Ex.refl _) _ fun fv H23 e23 dv23 => ?_)
              have e2223 := e22.trans e23
              refine q_when (b := !decide (V.str (optD (replayD room c0 es3 d)).shown = V.str (optD (fwD room c0 es3 d)).shown)) (et_test (ev_op (ev_reprV (sysx.mono e2223) (ev_var rfl) dv23 (opt_fit rG) (by decide) (by decide) (by decide)) (ev_reprN (sysx.mono e2223) (dn_fol (ea_cons (ev_var rfl) (ea_cons (ev_var rfl) (ea_cons (ev_var rfl) (ea_cons (ev_var rfl) ea_nil)))) (plx.mono e2223) (DV.mono e2223 _ _ dvx) th.gt) (opt_fit fun cs2 h => rG cs2 (by rw [replay_fw wx.pc wx.le ok3]; exact h)) (by decide) (by decide) (by decide)) (rv_ne rfl))) (fun hb => ?_) (fun _ H24 e24 => ?_)
              · rw [replay_fw wx.pc wx.le ok3, decide_eq_true rfl] at hb
                cases hb
              · have e2224 := e2223.trans e24
                refine s_when (b := !decide (V.str (PyData.list [.tuple (pD c0), logD es3, d]).shown = V.str (PyData.list [.tuple (pD c0), logD es3, d]).shown)) (et_test (ev_op (three rfl rfl rfl e2224) (ev_var rfl) (rv_ne rfl))) (fun hb => ?_) (fun _ H25 e25 => ?_)
                · rw [decide_eq_true rfl] at hb
                  cases hb
                · exact ⟨_, _, _, _, _, rfl, ex.trans (e2224.trans e25)⟩
            · obtain ⟨y13, y14, y15, y16, y17, rfl, ex⟩ := hP
              exact ⟨_, _, _, _, _, _, rfl, (wt.mono ex).leB (by push_cast; omega), ex _ _ hrt, evt.mono ex⟩
          · obtain ⟨y12, y13, y14, y15, y16, y17, rfl, wj, hrj, evj⟩ := hP
            rw [two_xs] at wj
            -- again
            refine q_asgW (go_call ((show EvA (tCons (tVar 5) (tCons (tVar 6) (tCons (tVar 9) (tCons (tVar 10) tNil)))) _ _ [.int (room : Int), .ref t, .ref hp, .ref gp] from ea_cons (ev_var rfl) (ea_cons (ev_var rfl) (ea_cons (ev_var rfl) (ea_cons (ev_var rfl) ea_nil)))) H' (Ex.refl _) _ fun H15 e15 => ?_))
            have w15 := wj.mono e15
            refine ⟨room, t, hp, .ref gp, .list (pD gs), c0, es, css.map sortS, rfl, w15.pl, hgD w15, smG, hgr, fun ag H16 nag e16 c16 => ?_⟩
            obtain ⟨us, ag1, ag2⟩ := c16.at_
            have hul := paired_len ag2
            rw [List.length_map] at hul
            refine q_appU (l := ag) (xs := us.map V.ref) (ys := []) ag1 (ev_var rfl) (eu_tup ea_nil (Nat.zero_le _)) (by rw [List.length_map]; omega) fun et H17 net e17 h17 => ?_
            have exm : Ex H15 (upd H17 ag (.lst (us.map V.ref ++ [V.ref et]))) := Ex.mut (e16.trans e17) nag
            have w17 := w15.mono exm
            have hag : upd H17 ag (.lst (us.map V.ref ++ [V.ref et])) ag = some (.lst (us.map V.ref ++ [V.ref et])) := upd_same
            have pag : Paired (fun t (S : List Str) => upd H17 ag (.lst (us.map V.ref ++ [V.ref et])) t = some (.tup (S.map V.str))) us (css.map sortS) := Paired.imp ag2 fun y Y hy => by
              have := e17 _ _ hy
              show upd H17 ag _ y = _
              rw [upd_ne (ne_of this (e17 _ _ ag1) (by intro q; cases q))]
              exact this
            generalize upd H17 ag _ = H18 at w17 hag pag exm ⊢
            refine q_when (b := false) (et_test (ev_neCs (css := css.map sortS) (dn_rep (ea_cons (ev_var rfl) (ea_cons (ev_var rfl) (ea_cons (ev_var rfl) (ea_cons (ev_var rfl) ea_nil)))) w17.pl (hgD w17) smG hgr) ?_ cgp)) (fun z => by cases z) (fun _ H19 e19 => ?_)
            · exact fun H1 e Q q => (el_slL (ev_var rfl) (sq_of hag) ep_no (ep_i (ev_un ev_c ru_neg))) H1 e _ fun l H2 nl e2 h2 => q _ H2 e2 (CsM.dv ⟨us, by rw [h2, cut_last], Paired.imp pag fun _ _ z => (e.trans e2) _ _ z⟩)
            · have w19 := w17.mono e19
              refine q_app (l := gp) (xs := gs.map V.str) (v := .str "a") w19.hg (ev_var rfl) ev_c (by rw [List.length_map]; omega) fun H20 e20 => ?_
              have w20 := w19.mono e20
              have hgp2 : upd H20 gp (.lst (gs.map V.str ++ [V.str "a"])) gp = some (.lst ((gs ++ [("a" : Str)]).map V.str)) := by rw [upd_same, List.map_append]; rfl
              have ex21 : Ex H (upd H20 gp (.lst (gs.map V.str ++ [V.str "a"]))) := Ex.mut w20.ex w20.fg
              have S21 : SrcAt (upd H20 gp (.lst (gs.map V.str ++ [V.str "a"]))) p (3000 * (u : Int) + 920) := ((w20.src).upd w20.n2.symm).le (by push_cast; omega)
              have pl21 : PL (upd H20 gp (.lst (gs.map V.str ++ [V.str "a"]))) t hp room c0 es := by
                obtain ⟨⟨ts3, t1, t2⟩⟩ := w20.ev
                refine ⟨w20.c1, by rw [upd_ne (ne_of w20.ht w20.hg (by intro q; cases q))]; exact w20.ht, w20.pc, w20.le, ⟨⟨ts3, by rw [upd_ne w20.n4]; exact t1, ?_⟩⟩, w20.ok, by omega⟩
                exact tup_upd w20.hg t2
              generalize upd H20 gp _ = H21 at hgp2 ex21 S21 pl21 ⊢
              have hga : ∀ g ∈ gs ++ [("a" : Str)], pageB g = true := fun g hg => (List.mem_append.mp hg).elim (hgp g) fun z => by rw [List.mem_singleton.mp z]; decide +kernel
              have thA : ThD (.list (pD (gs ++ [("a" : Str)]))) := th_list (by rw [pD_len, List.length_append]; show _ + 1 ≤ _; omega) fun d hd => by
                obtain ⟨x, hx, rfl⟩ := List.mem_map.mp hd
                exact gi_page (hga x hx)
              have rN : replayD room c0 es (.list (pD (gs ++ [("a" : Str)]))) = none := replay_long (by
                have h2 : (if ((gs.map PyData.str).all pageD && decide ((gs.map PyData.str).length = (lates room c0.length es).length)) = true then (rp (evAt (lates room c0.length es) ((gs.map PyData.str).map textD)) 0 (sortS c0) es).map (sortS c0 :: ·) else none) = some (css.map sortS) := hgr
                rw [pD_len, List.length_append]
                split at h2
                · rename_i hc
                  rw [Bool.and_eq_true, decide_eq_true_eq, List.length_map] at hc
                  rw [← hc.2]
                  show ¬ gs.length + 1 = _
                  omega
                · cases h2)
              refine s_when (b := false) (et_is (et_B (ev_notN (x := V.non) ?_)) (by decide)) (fun z => by cases z) (fun _ H22 e22 => ?_)
              · have := dn_told (K := K) (H := H21) (σ := [some (.ref a), some (.int (i : Int)), some (.ref p), some (.int (u : Int)), some (.int lv), some (.int (room : Int)), some (.ref t), some (.ref pg), some (.int (n : Int)), some (.ref hp), some (.ref gp), some (.ref cq), y12, y13, y14, y15, some (.ref ag), y17]) (as := tCons (tVar 5) (tCons (tVar 6) (tCons (tVar 9) (tCons (tVar 10) (tCons (tC (.bl false)) tNil))))) (ea_cons (ev_var rfl) (ea_cons (ev_var rfl) (ea_cons (ev_var rfl) (ea_cons (ev_var rfl) (ea_cons ev_c ea_nil))))) pl21 (.lst hgp2 (dvs_strs _)) ((thA.fit.tell (by decide) (by decide) (by decide)).1)
                rw [rN] at this
                exact fun H1 e Q q => this H1 e _ fun v H2 e2 hv => by
                  cases hv
                  exact q H2 e2
              · exact ⟨_, _, _, _, _, _, _, _, _, _, _, _, _, _, _, rfl, ex21.trans e22, (S21.mono e22).le (by push_cast; omega)⟩
      · obtain ⟨y3, y4, y5, y6, y7, y8, y9, y10, y11, y12, y13, y14, y15, y16, y17, rfl, k2, S2⟩ := hP
        exact ⟨_, _, _, _, _, _, _, _, _, _, _, _, _, _, _, _, _, rfl, k2⟩
    · obtain ⟨y1, y2, y3, y4, y5, y6, y7, y8, y9, y10, y11, y12, y13, y14, y15, y16, y17, rfl, e0⟩ := hP
      have hrr : replayD 1 [] [(missS, pA), (missS, pB)] (.list (pD [pA])) = some cAB := by
        have r0 : RunTo 1 [] ([] ++ [(missS, pA)] ++ [(missS, pB)]) ([] ++ [pA]) ([[]] ++ [[] ++ [pA]] ++ [([] ++ [pA] : List Str).eraseIdx 0 ++ [pB]]) (([] ++ [pA] : List Str).eraseIdx 0 ++ [pB]) :=
          .evict (.add .nil (by simp) (by decide +kernel) (by decide)) (by decide +kernel) (by decide +kernel) rfl rfl
        have h0 := replay_run (Nat.zero_le _) (show Pages [] from ⟨fun p (h : p ∈ []) => (nomatch h), List.nodup_nil, Nat.zero_le _⟩) (fun e he => by
          simp only [List.nil_append, List.cons_append, List.mem_cons, List.not_mem_nil, or_false] at he
          rcases he with rfl | rfl
          · exact ⟨.inr rfl, by decide +kernel⟩
          · exact ⟨.inr rfl, by decide +kernel⟩) r0
        have h1 : (([[]] ++ [[] ++ [pA]] ++ [([] ++ [pA] : List Str).eraseIdx 0 ++ [pB]]).map sortS) = cAB := by simp [sortS]
        rw [h1] at h0
        exact h0
      refine s_ret (v := .bl true) (ev_eqCs (css := cAB) ?_ ?_ ?_) fun H' e => q H'
      · refine fun H1 e Q' q' => go_call (go_cons (go_tC (go_cons ((eu_tup ea_nil (Nat.zero_le _)) H1 (Ex.refl _) _ fun t H2 nt e2 h2 => ?_))))
        refine go_cons (go_lstS (go_cons ((eu_tup (ea_cons ev_c (ea_cons ev_c ea_nil)) (show 2 ≤ 100000 by decide)) H2 (Ex.refl _) _ fun T1 H3 n3 e3 h3 => go_cons ((eu_tup (ea_cons ev_c (ea_cons ev_c ea_nil)) (show 2 ≤ 100000 by decide)) H3 (Ex.refl _) _ fun T2 H4 n4 e4 h4 => go_nil ⟨show 2 ≤ sizeLine by decide, fun l nl => ?_⟩))))
        have x5 := Ex.new (o := .lst [V.ref T1, .ref T2]) nl
        refine go_cons (go_lstS (go_cons (go_tC (go_nil ⟨show 1 ≤ sizeLine by decide, fun gl ngl => ?_⟩))))
        have x6 := Ex.new (o := .lst [V.str pA]) ngl
        have e26 := e2.trans (e3.trans (e4.trans (x5.trans x6)))
        refine go_nil ⟨1, t, l, .ref gl, .list (pD [pA]), [], [(missS, pA), (missS, pB)], cAB, rfl, ⟨Nat.le_refl _, (e3.trans (e4.trans (x5.trans x6))) _ _ h2, (show Pages [] from ⟨fun p (h : p ∈ []) => (nomatch h), List.nodup_nil, Nat.zero_le _⟩), Nat.zero_le _, ⟨⟨[T1, T2], x6 _ _ upd_same, .cons ((e4.trans (x5.trans x6)) _ _ h3) (.cons ((x5.trans x6) _ _ h4) .nil)⟩⟩, fun e he => ?_, by decide⟩, .lst upd_same (.cons (.str _) .nil), by decide +kernel, hrr, fun p H7 np e7 h7 => q' _ H7 (e26.trans e7) h7.dv⟩
        simp only [List.mem_cons, List.not_mem_nil, or_false] at he
        rcases he with rfl | rfl
        · exact ⟨.inr rfl, by decide +kernel⟩
        · exact ⟨.inr rfl, by decide +kernel⟩
      · refine fun H1 e Q' q' => go_lstS (go_cons ((eu_tup ea_nil (Nat.zero_le _)) H1 (Ex.refl _) _ fun T1 H2 n2 e2 h2 => go_cons ((eu_tup (ea_cons ev_c ea_nil) (show 1 ≤ 100000 by decide)) H2 (Ex.refl _) _ fun T2 H3 n3 e3 h3 => go_cons ((eu_tup (ea_cons ev_c ea_nil) (show 1 ≤ 100000 by decide)) H3 (Ex.refl _) _ fun T3 H4 n4 e4 h4 => go_nil ⟨show 3 ≤ sizeLine by decide, fun l nl => ?_⟩))))
        have x5 := Ex.new (o := .lst [V.ref T1, .ref T2, .ref T3]) nl
        exact q' _ _ ((e2.trans (e3.trans e4)).trans x5) (CsM.dv (css := cAB) ⟨[T1, T2, T3], upd_same, .cons ((e3.trans (e4.trans x5)) _ _ h2) (.cons ((e4.trans x5) _ _ h3) (.cons (x5 _ _ h4) .nil))⟩)
      · intro T hT p hp
        simp only [List.mem_cons, List.not_mem_nil, or_false] at hT
        rcases hT with rfl | rfl | rfl
        · cases hp
        · rw [List.mem_singleton.mp hp]
          decide +kernel
        · rw [List.mem_singleton.mp hp]
          decide +kernel
end
end KB

set_option Elab.async false
set_option linter.all false
set_option maxRecDepth 100000
set_option maxHeartbeats 8000000
/-! A11: the end of a law that must know of the module table's place. -/
namespace KB
open PySem PySem.Spec PyProof.Rows L2
open Classical in
/-- the first abstract heap: the script, and the module table's place -/
noncomputable def twoHp (K : PySem.W.Frag) (a : Addr) (o : Obj) (u : HO) (o1 : Obj) : Hp := fun b => if b = a ∧ K.lookup a = none then some (.frz o u) else if b = sysModules ∧ K.lookup sysModules = none then some (.frz o1 (.ext fun _ => True)) else none
theorem law_callS {P : Program} {w : World} {K : PySem.W.Frag} {mg mb : Str → Option Value} {CX : CXT} {k : Nat} {fa a : Addr} {fd : FuncData} {x : Str} {sp : Sp} {s₁ : Shared} {vs : List Value} {ns : List Int}
    (KX : K.In s₁.heap) (hns : s₁.heap.Ns mainGlobals mg) (hb : s₁.heap.Ns builtinsNs mb) (hbb : ∀ x : Str, x ≠ "__name__" → mb x = bootBuiltins x) (hlim : s₁.heap.NoLimit) (hg : s₁.gens = #[]) (hsee : ∃ mm, s₁.heap.Ns sysModules mm ∧ mm "_pylong" = none)
    (ha : s₁.heap.get? a = some { cls := .type "list", data := .seq vs.toArray }) (hi : IntsAre vs ns) (hl : ns.length ≤ sizeLine) (hr : Room k callerA)
    (F : ∀ base : Heap, K.In base → base.Ns mainGlobals mg → FnG P w K mg base CX k fa fd [x] sp) (hbind : ∀ (s : Shared) (u : Value), BindsTo s fd ⟨[u], []⟩ [(x, u)])
    (hsp : ∀ H : Hp, SqL K H a (ns.map V.int) → Sys K H → sp [.ref a] H (fun v _ => v = .bl true) fun _ _ _ => False) (hCX : ∀ H e s', CX [] H s₁ (fun _ _ _ => False) e s' → False) :
    codeAny (model P w) callerA (.call (.ref fa) ⟨[.ref a], []⟩) (fun r s' => r = .ok (.ret (.bool true)) ∧ OldK s₁.heap s'.heap ∧ s'.os = s₁.os ∧ AllBare s'.gens) s₁ := by
  have hv := vals_ints hi
  have hlen := hi.length
  obtain ⟨o1, ho1⟩ : ∃ o1, s₁.heap.get? sysModules = some o1 := ⟨_, hsee.choose_spec.1.choose_spec.choose_spec.choose_spec.1⟩
  generalize hH : twoHp K a { cls := .type "list", data := .seq vs.toArray } (.lst (ns.map V.int)) o1 = H
  have hcase : ∀ b, (H b = none) ∨ (b = a ∧ K.lookup a = none ∧ H b = some (.frz { cls := .type "list", data := .seq vs.toArray } (.lst (ns.map V.int)))) ∨ (b = sysModules ∧ K.lookup sysModules = none ∧ H b = some (.frz o1 (.ext fun _ => True))) := fun b => by
    rw [← hH]
    unfold twoHp
    by_cases e1 : b = a ∧ K.lookup a = none
    · rw [if_pos e1]
      exact .inr (.inl ⟨e1.1, e1.2, rfl⟩)
    · rw [if_neg e1]
      by_cases e2 : b = sysModules ∧ K.lookup sysModules = none
      · rw [if_pos e2]
        exact .inr (.inr ⟨e2.1, e2.2, rfl⟩)
      · rw [if_neg e2]
        exact .inl rfl
  have hsys : Sys K H := by
    by_cases hk : K.lookup sysModules = none
    · refine .inl ?_
      rw [← hH]
      unfold twoHp
      by_cases e1 : sysModules = a ∧ K.lookup a = none
      · rw [if_pos e1]
        exact ⟨_, _, rfl⟩
      · rw [if_neg e1, if_pos ⟨rfl, hk⟩]
        exact ⟨_, _, rfl⟩
    · obtain ⟨o, ho⟩ := Option.ne_none_iff_exists'.mp hk
      exact .inr ⟨o, ho⟩
  have hS : SqL K H a (ns.map V.int) := by
    by_cases hk : K.lookup a = none
    · refine .inl (.inr ⟨{ cls := .type "list", data := .seq vs.toArray }, ?_⟩)
      rw [← hH]
      unfold twoHp
      rw [if_pos ⟨rfl, hk⟩]
    · obtain ⟨o, ho⟩ := Option.ne_none_iff_exists'.mp hk
      have e := KX a o ho
      rw [ha] at e
      cases e
      exact .inr ⟨_, vs.toArray, _, ho, rfl, rfl, rfl, by rw [List.size_toArray, hlen]; exact hl, by simpa using hv⟩
  have hok : HOk P w H s₁.heap := fun b u z => by
    rcases hcase b with q | ⟨e, _, q⟩ | ⟨e, _, q⟩
    · rw [q] at z
      cases z
    · rw [q] at z
      cases z
      subst e
      exact ⟨ha, by rw [List.length_map]; exact hl, vs, _, hv, ha⟩
    · rw [q] at z
      cases z
      subst e
      exact ⟨ho1, True.intro, ⟨o1, ho1⟩, fun _ _ _ _ => True.intro⟩
  have ns_ : ∀ {b : Addr} {m : Str → Option Value}, b ≠ sysModules → s₁.heap.Ns b m → (hidT s₁.heap H).Ns b m := fun {b m} nb ⟨o, es, ep, e, d, r⟩ => ⟨o, es, ep, hidT_get e (by
    rcases hcase b with q | ⟨e2, _, _⟩ | ⟨e2, _, _⟩
    · exact q
    · subst e2
      rw [ha] at e
      cases e
      have d' : Data.seq vs.toArray _ = Data.dict es ep := d
      cases d'
    · exact (nb e2).elim), d, r⟩
  have kin : K.In (hidT s₁.heap H) := fun b o e => hidT_get (KX b o e) (by
    rcases hcase b with q | ⟨e2, e3, _⟩ | ⟨e2, e3, _⟩
    · exact q
    · rw [e2, e3] at e
      cases e
    · rw [e2, e3] at e
      cases e)
  obtain ⟨mc, l1, l2⟩ := hlim
  have e0 : Env0 P w K mg (hidT s₁.heap H) callerA [] s₁ H := ⟨rfl, ⟨kin, ns_ (by decide) hns, ⟨mb, ns_ (by decide) hb, hbb⟩, mc, ns_ (by decide) l1, l2⟩, fun b o e => of_hidT e, Nat.le_of_eq (hidT_size _ _), trivial, fun b z => absurd (show b ∈ ([] : List Addr) from z) (by simp), hok, .of_eq hg⟩
  refine codeAny_mono ((F _ kin (ns_ (by decide) hns)).go callerA [] s₁ H ⟨[.ref a], []⟩ [.ref a] [.ref a] _ _ rfl hr e0 (hbind s₁ (.ref a)) (.cons rfl .nil) (hsp H hS hsys)) fun r s' h => ?_
  match r, h with
  | .error e, h => exact (hCX H e s' h).elim
  | .ok .next, h => exact h.elim
  | .ok .brk, h => exact h.elim
  | .ok .cont, h => exact h.elim
  | .ok (.ret u), ⟨v, H', os, bare, un, hok', r', q⟩ =>
    have q' : v = .bl true := q
    subst q'
    have r'' : u = Value.bool true := r'
    subst r''
    refine ⟨rfl, OldK.of_keep fun b o e => ?_, os, bare⟩
    have fz : ∀ ob xs, H b = some (.frz ob xs) → s'.heap.get? b = some o := fun ob xs z => by
      have k1 := (hok b _ z).1
      have k2 := (hok' b _ (un.frzs b ob _ z)).1
      rw [k1] at e
      rw [← e]
      exact k2
    rcases hcase b with z | ⟨_, _, z⟩ | ⟨_, _, z⟩
    · exact un.keep b o e z (fun z => absurd (show b ∈ ([] : List Addr) from z) (by simp)) (by simp)
    · exact fz _ _ z
    · exact fz _ _ z
theorem walk_ofS {l : PySem.W.OpenLaw} {n k : Nat} {q : Program} {loose : List Str} {XP : (Str → Option Value) → Heap → Prop} {YP : World → Heap → Prop} {d : DefRec} {K : Params → PySem.W.Frag} {CX : World → CXT} {sp : World → Sp} {x : Str}
    (hn : l.most = some n) (hn2 : n ≤ sizeLine) (hdf : d.params.defaults = []) (hr : Room k callerA) (hq : importsNone q = true) (hY : ∀ (w : World) (h : Heap), YP w h → (K w.params).In h)
    (F : ∀ (w : World) (mg : Str → Option Value) (fa : Addr) (h : Heap), (K w.params).In h → h.Ns mainGlobals mg → mg d.name = some (.ref fa) →
      ∃ fd : FuncData, (∀ (s : Shared) (u : Value), BindsTo s fd ⟨[u], []⟩ [(x, u)]) ∧ ∀ base : Heap, (K w.params).In base → base.Ns mainGlobals mg → FnG l.prog w (K w.params) mg base (CX w) k fa fd [x] (sp w))
    (hsp : ∀ (w : World) (H : Hp) (a : Addr) (ns : List Int), SqL (K w.params) H a (ns.map V.int) → Sys (K w.params) H → sp w [.ref a] H (fun v _ => v = .bl true) fun _ _ _ => False)
    (hCX : ∀ (w : World) (H : Hp) (s : Shared) (e : Value) (s' : Shared), CX w [] H s (fun _ _ _ => False) e s' → False) :
    PySem.W.WalkO q loose XP YP l.row.toRowW d [] (fun f vs => PySem.call f vs) :=
  Att.attach_call hn hdf fun w s₀ s₁ mg mb fa o pm cd doc a vs ns G Y ho hd hcd hmg hobj hints hlen hg => by
    have kx := hY w _ Y
    obtain ⟨fd, hb, hF⟩ := F w mg fa _ kx G.T.g hmg
    exact law_callS kx G.T.g G.T.b G.T.builtins G.T.nolimit hg (G.T.seer hq).mods hobj hints (Nat.le_trans hlen hn2) hr hF hb (fun H hS hs => hsp w H a ns hS hs) fun H e s' => hCX w H s₁ e s'
end KB

set_option Elab.async false
set_option linter.all false
set_option maxRecDepth 100000
set_option maxHeartbeats 8000000
/-! The end: the defs put together; what the top has left. -/
namespace KB
open PySem L2 Evl
/-- a def as it stands behind the top -/
def Known (K : PySem.W.Frag) (x : Str) (st : Stmt) : Prop := ∃ (f : Addr) (oc : Value) (od an : Option Addr) (sl : Array (Option Value)) (kV dc pm cd ct : Value), PySem.W.nsIn K mainGlobals x = some (some (.ref f)) ∧
  K.lookup f = some ⟨oc, od, .func (PySem.W.fnOf x x (defArgs st) (defBody st) (defScope st) .none kV dc pm an cd ct), sl⟩ ∧ PySem.W.codeIn K cd x = true ∧ PySem.W.keepIn K (.ref f) = true
theorem known {K : PySem.W.Frag} {x : Str} {st : Stmt} {f : Addr} {oc : Value} {od an : Option Addr} {sl : Array (Option Value)} {kV dc pm cd ct : Value} (a : PySem.W.nsIn K mainGlobals x = some (some (.ref f)))
    (l : K.lookup f = some ⟨oc, od, .func (PySem.W.fnOf x x (defArgs st) (defBody st) (defScope st) .none kV dc pm an cd ct), sl⟩) (c : PySem.W.codeIn K cd x = true) (k : PySem.W.keepIn K (.ref f) = true) : Known K x st := ⟨f, oc, od, an, sl, kV, dc, pm, cd, ct, a, l, c, k⟩
theorem hasS {K : PySem.W.Frag} {x y : Str} {t : Tok} (h : PySem.W.nsIn K mainGlobals x = some (some (.str y t))) : ∃ t, PySem.W.nsIn K mainGlobals x = some (some (.str y t)) := ⟨t, h⟩
theorem hasI {K : PySem.W.Frag} {x : Str} {y : Int} {t : Tok} (h : PySem.W.nsIn K mainGlobals x = some (some (.int y t))) : ∃ t, PySem.W.nsIn K mainGlobals x = some (some (.int y t)) := ⟨t, h⟩
theorem Known.fn {K : PySem.W.Frag} {x : Str} {st : Stmt} {h : Heap} {mg : Str → Option Value} (k : Known K x st) (X : K.In h) (G : h.Ns mainGlobals mg) : ∃ f fd, Fun K x x st f fd ∧ mg x = some (.ref f) := by
  obtain ⟨f, oc, od, an, sl, kV, dc, pm, cd, ct, a, l, c, kp⟩ := k
  exact ⟨f, _, fun_mk l c kp, PySem.W.mg_of X G a⟩
def gBack : List Value → List Value → List Value
  | [], ws => ws.reverse
  | _ :: _, _ => []
theorem vals_rev : ∀ {zs : List V} {ws : List Value}, Vals zs ws → Vals zs.reverse ws.reverse
  | _, _, .nil => .nil
  | _, _, .cons h t => by
    rw [List.reverse_cons, List.reverse_cons]
    exact Vals.append (vals_rev t) (.cons h .nil)
def gSm4 : List Value → List Value → List Value
  | [], ws => ws
  | _ :: _, _ => []
theorem kb_same4 {K : PySem.W.Frag} {f : Addr} {fd : FuncData} (F : Fun K "replay" "replay" sReplay f fd) : KBinds K fd P4r P4r gSm4 kwSame := by
  obtain ⟨oc, od, kV, doc, pm, an, cdv, ct, osl, rfl, lk, hcd⟩ := F.ex
  refine ⟨fun s us ws _ hl => ?_, fun {vs us zs ws} r rz => ?_⟩
  · match us, hl with
    | [], hl =>
      match ws, hl with
      | [a, b, c, d], _ => exact .of_eq rfl
    | _ :: _, hl => exact absurd hl (by show ¬ 0 = 4; decide)
  · cases r with
    | nil =>
      rw [show kwSame [] zs = zs from if_pos rfl]
      exact rz
    | cons h t =>
      rw [show kwSame (_ :: _) zs = [] from if_neg (List.cons_ne_nil _ _)]
      exact .nil
section
variable {P : Program} {w : World} {K : PySem.W.Frag} {mg : Str → Option Value} {base : Heap}
theorem mkCl {k : Nat} {x : Str} {st : Stmt} {f : Addr} {fd : FuncData} {ps : List Str} {sp : Sp} (F : Fun K x x st f fd) (ok : FnOk P w K mg base CX0 k f fd ps sp) (hm : mg x = some (.ref f)) (hb : Binds K fd ps []) : Cl P w K mg base k x ps sp := ⟨f, fd, ok, hm, F.kp, hb⟩
theorem mkClX {k : Nat} {x : Str} {st : Stmt} {f : Addr} {fd : FuncData} {ps : List Str} {sp : Sp} (F : Fun K x x st f fd) (ok : FnOk P w K mg base (L2.CX P w) k f fd ps sp) (hm : mg x = some (.ref f)) (hb : Binds K fd ps []) : ClX P w K mg base k x ps sp := ⟨f, fd, ok, hm, F.kp, hb⟩
theorem toG {CX : CXT} {k : Nat} {f : Addr} {fd : FuncData} {ps : List Str} {sp : Sp} (F : FnOk P w K mg base CX k f fd ps sp) : FnG P w K mg base CX k f fd ps sp := ⟨F.len, fun A outer s H args us vs Q E _ hr he hb hv hs => F.run A outer s H args us vs Q E hr he hb hv hs⟩
/-- an own exception class, as the top has left it -/
structure ErL (K : PySem.W.Frag) (x : Str) : Prop where
  ex : ∃ C, PySem.W.nsIn K mainGlobals x = some (some (.ref C)) ∧ PySem.W.excIn K C [.type "ValueError", .type "Exception", .type "BaseException", .type "object"] "ValueError.__new__" = true ∧ PySem.W.keepIn K (.ref C) = true ∧ PySem.W.subIn K (.ref C) (.type "BaseException") = some true ∧ PySem.W.typeIn K (.ref C) = some (.type "type")
theorem erL {C : Addr} {x : Str} (h1 : PySem.W.nsIn K mainGlobals x = some (some (.ref C))) (h2 : PySem.W.excIn K C [.type "ValueError", .type "Exception", .type "BaseException", .type "object"] "ValueError.__new__" = true) (h3 : PySem.W.keepIn K (.ref C) = true) (h4 : PySem.W.subIn K (.ref C) (.type "BaseException") = some true) (h5 : PySem.W.typeIn K (.ref C) = some (.type "type")) : ErL K x := ⟨C, h1, h2, h3, h4, h5⟩
theorem ErL.er {h : Heap} {x : Str} (e : ErL K x) (X : K.In h) (G : h.Ns mainGlobals mg) : ∃ C, ErC K mg x C := by
  obtain ⟨C, h1, h2, h3, h4, h5⟩ := e.ex
  exact ⟨C, PySem.W.mg_of X G h1, h2, h3, h4, h5⟩
structure Left (K : PySem.W.Frag) : Prop where
  d0 : Known K "is_integer" sIsInteger
  d1 : Known K "is_page" sIsPage
  d2 : Known K "is_mark" sIsMark
  d3 : Known K "is_event" sIsEvent
  d4 : Known K "is_page_list" sIsPageList
  d5 : Known K "is_shelf" sIsShelf
  d6 : Known K "is_log" sIsLog
  d7 : Known K "check_capacity" sCheckCapacity
  d8 : Known K "check_shelf" sCheckShelf
  d9 : Known K "check_start" sCheckStart
  d10 : Known K "check_log" sCheckLog
  d11 : Known K "check_arguments" sCheckArguments
  d12 : Known K "sizes" sSizes
  d13 : Known K "evicting_misses" sEvicting
  d14 : Known K "replay" sReplay
  d15 : Known K "_allows" sAllows
  d16 : Known K "_after_miss" sAfterMiss
  d17 : Known K "_law_source" sSource
  d18 : Known K "_law_draw" sDraw
  d19 : Known K "_law_pages" sPages
  d20 : Known K "_law_run" sRun
  d21 : Known K "_law_setup" sSetup
  d22 : Known K "_law_followed" sFollowed
  d23 : Known K "_law_told" sTold
  d24 : Known K "_law_changed" sChanged
  d25 : Known K "_law_bent" sBent
  d26 : Known K "law" sLaw
  n_isinstance : PySem.W.nsIn K mainGlobals "isinstance" = some none
  n_int : PySem.W.nsIn K mainGlobals "int" = some none
  n_bool : PySem.W.nsIn K mainGlobals "bool" = some none
  n_str : PySem.W.nsIn K mainGlobals "str" = some none
  n_len : PySem.W.nsIn K mainGlobals "len" = some none
  n_all : PySem.W.nsIn K mainGlobals "all" = some none
  n_tuple : PySem.W.nsIn K mainGlobals "tuple" = some none
  n_set : PySem.W.nsIn K mainGlobals "set" = some none
  n_list : PySem.W.nsIn K mainGlobals "list" = some none
  n_range : PySem.W.nsIn K mainGlobals "range" = some none
  n_min : PySem.W.nsIn K mainGlobals "min" = some none
  n_max : PySem.W.nsIn K mainGlobals "max" = some none
  n_abs : PySem.W.nsIn K mainGlobals "abs" = some none
  n_repr : PySem.W.nsIn K mainGlobals "repr" = some none
  n_sorted : PySem.W.nsIn K mainGlobals "sorted" = some none
  n_dict : PySem.W.nsIn K mainGlobals "dict" = some none
  n_zip : PySem.W.nsIn K mainGlobals "zip" = some none
  c_hit : ∃ t, PySem.W.nsIn K mainGlobals "HIT" = some (some (.str "hit" t))
  c_miss : ∃ t, PySem.W.nsIn K mainGlobals "MISS" = some (some (.str "miss" t))
  c_letters : ∃ t, PySem.W.nsIn K mainGlobals "LETTERS" = some (some (.str "abcdefghijklmnopqrstuvwxyz" t))
  i_longest : ∃ t, PySem.W.nsIn K mainGlobals "LONGEST_PAGE" = some (some (.int 4 t))
  e_InvalidCapacity : ErL K "InvalidCapacity"
  e_InvalidShelf : ErL K "InvalidShelf"
  e_InvalidLog : ErL K "InvalidLog"
  e_InvalidHistory : ErL K "InvalidHistory"
  xs : ∃ C, PySem.W.nsIn K mainGlobals "InvalidHistory" = some (some (.ref C)) ∧ PySem.W.exmOne K (.ref C) (.ref C) = some true
theorem all_ok {h : Heap} (T : Left K) (X : K.In h) (G : h.Ns mainGlobals mg) {fa : Addr} (hfa : mg "law" = some (.ref fa)) :
    ∃ fd : FuncData, (∀ (s : Shared) (v : Value), BindsTo s fd ⟨[v], []⟩ [("script", v)]) ∧ ∀ base : Heap, K.In base → base.Ns mainGlobals mg → FnG P w K mg base CX0 11 fa fd ["script"] (spLaw K) := by
  obtain ⟨f0, fd0, F0, m0⟩ := T.d0.fn X G
  obtain ⟨f1, fd1, F1, m1⟩ := T.d1.fn X G
  obtain ⟨f2, fd2, F2, m2⟩ := T.d2.fn X G
  obtain ⟨f3, fd3, F3, m3⟩ := T.d3.fn X G
  obtain ⟨f4, fd4, F4, m4⟩ := T.d4.fn X G
  obtain ⟨f5, fd5, F5, m5⟩ := T.d5.fn X G
  obtain ⟨f6, fd6, F6, m6⟩ := T.d6.fn X G
  obtain ⟨f7, fd7, F7, m7⟩ := T.d7.fn X G
  obtain ⟨f8, fd8, F8, m8⟩ := T.d8.fn X G
  obtain ⟨f9, fd9, F9, m9⟩ := T.d9.fn X G
  obtain ⟨f10, fd10, F10, m10⟩ := T.d10.fn X G
  obtain ⟨f11, fd11, F11, m11⟩ := T.d11.fn X G
  obtain ⟨f12, fd12, F12, m12⟩ := T.d12.fn X G
  obtain ⟨f13, fd13, F13, m13⟩ := T.d13.fn X G
  obtain ⟨f14, fd14, F14, m14⟩ := T.d14.fn X G
  obtain ⟨f15, fd15, F15, m15⟩ := T.d15.fn X G
  obtain ⟨f16, fd16, F16, m16⟩ := T.d16.fn X G
  obtain ⟨f17, fd17, F17, m17⟩ := T.d17.fn X G
  obtain ⟨f18, fd18, F18, m18⟩ := T.d18.fn X G
  obtain ⟨f19, fd19, F19, m19⟩ := T.d19.fn X G
  obtain ⟨f20, fd20, F20, m20⟩ := T.d20.fn X G
  obtain ⟨f21, fd21, F21, m21⟩ := T.d21.fn X G
  obtain ⟨f22, fd22, F22, m22⟩ := T.d22.fn X G
  obtain ⟨f23, fd23, F23, m23⟩ := T.d23.fn X G
  obtain ⟨f24, fd24, F24, m24⟩ := T.d24.fn X G
  obtain ⟨f25, fd25, F25, m25⟩ := T.d25.fn X G
  obtain ⟨f26, fd26, F26, m26⟩ := T.d26.fn X G
  have e := hfa.symm.trans m26
  cases e
  obtain ⟨t_hit, h_hit⟩ := T.c_hit
  obtain ⟨t_miss, h_miss⟩ := T.c_miss
  obtain ⟨t_letters, h_letters⟩ := T.c_letters
  obtain ⟨t_longest, h_longest⟩ := T.i_longest
  obtain ⟨C_InvalidCapacity, E_InvalidCapacity⟩ := T.e_InvalidCapacity.er (mg := mg) X G
  obtain ⟨C_InvalidShelf, E_InvalidShelf⟩ := T.e_InvalidShelf.er (mg := mg) X G
  obtain ⟨C_InvalidLog, E_InvalidLog⟩ := T.e_InvalidLog.er (mg := mg) X G
  obtain ⟨C_InvalidHistory, E_InvalidHistory⟩ := T.e_InvalidHistory.er (mg := mg) X G
  have B0 : Bn mg := ⟨PySem.W.mg_none_of X G T.n_isinstance, PySem.W.mg_none_of X G T.n_int, PySem.W.mg_none_of X G T.n_bool, PySem.W.mg_none_of X G T.n_str, PySem.W.mg_none_of X G T.n_len, PySem.W.mg_none_of X G T.n_all, PySem.W.mg_none_of X G T.n_tuple, PySem.W.mg_none_of X G T.n_set, PySem.W.mg_none_of X G T.n_list, PySem.W.mg_none_of X G T.n_range, PySem.W.mg_none_of X G T.n_min, ⟨t_hit, PySem.W.mg_of X G h_hit⟩, ⟨t_miss, PySem.W.mg_of X G h_miss⟩, ⟨t_letters, PySem.W.mg_of X G h_letters⟩, ⟨t_longest, PySem.W.mg_of X G h_longest⟩⟩
  have B2 : Bl mg := ⟨PySem.W.mg_none_of X G T.n_max, PySem.W.mg_none_of X G T.n_abs, PySem.W.mg_none_of X G T.n_repr⟩
  have BS : Bs mg := ⟨PySem.W.mg_none_of X G T.n_sorted⟩
  have BR : Brp mg := ⟨PySem.W.mg_none_of X G T.n_dict, PySem.W.mg_none_of X G T.n_zip⟩
  have b0 := F0.binds (ps := ["value"]) fun _ _ _ _ _ _ us hl => match us, hl with | [_], _ => rfl
  have b1 := F1.binds (ps := ["value"]) fun _ _ _ _ _ _ us hl => match us, hl with | [_], _ => rfl
  have b2 := F2.binds (ps := ["value"]) fun _ _ _ _ _ _ us hl => match us, hl with | [_], _ => rfl
  have b3 := F3.binds (ps := ["value"]) fun _ _ _ _ _ _ us hl => match us, hl with | [_], _ => rfl
  have b4 := F4.binds (ps := ["value"]) fun _ _ _ _ _ _ us hl => match us, hl with | [_], _ => rfl
  have b5 := F5.binds (ps := ["value"]) fun _ _ _ _ _ _ us hl => match us, hl with | [_], _ => rfl
  have b6 := F6.binds (ps := ["value"]) fun _ _ _ _ _ _ us hl => match us, hl with | [_], _ => rfl
  have b7 := F7.binds (ps := ["capacity"]) fun _ _ _ _ _ _ us hl => match us, hl with | [_], _ => rfl
  have b8 := F8.binds (ps := ["start"]) fun _ _ _ _ _ _ us hl => match us, hl with | [_], _ => rfl
  have b9 := F9.binds (ps := ["capacity", "start"]) fun _ _ _ _ _ _ us hl => match us, hl with | [_, _], _ => rfl
  have b10 := F10.binds (ps := ["log"]) fun _ _ _ _ _ _ us hl => match us, hl with | [_], _ => rfl
  have b11 := F11.binds (ps := ["capacity", "start", "log"]) fun _ _ _ _ _ _ us hl => match us, hl with | [_, _, _], _ => rfl
  have b12 := F12.binds (ps := ["capacity", "start", "log"]) fun _ _ _ _ _ _ us hl => match us, hl with | [_, _, _], _ => rfl
  have b13 := F13.binds (ps := ["capacity", "start", "log"]) fun _ _ _ _ _ _ us hl => match us, hl with | [_, _, _], _ => rfl
  have b14 := F14.binds (ps := ["capacity", "start", "log", "evicted"]) fun _ _ _ _ _ _ us hl => match us, hl with | [_, _, _, _], _ => rfl
  have b15 := F15.binds (ps := ["shelf", "mark", "page", "evicted"]) fun _ _ _ _ _ _ us hl => match us, hl with | [_, _, _, _], _ => rfl
  have b16 := F16.binds (ps := ["shelf", "page", "evicted"]) fun _ _ _ _ _ _ us hl => match us, hl with | [_, _, _], _ => rfl
  have b17 := F17.binds (ps := ["script", "k"]) fun _ _ _ _ _ _ us hl => match us, hl with | [_, _], _ => rfl
  have b18 := F18.binds (ps := ["source", "bound"]) fun _ _ _ _ _ _ us hl => match us, hl with | [_, _], _ => rfl
  have b19 := F19.binds (ps := ["source", "count"]) fun _ _ _ _ _ _ us hl => match us, hl with | [_, _], _ => rfl
  have b20 := F20.binds (ps := ["source", "room", "initial", "pages", "size"]) fun _ _ _ _ _ _ us hl => match us, hl with | [_, _, _, _, _], _ => rfl
  have b21 := F21.binds (ps := ["source", "most", "size"]) fun _ _ _ _ _ _ us hl => match us, hl with | [_, _, _], _ => rfl
  have b22 := F22.binds (ps := ["room", "initial", "happened", "gone"]) fun _ _ _ _ _ _ us hl => match us, hl with | [_, _, _, _], _ => rfl
  have b23 := F23.binds (ps := ["room", "initial", "happened", "gone", "named"]) fun _ _ _ _ _ _ us hl => match us, hl with | [_, _, _, _, _], _ => rfl
  have b24 := F24.binds (ps := ["source", "gone", "pages"]) fun _ _ _ _ _ _ us hl => match us, hl with | [_, _, _], _ => rfl
  have b25 := F25.binds (ps := ["source", "happened"]) fun _ _ _ _ _ _ us hl => match us, hl with | [_, _], _ => rfl
  obtain ⟨Cx, xn, hxs⟩ := T.xs
  have ecx := (PySem.W.mg_of X G xn).symm.trans E_InvalidHistory.gC
  cases ecx
  obtain ⟨oc, od, kV, doc, pm, an, cdv, ct, osl, efd, _, _⟩ := F26.ex
  refine ⟨fd26, fun s v => ?_, fun base _ _ => ?_⟩
  · rw [efd]
    exact .of_eq rfl
  · have c_int : Cl P w K mg base 1 "is_integer" ["value"] (spAny K intD) := mkCl F0 (ok_isInteger F0 B0) m0 b0
    have c_page : Cl P w K mg base 1 "is_page" ["value"] (spAny K pageD) := mkCl F1 (ok_isPage F1 B0) m1 b1
    have c_mark : Cl P w K mg base 1 "is_mark" ["value"] (spAny K markD) := mkCl F2 (ok_isMark F2 B0) m2 b2
    have c_event := mkCl F3 (ok_isEvent F3 B0 c_mark c_page) m3 b3
    have c_shelf := mkCl F5 (ok_isShelf F5 B0 c_page) m5 b5
    have c_log := mkCl F6 (ok_isLog F6 B0 c_event) m6 b6
    have x_cap := mkClX F7 (ok_checkCapacity F7 c_int E_InvalidCapacity) m7 b7
    have x_shelf := mkClX F8 (ok_checkShelf F8 c_shelf E_InvalidShelf) m8 b8
    have x_start := mkClX F9 (ok_checkStart F9 B0 x_shelf E_InvalidShelf) m9 b9
    have x_log := mkClX F10 (ok_checkLog F10 c_log E_InvalidLog) m10 b10
    have x_args := mkClX F11 (ok_checkArguments (C := fun j => match j with | 0 => C_InvalidCapacity | 1 => C_InvalidShelf | 2 => C_InvalidLog | _ => 0) F11 x_cap x_start x_log) m11 b11
    have x_sizes := mkClX F12 (ok_sizes F12 B0 x_args) m12 b12
    have x_ems := mkClX F13 (ok_evicting F13 B0 x_sizes) m13 b13
    have c_ems := cl_emsV x_ems
    have c_pl := mkCl F4 (ok_isPageList F4 B0 c_page) m4 b4
    have c_alw : Cl P w K mg base 1 "_allows" ["shelf", "mark", "page", "evicted"] (spAlw K) := mkCl F15 (ok_allows F15 B0) m15 b15
    have c_aft : Cl P w K mg base 1 "_after_miss" ["shelf", "page", "evicted"] (spAft) := mkCl F16 (ok_aft F16 B0 BS) m16 b16
    have o_rep := ok_replay F14 B0 BS BR c_ems c_pl c_alw c_aft E_InvalidHistory
    have x_rep := mkClX F14 (o_rep) m14 b14
    have k_rep : ClXK P w K mg base 9 "replay" P4r P4r kwSame (spRep K C_InvalidHistory) := ⟨f14, fd14, gSm4, o_rep, m14, F14.kp, kb_same4 F14⟩
    have c_rep : Cl P w K mg base 9 "replay" P4r (spRepV K) := Cl.imp (ClX.calm x_rep) rep_imp
    have c_src : Cl P w K mg base 1 "_law_source" ["script", "k"] (spSource K) := mkCl F17 (ok_source F17 B0 B2) m17 b17
    have c_draw : Cl P w K mg base 1 "_law_draw" ["source", "bound"] (spDraw) := mkCl F18 (ok_draw F18) m18 b18
    have c_pages := mkCl F19 (ok_pages F19 B0 c_draw) m19 b19
    have c_run := mkCl F20 (ok_run F20 B0 c_draw) m20 b20
    have c_set := mkCl F21 (ok_setup F21 B0 c_draw c_pages) m21 b21
    have c_fol : Cl P w K mg base 1 "_law_followed" ["room", "initial", "happened", "gone"] (spFol K) := mkCl F22 (ok_followed F22 B0 BS) m22 b22
    have c_tol := mkCl F23 (ok_told F23 E_InvalidHistory.gC hxs x_rep k_rep) m23 b23
    have c_cha := mkCl F24 (ok_changed F24 B0 c_draw) m24 b24
    have c_ben := mkCl F25 (ok_bent F25 B0 c_draw) m25 b25
    exact ok_law F26 B0 B2 BS c_draw c_src c_set c_run c_tol c_fol c_cha c_ben c_rep
end
end KB

set_option Elab.async false
set_option linter.all false
set_option maxRecDepth 100000
set_option maxHeartbeats 8000000
open PySem PySem.W PyProof.Rows
set_option maxHeartbeats 0 in
theorem PySem.Challenge.cw_hitlog_k03_replays_holds : PySem.Challenge.rw_hitlog_k03_replays.Holds := by
  w_on; o_law; k_head; (case hw => w_witness2)
  k_fill
  refine KB.walk_ofS (l := PySem.Challenge.rw_hitlog_k03_replays) (n := 63) (k := 11) (x := "script") (CX := fun _ => L2.CX0) (sp := fun w => KB.spLaw _) rfl (by decide) rfl ⟨rfl, by decide, by decide⟩ (by decide +kernel) (fun w h Y => PySem.W.kIn_of Y) ?F (fun _ _ a ns hS hs => ⟨a, ns, rfl, hS, hs, fun _ => rfl⟩) (fun _ _ _ _ _ h => h)
  case F =>
    intro w mg fa h KX G hmg
    refine' KB.all_ok ⟨KB.known ?a0 ?l0 ?c0 ?k0, KB.known ?a1 ?l1 ?c1 ?k1, KB.known ?a2 ?l2 ?c2 ?k2, KB.known ?a3 ?l3 ?c3 ?k3, KB.known ?a4 ?l4 ?c4 ?k4, KB.known ?a5 ?l5 ?c5 ?k5, KB.known ?a6 ?l6 ?c6 ?k6, KB.known ?a7 ?l7 ?c7 ?k7, KB.known ?a8 ?l8 ?c8 ?k8, KB.known ?a9 ?l9 ?c9 ?k9, KB.known ?a10 ?l10 ?c10 ?k10, KB.known ?a11 ?l11 ?c11 ?k11, KB.known ?a12 ?l12 ?c12 ?k12, KB.known ?a13 ?l13 ?c13 ?k13, KB.known ?a14 ?l14 ?c14 ?k14, KB.known ?a15 ?l15 ?c15 ?k15, KB.known ?a16 ?l16 ?c16 ?k16, KB.known ?a17 ?l17 ?c17 ?k17, KB.known ?a18 ?l18 ?c18 ?k18, KB.known ?a19 ?l19 ?c19 ?k19, KB.known ?a20 ?l20 ?c20 ?k20, KB.known ?a21 ?l21 ?c21 ?k21, KB.known ?a22 ?l22 ?c22 ?k22, KB.known ?a23 ?l23 ?c23 ?k23, KB.known ?a24 ?l24 ?c24 ?k24, KB.known ?a25 ?l25 ?c25 ?k25, KB.known ?a26 ?l26 ?c26 ?k26, ?z_isinstance, ?z_int, ?z_bool, ?z_str, ?z_len, ?z_all, ?z_tuple, ?z_set, ?z_list, ?z_range, ?z_min, ?z_max, ?z_abs, ?z_repr, ?z_sorted, ?z_dict, ?z_zip, KB.hasS ?h0, KB.hasS ?h1, KB.hasS ?h2, KB.hasI ?j0, KB.erL ?egInvalidCapacity ?exInvalidCapacity ?ekInvalidCapacity ?ebInvalidCapacity ?etInvalidCapacity, KB.erL ?egInvalidShelf ?exInvalidShelf ?ekInvalidShelf ?ebInvalidShelf ?etInvalidShelf, KB.erL ?egInvalidLog ?exInvalidLog ?ekInvalidLog ?ebInvalidLog ?etInvalidLog, KB.erL ?egInvalidHistory ?exInvalidHistory ?ekInvalidHistory ?ebInvalidHistory ?etInvalidHistory, ⟨_, ?egInvalidHistory, PySem.W.exm_ref ?ebInvalidHistory ?xsD ?etInvalidHistory ?xsS⟩⟩ KX G hmg
    (case a0 => k_is); (case l0 => k_is); (case c0 => k_is); (case k0 => k_is); (case a1 => k_is); (case l1 => k_is); (case c1 => k_is); (case k1 => k_is); (case a2 => k_is); (case l2 => k_is); (case c2 => k_is); (case k2 => k_is); (case a3 => k_is); (case l3 => k_is); (case c3 => k_is); (case k3 => k_is); (case a4 => k_is); (case l4 => k_is); (case c4 => k_is); (case k4 => k_is); (case a5 => k_is); (case l5 => k_is); (case c5 => k_is); (case k5 => k_is); (case a6 => k_is); (case l6 => k_is); (case c6 => k_is); (case k6 => k_is); (case a7 => k_is); (case l7 => k_is); (case c7 => k_is); (case k7 => k_is); (case a8 => k_is); (case l8 => k_is); (case c8 => k_is); (case k8 => k_is); (case a9 => k_is); (case l9 => k_is); (case c9 => k_is); (case k9 => k_is); (case a10 => k_is); (case l10 => k_is); (case c10 => k_is); (case k10 => k_is); (case a11 => k_is); (case l11 => k_is); (case c11 => k_is); (case k11 => k_is); (case a12 => k_is); (case l12 => k_is); (case c12 => k_is); (case k12 => k_is); (case a13 => k_is); (case l13 => k_is); (case c13 => k_is); (case k13 => k_is); (case a14 => k_is); (case l14 => k_is); (case c14 => k_is); (case k14 => k_is); (case a15 => k_is); (case l15 => k_is); (case c15 => k_is); (case k15 => k_is); (case a16 => k_is); (case l16 => k_is); (case c16 => k_is); (case k16 => k_is); (case a17 => k_is); (case l17 => k_is); (case c17 => k_is); (case k17 => k_is); (case a18 => k_is); (case l18 => k_is); (case c18 => k_is); (case k18 => k_is); (case a19 => k_is); (case l19 => k_is); (case c19 => k_is); (case k19 => k_is); (case a20 => k_is); (case l20 => k_is); (case c20 => k_is); (case k20 => k_is); (case a21 => k_is); (case l21 => k_is); (case c21 => k_is); (case k21 => k_is); (case a22 => k_is); (case l22 => k_is); (case c22 => k_is); (case k22 => k_is); (case a23 => k_is); (case l23 => k_is); (case c23 => k_is); (case k23 => k_is); (case a24 => k_is); (case l24 => k_is); (case c24 => k_is); (case k24 => k_is); (case a25 => k_is); (case l25 => k_is); (case c25 => k_is); (case k25 => k_is); (case a26 => k_is); (case l26 => k_is); (case c26 => k_is); (case k26 => k_is); (case z_isinstance => k_is); (case z_int => k_is); (case z_bool => k_is); (case z_str => k_is); (case z_len => k_is); (case z_all => k_is); (case z_tuple => k_is); (case z_set => k_is); (case z_list => k_is); (case z_range => k_is); (case z_min => k_is); (case z_max => k_is); (case z_abs => k_is); (case z_repr => k_is); (case z_sorted => k_is); (case z_dict => k_is); (case z_zip => k_is); (case h0 => k_is); (case h1 => k_is); (case h2 => k_is); (case j0 => k_is); (case egInvalidCapacity => k_is); (case exInvalidCapacity => k_exc); (case ekInvalidCapacity => k_is); (case ebInvalidCapacity => k_is); (case etInvalidCapacity => k_is); (case egInvalidShelf => k_is); (case exInvalidShelf => k_exc); (case ekInvalidShelf => k_is); (case ebInvalidShelf => k_is); (case etInvalidShelf => k_is); (case egInvalidLog => k_is); (case exInvalidLog => k_exc); (case ekInvalidLog => k_is); (case ebInvalidLog => k_is); (case etInvalidLog => k_is); (case egInvalidHistory => k_is); (case exInvalidHistory => k_exc); (case ekInvalidHistory => k_is); (case ebInvalidHistory => k_is); (case etInvalidHistory => k_is); (case xsD => k_is); (case xsS => k_is)
