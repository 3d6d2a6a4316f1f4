import PyProof.Rows.All
import Wide.All
import OpenK.AllK
import Wide.FinOn
import HandS.ForMost
import HandS.Wide
import HandS.Zip
import PyProof.ReprRoads
import HandS.IsInst
import HandS.Walk
import HandS.Strs
import HandS.Defaults
import PyProof.StrLawsRepr
import PySem.Challenge.RW_mostkept_k02_values_and_agreements
set_option Elab.async false
set_option linter.all false
set_option maxRecDepth 100000
set_option maxHeartbeats 4000000
/-! Defs called while no repr is under way: the promise FnG of a def, and the rules that go with it. -/
namespace Gl
open PySem PySem.Spec PyProof.Rows L2

/-- there is room for k calls, and the stack holds no repr -/
structure RmG (k : Nat) (A : Around) : Prop where
  rm : Room k A
  gd : A.guards = some []
theorem RmG.mono {j k : Nat} {A : Around} (r : RmG k A) (h : j ≤ k) : RmG j A := ⟨r.rm.mono h, r.gd⟩
theorem RmG.deeper {k : Nat} {A : Around} (r : RmG (k + 1) A) (v : Env) : RmG k (A.deeper v) := ⟨r.rm.deeper v, r.gd⟩

structure FnG (P : Program) (w : World) (K : PySem.W.Frag)
    (mg : Str → Option Value) (base : Heap) (CX : CXT) (k : Nat)
    (f : Addr) (fd : FuncData) (ps : List Str) (sp : Sp) : Prop where
  len : ∀ vs H Q E, sp vs H Q E → vs.length = ps.length
  go : ∀ (A : Around) (o : List Env) (s : Shared) (H : Hp)
    (ar : Args) (us : List Value) (vs : List V) (Q : VK) (E : XK),
    RmG k A → Env0 P w K mg base A o s H → BindsTo s fd ar (ps.zip us) →
    Vals vs us → sp vs H Q E →
    codeAny (model P w) A (.call (.ref f) ar) (CR CX o P w H s Q E) s

section
variable {P : Program} {w : World} {K : PySem.W.Frag} {mg : Str → Option Value} {base : Heap} {CX : CXT} {k : Nat} {f : Addr} {fd : FuncData} {ps : List Str} {sp : Sp}
theorem FnG.mono {j : Nat} (F : FnG P w K mg base CX j f fd ps sp) (h : j ≤ k) : FnG P w K mg base CX k f fd ps sp :=
  ⟨F.len, fun A o s H ar us vs Q E r => F.go A o s H ar us vs Q E (r.mono h)⟩
/-- a promise of the layer's own -/
theorem FnG.of (F : FnOk P w K mg base CX k f fd ps sp) : FnG P w K mg base CX k f fd ps sp :=
  ⟨F.len, fun A o s H ar us vs Q E r => F.run A o s H ar us vs Q E r.rm⟩
theorem FnG.imp {sp' : Sp} (F : FnG P w K mg base CX k f fd ps sp) (h : ∀ vs H Q E, sp' vs H Q E → sp vs H Q E) : FnG P w K mg base CX k f fd ps sp' :=
  ⟨fun vs H Q E q => F.len vs H Q E (h _ _ _ _ q), fun A o s H ar us vs Q E r e b v q => F.go A o s H ar us vs Q E r e b v (h _ _ _ _ q)⟩
end

section
variable {X : Cx} {CX : CXT} {k : Nat} {f : Addr} {fd : FuncData} {ps : List Str} {sp : Sp} {dvs : List V} {ds : List Value} {E : XK} {x : Str} {p pos : Pos} {e : Expr} {es : List Expr} {t : TA}
theorem runG {pins : List (Addr × Obj)} {σ : L2.St} {H : Hp} {s : Shared} {Q : VK} {us : List Value} {vs : List V}
    (F : FnG X.prog X.w X.K X.mg X.base CX k f fd ps sp) (r : RmG k X.A)
    (hb : Binds X.K fd ps ds) (hd : Vals dvs ds) (hx : Passes CX X E) (I : Inv X pins σ H s)
    (hv : Vals vs us) (q : sp (vs ++ dvs) H Q E) : wpAny (model X.prog X.w) X.A (call (.ref f) us) (EP X pins σ Q) X.xe s := by
  have hv2 : Vals (vs ++ dvs) (us ++ ds) := hv.append hd
  have n1 : (us ++ ds).length = ps.length := hv2.length.symm.trans (F.len _ _ _ _ q)
  have c := F.go X.A X.stack s H ⟨us, []⟩ (us ++ ds) (vs ++ dvs) Q E r I.env0 (hb s us I.kIn n1) hv2 q
  apply wpAny_call
  apply codeAny_mono c
  intro y s2 z
  match y, z with
  | .error a, z => exact hx pins σ H s a s2 I z
  | .ok (.ret u), z => exact I.after z
  | .ok .next, z => exact z.elim
  | .ok .brk, z => exact z.elim
  | .ok .cont, z => exact z.elim

/-- f(e, ..), a def of the text -/
theorem pe_callG (F : FnG X.prog X.w X.K X.mg X.base CX k f fd ps sp) (r : RmG k X.A)
    (hg : Gl X x) (hm : X.mg x = some (.ref f)) (hk : PySem.W.keepIn X.K (.ref f) = true)
    (hb : Binds X.K fd ps ds) (hd : Vals dvs ds) (hx : Passes CX X E) (ha : PA X (e :: es) t)
    (h1 : (x == ("__debug__" : Str)) = false := by decide)
    (h2 : starEach (e :: es) X.env = (false, eval e X.env) :: starEach es X.env := by rfl)
    (h3 : (backTo pos (starEach es X.env)).any (·.1) = false := by rfl) :
    PE X (.Call (.Name x p) (e :: es) [] pos) (tCall sp dvs E t) := .mk fun pins s σ H Q I q => by
  apply wpAny_Call_Name_kw
  apply ld_glob I hg hm _ h1
  apply PySem.W.callWith_K (h₀ := X.base) I.ok.mod.kin hk _ h2 h3
  apply thn (ha.run pos pins s σ H _ I q)
  rintro us s2 ⟨vs, H2, I2, v2, q2⟩
  exact ⟨I2.kIn, runG F r hb hd hx I2 v2 q2⟩
/-- f() -/
theorem pe_callG0 (F : FnG X.prog X.w X.K X.mg X.base CX k f fd ps sp) (r : RmG k X.A)
    (hg : Gl X x) (hm : X.mg x = some (.ref f)) (hk : PySem.W.keepIn X.K (.ref f) = true)
    (hb : Binds X.K fd ps ds) (hd : Vals dvs ds) (hx : Passes CX X E)
    (h1 : (x == ("__debug__" : Str)) = false := by decide) :
    PE X (.Call (.Name x p) [] [] pos) (tCall sp dvs E tNil) := .mk fun pins s σ H Q I q => by
  apply wpAny_Call_Name_kw
  apply ld_glob I hg hm _ h1
  exact PySem.W.callWith_K0 I.kIn hk (runG (us := []) F r hb hd hx I .nil q)
end

/-! ### a def's body -/
section
variable {P : Program} {w : World} {K : PySem.W.Frag} {mg : Str → Option Value} {base : Heap}
theorem okG_of {CX : CXT} {k : Nat} {f : Addr} {nm qual : Str} {pr : Arguments} {body : List Stmt} {sc : Scope} {dV kV doc pm cdv ct oc : Value} {an od : Option Addr}
    {sl : Array (Option Value)} {N ps : List Str} {sp : Sp}
    (lk : K.lookup f = some ⟨oc, od, .func (PySem.W.fnOf nm qual pr body sc dV kV doc pm an cdv ct), sl⟩)
    (hc : PySem.W.codeIn K cdv qual = true) (S : FnScope N ps sc)
    (len : ∀ vs H Q E, sp vs H Q E → vs.length = ps.length)
    (bd : ∀ (A : Around) (o : List Env) (s : Shared) (H : Hp) (vs : List V) (Q : VK) (E : XK),
      RmG k (A.deeper (envOfC qual sc s.heap.objs.size f cdv)) → sp vs H Q E →
      ∃ t, PSs (cxOf CX P w K mg base N qual sc f cdv A o s H E) body t ∧ t { nx := fun _ H' => Q .non H', rt := Q } (start N vs) H) :
    FnG P w K mg base CX (k + 1) f (PySem.W.fnOf nm qual pr body sc dV kV doc pm an cdv ct) ps sp where
  len := len
  go := by
    intro A o s H ar us vs Q E r e0 hb hv q
    have n1 := len _ _ _ _ q
    have up : ∀ b u, base.get? b = some u → s.heap.get? b = some u := fun b u z => (e0.bs b u z).1
    have KX : K.In s.heap := e0.mod.kin.keeps up
    have par : ∀ y ∈ ps.zip us, sc.names.lookup y.1 = some .local ∨
        (sc.names.lookup y.1 = some .cell ∧ ((cellsFrom (s.heap.objs.size + 1) sc.names []).lookup y.1).isSome = true) := by
      rintro ⟨a, v⟩ hy
      have := S.par a (List.of_mem_zip hy).1
      exact this.imp id fun z => ⟨z, PySem.W.cellsFrom_some _ _ _ (.inl z)⟩
    apply codeAny_call_function r.rm.depth (KX _ _ lk) rfl S.co S.gen rfl (PySem.W.codeRec_of KX hc)
    apply hb
    apply wpAny_newFunctionEnv_cells S.kind par
    rintro env rfl s1 ic
    refine ⟨(e0.mod.nolimit.keeps up).keeps ic.toInCall.keep, codeAny_func ?_⟩
    obtain ⟨t, d, z⟩ := bd A o s H vs Q E (r.deeper _) q
    have I := inv_start (CX := CX) (E := E) S r.rm.hd e0 n1 hv ic
    refine wpAny_mono (d.run [] s1 (start N vs) H _ I z) ?_ fun _ _ z => z
    rintro fl s2 y
    match fl, y with
    | .ret u, ⟨v, σ', H', J, rv, q⟩ => exact ⟨v, H', J.os, J.bare, J.base, J.hok, rv, q⟩
    | .next, ⟨σ', H', J, q⟩ => exact ⟨.non, H', J.os, J.bare, J.base, J.hok, rfl, q⟩
    | .brk, ⟨_, _, _, q⟩ => exact q.elim
    | .cont, ⟨_, _, _, q⟩ => exact q.elim
theorem okG {x qual : Str} {st : Stmt} {f : Addr} {fd : FuncData} {N ps : List Str} {k : Nat} {sp : Sp}
    (F : Fun K x qual st f fd) (S : FnScope N ps (defScope st)) (len : ∀ vs H Q E, sp vs H Q E → vs.length = ps.length)
    (bd : ∀ (cdv : Value) (A : Around) (o : List Env) (s : Shared) (H : Hp) (vs : List V) (Q : VK) (E : XK),
      RmG k (A.deeper (envOfC qual (defScope st) s.heap.objs.size f cdv)) → sp vs H Q E →
      ∃ t, PSs (cxOf CX0 P w K mg base N qual (defScope st) f cdv A o s H E).nox (defBody st) t ∧
        t { nx := fun _ H' => Q .non H', rt := Q } (start N vs) H) : FnG P w K mg base CX0 (k + 1) f fd ps sp := by
  obtain ⟨_, _, _, _, _, _, _, _, _, rfl, lk, hc⟩ := F.ex
  apply okG_of lk hc S len
  intro A o s H vs Q E r q
  obtain ⟨t, d, z⟩ := bd _ A o s H vs Q E r q
  exact ⟨t, d.nox, z⟩
end
end Gl

/-! repr of data as a whole. -/
namespace Gl
open PySem PySem.Spec PyProof.Rows L2

mutual
theorem Dp.noDict {K : PySem.W.Frag} {H : Hp} : ∀ {v : V} {d : PyData}, Dp K H v d → d.hasDict = false
  | _, _, .non => by simp only [PyData.hasDict]
  | _, _, .bl b => by simp only [PyData.hasDict]
  | _, _, .int i => by simp only [PyData.hasDict]
  | _, _, .str x => by simp only [PyData.hasDict]
  | _, _, .lst _ h => by simp only [PyData.hasDict]; exact DpAll.noDict h
  | _, _, .tup _ h => by simp only [PyData.hasDict]; exact DpAll.noDict h
theorem DpAll.noDict {K : PySem.W.Frag} {H : Hp} : ∀ {v : List V} {d : List PyData}, DpAll K H v d → PyData.hasDictAll d = false
  | _, _, .nil => by simp only [PyData.hasDictAll]
  | _, _, .cons a b => by simp only [PyData.hasDictAll]; rw [Dp.noDict a, DpAll.noDict b]; rfl
end
/-- repr(x), x data of any shape without dicts -/
def rRepr (K : PySem.W.Frag) : List V → Hp → VK → Prop := fun xs H Q => ∃ x d, xs = [x] ∧ Dp K H x d ∧ d.showable = true ∧ d.depth ≤ 100 ∧ d.shown.length ≤ sizeLine ∧ Q (.str d.shown) H
section
variable {X : Cx}
theorem repr_core {pins : List (Addr × Obj)} {s : Shared} {σ : L2.St} {H : Hp} {Q : VK} {k : Nat} (r : RmG k X.A) (I : Inv X pins σ H s) : ∀ {x : V} {d : PyData} {u : Value}, Dp X.K H x d → RelV x u → d.showable = true → d.depth ≤ 100 → d.shown.length ≤ sizeLine → Q (.str d.shown) H →
    wpAny (model X.prog X.w) X.A (call (.builtin "repr") [u]) (EP X pins σ Q) X.xe s := by
  intro x d u hd ru hs hp hz q
  have nd := Dp.noDict hd
  obtain ⟨as, R⟩ := Dp.reads I d x u hd ru
  have room := r.rm.un
  have refs : ∀ a, u = .ref a → wpAny (model X.prog X.w) X.A (call (.builtin "repr") [u]) (EP X pins σ Q) X.xe s := by
    rintro a rfl
    refine repr_of_reads' R hs (PyData.noDict_hsm nd) r.gd (by omega) (fun _ _ z => z) (fun h' t tk hk => ?_) hz
    exact ⟨.str _, H, I.kept hk, ⟨_, rfl⟩, q⟩
  cases hd with
  | non =>
    cases ru
    exact PySem.P.repr_of_none ⟨.str _, H, I.tok _, ⟨_, rfl⟩, q⟩
  | bl b =>
    cases ru
    exact PySem.P.repr_of_bool ⟨.str _, H, I.tok _, ⟨_, rfl⟩, q⟩
  | int i =>
    obtain ⟨t, rfl⟩ := ru
    have hs' : i.natAbs.log2 < 1920 := of_decide_eq_true (by simpa only [PyData.showable] using hs)
    exact PySem.P.repr_of_int hs' ⟨.str _, H, I.tok _, ⟨_, rfl⟩, q⟩
  | str y =>
    obtain ⟨t, rfl⟩ := ru
    exact PySem.P.repr_of_str ⟨.str _, H, I.tok _, ⟨_, rfl⟩, q⟩ hz
  | lst _ _ =>
    cases ru
    exact refs _ rfl
  | tup _ _ =>
    cases ru
    exact refs _ rfl
theorem call_reprD {k : Nat} (r : RmG k X.A) : CallR X (.builtin "repr") (rRepr X.K) := by
  intro pins s σ H xs us Q I hv h
  obtain ⟨x, d, rfl, hd, hs, hp, hz, q⟩ := h
  obtain ⟨u, rfl, ru⟩ := vals1 hv
  exact repr_core r I hd ru hs hp hz q
/-- a ** n of written numbers -/
def CPw (i j : Int) : Prop := 0 ≤ j ∧ (Builtin.Int.intBits i : Int) * j ≤ 2 ^ 27
theorem op_powW : OpR X (binaryOp .Pow) (rI CPw fun i j => .int (i ^ j.toNat)) := opI fun _ _ _ _ _ _ _ hc q => pow_int hc.1 hc.2 q
end

/-! ### a bound of a shown text -/
mutual
def wt : PyData → Nat
  | .none => 4
  | .bool _ => 5
  | .int _ => 1930
  | .str x => (reprText x).length
  | .list xs => wtAll xs + 2
  | .tuple xs => wtAll xs + 3
  | .dict kvs => (PyData.dict kvs).shown.length
def wtAll : List PyData → Nat
  | [] => 0
  | x :: xs => wt x + 2 + wtAll xs
end
theorem textFrom_le : ∀ (ts : List Str) (k : Nat) (acc : Str), (textFrom k acc ts).length ≤ acc.length + piled ts
  | [], k, acc => by show acc.length ≤ _; omega
  | t :: ts, k, acc => by
    have h := textFrom_le ts (k + 1) (acc ++ (if k > 0 then ", " else "" : String) ++ t)
    have e : (acc ++ (if k > 0 then ", " else "" : String) ++ t).length ≤ acc.length + 2 + t.length := by
      rw [strLen_append, strLen_append]
      split
      · show _ + 2 + _ ≤ _; omega
      · show _ + 0 + _ ≤ _; omega
    rw [piled_cons]
    show (textFrom (k + 1) _ ts).length ≤ _
    omega
theorem join_le : ∀ ts : List Str, (Str.join ", " ts).length ≤ piled ts
  | [] => Nat.zero_le _
  | t :: ts => by
    have h := join_length_add (t :: ts) (by simp)
    omega
theorem listText_le (ts : List Str) : (listText ts).length ≤ piled ts + 2 := by
  unfold listText
  rw [strLen_append]
  have h := textFrom_le ts 0 "["
  have e1 : (("[" : String) : Str).length = 1 := rfl
  have e2 : (("]" : String) : Str).length = 1 := rfl
  omega
theorem tupleText_le (ts : List Str) : (tupleText ts).length ≤ piled ts + 3 := by
  unfold tupleText
  rw [strLen_append, strLen_append]
  have h := join_le ts
  have e1 : (("(" : Str)).length = 1 := rfl
  split
  · have e2 : ((",)" : String) : Str).length = 2 := rfl
    omega
  · have e2 : ((")" : String) : Str).length = 1 := rfl
    omega
mutual
theorem shown_le : ∀ d : PyData, d.showable = true → d.shown.length ≤ wt d
  | .none, _ => by simp only [PyData.shown, wt]; decide
  | .bool b, _ => by simp only [PyData.shown, wt]; cases b <;> decide
  | .int i, h => by
    simp only [PyData.shown, wt]
    have h' : i.natAbs.log2 < 1920 := of_decide_eq_true (by simpa only [PyData.showable] using h)
    have e := int_text_length_le (k := 1920) (by decide) h'
    have e2 : (Str.ofString (toString i)).length = (toString i).length := PySem.ofString_length _
    show (Str.ofString (toString i)).length ≤ _
    omega
  | .str x, _ => by simp only [PyData.shown, wt]; exact Nat.le_refl _
  | .list xs, h => by
    simp only [PyData.shown, wt]
    have h1 := listText_le (PyData.shownAll xs)
    have h2 := shownAll_le xs (by simpa only [PyData.showable] using h)
    omega
  | .tuple xs, h => by
    simp only [PyData.shown, wt]
    have h1 := tupleText_le (PyData.shownAll xs)
    have h2 := shownAll_le xs (by simpa only [PyData.showable] using h)
    omega
  | .dict kvs, _ => by simp only [wt]; exact Nat.le_refl _
theorem shownAll_le : ∀ xs : List PyData, PyData.showableAll xs = true → piled (PyData.shownAll xs) ≤ wtAll xs
  | [], _ => by simp only [PyData.shownAll, wtAll]; exact Nat.le_refl _
  | x :: xs, h => by
    have h' : (x.showable && PyData.showableAll xs) = true := by simpa only [PyData.showableAll] using h
    have h2 := Bool.and_eq_true_iff.mp h'
    simp only [PyData.shownAll, wtAll]
    rw [piled_cons]
    have a := shown_le x h2.1
    have b := shownAll_le xs h2.2
    omega
end
end Gl

/-! The end of a law over FnG. -/
namespace Gl
open PySem PySem.Spec PyProof.Rows L2
open PySem.W (OpenLaw)

theorem rmCaller {k : Nat} (h : Room k callerA) : RmG k callerA := ⟨h, rfl⟩

section
variable {P : Program} {w : World} {K : PySem.W.Frag} {mg mb : Str → Option Value} {k : Nat} {fa a : Addr} {fd : FuncData} {x : Str} {sp : Sp} {s1 : Shared} {vs : List Value} {ns : List Int}
/-- what stands at the law's entry -/
structure Entry (P : Program) (w : World) (K : PySem.W.Frag) (mg mb : Str → Option Value) (k : Nat) (fa a : Addr) (fd : FuncData) (x : Str) (sp : Sp) (s1 : Shared) (vs : List Value) (ns : List Int) : Prop where
  kin : K.In s1.heap
  ng : s1.heap.Ns mainGlobals mg
  nb : s1.heap.Ns builtinsNs mb
  bb : ∀ y : Str, y ≠ "__name__" → mb y = bootBuiltins y
  lim : s1.heap.NoLimit
  gn : s1.gens = #[]
  at_ : s1.heap.get? a = some { cls := .type "list", data := .seq vs.toArray }
  ia : IntsAre vs ns
  sz : ns.length ≤ sizeLine
  rm : Room k callerA
  F : ∀ base : Heap, K.In base → base.Ns mainGlobals mg → FnG P w K mg base CX0 k fa fd [x] sp
  bind : ∀ (s : Shared) (u : Value), BindsTo s fd ⟨[u], []⟩ [(x, u)]
  sp_ : ∀ H : Hp, Only H → SqL K H a (ns.map V.int) → sp [.ref a] H (fun v _ => v = .bl true) fun _ _ _ => False
abbrev Fin (s1 : Shared) (r : Result) (s' : Shared) : Prop := r = .ok (.ret (.bool true)) ∧ OldK s1.heap s'.heap ∧ s'.os = s1.os ∧ AllBare s'.gens

theorem Entry.from (N : Entry P w K mg mb k fa a fd x sp s1 vs ns) (H : Hp) (only : Only H) (sq : SqL K H a (ns.map V.int)) (ok : HOk P w H s1.heap)
    (just : ∀ b, H b ≠ none → b = a) (own : H a ≠ none → K.lookup a = none) :
    codeAny (model P w) callerA (.call (.ref fa) ⟨[.ref a], []⟩) (Fin s1) s1 := by
  have none_of : ∀ b, (H b ≠ none → False) → H b = none := fun b z => by
    rcases h : H b with _ | u
    · rfl
    · exact (z (by rw [h]; exact fun e => nomatch e)).elim
  have dict_free : ∀ {b : Addr} {o : Obj} {es : Array DictEntry} {ep : Nat}, s1.heap.get? b = some o → o.data = .dict es ep → H b = none := by
    intro b o es ep e d
    apply none_of
    intro z
    obtain rfl := just b z
    rw [N.at_] at e
    obtain rfl := Option.some.inj e
    exact nomatch d
  have keepNs : ∀ {b : Addr} {m : Str → Option Value}, s1.heap.Ns b m → (hidT s1.heap H).Ns b m := by
    rintro b m ⟨o, es, ep, e, d, r⟩
    exact ⟨o, es, ep, hidT_get e (dict_free e d), d, r⟩
  have kb : K.In (hidT s1.heap H) := by
    intro b o e
    apply hidT_get (N.kin b o e)
    apply none_of
    intro z
    obtain rfl := just b z
    rw [own z] at e
    exact nomatch e
  have lim : (hidT s1.heap H).NoLimit := by
    obtain ⟨m, h1, h2⟩ := N.lim
    exact ⟨m, keepNs h1, h2⟩
  have md : Mod K mg (hidT s1.heap H) := ⟨kb, keepNs N.ng, ⟨mb, keepNs N.nb, N.bb⟩, lim⟩
  have e0 : Env0 P w K mg (hidT s1.heap H) callerA [] s1 H :=
    { frames := rfl, mod := md, bs := fun _ _ e => of_hidT e, bsz := Nat.le_of_eq (hidT_size _ _), funs := trivial,
      frf := (fun b z => absurd (show b ∈ ([] : List Addr) from z) (by simp)), hok := ok, bare := .of_eq N.gn }
  have c := (N.F _ kb (keepNs N.ng)).go callerA [] s1 H ⟨[.ref a], []⟩ [.ref a] [.ref a] _ _ (rmCaller N.rm) e0 (N.bind s1 (.ref a)) (.cons rfl .nil) (N.sp_ H only sq)
  apply codeAny_mono c
  intro r s2 z
  match r, z with
  | .error e, z => exact z.elim
  | .ok .next, z => exact z.elim
  | .ok .brk, z => exact z.elim
  | .ok .cont, z => exact z.elim
  | .ok (.ret u), ⟨v, H2, os, br, un, ok2, rv, q⟩ =>
    obtain rfl : v = .bl true := q
    obtain rfl : u = Value.bool true := rv
    refine ⟨rfl, OldK.of_keep ?_, os, br⟩
    intro b o e
    rcases h : H b with _ | u
    · exact un.keep b o e h (fun z => nomatch z) (fun z => nomatch z)
    · rcases only b with z | ⟨ob, xs, z⟩
      · rw [h] at z
        exact nomatch z
      · have y1 := (ok b _ z).1
        have y2 := (ok2 b _ (un.frzs b ob _ z)).1
        obtain rfl := Option.some.inj (e.symm.trans y1)
        exact y2

theorem Entry.run (N : Entry P w K mg mb k fa a fd x sp s1 vs ns) : codeAny (model P w) callerA (.call (.ref fa) ⟨[.ref a], []⟩) (Fin s1) s1 := by
  have rv := vals_ints N.ia
  rcases hk : K.lookup a with _ | o
  · let ob : Obj := { cls := .type "list", data := .seq vs.toArray }
    let H : Hp := upd (fun _ => none) a (.frz ob (.lst (ns.map V.int)))
    have ha : H a = some (.frz ob (.lst (ns.map V.int))) := upd_same
    have hn : ∀ b, b ≠ a → H b = none := fun b z => upd_ne z
    have just : ∀ b, H b ≠ none → b = a := fun b z => Decidable.byContradiction fun y => z (hn b y)
    refine N.from H ?_ (.inl (.inr ⟨ob, ha⟩)) ?_ just fun _ => hk
    · intro b
      by_cases z : b = a
      · subst z
        exact .inr ⟨ob, ns.map V.int, ha⟩
      · exact .inl (hn b z)
    · intro b o z
      obtain rfl := just b (by rw [z]; exact fun e => nomatch e)
      rw [ha] at z
      obtain rfl := Option.some.inj z
      exact ⟨N.at_, by rw [List.length_map]; exact N.sz, vs, _, rv, N.at_⟩
  · have e := N.kin a o hk
    rw [N.at_] at e
    obtain rfl := Option.some.inj e
    refine N.from (fun _ => none) (fun _ => .inl rfl) (.inr ⟨_, vs.toArray, _, hk, rfl, rfl, rfl, ?_, by simpa using rv⟩) (fun b u z => nomatch (show (none : Option HO) = some u from z)) (fun b z => (z rfl).elim) fun z => (z rfl).elim
    rw [List.size_toArray, N.ia.length]
    exact N.sz
end

theorem walkG {l : OpenLaw} {n k : Nat} {q : Program} {lo : List Str} {XP : (Str → Option Value) → Heap → Prop} {YP : World → Heap → Prop} {d : DefRec} {K : Params → PySem.W.Frag} {sp : PySem.W.Frag → Sp} {x : Str}
    (hn : l.most = some n) (n2 : n ≤ sizeLine) (df : d.params.defaults = []) (rm : Room k callerA)
    (kY : ∀ (w : World) (h : Heap), YP w h → (K w.params).In h)
    (F : ∀ (w : World) (mg : Str → Option Value) (fa : Addr) (h : Heap), (K w.params).In h → h.Ns mainGlobals mg → mg d.name = some (.ref fa) →
      ∃ fd : FuncData, (∀ (s : Shared) (u : Value), BindsTo s fd ⟨[u], []⟩ [(x, u)]) ∧
        ∀ base : Heap, (K w.params).In base → base.Ns mainGlobals mg → FnG l.prog w (K w.params) mg base CX0 k fa fd [x] (sp (K w.params)))
    (hs : ∀ (K : PySem.W.Frag) (H : Hp) (a : Addr) (ns : List Int), ns.length ≤ n → Only H → SqL K H a (ns.map V.int) → sp K [.ref a] H (fun v _ => v = .bl true) fun _ _ _ => False) :
    PySem.W.WalkO q lo XP YP l.row.toRowW d [] (fun f vs => PySem.call f vs) := by
  apply Att.attach_call hn df
  intro w s0 s1 mg mb fa o pm cd doc a vs ns G Y ho hd hc hm ha hi hl hg
  obtain ⟨fd, hb, hF⟩ := F w mg fa _ (kY w _ Y) G.T.g hm
  exact Entry.run { kin := kY w _ Y, ng := G.T.g, nb := G.T.b, bb := G.T.builtins, lim := G.T.nolimit, gn := hg, at_ := ha, ia := hi, sz := Nat.le_trans hl n2, rm := rm, F := hF, bind := hb, sp_ := fun H h1 h2 => hs _ H a ns hl h1 h2 }
end Gl

namespace Gl
open PySem PySem.Spec PyProof.Rows L2
def topS (i : Nat) : Stmt := PySem.Challenge.pw_mostkept_k02_values_and_agreements.main.body.getD i (.Pass ⟨0, 0, 0, 0⟩)
/-- what the dice are: a list of three ints -/
def Dice (H : Hp) (a : Addr) : Prop := ∃ x y z : Int, H a = some (.lst [.int x, .int y, .int z])
/-- all that stands stays -/
def Ex (H H' : Hp) : Prop := ∀ b o, H b = some o → H' b = some o
/-- all that stands stays, but the dice at a -/
structure Gro (a : Addr) (H H' : Hp) : Prop where
  st : ∀ b o, b ≠ a → H b = some o → H' b = some o
  di : Dice H' a
theorem Ex.refl (H : Hp) : Ex H H := fun _ _ e => e
theorem Ex.trans {H H1 H2 : Hp} (a : Ex H H1) (b : Ex H1 H2) : Ex H H2 := fun _ _ e => b _ _ (a _ _ e)
theorem Ex.new {H : Hp} {p : Addr} {o : HO} (h : H p = none) : Ex H (upd H p o) := fun b u e => by rw [upd_ne (ne_of_none e h)]; exact e
/-- an object that was not there may change -/
theorem Ex.mut {H H' : Hp} {p : Addr} {o : HO} (e : Ex H H') (h : H p = none) : Ex H (upd H' p o) := fun b u q => by rw [upd_ne (ne_of_none q h)]; exact e b u q
theorem Ex.sqL {K : PySem.W.Frag} {H H' : Hp} {a : Addr} {xs : List V} (e : Ex H H') (h : SqL K H a xs) : SqL K H' a xs := by
  rcases h with (h | ⟨o, h⟩) | h
  · exact .inl (.inl (e a _ h))
  · exact .inl (.inr ⟨o, e a _ h⟩)
  · exact .inr h
theorem Ex.rd {H H' : Hp} {a : Addr} {u : HO} (e : Ex H H') (h : Rd H a u) : Rd H' a u := by
  rcases h with h | ⟨o, h⟩
  · exact .inl (e a _ h)
  · exact .inr ⟨o, e a _ h⟩
theorem Ex.dice {H H' : Hp} {a : Addr} (e : Ex H H') (h : Dice H a) : Dice H' a := let ⟨x, y, z, q⟩ := h; ⟨x, y, z, e a _ q⟩
theorem Ex.back {H H' : Hp} {p : Addr} (e : Ex H H') (h : H' p = none) : H p = none := by
  rcases q : H p with _ | o
  · rfl
  · rw [e p o q] at h; exact nomatch h
theorem Gro.refl {H : Hp} {a : Addr} (d : Dice H a) : Gro a H H := ⟨fun _ _ _ e => e, d⟩
theorem Gro.trans {a : Addr} {H H1 H2 : Hp} (x : Gro a H H1) (y : Gro a H1 H2) : Gro a H H2 := ⟨fun b o n e => y.st b o n (x.st b o n e), y.di⟩
theorem Gro.ex {a : Addr} {H H1 H2 : Hp} (x : Gro a H H1) (y : Ex H1 H2) : Gro a H H2 := ⟨fun b o n e => y b o (x.st b o n e), y.dice x.di⟩
theorem Gro.of {a : Addr} {H H1 : Hp} (y : Ex H H1) (d : Dice H a) : Gro a H H1 := (Gro.refl d).ex y
theorem Gro.mut {a : Addr} {H H' : Hp} {p : Addr} {o : HO} (x : Gro a H H') (h : H p = none) (n : p ≠ a) : Gro a H (upd H' p o) :=
  ⟨fun b u nb e => by rw [upd_ne (ne_of_none e h)]; exact x.st b u nb e, let ⟨i, j, k, q⟩ := x.di; ⟨i, j, k, by rw [upd_ne n.symm]; exact q⟩⟩
theorem Gro.tup {a p : Addr} {H H' : Hp} {xs : List V} (x : Gro a H H') (d : Dice H a) (h : H p = some (.tup xs)) : H' p = some (.tup xs) :=
  x.st p _ (fun e => by obtain ⟨i, j, k, q⟩ := d; rw [e, q] at h; exact nomatch h) h
theorem Gro.rd {a p : Addr} {H H' : Hp} {xs : List V} (x : Gro a H H') (d : Dice H a) (h : Rd H p (.tup xs)) : Rd H' p (.tup xs) := by
  obtain ⟨i, j, k, q⟩ := d
  rcases h with h | ⟨o, h⟩
  · exact .inl (x.st p _ (fun e => by rw [e, q] at h; exact nomatch h) h)
  · exact .inr ⟨o, x.st p _ (fun e => by rw [e, q] at h; exact nomatch h) h⟩
theorem Gro.frz {a p : Addr} {H H' : Hp} {o : Obj} {u : HO} (x : Gro a H H') (d : Dice H a) (h : H p = some (.frz o u)) : H' p = some (.frz o u) := by
  obtain ⟨i, j, k, q⟩ := d
  exact x.st p _ (fun e => by rw [e, q] at h; exact nomatch h) h
theorem Gro.sqL {K : PySem.W.Frag} {a p : Addr} {H H' : Hp} {xs : List V} (x : Gro a H H') (n : p ≠ a) (h : SqL K H p xs) : SqL K H' p xs := by
  rcases h with (h | ⟨o, h⟩) | h
  · exact .inl (.inl (x.st p _ n h))
  · exact .inl (.inr ⟨o, x.st p _ n h⟩)
  · exact .inr h
theorem Gro.back {a p : Addr} {H H' : Hp} (x : Gro a H H') (d : Dice H a) (h : H' p = none) : H p = none ∧ p ≠ a := by
  have n : p ≠ a := fun e => by obtain ⟨i, j, k, q⟩ := x.di; rw [← e, h] at q; exact nomatch q
  refine ⟨?_, n⟩
  rcases q : H p with _ | o
  · rfl
  · rw [x.st p o n q] at h; exact nomatch h
theorem Dice.ne {H : Hp} {a p : Addr} (d : Dice H a) (h : H p = none) : p ≠ a := fun e => by obtain ⟨i, j, k, q⟩ := d; rw [← e, h] at q; exact nomatch q
/-- names that the module leaves to the built-ins -/
structure Blt (mg : Str → Option Value) : Prop where
  len : mg "len" = none
  int : mg "int" = none
  abs : mg "abs" = none
  max : mg "max" = none
  min : mg "min" = none
  range : mg "range" = none
  tuple : mg "tuple" = none
  list : mg "list" = none
  repr : mg "repr" = none
  zip : mg "zip" = none
  isinstance : mg "isinstance" = none
  all : mg "all" = none
  str : mg "str" = none
  bool : mg "bool" = none
end Gl

namespace Gl
open PySem PySem.Spec PyProof.Rows L2
abbrev sDice : Stmt := topS 24
abbrev sPull : Stmt := topS 25
abbrev sPick : Stmt := topS 26
theorem scDice : FnScope ["_law_script", "_law_at", "_law_cell", "_law_great", "_law_mixed"] ["_law_script", "_law_at"] (defScope sDice) := ⟨rfl, rfl, rfl, by decide +kernel, rfl, by decide +kernel, by decide +kernel⟩
theorem scPull : FnScope ["_law_dice_here", "_law_total", "_law_found", "_law_one", "_law_two"] ["_law_dice_here", "_law_total"] (defScope sPull) := ⟨rfl, rfl, rfl, by decide +kernel, rfl, by decide +kernel, by decide +kernel⟩
theorem scPick : FnScope ["_law_dice_here", "_law_items"] ["_law_dice_here", "_law_items"] (defScope sPick) := ⟨rfl, rfl, rfl, by decide +kernel, rfl, by decide +kernel, by decide +kernel⟩
section
variable {P : Program} {w : World} {K : PySem.W.Frag} {mg : Str → Option Value} {base : Heap}
def spDice (K : PySem.W.Frag) : Sp := fun vs H Q _ => ∃ (a : Addr) (ns : List Int) (at_ : Nat), vs = [.ref a, .int at_] ∧ SqL K H a (ns.map V.int) ∧ ns.length ≤ 63 ∧
  ∀ H' p, Ex H H' → H p = none → Dice H' p → Q (.ref p) H'
theorem cmul_l {i j : Int} (h1 : -(2 ^ 64) < i) (h2 : i < 2 ^ 64) : CMul i j := .inl ⟨h1, h2⟩
theorem cpw60 : CPw 10 60 := ⟨by decide, by decide +kernel⟩
theorem cpw12 : CPw ((10 : Int) ^ (60 : Int).toNat) 12 := ⟨by decide, by decide +kernel⟩
theorem cpw18 : CPw 10 18 := ⟨by decide, by decide +kernel⟩
theorem pos720 : (0 : Int) < ((10 : Int) ^ (60 : Int).toNat) ^ (12 : Int).toNat := by decide +kernel
theorem ok_dice {f : Addr} {fd : FuncData} {k : Nat} (F : Fun K "_law_dice" "_law_dice" sDice f fd) (T : Blt mg) : FnG P w K mg base CX0 (k + 1) f fd ["_law_script", "_law_at"] (spDice K) := by
  refine okG F scDice (fun vs H Q E h => ?_) (fun cdv A outer s H vs Q E hr h => ?_)
  · obtain ⟨a, ns, i, rfl, _⟩ := h
    rfl
  · obtain ⟨a, ns, i, rfl, hS, hl, q⟩ := h
    have nd := scDice.nd
    refine ⟨_, pss_cons (ps_set (i := 2) nd rfl (.inl rfl) (pe_op op_add (pe_op op_mul pe_int (pv 1)) pe_int))
      (pss_cons (ps_if (pt_cmpR op_lt (pv 1) (pe_callB call_len_seq (by rfl) T.len PySem.boot_len (pa_cons (pv 0) pa_nil)) (nomark _)) (pss_one (ps_set (i := 2) nd rfl (.inl rfl) (pe_ix ix_list (pv 0) (pv 1) (fun _ _ => rfl)))) pss_nil)
      (pss_cons (ps_set (i := 3) nd rfl (.inl rfl) (pe_op op_mod (pe_callTy call_int1 (by rfl) T.int (by decide +kernel) (pa_cons (pe_callB call_abs (by rfl) T.abs (by decide +kernel) (pa_cons (pv 2) pa_nil)) pa_nil)) (pe_op op_powW (pe_op op_powW pe_int pe_int) pe_int)))
      (pss_cons (ps_set (i := 4) nd rfl (.inl rfl) (pe_op op_add (pe_op op_add (pe_op op_add (pe_op op_mul (pe_op op_mod (pe_callTy call_int1 (by rfl) T.int (by decide +kernel) (pa_cons (pv 3) pa_nil)) pe_int) pe_int) (pe_op op_mul pe_int (pv 1))) (pe_op op_mul pe_int (pe_callTy call_int1 (by rfl) T.int (by decide +kernel) (pa_cons (pe_cmpR op_lt (pv 2) pe_int (nomark _)) pa_nil)))) pe_int))
      (pss_one (ps_ret (pe_lst (pa_cons (pe_callB (call_max2 rfl) (by rfl) T.max (by decide +kernel) (pa_cons pe_int (pa_cons (pe_op op_sub (pv 3) (pe_op op_powW pe_int pe_int)) pa_nil))) (pa_cons (pe_op op_mod (pe_callTy call_int1 (by rfl) T.int (by decide +kernel) (pa_cons (pv 4) pa_nil)) pe_int) (pa_cons pe_int pa_nil))))))))), ?_⟩
    -- cell = 13 * at + 6
    refine ⟨_, rfl, 13, i, rfl, rfl, cmul_l (by decide) (by decide), _, _, rfl, rfl, ?_⟩
    -- if at < len(script): cell = script[at]
    refine ⟨_, rfl, .ref a, rfl, a, _, rfl, .inl hS, i, _, rfl, rfl, _, rfl, ?_⟩
    refine ite2 (fun e => ?_) (fun e => ?_)
    have hi : i < ns.length := by
      have := of_decide_eq_true e
      rw [List.length_map] at this
      omega
    refine ⟨_, rfl, _, rfl, a, _, i, .int ns[i], rfl, rfl, hS, atI_nat (j := i) (by rw [List.getElem?_map, List.getElem?_eq_getElem hi]; rfl), ?_⟩
    generalize ns[i] = c
    revert c
    rotate_left
    generalize 13 * (i : Int) + 6 = c
    revert c
    all_goals
      intro c
      refine ⟨_, rfl, _, rfl, .inl ⟨_, rfl, 10, 60, rfl, rfl, cpw60, _, 12, rfl, rfl, cpw12, _, _, rfl, rfl, pos720, ?_⟩⟩
      refine ⟨_, rfl, .inl ⟨_, rfl, _, _, rfl, rfl, (show (0 : Int) < 2147483497 by decide), _, _, rfl, rfl, .inr ⟨by decide, by decide⟩, _, rfl, _, _, rfl, rfl, cmul_l (by decide) (by decide), _, _, rfl, rfl, _, rfl, _, _, rfl, rfl, .inr ⟨_, rfl, _, _, rfl, rfl, cmul_l (by decide) (by decide), _, _, rfl, rfl, _, _, rfl, rfl, ?_⟩⟩⟩
      refine ⟨_, rfl, 10, 18, rfl, rfl, cpw18, _, _, rfl, rfl, _, _, rfl, _, rfl, .inl ⟨_, rfl, _, _, rfl, rfl, (show (0 : Int) < 2147483489 by decide), by show 3 ≤ sizeLine; decide, fun p np => ?_⟩⟩
      exact q _ p (Ex.new np) np ⟨_, _, _, upd_same⟩
def spPull : Sp := fun vs H Q _ => ∃ (a : Addr) (n : Int), vs = [.ref a, .int n] ∧ 0 < n ∧ n.natAbs < 2 ^ 200 ∧ Dice H a ∧
  ∀ (v : Int) H', 0 ≤ v → v < n → Gro a H H' → Q (.int v) H'
theorem ok_pull {f : Addr} {fd : FuncData} {k : Nat} (F : Fun K "_law_pull" "_law_pull" sPull f fd) (T : Blt mg) : FnG P w K mg base CX0 (k + 1) f fd ["_law_dice_here", "_law_total"] spPull := by
  refine okG F scPull (fun vs H Q E h => ?_) (fun cdv A outer s H vs Q E hr h => ?_)
  · obtain ⟨a, n, rfl, _⟩ := h
    rfl
  · obtain ⟨a, n, rfl, hn, hn2, ⟨x, y, z, hd⟩, q⟩ := h
    have nd := scPull.nd
    have hu := hu_of hr.rm
    refine ⟨_, pss_cons (ps_if (pt_cmpR op_gt (pe_ix ix_list (pv 0) pe_int (fun _ _ => rfl)) pe_int (nomark _))
        (pss_cons (ps_set (i := 2) nd rfl (.inl rfl) (pe_op op_mod (pe_callTy call_int1 (by rfl) T.int (by decide +kernel) (pa_cons (pe_ix ix_list (pv 0) pe_int (fun _ _ => rfl)) pa_nil)) (pv 1)))
        (pss_cons (ps_asg (pe_op op_fdivW (pe_ix ix_list (pv 0) pe_int (fun _ _ => rfl)) (pv 1)) (pg_sub (pv 0) pe_int set_list))
        (pss_one (ps_ret (pv 2))))) pss_nil)
      (pss_cons (ps_asg (pe_op op_add (pe_ix ix_list (pv 0) pe_int (fun _ _ => rfl)) pe_int) (pg_sub (pv 0) pe_int set_list))
      (pss_cons (ps_set (i := 3) nd rfl (.inl rfl) (pe_op op_mod (pe_callTy call_int1 (by rfl) T.int (by decide +kernel) (pa_cons (pe_op op_add (pe_ix ix_list (pv 0) pe_int (fun _ _ => rfl)) (pe_op op_mul pe_int (pe_ix ix_list (pv 0) pe_int (fun _ _ => rfl)))) pa_nil)) pe_int))
      (pss_cons (ps_set (i := 4) nd rfl (.inl rfl) (pe_op op_mul (pe_op op_mod (pe_callTy call_int1 (by rfl) T.int (by decide +kernel) (pa_cons (pe_op op_mul (pv 3) (pv 3)) pa_nil)) pe_int) (pv 3)))
      (pss_one (ps_ret (pe_op op_mod (pe_callTy call_int1 (by rfl) T.int (by decide +kernel) (pa_cons (pe_op op_fdiv (pe_op op_mod (pe_callTy call_int1 (by rfl) T.int (by decide +kernel) (pa_cons (pe_op op_add (pv 4) (pe_op op_mul pe_int (pe_ix ix_list (pv 0) pe_int (fun _ _ => rfl)))) pa_nil)) pe_int) pe_int) pa_nil)) (pv 1))))))), ?_⟩
    have at0 : atI [V.int x, .int y, .int z] 0 = some (.int x) := rfl
    have hl : SqL K H a [.int x, .int y, .int z] := .inl (.inl hd)
    have hdi : ∀ H', H' a = some (.lst [.int x, .int y, .int z]) → SqL K H' a [.int x, .int y, .int z] := fun _ h => .inl (.inl h)
    have grow : ∀ x' y' z' : Int, Gro a H (upd H a (.lst [.int x', .int y', .int z'])) := fun x' y' z' => ⟨fun b o n e => by rw [upd_ne n]; exact e, x', y', z', upd_same⟩
    refine ⟨_, rfl, a, _, 0, _, rfl, rfl, hl, rfl, _, _, rfl, rfl, _, rfl, ite2 (fun e => ?_) (fun e => ?_)⟩
    · refine ⟨_, rfl, a, _, 0, _, rfl, rfl, hl, rfl, .inl ⟨_, rfl, _, rfl, x, n, rfl, rfl, hn, ?_⟩⟩
      refine ⟨_, rfl, a, _, 0, _, rfl, rfl, hl, rfl, _, rfl, x, n, rfl, rfl, wide_div hn hn2 (by decide) (by decide), ?_⟩
      refine ⟨_, rfl, a, _, 0, 0, rfl, rfl, hd, rfl, ?_⟩
      exact ⟨_, rfl, q (x % n) _ (Int.emod_nonneg _ (by omega)) (Int.emod_lt_of_pos _ hn) (grow _ _ _)⟩
    · refine ⟨_, rfl, a, _, 2, _, rfl, rfl, hl, rfl, z, 1, rfl, rfl, ?_⟩
      refine ⟨_, rfl, a, _, 2, 2, rfl, rfl, hd, rfl, ?_⟩
      have hl2 : SqL K (upd H a (.lst [.int x, .int y, .int (z + 1)])) a [.int x, .int y, .int (z + 1)] := .inl (.inl upd_same)
      refine ⟨_, rfl, a, _, 1, _, rfl, rfl, hl2, rfl, _, rfl, a, _, 2, _, rfl, rfl, hl2, rfl, _, _, rfl, rfl, cmul_l (by decide) (by decide), _, _, rfl, rfl, .inl ⟨_, rfl, _, _, rfl, rfl, (show (0 : Int) < 2305843009213693951 by decide), ?_⟩⟩
      have b1 : ∀ u : Int, 0 ≤ u % 2305843009213693951 ∧ u % 2305843009213693951 < 2305843009213693951 := fun u => ⟨Int.emod_nonneg _ (by decide), Int.emod_lt_of_pos _ (by decide)⟩
      have b2 : ∀ u : Int, 0 ≤ u % 2305843009213693921 ∧ u % 2305843009213693921 < 2305843009213693921 := fun u => ⟨Int.emod_nonneg _ (by decide), Int.emod_lt_of_pos _ (by decide)⟩
      have c1 : ∀ u v : Int, CMul (u % 2305843009213693951) v := fun u v => cmul_l (by have := b1 u; omega) (by have := b1 u; omega)
      have c2 : ∀ u v : Int, CMul (u % 2305843009213693921) v := fun u v => cmul_l (by have := b2 u; omega) (by have := b2 u; omega)
      refine ⟨_, rfl, _, rfl, _, _, rfl, rfl, c1 _ _, .inl ⟨_, rfl, _, _, rfl, rfl, (show (0 : Int) < 2305843009213693921 by decide), _, rfl, _, _, rfl, rfl, c2 _ _, ?_⟩⟩
      refine ⟨_, rfl, _, rfl, a, _, 2, _, rfl, rfl, hl2, rfl, _, _, rfl, rfl, cmul_l (by decide) (by decide), _, _, rfl, rfl, .inl ⟨_, rfl, _, _, rfl, rfl, (show (0 : Int) < 2305843009213693907 by decide), _, _, rfl, rfl, ⟨by decide, by decide⟩, .inl ⟨_, rfl, _, rfl, _, _, rfl, rfl, hn, ?_⟩⟩⟩
      exact q _ _ (Int.emod_nonneg _ (by omega)) (Int.emod_lt_of_pos _ hn) (grow _ _ _)
end
end Gl

namespace Gl
open PySem PySem.Spec PyProof.Rows L2
/-- a tuple that carries no dict of its own: known to the object -/
def TupF (H : Hp) (p : Addr) (xs : List V) : Prop := ∃ o : Obj, o.dict = none ∧ H p = some (.frz o (.tup xs))
theorem TupF.rd {H : Hp} {p : Addr} {xs : List V} (h : TupF H p xs) : Rd H p (.tup xs) := let ⟨o, _, e⟩ := h; .inr ⟨o, e⟩
theorem Ex.tupF {H H' : Hp} {p : Addr} {xs : List V} (e : Ex H H') (h : TupF H p xs) : TupF H' p xs := let ⟨o, d, q⟩ := h; ⟨o, d, e _ _ q⟩
theorem Gro.tupF {a p : Addr} {H H' : Hp} {xs : List V} (x : Gro a H H') (d : Dice H a) (h : TupF H p xs) : TupF H' p xs := let ⟨o, n, q⟩ := h; ⟨o, n, x.frz d q⟩
theorem tupF_new {H : Hp} {p : Addr} {xs : List V} {o : Obj} (d : o.dict = none) : TupF (upd H p (.frz o (.tup xs))) p xs := ⟨o, d, upd_same⟩
section
variable {X : Cx}
/-- tuple(a list): new, without a dict -/
def rTupF (K : PySem.W.Frag) : List V → Hp → VK → Prop := fun xs H Q => ∃ p ys, xs = [.ref p] ∧ SqL K H p ys ∧ ∀ l o, H l = none → o.dict = none → Q (.ref l) (upd H l (.frz o (.tup ys)))
theorem call_tupleF : CallR X (.type "tuple") (rTupF X.K) := by
  rintro pins s σ H xs us Q I rv ⟨p, ys, rfl, hq, q⟩
  obtain ⟨u, rfl, ru⟩ := vals1 rv
  obtain rfl : u = Value.ref p := ru
  obtain ⟨its, ri, pl, hz⟩ := I.list hq
  have n1 := ri.length
  apply call_tuple_list pl.isList _ (by simp only [List.size_toArray]; omega)
  intro h' kp
  have J : Inv X pins σ H { s with heap := h' } := I.kept (t' := s.toks) kp
  let o : Obj := { cls := .type "tuple", data := .seq its.toArray }
  have g : (h'.push o).get? h'.objs.size = some o := Heap.get?_push_size _ rfl
  have ok : ObjOk X.prog X.w (upd H h'.objs.size (.frz o (.tup ys))) (h'.push o) h'.objs.size (.frz o (.tup ys)) :=
    ⟨g, hz, its, ri, o, g, rfl, _, rfl⟩
  exact ⟨.ref h'.objs.size, _, J.laid (t' := s.toks) (fun _ _ e => Heap.get?_push_of_some _ e) (Nat.le_refl _) ok, rfl, q _ o (J.hok.fresh (Nat.le_refl _)) rfl⟩
variable {es : List Expr} {pos : Pos} {t : TA}
/-- (a, b, ..): new, without a dict -/
def tTupF (t : TA) : TE := fun σ H Q => t σ H fun xs H1 => xs.length ≤ sizeLine ∧ ∀ p o, H1 p = none → o.dict = none → Q (.ref p) (upd H1 p (.frz o (.tup xs)))
theorem pe_tupF {n} (h : PA X es t) : PE X (.Tuple es n pos) (tTupF t) := .mk fun pins s σ H Q I hq => by
  apply wpAny_Tuple_spliced
  apply thn (h.run pos pins s σ H _ I hq)
  rintro us s1 ⟨xs, H1, J, r, z, q⟩
  refine ⟨by rw [← r.length]; exact z, ?_⟩
  let o : Obj := { cls := .type "tuple", data := .seq us.toArray }
  have g : (s1.heap.push o).get? s1.heap.objs.size = some o := Heap.get?_push_size _ rfl
  have ok : ObjOk X.prog X.w (upd H1 s1.heap.objs.size (.frz o (.tup xs))) (s1.heap.push o) s1.heap.objs.size (.frz o (.tup xs)) :=
    ⟨g, z, us, r, o, g, rfl, _, rfl⟩
  exact ⟨.ref s1.heap.objs.size, _, J.laid (t' := s1.toks) (fun _ _ e => Heap.get?_push_of_some _ e) (Nat.le_refl _) ok, rfl, q _ o (J.hok.fresh (Nat.le_refl _)) rfl⟩
/-- t.m(e, ..), t a tuple without a dict -/
def tBMT (r : V → List V → Hp → VK → Prop) (to : TE) (t : TA) : TE := fun σ H Q => to σ H fun x H1 => (∃ p xs, x = .ref p ∧ TupF H1 p xs) ∧ t σ H1 fun ys H2 => r x ys H2 Q
theorem pe_bmT {o e : Expr} {name : Str} {apos cpos : Pos} {id : String} {to : TE} {r : V → List V → Hp → VK → Prop} (sl : Slot "tuple" name id) (ty : typeOf (.builtin id) = pure (.type "method_descriptor")) (hm : MtR X id r) (ho : PE X o to) (ha : PA X (e :: es) t)
    (h1 : attributeBase o name X.env (eval o X.env) = eval o X.env := by rfl)
    (h2 : ((backTo cpos (starEach (e :: es) X.env)).all (fun x => !x.1) && (backToKw cpos (keywordEach [] X.env)).all (fun x => x.1.isSome)
        && decide ((e :: es).length + ([] : List Keyword).length + (if ([] : List Keyword).isEmpty then 0 else 1) < 30)) = true := by rfl)
    (h3 : (apos.endLine == cpos.line) = true := by rfl) (h4 : starEach (e :: es) X.env = (false, eval e X.env) :: starEach es X.env := by rfl)
    (h5 : (backTo cpos (starEach es X.env)).any (·.1) = false := by rfl) :
    PE X (.Call (.Attribute o name apos) (e :: es) [] cpos) (tBMT r to t) := .mk fun pins s σ H Q I h => by
  apply wpAny_Call_method_late h1 h2 h3 rfl
  apply thn (ho.run pins s σ H _ I h)
  rintro v s1 ⟨x, H1, J, rx, ⟨p, xs, rfl, ob, hd, hp⟩, q⟩
  obtain rfl : v = Value.ref p := rx
  obtain ⟨g, _, its, ri, o2, g2, c2, _⟩ := J.hok p _ hp
  obtain rfl := Option.some.inj (g.symm.trans g2)
  refine ⟨"tuple", id, PySem.F.plainAttrs_tuple, sl, ty, ⟨ob, g, c2⟩, ?_, ?_⟩
  · rintro a z
    obtain rfl := Value.ref.inj z
    exact ⟨ob, g, hd⟩
  · have A := ha.run cpos pins s1 σ H1 _ J q
    rw [h4] at A ⊢
    have h6 : (backTo cpos ((false, eval e X.env) :: starEach es X.env)).any (·.1) = false := (Bool.false_or _).trans h5
    apply Calls.callWith_builtin h6
    apply Calls.evalArgs_plain
    exact thn A fun us s2 ⟨vs, H2, J2, r2, q2⟩ => hm pins s2 σ H2 _ vs _ us Q J2 (show RelV (V.ref p) (Value.ref p) from rfl) r2 q2
end
end Gl

namespace Gl
open PySem PySem.Spec PyProof.Rows L2
abbrev sColumns : Stmt := topS 27
theorem scColumns : FnScope ["_law_dice_here", "_law_total", "_law_signs", "_law_found", "_law_at", "_law_word", "_law_turn"] ["_law_dice_here", "_law_total"] (defScope sColumns) := ⟨rfl, rfl, rfl, by decide +kernel, rfl, by decide +kernel, by decide +kernel⟩
/-- a small letter -/
def Small (x : Nat) : Prop := 97 ≤ x ∧ x ≤ 122
def Words (cs : List Str) : Prop := ∀ (i : Nat) (c : Str), cs[i]? = some c → ∃ (d : Nat) (r : List Nat), c.cps.toList = (97 + d) :: r ∧ (d = 2 * i ∨ d = 2 * i + 1) ∧ r.length ≤ 2 ∧ ∀ x ∈ r, Small x
abbrev abc : Str := "abcdefghijklmnopqrstuvwxyz"
theorem abc_at : ∀ i : Nat, i < 26 → abc.cps.toList[i]? = some (97 + i) := by decide +kernel
theorem abc_len : abc.length = 26 := by decide +kernel
theorem abc_mem {x : Nat} : x ∈ abc.cps.toList ↔ Small x := by
  have h : abc.cps.toList = (List.range 26).map (97 + ·) := by decide +kernel
  rw [h]
  unfold Small
  constructor
  · intro q
    obtain ⟨i, hi, e⟩ := List.mem_map.mp q
    have := List.mem_range.mp hi
    omega
  · rintro ⟨h1, h2⟩
    exact List.mem_map.mpr ⟨x - 97, List.mem_range.mpr (by omega), by omega⟩
theorem atI_abc {i : Int} (h0 : 0 ≤ i) (h : i < 26) : atI abc.cps.toList i = some (97 + i.toNat) := by
  obtain ⟨n, rfl⟩ : ∃ n : Nat, i = n := ⟨i.toNat, by omega⟩
  exact atI_nat (abc_at n (by omega))
section
variable {P : Program} {w : World} {K : PySem.W.Frag} {mg : Str → Option Value} {base : Heap}
def spPick : Sp := fun vs H Q _ => ∃ (a p : Addr) (xs : List V), vs = [.ref a, .ref p] ∧ H p = some (.lst xs) ∧ p ≠ a ∧ xs ≠ [] ∧ xs.length ≤ 1000 ∧ Dice H a ∧
  ∀ (v : V) H', v ∈ xs → Gro a H H' → Q v H'
/-- the dice's defs -/
structure Dc (P : Program) (w : World) (K : PySem.W.Frag) (mg : Str → Option Value) (base : Heap) where
  f : Addr
  fd : FuncData
  G : FnG P w K mg base CX0 1 f fd ["_law_dice_here", "_law_total"] spPull
  g : mg "_law_pull" = some (.ref f)
  kp : PySem.W.keepIn K (.ref f) = true
  b : Binds K fd ["_law_dice_here", "_law_total"] []
theorem ok_pick {f : Addr} {fd : FuncData} (F : Fun K "_law_pick" "_law_pick" sPick f fd) (T : Blt mg) (D : Dc P w K mg base) : FnG P w K mg base CX0 2 f fd ["_law_dice_here", "_law_items"] spPick := by
  refine okG F scPick (fun vs H Q E h => ?_) (fun cdv A outer s H vs Q E hr h => ?_)
  · obtain ⟨a, n, xs, rfl, _⟩ := h
    rfl
  · obtain ⟨a, p, xs, rfl, hp, pa, hx, hl, hd, q⟩ := h
    have nd := scPick.nd
    refine ⟨_, pss_one (ps_ret (pe_ix ix_list (pv 1) (pe_callG D.G hr (by rfl) D.g D.kp D.b .nil pass0 (pa_cons (pv 0) (pa_cons (pe_callB call_len_seq (by rfl) T.len PySem.boot_len (pa_cons (pv 1) pa_nil)) pa_nil))) (fun _ _ => rfl))), ?_⟩
    have hl0 : 0 < xs.length := List.length_pos_iff.mpr hx
    refine ⟨_, rfl, _, rfl, _, rfl, p, xs, rfl, .inl (.inl (.inl hp)), a, _, rfl, by omega, Nat.lt_of_le_of_lt (show ((xs.length : Int)).natAbs ≤ 1000 by omega) (by decide), hd, fun v H' h0 h1 gr => ?_⟩
    obtain ⟨m, rfl⟩ : ∃ m : Nat, v = m := ⟨v.toNat, by omega⟩
    have hi : m < xs.length := by omega
    exact ⟨p, xs, m, xs[m], rfl, rfl, .inl (.inl (gr.st p _ pa hp)), atI_nat (List.getElem?_eq_getElem hi), q _ _ (List.getElem_mem hi) gr⟩

def spColumns : Sp := fun vs H Q _ => ∃ (a : Addr) (n : Nat), vs = [.ref a, .int n] ∧ n ≤ 12 ∧ Dice H a ∧
  ∀ (cs : List Str) p H', Words cs → cs.length = n → Gro a H H' → H p = none → TupF H' p (cs.map V.str) → Q (.ref p) H'
theorem ok_columns {f : Addr} {fd : FuncData} (F : Fun K "_law_columns" "_law_columns" sColumns f fd) (T : Blt mg) (D : Dc P w K mg base) : FnG P w K mg base CX0 2 f fd ["_law_dice_here", "_law_total"] spColumns := by
  refine okG F scColumns (fun vs H Q E h => ?_) (fun cdv A outer s H vs Q E hr h => ?_)
  · obtain ⟨a, n, rfl, _⟩ := h
    rfl
  · obtain ⟨a, n, rfl, hn, hd, q⟩ := h
    have nd := scColumns.nd
    refine ⟨_, pss_cons (ps_par (i := 2) (j := 3) rfl nd rfl rfl (by decide) rfl rfl (pa_cons pe_str (pa_cons (pe_lst pa_nil) pa_nil)) (by rfl))
      (pss_cons (ps_for PassesOwn.never rfl (pi_range1 rfl T.range (pa_cons (pv 1) pa_nil)) (pg_name (i := 4) nd rfl (.inl rfl))
        (pss_cons (ps_set (i := 5) nd rfl (.inl rfl) (pe_ix ix_str (pv 2) (pe_op op_add (pe_op op_mul pe_int (pv 4)) (pe_callG D.G hr (by rfl) D.g D.kp D.b .nil pass0 (pa_cons (pv 0) (pa_cons pe_int pa_nil)))) (fun _ _ => rfl)))
        (pss_cons (ps_for PassesOwn.never rfl (pi_range1 rfl T.range (pa_cons (pe_ix ix_list (pe_lst (pa_cons pe_int (pa_cons pe_int (pa_cons pe_int (pa_cons pe_int pa_nil))))) (pe_callG D.G hr (by rfl) D.g D.kp D.b .nil pass0 (pa_cons (pv 0) (pa_cons pe_int pa_nil))) (fun _ _ => rfl)) pa_nil)) (pg_name (i := 6) nd rfl (.inl rfl))
          (pss_one (ps_set (i := 5) nd rfl (.inl rfl) (pe_op op_add_str (pv 5) (pe_ix ix_str (pv 2) (pe_callG D.G hr (by rfl) D.g D.kp D.b .nil pass0 (pa_cons (pv 0) (pa_cons pe_int pa_nil))) (fun _ _ => rfl))))))
        (pss_one (ps_expr (pe_bm PySem.F.plainAttrs_list PySem.F.slot_list_append PySem.F.type_list_append mt_append (pv 3) (pa_cons (pv 5) pa_nil)))))))
      (pss_one (ps_ret (pe_callTy call_tupleF (by rfl) T.tuple (by decide +kernel) (pa_cons (pv 3) pa_nil))))), ?_⟩
    -- signs, found = 'abc..', []
    refine ⟨Nat.zero_le _, fun o no => ⟨_, _, rfl, ?_⟩⟩
    have oa : o ≠ a := hd.ne no
    -- for at in range(total)
    refine ⟨_, rfl, n, rfl, by omega, by omega, ?_⟩
    refine for_range (n := n) (fun i σ H' => ∃ (cs : List Str) (y4 y5 y6 : Option V), σ = [some (.ref a), some (.int n), some (.str abc), some (.ref o), y4, y5, y6] ∧ cs.length = i ∧ Words cs ∧ Gro a H H' ∧ H' o = some (.lst (cs.map V.str)))
      ⟨[], none, none, none, rfl, rfl, (fun i c e => nomatch e), (Gro.of (Ex.new no) hd), upd_same⟩ (fun i σ H1 hi hW => ?_) (fun σ H1 hW => ?_)
    · obtain ⟨cs, y4, y5, y6, rfl, hc, wd, gr, eo⟩ := hW
      -- word = signs[2 * at + pull(dice, 2)]
      refine ⟨_, rfl, _, rfl, 2, _, rfl, rfl, cmul_l (by decide) (by decide), _, rfl, a, 2, rfl, by decide, by decide, gr.di, fun v H2 v0 v1 g2 => ?_⟩
      refine ⟨_, _, rfl, rfl, abc, _, _, rfl, rfl, by rw [abc_len]; decide, atI_abc (i := 2 * (0 + (i : Int)) + v) (by omega) (by omega), ?_⟩
      have gr2 : Gro a H H2 := gr.trans g2
      have eo2 : H2 o = some (.lst (cs.map V.str)) := g2.st o _ oa eo
      obtain ⟨u, rfl⟩ : ∃ u : Nat, v = u := ⟨v.toNat, by omega⟩
      have hu2 : (2 * (0 + (i : Int)) + (u : Int)).toNat = 2 * i + u := by omega
      rw [hu2]
      -- for turn in range([0, 0, 1, 2][pull(dice, 4)])
      refine ⟨by show 4 ≤ sizeLine; decide, fun l nl => ?_⟩
      have la : l ≠ a := gr2.di.ne nl
      have g3 : Gro a H2 (upd H2 l (.lst [.int 0, .int 0, .int 1, .int 2])) := Gro.of (Ex.new nl) gr2.di
      refine ⟨_, rfl, a, 4, rfl, by decide, by decide, g3.di, fun v H3 w0 w1 g4 => ?_⟩
      have el : H3 l = some (.lst [.int 0, .int 0, .int 1, .int 2]) := g4.st l _ la upd_same
      obtain ⟨t, ht, ht2⟩ : ∃ t : Nat, atI [V.int 0, .int 0, .int 1, .int 2] v = some (.int t) ∧ t ≤ 2 := by
        obtain ⟨m, rfl⟩ : ∃ m : Nat, v = m := ⟨v.toNat, by omega⟩
        match m, w1 with
        | 0, _ => exact ⟨0, rfl, by decide⟩
        | 1, _ => exact ⟨0, rfl, by decide⟩
        | 2, _ => exact ⟨1, rfl, by decide⟩
        | 3, _ => exact ⟨2, rfl, by decide⟩
        | m + 4, z => omega
      refine ⟨l, _, v, _, rfl, rfl, .inl (.inl el), ht, t, rfl, by omega, by omega, ?_⟩
      have gr3 : Gro a H H3 := (gr2.trans g3).trans g4
      have eo3 : H3 o = some (.lst (cs.map V.str)) := g4.st o _ oa (g3.st o _ oa eo2)
      refine for_range (n := t) (fun j σ H' => ∃ (c : Str) (r : List Nat) (y6 : Option V), σ = [some (.ref a), some (.int n), some (.str abc), some (.ref o), some (.int (0 + (i : Int))), some (.str c), y6] ∧ c.cps.toList = (97 + (2 * i + u)) :: r ∧ r.length = j ∧ (∀ x ∈ r, Small x) ∧ Gro a H H' ∧ H' o = some (.lst (cs.map V.str)))
        ⟨⟨#[97 + (2 * i + u)]⟩, [], y6, rfl, rfl, rfl, (fun _ z => nomatch z), gr3, eo3⟩ (fun j σ H4 hj hV => ?_) (fun σ H4 hV => ?_)
      · obtain ⟨c, r, y6, rfl, ec, er, sm, g5, eo4⟩ := hV
        refine ⟨_, rfl, _, rfl, _, rfl, a, 26, rfl, by decide, by decide, g5.di, fun v H5 x0 x1 g6 => ?_⟩
        have cl : c.length = r.length + 1 := by
          show c.cps.size = _
          rw [← Array.length_toList, ec, List.length_cons]
        refine ⟨abc, _, _, rfl, rfl, by rw [abc_len]; decide, atI_abc x0 x1, c, _, rfl, rfl, ?_, ?_⟩
        · rw [cl]
          show r.length + 1 + 1 ≤ sizeLine
          rw [er]
          exact Nat.le_trans (show j + 1 + 1 ≤ 100 by omega) (by decide)
        · refine ⟨_, r ++ [97 + v.toNat], _, rfl, ?_, by rw [List.length_append, er]; rfl, fun x hx => ?_, g5.trans g6, g6.st o _ oa eo4⟩
          · rw [PySem.W.KT.app_list, ec]
            rfl
          · rcases List.mem_append.mp hx with z | z
            · exact sm x z
            · rw [List.mem_singleton.mp z]
              unfold Small
              omega
      · obtain ⟨c, r, y6, rfl, ec, er, sm, g5, eo4⟩ := hV
        refine ⟨_, rfl, .inl ⟨rfl, _, .inl (.inl eo4)⟩, _, rfl, o, _, _, rfl, rfl, eo4, ?_, ?_⟩
        · rw [List.length_map, hc]
          exact Nat.lt_of_lt_of_le (show i < 100 by omega) (by decide)
        · refine ⟨cs ++ [c], _, _, _, rfl, by rw [List.length_append, hc]; rfl, fun x y e => ?_, g5.mut no oa, by rw [upd_same, List.map_append]; rfl⟩
          by_cases hx : x < cs.length
          · rw [List.getElem?_append_left hx] at e
            exact wd x y e
          · rw [List.getElem?_append_right (by omega)] at e
            have z : x - cs.length = 0 := by
              cases q : x - cs.length with
              | zero => rfl
              | succ m => rw [q] at e; exact nomatch e
            rw [z] at e
            obtain rfl : c = y := Option.some.inj e
            exact ⟨2 * i + u, r, ec, by omega, by omega, sm⟩
    · obtain ⟨cs, y4, y5, y6, rfl, hc, wd, gr, eo⟩ := hW
      refine ⟨_, rfl, o, _, rfl, .inl (.inl eo), fun p ob np hob => ?_⟩
      exact q cs p _ wd hc (gr.ex (Ex.new np)) (gr.back hd np).1 (tupF_new hob)
end
end Gl

namespace Gl
open PySem PySem.Spec PyProof.Rows L2
abbrev sWhole : Stmt := topS 1
abbrev sWholes : Stmt := topS 2
abbrev sIndex : Stmt := topS 3
abbrev sAsc : Stmt := topS 4
theorem scWhole : FnScope ["value"] ["value"] (defScope sWhole) := ⟨rfl, rfl, rfl, by decide +kernel, rfl, by decide +kernel, by decide +kernel⟩
theorem scWholes : FnScope ["value", "many", "one"] ["value", "many"] (defScope sWholes) := ⟨rfl, rfl, rfl, by decide +kernel, rfl, by decide +kernel, by decide +kernel⟩
theorem scIndex : FnScope ["value", "many"] ["value", "many"] (defScope sIndex) := ⟨rfl, rfl, rfl, by decide +kernel, rfl, by decide +kernel, by decide +kernel⟩
theorem scAsc : FnScope ["values", "at"] ["values"] (defScope sAsc) := ⟨rfl, rfl, rfl, by decide +kernel, rfl, by decide +kernel, by decide +kernel⟩
section
variable {P : Program} {w : World} {K : PySem.W.Frag} {mg : Str → Option Value} {base : Heap}
/-- a def of the text: where it stands and what it promises -/
structure Df (P : Program) (w : World) (K : PySem.W.Frag) (mg : Str → Option Value) (base : Heap) (k : Nat) (x : Str) (ps : List Str) (sp : Sp) where
  f : Addr
  fd : FuncData
  G : FnOk P w K mg base CX0 k f fd ps sp
  g : mg x = some (.ref f)
  kp : PySem.W.keepIn K (.ref f) = true
  b : Binds K fd ps []

def spWhole : Sp := fun vs H Q _ => ∃ i : Int, vs = [.int i] ∧ Q (.bl true) H
theorem ok_whole {f : Addr} {fd : FuncData} (F : Fun K "is_whole" "is_whole" sWhole f fd) (T : Blt mg) : FnOk P w K mg base CX0 1 f fd ["value"] spWhole := by
  refine F.ok scWhole (fun vs H Q E h => ?_) (fun cdv A outer s H vs Q E hr h => ?_)
  · obtain ⟨i, rfl, _⟩ := h
    rfl
  · obtain ⟨i, rfl, q⟩ := h
    refine ⟨_, pss_one (ps_ret (pe_and (pe_callB call_isi (by rfl) T.isinstance (by decide +kernel) (pa_cons (pv 0) (pa_cons (pe_bltn (v := .ty "int") (by rfl) T.int (by decide +kernel) rfl) pa_nil)))
      (pe_one (pe_not (pe_callB call_isi (by rfl) T.isinstance (by decide +kernel) (pa_cons (pv 0) (pa_cons (pe_bltn (v := .ty "bool") (by rfl) T.bool (by decide +kernel) rfl) pa_nil))))))), ?_⟩
    refine ⟨_, rfl, _, _, _, _, true, rfl, .ty _, .base (.int i), kit_ty (by decide +kernel), true, rfl, ?_⟩
    exact ⟨_, rfl, _, _, _, _, false, rfl, .ty _, .base (.int i), kit_ty (by decide +kernel), false, rfl, q⟩

/-- a tuple of ints, as many as said -/
def spWholes : Sp := fun vs H Q _ => ∃ (p : Addr) (ns : List Int), vs = [.ref p, .int ns.length] ∧ Rd H p (.tup (ns.map V.int)) ∧ ns.length ≤ 1000 ∧ ∀ H', Ex H H' → Q (.bl true) H'
theorem tyRd {H : Hp} {p : Addr} {xs : List V} (h : Rd H p (.tup xs)) : TyX K H (.ref p) (.type "tuple") := by
  rcases h with h | ⟨o, h⟩
  · exact .base (.tup h)
  · exact .fTuple h
theorem ok_wholes {f : Addr} {fd : FuncData} (F : Fun K "are_whole" "are_whole" sWholes f fd) (T : Blt mg) (W : Df P w K mg base 1 "is_whole" ["value"] spWhole) : FnOk P w K mg base CX0 2 f fd ["value", "many"] spWholes := by
  refine F.ok scWholes (fun vs H Q E h => ?_) (fun cdv A outer s H vs Q E hr h => ?_)
  · obtain ⟨p, ns, rfl, _⟩ := h
    rfl
  · obtain ⟨p, ns, rfl, hp, hl, q⟩ := h
    have nd := scWholes.nd
    refine ⟨_, pss_one (ps_ret (pe_and (pe_callB call_isi (by rfl) T.isinstance (by decide +kernel) (pa_cons (pv 0) (pa_cons (pe_bltn (v := .ty "tuple") (by rfl) T.tuple (by decide +kernel) rfl) pa_nil)))
      (pe_and (pe_cmpR op_eq (pe_callB call_len_seq (by rfl) T.len PySem.boot_len (pa_cons (pv 0) pa_nil)) (pv 1) (nomark _))
      (pe_one (pe_callB (cr_all rfl) (by rfl) T.all (by decide +kernel) (pa_cons (pe_lc (own := [("one", 2)]) (g := gName 2) (tt := tYes) rfl nd (pi_tup (pv 0)) (blkOk_by (N := ["value", "many", "one"]) (sc := defScope sWholes) (by decide +kernel)) (fun _ _ _ _ _ => pg_name (i := 2) nd rfl (.inl rfl)) (fun _ _ _ _ _ => pts_nil)
        (fun _ _ _ _ _ => pe_call W.G hr (by rfl) W.g W.kp W.b .nil pass0 (pa_cons (pv 2) pa_nil))) pa_nil)))))), ?_⟩
    refine ⟨_, rfl, _, _, _, _, true, rfl, .ty _, tyRd hp, kit_ty (by decide +kernel), true, rfl, ?_⟩
    refine ⟨_, rfl, p, _, rfl, .inr (.inl hp), _, rfl, rfl, true, ?_, ?_⟩
    · rw [List.length_map, decide_eq_true rfl]
    · refine ⟨_, rfl, p, rfl, ⟨_, .inl hp⟩, fun D nD => lc_tup (xs := ns.map V.int) (fun i H' => Ex H H' ∧ H' D = some (.lst ((List.replicate i true).map V.bl)))
        ⟨Ex.new nD, upd_same⟩ (fun i H' _ h => .inl (h.1.rd hp)) (fun i x H' hx h => ?_) (fun H' h => ?_)⟩
      · obtain ⟨ex, eD⟩ := h
        rw [List.getElem?_map] at hx
        obtain ⟨n, hn, rfl⟩ := Option.map_eq_some_iff.mp hx
        refine ⟨rfl, _, rfl, n, rfl, _, eD, ?_, ex.mut nD, ?_⟩
        · rw [List.length_map, List.length_replicate]
          have := (List.getElem?_eq_some_iff.mp hn).1
          exact Nat.lt_of_lt_of_le (show i < 1001 by omega) (by decide)
        · rw [upd_same, List.replicate_succ', List.map_append]
          rfl
      · obtain ⟨ex, eD⟩ := h
        refine ⟨D, _, rfl, .inl (.inl eD), ?_⟩
        have : (List.replicate (List.map V.int ns).length true).all id = true := by
          rw [List.all_eq_true]
          intro b hb
          exact (List.mem_replicate.mp hb).2
        rw [this]
        exact q _ ex
end
end Gl

namespace Gl
open PySem PySem.Spec PyProof.Rows L2
abbrev sName : Stmt := topS 14
abbrev sCols : Stmt := topS 15
abbrev sChkC : Stmt := topS 16
abbrev sChkR : Stmt := topS 17
theorem scName : FnScope ["value", "letter"] ["value"] (defScope sName) := ⟨rfl, rfl, rfl, by decide +kernel, rfl, by decide +kernel, by decide +kernel⟩
theorem scCols : FnScope ["value", "least", "one"] ["value", "least"] (defScope sCols) := ⟨rfl, rfl, rfl, by decide +kernel, rfl, by decide +kernel, by decide +kernel⟩
theorem scChkC : FnScope ["columns", "least"] ["columns", "least"] (defScope sChkC) := ⟨rfl, rfl, rfl, by decide +kernel, rfl, by decide +kernel, by decide +kernel⟩
theorem scChkR : FnScope ["columns", "row"] ["columns", "row"] (defScope sChkR) := ⟨rfl, rfl, rfl, by decide +kernel, rfl, by decide +kernel, by decide +kernel⟩
def NameOk (c : Str) : Prop := 1 ≤ c.length ∧ c.length ≤ 8 ∧ ∀ x ∈ c.cps.toList, Small x
def Asc (cs : List Str) : Prop := cs.Pairwise fun x y => x.cps.toList < y.cps.toList
structure ColsOk (cs : List Str) : Prop where
  nm : ∀ c ∈ cs, NameOk c
  asc : Asc cs
  len : cs.length ≤ 8
/-- a list of answers, all of them yes -/
theorem all_true (n : Nat) : (List.replicate n true).all id = true := by
  rw [List.all_eq_true]
  intro b hb
  exact (List.mem_replicate.mp hb).2
theorem room1000 {n : Nat} (h : n ≤ 100000) : n < sizeLine := Nat.lt_of_le_of_lt h (by decide)
section
variable {P : Program} {w : World} {K : PySem.W.Frag} {mg : Str → Option Value} {base : Heap}
def spIndex : Sp := fun vs H Q _ => ∃ i n : Int, vs = [.int i, .int n] ∧ 0 ≤ i ∧ i < n ∧ Q (.bl true) H
theorem ok_index {f : Addr} {fd : FuncData} (F : Fun K "is_index" "is_index" sIndex f fd) (T : Blt mg) (W : Df P w K mg base 1 "is_whole" ["value"] spWhole) : FnOk P w K mg base CX0 2 f fd ["value", "many"] spIndex := by
  refine F.ok scIndex (fun vs H Q E h => ?_) (fun cdv A outer s H vs Q E hr h => ?_)
  · obtain ⟨i, n, rfl, _⟩ := h
    rfl
  · obtain ⟨i, n, rfl, h0, h1, q⟩ := h
    refine ⟨_, pss_one (ps_ret (pe_and (pe_call W.G hr (by rfl) W.g W.kp W.b .nil pass0 (pa_cons (pv 0) pa_nil)) (pe_one (pe_chain op_le op_lt pe_int (pv 0) (pv 1))))), ?_⟩
    refine ⟨_, rfl, i, rfl, true, rfl, ?_⟩
    refine ⟨_, rfl, _, _, rfl, rfl, decide (0 ≤ i), rfl, ?_⟩
    rw [decide_eq_true h0]
    refine ⟨_, rfl, _, _, rfl, rfl, ?_⟩
    show Q (.bl (decide (i < n))) H
    rw [decide_eq_true h1]
    exact q

def spAsc : Sp := fun vs H Q _ => ∃ (p : Addr) (cs : List Str), vs = [.ref p] ∧ Rd H p (.tup (cs.map V.str)) ∧ Asc cs ∧ cs.length ≤ 1000 ∧ ∀ H', Ex H H' → Q (.bl true) H'
theorem ok_asc {f : Addr} {fd : FuncData} (F : Fun K "is_ascending" "is_ascending" sAsc f fd) (T : Blt mg) : FnOk P w K mg base CX0 1 f fd ["values"] spAsc := by
  refine F.ok scAsc (fun vs H Q E h => ?_) (fun cdv A outer s H vs Q E hr h => ?_)
  · obtain ⟨p, cs, rfl, _⟩ := h
    rfl
  · obtain ⟨p, cs, rfl, hp, ha, hl, q⟩ := h
    have nd := scAsc.nd
    refine ⟨_, pss_one (ps_ret (pe_callB (cr_all rfl) (by rfl) T.all (by decide +kernel) (pa_cons (pe_lc (own := [("at", 1)]) (g := gName 1) (tt := tYes) rfl nd (pi_range1 rfl T.range (pa_cons (pe_op op_sub (pe_callB call_len_seq (by rfl) T.len PySem.boot_len (pa_cons (pv 0) pa_nil)) pe_int) pa_nil)) (blkOk_by (N := ["values", "at"]) (sc := defScope sAsc) (by decide +kernel)) (fun _ _ _ _ _ => pg_name (i := 1) nd rfl (.inl rfl)) (fun _ _ _ _ _ => pts_nil)
        (fun _ _ _ _ _ => pe_cmpR op_lt_str (pe_ix (r := rIxT K) ix_tup (pv 0) (pv 1) (fun _ _ => rfl)) (pe_ix (r := rIxT K) ix_tup (pv 0) (pe_op op_add (pv 1) pe_int) (fun _ _ => rfl)) (nomark _))) pa_nil))), ?_⟩
    refine ⟨_, rfl, p, _, rfl, .inr (.inl hp), _, _, rfl, rfl, _, rfl, ?_, ?_, ?_⟩
    · have : (-(2 ^ 62) : Int) ≤ 0 := by decide
      simp only [List.length_map]
      omega
    · simp only [List.length_map]
      omega
    · refine fun D nD => lc_range (n := ((cs.map V.str).length - 1 : Int).toNat) (fun i H' => Ex H H' ∧ H' D = some (.lst ((List.replicate i true).map V.bl))) ⟨Ex.new nD, upd_same⟩ (fun i H' hi h => ?_) (fun H' h => ?_)
      · obtain ⟨ex, eD⟩ := h
        rw [List.length_map] at hi
        have i1 : i < cs.length := by omega
        have i2 : i + 1 < cs.length := by omega
        have hp' : SqT K H' p (cs.map V.str) := .inl (ex.rd hp)
        have g1 : (cs.map V.str)[i]? = some (.str cs[i]) := by rw [List.getElem?_map, List.getElem?_eq_getElem i1]; rfl
        have g2 : (cs.map V.str)[i + 1]? = some (.str cs[i + 1]) := by rw [List.getElem?_map, List.getElem?_eq_getElem i2]; rfl
        have lt : cs[i].cps.toList < cs[i + 1].cps.toList := List.pairwise_iff_getElem.mp ha i (i + 1) i1 i2 (by omega)
        refine ⟨rfl, _, rfl, _, rfl, p, _, _, _, rfl, rfl, hp', (by rw [show (0 + (i : Int)) = (i : Nat) by omega]; exact atI_nat g1), _, rfl, _, rfl, _, _, rfl, rfl, p, _, _, _, rfl, rfl, hp', (by rw [show (0 + (i : Int) + 1) = ((i + 1 : Nat) : Int) by omega]; exact atI_nat g2), _, _, rfl, rfl, _, eD, ?_, ex.mut nD, ?_⟩
        · rw [List.length_map, List.length_replicate]
          exact room1000 (by omega)
        · rw [upd_same, decide_eq_true lt, List.replicate_succ', List.map_append]
          rfl
      · obtain ⟨ex, eD⟩ := h
        refine ⟨D, _, rfl, .inl (.inl eD), ?_⟩
        rw [all_true]
        exact q _ ex

/-- the program's constants -/
structure Cst (mg : Str → Option Value) : Prop where
  letters : ∃ t, mg "LETTERS" = some (.str abc t)
  mostL : ∃ t, mg "MOST_LETTERS" = some (.int 8 t)
  mostN : ∃ t, mg "MOST_NAMES" = some (.int 8 t)
def spName : Sp := fun vs H Q _ => ∃ c : Str, vs = [.str c] ∧ NameOk c ∧ ∀ H', Ex H H' → Q (.bl true) H'
theorem ok_name {f : Addr} {fd : FuncData} (F : Fun K "is_name" "is_name" sName f fd) (T : Blt mg) (C : Cst mg) : FnOk P w K mg base CX0 1 f fd ["value"] spName := by
  refine F.ok scName (fun vs H Q E h => ?_) (fun cdv A outer s H vs Q E hr h => ?_)
  · obtain ⟨c, rfl, _⟩ := h
    rfl
  · obtain ⟨c, rfl, hc, q⟩ := h
    have nd := scName.nd
    obtain ⟨t1, m1⟩ := C.letters
    obtain ⟨t2, m2⟩ := C.mostL
    refine ⟨_, pss_cons (ps_if (pw_or (pt_not (pt_val (pe_callB call_isi (by rfl) T.isinstance (by decide +kernel) (pa_cons (pv 0) (pa_cons (pe_bltn (v := .ty "str") (by rfl) T.str (by decide +kernel) rfl) pa_nil)))))
        (pw_or1 (pt_not (pt_chain op_le op_le pe_int (pe_callB call_len_str (by rfl) T.len PySem.boot_len (pa_cons (pv 0) pa_nil)) (pe_glob (v := .int 8) (by rfl) m2 ⟨_, rfl⟩))))).pt
        pss_never pss_nil)
      (pss_one (ps_ret (pe_callB (cr_all rfl) (by rfl) T.all (by decide +kernel) (pa_cons (pe_lc (own := [("letter", 1)]) (g := gName 1) (tt := tYes) rfl nd (pi_str (pv 0)) (blkOk_by (N := ["value", "letter"]) (sc := defScope sName) (by decide +kernel)) (fun _ _ _ _ _ => pg_name (i := 1) nd rfl (.inl rfl)) (fun _ _ _ _ _ => pts_nil)
        (fun _ _ _ _ _ => pe_cmpR op_in_sign (pv 1) (pe_glob (v := .str abc) (by rfl) m1 ⟨_, rfl⟩) rfl)) pa_nil)))), ?_⟩
    obtain ⟨c1, c8, cl⟩ := hc
    have c1' : ((1 : Int) ≤ (c.length : Int)) := by omega
    have c8' : ((c.length : Int) ≤ 8) := by omega
    refine ⟨_, rfl, _, _, _, _, true, rfl, .ty _, .base (.str c), kit_ty (by decide +kernel), true, rfl, ?_⟩
    refine ⟨_, rfl, c, rfl, Nat.le_trans c8 (by decide), 1, _, rfl, rfl, _, rfl, ?_⟩
    rw [decide_eq_true c1']
    refine ⟨_, _, rfl, rfl, _, rfl, ?_⟩
    rw [decide_eq_true c8']
    -- all([letter in LETTERS for letter in value])
    refine ⟨_, rfl, c, rfl, fun D nD => lc_it walk_str (fun i H' => Ex H H' ∧ H' D = some (.lst ((List.replicate i true).map V.bl))) ⟨Ex.new nD, upd_same⟩ (fun _ _ _ _ => trivial) (fun i x H1 H2 hi h y => ?_) (fun H' h => ?_)⟩
    · obtain ⟨rfl, z, hz, rfl⟩ := y
      obtain ⟨ex, eD⟩ := h
      have mz : z ∈ c.cps.toList := by
        have := List.mem_of_getElem? (l := c.cps.toList) (i := i) (a := z) (by rw [Array.getElem?_toList]; exact hz)
        exact this
      refine ⟨rfl, _, rfl, z, abc, rfl, rfl, _, eD, ?_, ex.mut nD, ?_⟩
      · rw [List.length_map, List.length_replicate]
        have : c.cps.size ≤ 8 := c8
        exact room1000 (by omega)
      · rw [upd_same, decide_eq_true (abc_mem.mpr (cl z mz)), List.replicate_succ', List.map_append]
        rfl
    · obtain ⟨ex, eD⟩ := h
      refine ⟨D, _, rfl, .inl (.inl eD), ?_⟩
      rw [all_true]
      exact q _ ex
end
end Gl

namespace Gl
open PySem PySem.Spec PyProof.Rows L2
section
variable {P : Program} {w : World} {K : PySem.W.Frag} {mg : Str → Option Value} {base : Heap}
/-- columns at p -/
def ColsAt (H : Hp) (p : Addr) (cs : List Str) : Prop := ColsOk cs ∧ Rd H p (.tup (cs.map V.str))
def spIsCols : Sp := fun vs H Q _ => ∃ (p : Addr) (cs : List Str), vs = [.ref p, .int 0] ∧ ColsAt H p cs ∧ ∀ H', Ex H H' → Q (.bl true) H'
theorem ok_isCols {f : Addr} {fd : FuncData} (F : FunD K "is_columns" "is_columns" (defArgs sCols) (defBody sCols) (defScope sCols) [] [("least", .int 0)] f fd) (T : Blt mg) (C : Cst mg)
    (I : Df P w K mg base 2 "is_index" ["value", "many"] spIndex) (N : Df P w K mg base 1 "is_name" ["value"] spName) (A : Df P w K mg base 1 "is_ascending" ["values"] spAsc) : FnOk P w K mg base CX0 3 f fd ["value", "least"] spIsCols := by
  refine F.ok scCols (fun vs H Q E h => ?_) (fun cdv A0 outer s H vs Q E hr h => ?_)
  · obtain ⟨p, cs, rfl, _⟩ := h
    rfl
  · obtain ⟨p, cs, rfl, ⟨ok, hp⟩, q⟩ := h
    have nd := scCols.nd
    obtain ⟨t2, m2⟩ := C.mostN
    refine ⟨_, pss_cons (ps_if (pt_not (pt_val (pe_call I.G hr (by rfl) I.g I.kp I.b .nil pass0 (pa_cons (pv 1) (pa_cons (pe_op op_add (pe_glob (v := .int 8) (by rfl) m2 ⟨_, rfl⟩) pe_int) pa_nil))))) pss_never pss_nil)
      (pss_cons (ps_if (pw_or (pt_not (pt_val (pe_callB call_isi (by rfl) T.isinstance (by decide +kernel) (pa_cons (pv 0) (pa_cons (pe_bltn (v := .ty "tuple") (by rfl) T.tuple (by decide +kernel) rfl) pa_nil)))))
        (pw_or1 (pt_not (pt_chain op_le op_le (pv 1) (pe_callB call_len_seq (by rfl) T.len PySem.boot_len (pa_cons (pv 0) pa_nil)) (pe_glob (v := .int 8) (by rfl) m2 ⟨_, rfl⟩))))).pt
        pss_never pss_nil)
      (pss_one (ps_ret (pe_and (pe_callB (cr_all rfl) (by rfl) T.all (by decide +kernel) (pa_cons (pe_lc (own := [("one", 2)]) (g := gName 2) (tt := tYes) rfl nd (pi_tup (pv 0)) (blkOk_by (N := ["value", "least", "one"]) (sc := defScope sCols) (by decide +kernel)) (fun _ _ _ _ _ => pg_name (i := 2) nd rfl (.inl rfl)) (fun _ _ _ _ _ => pts_nil)
        (fun _ _ _ _ _ => pe_call N.G (hr.mono (by decide)) (by rfl) N.g N.kp N.b .nil pass0 (pa_cons (pv 2) pa_nil))) pa_nil))
        (pe_one (pe_call A.G (hr.mono (by decide)) (by rfl) A.g A.kp A.b .nil pass0 (pa_cons (pv 0) pa_nil))))))), ?_⟩
    have l8 : ((cs.map V.str).length : Int) ≤ 8 := by
      rw [List.length_map]
      have := ok.len
      omega
    refine ⟨_, rfl, _, _, rfl, rfl, 0, _, rfl, by decide, (show (0 : Int) < 8 + 1 by decide), true, rfl, ?_⟩
    refine ⟨_, rfl, _, _, _, _, true, rfl, .ty _, tyRd hp, kit_ty (by decide +kernel), true, rfl, ?_⟩
    refine ⟨_, rfl, _, rfl, p, _, rfl, .inr (.inl hp), 0, _, rfl, rfl, _, rfl, ?_⟩
    rw [decide_eq_true (show (0 : Int) ≤ ((cs.map V.str).length : Int) by omega)]
    refine ⟨_, _, rfl, rfl, _, rfl, ?_⟩
    rw [decide_eq_true l8]
    refine ⟨_, rfl, p, rfl, ⟨_, .inl hp⟩, fun D nD => lc_tup (xs := cs.map V.str) (fun i H' => Ex H H' ∧ H' D = some (.lst ((List.replicate i true).map V.bl)))
      ⟨Ex.new nD, upd_same⟩ (fun i H' _ h => .inl (h.1.rd hp)) (fun i x H' hx h => ?_) (fun H' h => ?_)⟩
    · obtain ⟨ex, eD⟩ := h
      rw [List.getElem?_map] at hx
      obtain ⟨c, hc, rfl⟩ := Option.map_eq_some_iff.mp hx
      refine ⟨rfl, _, rfl, c, rfl, ok.nm c (List.mem_of_getElem? hc), fun H2 ex2 => ⟨_, ex2 D _ eD, ?_, (ex.trans ex2).mut nD, ?_⟩⟩
      · rw [List.length_map, List.length_replicate]
        have := (List.getElem?_eq_some_iff.mp hc).1
        have := ok.len
        exact room1000 (by omega)
      · rw [upd_same, List.replicate_succ', List.map_append]
        rfl
    · obtain ⟨ex, eD⟩ := h
      refine ⟨D, _, rfl, .inl (.inl eD), true, ?_, ?_⟩
      · rw [all_true]
      · refine ⟨_, rfl, p, cs, rfl, ex.rd hp, ok.asc, Nat.le_trans ok.len (by decide), fun H2 ex2 => q _ (ex.trans ex2)⟩

def spChkC : Sp := fun vs H Q _ => ∃ (p : Addr) (cs : List Str), vs = [.ref p, .int 0] ∧ ColsAt H p cs ∧ ∀ H', Ex H H' → Q .non H'
/-- is_columns(columns, least=least) -/
structure DfK (P : Program) (w : World) (K : PySem.W.Frag) (mg : Str → Option Value) (base : Heap) (k : Nat) (x : Str) (ps : List Str) (sp : Sp) where
  f : Addr
  fd : FuncData
  G : FnOk P w K mg base CX0 k f fd ps sp
  g : mg x = some (.ref f)
  kp : PySem.W.keepIn K (.ref f) = true
theorem kbn_isCols {f : Addr} {fd : FuncData} (F : FunD K "is_columns" "is_columns" (defArgs sCols) (defBody sCols) (defScope sCols) [] [("least", .int 0)] f fd) :
    KBn K fd ["value", "least"] 1 ["least"] (fun us ws => us ++ ws) (fun vs zs => vs ++ zs) := by
  obtain ⟨oc, od, dV, kV, doc, pm, an, cdv, ct, osl, rfl, lk, hcd, hD, hK⟩ := F.ex
  rcases hD with ⟨_, rfl⟩ | ⟨e, _⟩
  · refine ⟨fun s us ws X l1 l2 => ?_, fun r rz => r.append rz⟩
    match us, ws, l1, l2 with
    | [u], [z], _, _ => exact .of_eq rfl
  · exact absurd rfl e
theorem bind_chkC {f : Addr} {fd : FuncData} (F : FunD K "check_columns" "check_columns" (defArgs sChkC) (defBody sChkC) (defScope sChkC) [] [("least", .int 0)] f fd) :
    ∃ ds, Vals [V.int 0] ds ∧ Binds K fd ["columns", "least"] ds :=
  F.binds0 1 (by simp) rfl fun D doc pm an cdv ct us ks l1 l2 => by
    match us, ks, l1, l2 with
    | [u], [z], _, _ => exact ⟨_, _, _, _, _, _, rfl, rfl, rfl⟩
theorem ok_chkC {f : Addr} {fd : FuncData} (F : FunD K "check_columns" "check_columns" (defArgs sChkC) (defBody sChkC) (defScope sChkC) [] [("least", .int 0)] f fd)
    (I : DfK P w K mg base 3 "is_columns" ["value", "least"] spIsCols) (kb : KBn K I.fd ["value", "least"] 1 ["least"] (fun us ws => us ++ ws) (fun vs zs => vs ++ zs)) : FnOk P w K mg base CX0 4 f fd ["columns", "least"] spChkC := by
  refine F.ok scChkC (fun vs H Q E h => ?_) (fun cdv A0 outer s H vs Q E hr h => ?_)
  · obtain ⟨p, cs, rfl, _⟩ := h
    rfl
  · obtain ⟨p, cs, rfl, hc, q⟩ := h
    refine ⟨_, pss_one (ps_if (pt_not (pt_val (pe_callN I.G hr (by rfl) I.g I.kp kb pass0 (pa_cons (pv 0) pa_nil) (pk_cons (pv 1) pk_nil)))) pss_never pss_nil), ?_⟩
    exact ⟨_, rfl, _, rfl, rfl, rfl, p, cs, rfl, hc, fun H' ex => ⟨true, rfl, q _ ex⟩⟩

def spChkR : Sp := fun vs H Q _ => ∃ (p r : Addr) (cs : List Str) (ns : List Int), vs = [.ref p, .ref r] ∧ ColsAt H p cs ∧ Rd H r (.tup (ns.map V.int)) ∧ ns.length = cs.length ∧ ∀ H', Ex H H' → Q .non H'
theorem ok_chkR {f : Addr} {fd : FuncData} (F : Fun K "check_row" "check_row" sChkR f fd) (T : Blt mg) (W : Df P w K mg base 2 "are_whole" ["value", "many"] spWholes) : FnOk P w K mg base CX0 3 f fd ["columns", "row"] spChkR := by
  refine F.ok scChkR (fun vs H Q E h => ?_) (fun cdv A0 outer s H vs Q E hr h => ?_)
  · obtain ⟨p, r, cs, ns, rfl, _⟩ := h
    rfl
  · obtain ⟨p, r, cs, ns, rfl, ⟨ok, hc⟩, hr1, hl, q⟩ := h
    refine ⟨_, pss_one (ps_if (pt_not (pt_val (pe_call W.G hr (by rfl) W.g W.kp W.b .nil pass0 (pa_cons (pv 1) (pa_cons (pe_callB call_len_seq (by rfl) T.len PySem.boot_len (pa_cons (pv 0) pa_nil)) pa_nil))))) pss_never pss_nil), ?_⟩
    have e : ((cs.map V.str).length : Int) = (ns.length : Int) := by rw [List.length_map, hl]
    refine ⟨_, rfl, _, rfl, p, _, rfl, .inr (.inl hc), r, ns, by rw [e]; rfl, hr1, ?_, fun H' ex => ⟨true, rfl, q _ ex⟩⟩
    have := ok.len
    omega
end
end Gl

namespace Gl
open PySem PySem.Spec PyProof.Rows L2
abbrev sPlaces : Stmt := topS 20
abbrev sValues : Stmt := topS 21
abbrev sSome : Stmt := topS 22
abbrev sValAt : Stmt := topS 18
abbrev sAgree : Stmt := topS 19
theorem scPlaces : FnScope ["columns", "some", "name"] ["columns", "some"] (defScope sPlaces) := ⟨rfl, rfl, rfl, by decide +kernel, rfl, by decide +kernel, by decide +kernel⟩
theorem scValues : FnScope ["row", "places", "at"] ["row", "places"] (defScope sValues) := ⟨rfl, rfl, rfl, by decide +kernel, rfl, by decide +kernel, by decide +kernel⟩
theorem scSome : FnScope ["columns", "some", "name"] ["columns", "some"] (defScope sSome) := ⟨rfl, rfl, rfl, by decide +kernel, rfl, by decide +kernel, by decide +kernel⟩
theorem scValAt : FnScope ["columns", "row", "some"] ["columns", "row", "some"] (defScope sValAt) := ⟨rfl, rfl, rfl, by decide +kernel, rfl, by decide +kernel, by decide +kernel⟩
theorem scAgree : FnScope ["columns", "row", "other", "at"] ["columns", "row", "other"] (defScope sAgree) := ⟨rfl, rfl, rfl, by decide +kernel, rfl, by decide +kernel, by decide +kernel⟩
/-- the place of a name -/
def ix : List Str → Str → Nat
  | [], _ => 0
  | c :: cs, s => if c = s then 0 else ix cs s + 1
theorem ix_get : ∀ {cs : List Str} {s : Str}, s ∈ cs → cs[ix cs s]? = some s
  | c :: cs, s, h => by
    unfold ix
    by_cases e : c = s
    · rw [if_pos e, e]; rfl
    · rw [if_neg e]
      rcases List.mem_cons.mp h with z | z
      · exact absurd z.symm e
      · exact ix_get (cs := cs) z
theorem ix_first : ∀ {cs : List Str} {s : Str} (m : Nat), m < ix cs s → cs[m]? ≠ some s
  | [], s, m, h => by simp
  | c :: cs, s, m, h => by
    unfold ix at h
    by_cases e : c = s
    · rw [if_pos e] at h; omega
    · rw [if_neg e] at h
      match m with
      | 0 => intro z; exact e (Option.some.inj z)
      | m + 1 => exact ix_first (cs := cs) m (by omega)
theorem ix_lt {cs : List Str} {s : Str} (h : s ∈ cs) : ix cs s < cs.length := (List.getElem?_eq_some_iff.mp (ix_get h)).1
def vals (cs : List Str) (ns : List Int) (ss : List Str) : List Int := ss.map fun s => ns.getD (ix cs s) 0
def agr (cs : List Str) (ns ms : List Int) : List Str := ((cs.zip (ns.zip ms)).filter fun t => decide (t.2.1 = t.2.2)).map (·.1)
theorem zip3_get {cs : List Str} {ns ms : List Int} {i : Nat} {c : Str} {n m : Int} (h1 : cs[i]? = some c) (h2 : ns[i]? = some n) (h3 : ms[i]? = some m) : (cs.zip (ns.zip ms))[i]? = some (c, n, m) := by
  rw [List.getElem?_zip_eq_some, List.getElem?_zip_eq_some]
  exact ⟨h1, h2, h3⟩
def agrT (cs : List Str) (ns ms : List Int) (i : Nat) : List Str := (((cs.zip (ns.zip ms)).take i).filter fun t => decide (t.2.1 = t.2.2)).map (·.1)
theorem agrT_succ {cs : List Str} {ns ms : List Int} {i : Nat} {c : Str} {n m : Int} (h1 : cs[i]? = some c) (h2 : ns[i]? = some n) (h3 : ms[i]? = some m) :
    agrT cs ns ms (i + 1) = agrT cs ns ms i ++ (if n = m then [c] else []) := by
  unfold agrT
  rw [List.take_add_one, zip3_get h1 h2 h3, List.filter_append, List.map_append]
  by_cases e : n = m
  · rw [if_pos e]
    simp [e]
  · rw [if_neg e]
    simp [e]
theorem agrT_len (cs : List Str) (ns ms : List Int) (i : Nat) : (agrT cs ns ms i).length ≤ cs.length := by
  unfold agrT
  rw [List.length_map]
  refine Nat.le_trans (List.length_filter_le _ _) ?_
  rw [List.length_take, List.length_zip]
  omega
theorem agrT_all {cs : List Str} {ns ms : List Int} : agrT cs ns ms cs.length = agr cs ns ms := by
  unfold agrT agr
  rw [List.take_of_length_le]
  rw [List.length_zip]
  omega
section
variable {P : Program} {w : World} {K : PySem.W.Frag} {mg : Str → Option Value} {base : Heap}
/-- columns at p, a tuple without a dict -/
def ColsF (H : Hp) (p : Addr) (cs : List Str) : Prop := ColsOk cs ∧ TupF H p (cs.map V.str)
theorem ColsF.at {H : Hp} {p : Addr} {cs : List Str} (h : ColsF H p cs) : ColsAt H p cs := ⟨h.1, h.2.rd⟩
theorem Ex.colsF {H H' : Hp} {p : Addr} {cs : List Str} (e : Ex H H') (h : ColsF H p cs) : ColsF H' p cs := ⟨h.1, e.tupF h.2⟩
theorem Ex.colsAt {H H' : Hp} {p : Addr} {cs : List Str} (e : Ex H H') (h : ColsAt H p cs) : ColsAt H' p cs := ⟨h.1, e.rd h.2⟩
def spPlaces : Sp := fun vs H Q _ => ∃ (p q : Addr) (cs ss : List Str), vs = [.ref p, .ref q] ∧ TupF H p (cs.map V.str) ∧ Rd H q (.tup (ss.map V.str)) ∧ (∀ s ∈ ss, s ∈ cs) ∧ ss.length ≤ 1000 ∧
  ∀ l H', Ex H H' → H l = none → H' l = some (.lst ((ss.map (ix cs)).map fun j => V.int (j : Nat))) → Q (.ref l) H'
theorem ok_places {f : Addr} {fd : FuncData} (F : Fun K "_places" "_places" sPlaces f fd) : FnOk P w K mg base CX0 1 f fd ["columns", "some"] spPlaces := by
  refine F.ok scPlaces (fun vs H Q E h => ?_) (fun cdv A0 outer s H vs Q E hr h => ?_)
  · obtain ⟨p, q, cs, ss, rfl, _⟩ := h
    rfl
  · obtain ⟨p, r, cs, ss, rfl, hp, hr1, sub, hl, q⟩ := h
    have nd := scPlaces.nd
    refine ⟨_, pss_one (ps_ret (pe_lc (own := [("name", 2)]) (g := gName 2) (tt := tYes) rfl nd (pi_tup (pv 1)) (blkOk_by (N := ["columns", "some", "name"]) (sc := defScope sPlaces) (by decide +kernel)) (fun _ _ _ _ _ => pg_name (i := 2) nd rfl (.inl rfl)) (fun _ _ _ _ _ => pts_nil)
        (fun _ _ _ _ _ => pe_bmT (r := fun x xs H Q => ∃ p, ∃ ys : List Str, ∃ z j, x = .ref p ∧ xs = [.str z] ∧ SqT K H p (ys.map V.str) ∧ ys[j]? = some z ∧ (∀ m, m < j → ys[m]? ≠ some z) ∧ Q (.int (j : Nat)) H) PySem.F.slot_tuple_index PySem.F.type_tuple_index mt_tup_index (pv 0) (pa_cons (pv 2) pa_nil)))), ?_⟩
    refine ⟨_, rfl, r, rfl, ⟨_, .inl hr1⟩, fun D nD => lc_tup (xs := ss.map V.str) (fun i H' => Ex H H' ∧ H' D = some (.lst (((ss.take i).map (ix cs)).map fun j => V.int (j : Nat))))
      ⟨Ex.new nD, upd_same⟩ (fun i H' _ h => .inl (h.1.rd hr1)) (fun i x H' hx h => ?_) (fun H' h => ?_)⟩
    · obtain ⟨ex, eD⟩ := h
      rw [List.getElem?_map] at hx
      obtain ⟨c, hc, rfl⟩ := Option.map_eq_some_iff.mp hx
      have hm : c ∈ cs := sub c (List.mem_of_getElem? hc)
      have hp' := ex.tupF hp
      refine ⟨rfl, _, rfl, ⟨p, _, rfl, hp'⟩, _, rfl, p, cs, c, ix cs c, rfl, rfl, .inl hp'.rd, ix_get hm, ix_first, _, eD, ?_, ex.mut nD, ?_⟩
      · rw [List.length_map, List.length_map, List.length_take]
        exact room1000 (by omega)
      · rw [upd_same, List.take_add_one, hc, List.map_append, List.map_append]
        rfl
    · obtain ⟨ex, eD⟩ := h
      rw [List.length_map, List.take_length] at eD
      exact q D _ ex nD eD

def spValues : Sp := fun vs H Q _ => ∃ (r l : Addr) (ns : List Int) (js : List Nat), vs = [.ref r, .ref l] ∧ Rd H r (.tup (ns.map V.int)) ∧ H l = some (.lst (js.map fun j => V.int (j : Nat))) ∧ (∀ j ∈ js, j < ns.length) ∧ js.length ≤ 1000 ∧
  ∀ p H', Ex H H' → H p = none → TupF H' p ((js.map fun j => ns.getD j 0).map V.int) → Q (.ref p) H'
theorem ok_values {f : Addr} {fd : FuncData} (F : Fun K "_values" "_values" sValues f fd) (T : Blt mg) : FnOk P w K mg base CX0 1 f fd ["row", "places"] spValues := by
  refine F.ok scValues (fun vs H Q E h => ?_) (fun cdv A0 outer s H vs Q E hr h => ?_)
  · obtain ⟨r, l, ns, js, rfl, _⟩ := h
    rfl
  · obtain ⟨r, l, ns, js, rfl, hr1, hl, lt, hj, q⟩ := h
    have nd := scValues.nd
    refine ⟨_, pss_one (ps_ret (pe_callTy call_tupleF (by rfl) T.tuple (by decide +kernel) (pa_cons (pe_lc (own := [("at", 2)]) (g := gName 2) (tt := tYes) rfl nd (pi_list (pv 1)) (blkOk_by (N := ["row", "places", "at"]) (sc := defScope sValues) (by decide +kernel)) (fun _ _ _ _ _ => pg_name (i := 2) nd rfl (.inl rfl)) (fun _ _ _ _ _ => pts_nil)
        (fun _ _ _ _ _ => pe_ix (r := rIxT K) ix_tup (pv 0) (pv 2) (fun _ _ => rfl))) pa_nil))), ?_⟩
    refine ⟨_, rfl, l, rfl, ⟨_, .inl (.inl hl)⟩, fun D nD => lc_list (xs := js.map fun j => V.int (j : Nat)) (fun i H' => Ex H H' ∧ H' D = some (.lst (((js.take i).map fun j => ns.getD j 0).map V.int)))
      ⟨Ex.new nD, upd_same⟩ (fun i H' _ h => .inl (.inl (h.1 l _ hl))) (fun i x H' hx h => ?_) (fun H' h => ?_)⟩
    · obtain ⟨ex, eD⟩ := h
      rw [List.getElem?_map] at hx
      obtain ⟨j, hj2, rfl⟩ := Option.map_eq_some_iff.mp hx
      have hlt := lt j (List.mem_of_getElem? hj2)
      refine ⟨rfl, _, rfl, _, rfl, r, _, _, .int ns[j], rfl, rfl, .inl (ex.rd hr1), atI_nat (by rw [List.getElem?_map, List.getElem?_eq_getElem hlt]; rfl), _, eD, ?_, ex.mut nD, ?_⟩
      · rw [List.length_map, List.length_map, List.length_take]
        exact room1000 (by omega)
      · rw [upd_same, List.take_add_one, hj2, List.map_append, List.map_append]
        rw [show ns[j] = ns.getD j 0 by rw [List.getD_eq_getElem?_getD, List.getElem?_eq_getElem hlt]; rfl]
        rfl
    · obtain ⟨ex, eD⟩ := h
      rw [List.length_map, List.take_length] at eD
      exact ⟨D, _, rfl, .inl (.inl eD), fun p o np ho => q p _ (ex.trans (Ex.new np)) (ex.back np) (tupF_new ho)⟩

theorem inV_str {s : Str} {cs : List Str} (h : s ∈ cs) : inV (.str s) (cs.map V.str) = true := by
  unfold inV
  rw [List.any_eq_true]
  exact ⟨.str s, List.mem_map.mpr ⟨s, h, rfl⟩, by show (s == s) = true; exact beq_self_eq_true s⟩
theorem flat_strs (cs : List Str) : (cs.map V.str).all flatV = true := by
  rw [List.all_eq_true]
  intro v hv
  obtain ⟨c, _, rfl⟩ := List.mem_map.mp hv
  rfl
/-- check_columns(x), by its default -/
structure DfC (P : Program) (w : World) (K : PySem.W.Frag) (mg : Str → Option Value) (base : Heap) where
  f : Addr
  fd : FuncData
  ds : List Value
  G : FnOk P w K mg base CX0 4 f fd ["columns", "least"] spChkC
  g : mg "check_columns" = some (.ref f)
  kp : PySem.W.keepIn K (.ref f) = true
  b : Binds K fd ["columns", "least"] ds
  v : Vals [V.int 0] ds
def spSome : Sp := fun vs H Q _ => ∃ (p q : Addr) (cs ss : List Str), vs = [.ref p, .ref q] ∧ ColsAt H p cs ∧ ColsAt H q ss ∧ (∀ s ∈ ss, s ∈ cs) ∧ ∀ H', Ex H H' → Q .non H'
theorem ok_some {f : Addr} {fd : FuncData} (F : Fun K "_check_some" "_check_some" sSome f fd) (T : Blt mg) (C : DfC P w K mg base) : FnOk P w K mg base CX0 5 f fd ["columns", "some"] spSome := by
  refine F.ok scSome (fun vs H Q E h => ?_) (fun cdv A0 outer s H vs Q E hr h => ?_)
  · obtain ⟨p, q, cs, ss, rfl, _⟩ := h
    rfl
  · obtain ⟨p, r, cs, ss, rfl, hc, hs, sub, q⟩ := h
    have nd := scSome.nd
    refine ⟨_, pss_cons (ps_expr (pe_call C.G hr (by rfl) C.g C.kp C.b C.v pass0 (pa_cons (pv 1) pa_nil)))
      (pss_one (ps_if (pt_not (pt_val (pe_callB (cr_all rfl) (by rfl) T.all (by decide +kernel) (pa_cons (pe_lc (own := [("name", 2)]) (g := gName 2) (tt := tYes) rfl nd (pi_tup (pv 1)) (blkOk_by (N := ["columns", "some", "name"]) (sc := defScope sSome) (by decide +kernel)) (fun _ _ _ _ _ => pg_name (i := 2) nd rfl (.inl rfl)) (fun _ _ _ _ _ => pts_nil)
        (fun _ _ _ _ _ => pe_cmpR (r := rIn K false) op_in_seq (pv 2) (pv 0) rfl)) pa_nil)))) pss_never pss_nil)), ?_⟩
    refine ⟨_, rfl, r, ss, rfl, hs, fun H1 e1 => ?_⟩
    have hs1 := e1.colsAt hs
    have hc1 := e1.colsAt hc
    refine ⟨_, rfl, r, rfl, ⟨_, .inl hs1.2⟩, fun D nD => lc_tup (xs := ss.map V.str) (fun i H' => Ex H1 H' ∧ H' D = some (.lst ((List.replicate i true).map V.bl)))
      ⟨Ex.new nD, upd_same⟩ (fun i H' _ h => .inl (h.1.rd hs1.2)) (fun i x H' hx h => ?_) (fun H' h => ?_)⟩
    · obtain ⟨ex, eD⟩ := h
      rw [List.getElem?_map] at hx
      obtain ⟨c, hcc, rfl⟩ := Option.map_eq_some_iff.mp hx
      refine ⟨rfl, _, rfl, _, rfl, p, _, rfl, .inr (.inl (ex.rd hc1.2)), rfl, flat_strs cs, _, eD, ?_, ex.mut nD, ?_⟩
      · rw [List.length_map, List.length_replicate]
        have := (List.getElem?_eq_some_iff.mp hcc).1
        have := hs.1.len
        exact room1000 (by omega)
      · rw [upd_same, inV_str (sub c (List.mem_of_getElem? hcc)), List.replicate_succ', List.map_append]
        rfl
    · obtain ⟨ex, eD⟩ := h
      refine ⟨D, _, rfl, .inl (.inl eD), true, ?_, ?_⟩
      · rw [all_true]
      · exact q _ (e1.trans ex)
end
end Gl

namespace Gl
open PySem PySem.Spec PyProof.Rows L2
section
variable {P : Program} {w : World} {K : PySem.W.Frag} {mg : Str → Option Value} {base : Heap}
/-- a row at r -/
def RowAt (H : Hp) (r : Addr) (ns : List Int) : Prop := Rd H r (.tup (ns.map V.int))
def spValAt : Sp := fun vs H Q _ => ∃ (p r q : Addr) (cs ss : List Str) (ns : List Int), vs = [.ref p, .ref r, .ref q] ∧ ColsF H p cs ∧ RowAt H r ns ∧ ns.length = cs.length ∧ ColsAt H q ss ∧ (∀ s ∈ ss, s ∈ cs) ∧
  ∀ v H', Ex H H' → H v = none → TupF H' v ((vals cs ns ss).map V.int) → Q (.ref v) H'
theorem ok_valAt {f : Addr} {fd : FuncData} (F : Fun K "values_at" "values_at" sValAt f fd) (C : DfC P w K mg base) (R : Df P w K mg base 3 "check_row" ["columns", "row"] spChkR) (S : Df P w K mg base 5 "_check_some" ["columns", "some"] spSome)
    (Pl : Df P w K mg base 1 "_places" ["columns", "some"] spPlaces) (Vl : Df P w K mg base 1 "_values" ["row", "places"] spValues) : FnOk P w K mg base CX0 6 f fd ["columns", "row", "some"] spValAt := by
  refine F.ok scValAt (fun vs H Q E h => ?_) (fun cdv A0 outer s H vs Q E hr h => ?_)
  · obtain ⟨p, r, q, cs, ss, ns, rfl, _⟩ := h
    rfl
  · obtain ⟨p, r, q, cs, ss, ns, rfl, hc, hr1, hl, hs, sub, k⟩ := h
    refine ⟨_, pss_cons (ps_expr (pe_call C.G (hr.mono (by decide)) (by rfl) C.g C.kp C.b C.v pass0 (pa_cons (pv 0) pa_nil)))
      (pss_cons (ps_expr (pe_call R.G (hr.mono (by decide)) (by rfl) R.g R.kp R.b .nil pass0 (pa_cons (pv 0) (pa_cons (pv 1) pa_nil))))
      (pss_cons (ps_expr (pe_call S.G hr (by rfl) S.g S.kp S.b .nil pass0 (pa_cons (pv 0) (pa_cons (pv 2) pa_nil))))
      (pss_one (ps_ret (pe_call Vl.G (hr.mono (by decide)) (by rfl) Vl.g Vl.kp Vl.b .nil pass0 (pa_cons (pv 1) (pa_cons (pe_call Pl.G (hr.mono (by decide)) (by rfl) Pl.g Pl.kp Pl.b .nil pass0 (pa_cons (pv 0) (pa_cons (pv 2) pa_nil))) pa_nil))))))), ?_⟩
    refine ⟨_, rfl, p, cs, rfl, hc.at, fun H1 e1 => ?_⟩
    refine ⟨_, rfl, _, rfl, p, r, cs, ns, rfl, e1.colsAt hc.at, e1.rd hr1, hl, fun H2 e2 => ?_⟩
    have e12 := e1.trans e2
    refine ⟨_, rfl, _, rfl, p, q, cs, ss, rfl, e12.colsAt hc.at, e12.colsAt hs, sub, fun H3 e3 => ?_⟩
    have e13 := e12.trans e3
    refine ⟨_, rfl, _, rfl, _, rfl, p, q, cs, ss, rfl, e13.tupF hc.2, e13.rd hs.2, sub, Nat.le_trans hs.1.len (by decide), fun l H4 e4 nl el => ?_⟩
    have e14 := e13.trans e4
    refine ⟨r, l, ns, ss.map (ix cs), rfl, e14.rd hr1, el, fun j hj => ?_, ?_, fun v H5 e5 nv tv => ?_⟩
    · obtain ⟨s1, hs1, rfl⟩ := List.mem_map.mp hj
      rw [hl]
      exact ix_lt (sub s1 hs1)
    · rw [List.length_map]
      exact Nat.le_trans hs.1.len (by decide)
    · refine k v _ (e14.trans e5) (e14.back nv) ?_
      have e : (ss.map (ix cs)).map (fun j => ns.getD j 0) = vals cs ns ss := by rw [List.map_map]; rfl
      rw [e] at tv
      exact tv

def spAgree : Sp := fun vs H Q _ => ∃ (p r q : Addr) (cs : List Str) (ns ms : List Int), vs = [.ref p, .ref r, .ref q] ∧ ColsAt H p cs ∧ RowAt H r ns ∧ RowAt H q ms ∧ ns.length = cs.length ∧ ms.length = cs.length ∧
  ∀ v H', Ex H H' → H v = none → TupF H' v ((agr cs ns ms).map V.str) → Q (.ref v) H'
theorem ok_agree {f : Addr} {fd : FuncData} (F : Fun K "agreement" "agreement" sAgree f fd) (T : Blt mg) (C : DfC P w K mg base) (R : Df P w K mg base 3 "check_row" ["columns", "row"] spChkR) : FnOk P w K mg base CX0 6 f fd ["columns", "row", "other"] spAgree := by
  refine F.ok scAgree (fun vs H Q E h => ?_) (fun cdv A0 outer s H vs Q E hr h => ?_)
  · obtain ⟨p, r, q, cs, ns, ms, rfl, _⟩ := h
    rfl
  · obtain ⟨p, r, q, cs, ns, ms, rfl, hc, hr1, hr2, l1, l2, k⟩ := h
    have nd := scAgree.nd
    refine ⟨_, pss_cons (ps_expr (pe_call C.G (hr.mono (by decide)) (by rfl) C.g C.kp C.b C.v pass0 (pa_cons (pv 0) pa_nil)))
      (pss_cons (ps_expr (pe_call R.G (hr.mono (by decide)) (by rfl) R.g R.kp R.b .nil pass0 (pa_cons (pv 0) (pa_cons (pv 1) pa_nil))))
      (pss_cons (ps_expr (pe_call R.G (hr.mono (by decide)) (by rfl) R.g R.kp R.b .nil pass0 (pa_cons (pv 0) (pa_cons (pv 2) pa_nil))))
      (pss_one (ps_ret (pe_callTy call_tupleF (by rfl) T.tuple (by decide +kernel) (pa_cons (pe_lc (own := [("at", 3)]) (g := gName 3) rfl nd (pi_range1 rfl T.range (pa_cons (pe_callB call_len_seq (by rfl) T.len PySem.boot_len (pa_cons (pv 0) pa_nil)) pa_nil)) (blkOk_by (N := ["columns", "row", "other", "at"]) (sc := defScope sAgree) (by decide +kernel)) (fun _ _ _ _ _ => pg_name (i := 3) nd rfl (.inl rfl))
          (fun _ _ _ _ _ => pts_one (pt_cmpR op_eq (pe_ix (r := rIxT K) ix_tup (pv 1) (pv 3) (fun _ _ => rfl)) (pe_ix (r := rIxT K) ix_tup (pv 2) (pv 3) (fun _ _ => rfl)) (nomark _)))
          (fun _ _ _ _ _ => pe_ix (r := rIxT K) ix_tup (pv 0) (pv 3) (fun _ _ => rfl))) pa_nil)))))), ?_⟩
    refine ⟨_, rfl, p, cs, rfl, hc, fun H1 e1 => ?_⟩
    refine ⟨_, rfl, _, rfl, p, r, cs, ns, rfl, e1.colsAt hc, e1.rd hr1, l1, fun H2 e2 => ?_⟩
    have e12 := e1.trans e2
    refine ⟨_, rfl, _, rfl, p, q, cs, ms, rfl, e12.colsAt hc, e12.rd hr2, l2, fun H3 e3 => ?_⟩
    have e13 := e12.trans e3
    have hc3 := e13.rd hc.2
    have l8 := hc.1.len
    refine ⟨_, rfl, p, _, rfl, .inr (.inl hc3), _, rfl, by omega, by rw [List.length_map]; omega, fun D nD => ?_⟩
    rw [show ((cs.map V.str).length : Int).toNat = cs.length by rw [List.length_map]; omega]
    refine lc_range (fun i H' => Ex H3 H' ∧ H' D = some (.lst ((agrT cs ns ms i).map V.str))) ⟨Ex.new nD, upd_same⟩ (fun i H' hi h => ?_) (fun H' h => ?_)
    · obtain ⟨ex, eD⟩ := h
      have ex' := e13.trans ex
      have i1 : i < ns.length := by omega
      have i2 : i < ms.length := by omega
      have gi : (0 + (i : Int)) = (i : Nat) := by omega
      refine ⟨rfl, ?_⟩
      refine ⟨_, rfl, _, rfl, r, _, _, .int ns[i], rfl, rfl, .inl (ex'.rd hr1), by rw [gi]; exact atI_nat (by rw [List.getElem?_map, List.getElem?_eq_getElem i1]; rfl), ?_⟩
      refine ⟨_, rfl, _, rfl, q, _, _, .int ms[i], rfl, rfl, .inl (ex'.rd hr2), by rw [gi]; exact atI_nat (by rw [List.getElem?_map, List.getElem?_eq_getElem i2]; rfl), rfl, _, rfl, ?_⟩
      have sc := agrT_succ (List.getElem?_eq_getElem hi) (List.getElem?_eq_getElem i1) (List.getElem?_eq_getElem i2)
      refine ite2 (fun e => ?_) (fun e => ?_)
      · have e1 : ns[i] = ms[i] := V.int.inj (of_decide_eq_true e)
        refine ⟨_, rfl, _, rfl, p, _, _, .str cs[i], rfl, rfl, .inl (ex'.rd hc.2), by rw [gi]; exact atI_nat (by rw [List.getElem?_map, List.getElem?_eq_getElem hi]; rfl), _, eD, ?_, ex.mut nD, ?_⟩
        · rw [List.length_map]
          have := agrT_len cs ns ms i
          exact room1000 (by omega)
        · rw [upd_same, sc, if_pos e1, List.map_append]
          rfl
      · have e1 : ¬ ns[i] = ms[i] := fun z => e (decide_eq_true (congrArg V.int z))
        refine ⟨ex, ?_⟩
        rw [sc, if_neg e1, List.append_nil]
        exact eD
    · obtain ⟨ex, eD⟩ := h
      rw [agrT_all] at eD
      exact ⟨D, _, rfl, .inl (.inl eD), fun v o nv ho => k v _ ((e13.trans ex).trans (Ex.new nv)) ((e13.trans ex).back nv) (tupF_new ho)⟩
end
end Gl

namespace Gl
open PySem PySem.Spec PyProof.Rows L2
/-! ### rows, columns and lists of rows as data -/
def dCols (cs : List Str) : PyData := .tuple (cs.map PyData.str)
def dRow (ns : List Int) : PyData := .tuple (ns.map PyData.int)
/-- a number of at most forty-one digits -/
def Few (n : Int) : Prop := n.natAbs < 2 ^ 200
section
variable {K : PySem.W.Frag} {H : Hp}
theorem dp_strs : ∀ cs : List Str, DpAll K H (cs.map V.str) (cs.map PyData.str)
  | [] => .nil
  | c :: cs => .cons (.str c) (dp_strs cs)
theorem dp_ints : ∀ ns : List Int, DpAll K H (ns.map V.int) (ns.map PyData.int)
  | [] => .nil
  | n :: ns => .cons (.int n) (dp_ints ns)
theorem dp_cols {p : Addr} {cs : List Str} (h : Rd H p (.tup (cs.map V.str))) : Dp K H (.ref p) (dCols cs) := .tup (.inl h) (dp_strs cs)
theorem dp_row {p : Addr} {ns : List Int} (h : Rd H p (.tup (ns.map V.int))) : Dp K H (.ref p) (dRow ns) := .tup (.inl h) (dp_ints ns)
theorem dp_refs : ∀ {rs : List (Addr × List Int)}, (∀ r ∈ rs, RowAt H r.1 r.2) → DpAll K H (rs.map fun r => V.ref r.1) (rs.map fun r => dRow r.2)
  | [], _ => .nil
  | r :: rs, h => .cons (dp_row (h r (List.mem_cons_self ..))) (dp_refs fun x hx => h x (List.mem_cons_of_mem _ hx))
end
theorem eqv_ints : ∀ ns : List Int, PyData.eqvAll (ns.map PyData.int) (ns.map PyData.int) = true
  | [] => by simp only [List.map_nil, PyData.eqvAll]
  | n :: ns => by simp only [List.map_cons, PyData.eqvAll, PyData.eqv, eqv_ints ns, beq_self_eq_true, Bool.and_self]
theorem eqv_strs : ∀ cs : List Str, PyData.eqvAll (cs.map PyData.str) (cs.map PyData.str) = true
  | [] => by simp only [List.map_nil, PyData.eqvAll]
  | n :: ns => by simp only [List.map_cons, PyData.eqvAll, PyData.eqv, eqv_strs ns, beq_self_eq_true, Bool.and_self]
theorem eqv_row (ns : List Int) : PyData.eqv (dRow ns) (dRow ns) = true := by simp only [dRow, PyData.eqv, eqv_ints]
theorem eqv_cols (cs : List Str) : PyData.eqv (dCols cs) (dCols cs) = true := by simp only [dCols, PyData.eqv, eqv_strs]
theorem eqv_cols_nil (cs : List Str) : PyData.eqv (dCols cs) (.tuple []) = decide (cs = []) := by
  cases cs with
  | nil => simp [dCols, PyData.eqv, PyData.eqvAll]
  | cons c cs => simp [dCols, PyData.eqv, PyData.eqvAll]
theorem eqv_row_nil : PyData.eqv (dRow []) (.tuple []) = true := by simp only [dRow, List.map_nil, PyData.eqv, PyData.eqvAll]
theorem eqv_list_nil {α : Type} (f : α → PyData) (l : List α) : PyData.eqv (.list (l.map f)) (.list []) = decide (l = []) := by
  cases l with
  | nil => simp [PyData.eqv, PyData.eqvAll]
  | cons c cs => simp [PyData.eqv, PyData.eqvAll]
theorem lay_ints : ∀ ns : List Int, PyData.canLayAll0 (ns.map PyData.int) = true
  | [] => by simp only [List.map_nil, PyData.canLayAll0]
  | n :: ns => by simp only [List.map_cons, PyData.canLayAll0, PyData.canLay0, lay_ints ns, Bool.and_self]
theorem dep_ints : ∀ ns : List Int, PyData.depthAll (ns.map PyData.int) = 0
  | [] => by simp only [List.map_nil, PyData.depthAll]
  | n :: ns => by simp only [List.map_cons, PyData.depthAll, PyData.depth, dep_ints ns, Nat.max_self]
theorem dep_strs : ∀ ns : List Str, PyData.depthAll (ns.map PyData.str) = 0
  | [] => by simp only [List.map_nil, PyData.depthAll]
  | n :: ns => by simp only [List.map_cons, PyData.depthAll, PyData.depth, dep_strs ns, Nat.max_self]
theorem lay_str {c : Str} (h : NameOk c) : PyData.canLay0 (.str c) = true := by
  simp only [PyData.canLay0]
  unfold PyData.strOk
  rw [Array.all_eq_true']
  intro x hx
  have := h.2.2 x (Array.mem_toList_iff.mpr hx)
  unfold Small at this
  exact decide_eq_true (by omega)
theorem lay_strs : ∀ {cs : List Str}, (∀ c ∈ cs, NameOk c) → PyData.canLayAll0 (cs.map PyData.str) = true
  | [], _ => by simp only [List.map_nil, PyData.canLayAll0]
  | c :: cs, h => by
    simp only [List.map_cons, PyData.canLayAll0]
    rw [lay_str (h c (List.mem_cons_self ..)), lay_strs fun x hx => h x (List.mem_cons_of_mem _ hx)]
    rfl
theorem shaped_of {d : PyData} (h1 : d.canLay0 = true) (h2 : d.depth ≤ 64) : SeqAt.shaped d = true := by
  unfold SeqAt.shaped
  rw [h1, decide_eq_true h2]
  rfl
theorem shaped_row (ns : List Int) : SeqAt.shaped (dRow ns) = true := shaped_of (by simp only [dRow, PyData.canLay0, lay_ints]) (by simp only [dRow, PyData.depth, dep_ints]; decide)
theorem shaped_cols {cs : List Str} (h : ∀ c ∈ cs, NameOk c) : SeqAt.shaped (dCols cs) = true := shaped_of (by simp only [dCols, PyData.canLay0, lay_strs h]) (by simp only [dCols, PyData.depth, dep_strs]; decide)
theorem shaped_nilT : SeqAt.shaped (.tuple []) = true := shaped_of (by simp only [PyData.canLay0, PyData.canLayAll0]) (by simp only [PyData.depth, PyData.depthAll]; decide)
theorem shaped_nilL : SeqAt.shaped (.list []) = true := shaped_of (by simp only [PyData.canLay0, PyData.canLayAll0]) (by simp only [PyData.depth, PyData.depthAll]; decide)
theorem lay_rows : ∀ rs : List (List Int), PyData.canLayAll0 (rs.map dRow) = true
  | [] => by simp only [List.map_nil, PyData.canLayAll0]
  | r :: rs => by
    simp only [List.map_cons, PyData.canLayAll0]
    rw [lay_rows rs]
    simp only [dRow, PyData.canLay0, lay_ints, Bool.and_self]
theorem dep_rows : ∀ rs : List (List Int), PyData.depthAll (rs.map dRow) ≤ 1
  | [] => by simp only [List.map_nil, PyData.depthAll]; decide
  | r :: rs => by
    simp only [List.map_cons, PyData.depthAll, dRow, PyData.depth, dep_ints]
    have := dep_rows rs
    omega
/-- shown without trouble, in at most n signs -/
structure Shows (d : PyData) (n : Nat) : Prop where
  sh : d.showable = true
  dp : d.depth ≤ 3
  wt : wt d ≤ n
theorem Shows.ok {d : PyData} {n : Nat} (h : Shows d n) (hn : n ≤ 1000000) : d.showable = true ∧ d.depth ≤ 100 ∧ d.shown.length ≤ sizeLine :=
  ⟨h.sh, Nat.le_trans h.dp (by decide), Nat.le_trans (Nat.le_trans (shown_le d h.sh) h.wt) (Nat.le_trans hn (by decide))⟩
theorem show_int {n : Int} (h : Few n) : PyData.showable (.int n) = true := by
  simp only [PyData.showable]
  exact decide_eq_true (Nat.lt_trans (PySem.Flt.log2_lt_of (by decide) h) (by decide))
theorem show_ints : ∀ {ns : List Int}, (∀ n ∈ ns, Few n) → PyData.showableAll (ns.map PyData.int) = true
  | [], _ => by simp only [List.map_nil, PyData.showableAll]
  | n :: ns, h => by
    simp only [List.map_cons, PyData.showableAll]
    rw [show_int (h n (List.mem_cons_self ..)), show_ints fun x hx => h x (List.mem_cons_of_mem _ hx)]
    rfl
theorem show_strs : ∀ cs : List Str, PyData.showableAll (cs.map PyData.str) = true
  | [] => by simp only [List.map_nil, PyData.showableAll]
  | c :: cs => by simp only [List.map_cons, PyData.showableAll, PyData.showable, show_strs cs, Bool.and_self]
theorem wt_ints : ∀ ns : List Int, wtAll (ns.map PyData.int) = 1932 * ns.length
  | [] => by simp only [List.map_nil, wtAll]; rfl
  | n :: ns => by
    simp only [List.map_cons, wtAll, wt, List.length_cons]
    rw [wt_ints ns]
    omega
theorem wt_str {c : Str} (h : NameOk c) : wt (.str c) ≤ 82 := by
  simp only [wt]
  have := PySem.StrLaws.reprText_len c fun x hx => by
    have := h.2.2 x hx
    unfold Small at this
    have : (122 : Nat) < 16 ^ 8 := by decide
    omega
  have := h.2.1
  omega
theorem wt_strs : ∀ {cs : List Str}, (∀ c ∈ cs, NameOk c) → wtAll (cs.map PyData.str) ≤ 84 * cs.length
  | [], _ => by simp only [List.map_nil, wtAll]; exact Nat.zero_le _
  | c :: cs, h => by
    simp only [List.map_cons, wtAll, List.length_cons]
    have h1 := wt_str (h c (List.mem_cons_self ..))
    have h2 := wt_strs fun x hx => h x (List.mem_cons_of_mem _ hx)
    omega
theorem shows_row {ns : List Int} (h : ∀ n ∈ ns, Few n) : Shows (dRow ns) (1932 * ns.length + 3) :=
  ⟨by simp only [dRow, PyData.showable, show_ints h], by simp only [dRow, PyData.depth, dep_ints]; decide, by simp only [dRow, wt, wt_ints]; omega⟩
theorem shows_cols {cs : List Str} (h : ∀ c ∈ cs, NameOk c) : Shows (dCols cs) (84 * cs.length + 3) :=
  ⟨by simp only [dCols, PyData.showable, show_strs], by simp only [dCols, PyData.depth, dep_strs]; decide, by simp only [dCols, wt]; have := wt_strs h; omega⟩
theorem shows_rows : ∀ {m : Nat} {rs : List (List Int)}, (∀ r ∈ rs, r.length ≤ m ∧ ∀ n ∈ r, Few n) → PyData.showableAll (rs.map dRow) = true ∧ wtAll (rs.map dRow) ≤ (1932 * m + 5) * rs.length
  | m, [], _ => ⟨by simp only [List.map_nil, PyData.showableAll], by simp only [List.map_nil, wtAll]; exact Nat.zero_le _⟩
  | m, r :: rs, h => by
    obtain ⟨h1, h2⟩ := h r (List.mem_cons_self ..)
    obtain ⟨h3, h4⟩ := shows_rows (m := m) (rs := rs) fun x hx => h x (List.mem_cons_of_mem _ hx)
    have h5 := shows_row h2
    constructor
    · simp only [List.map_cons, PyData.showableAll]
      rw [h5.sh, h3]
      rfl
    · simp only [List.map_cons, wtAll, List.length_cons]
      have := h5.wt
      have e : (1932 * m + 5) * (rs.length + 1) = (1932 * m + 5) * rs.length + (1932 * m + 5) := Nat.mul_succ _ _
      rw [e]
      have : 1932 * r.length ≤ 1932 * m := Nat.mul_le_mul_left _ h1
      omega
end Gl

namespace Gl
open PySem PySem.Spec PyProof.Rows L2
abbrev sSomeL : Stmt := topS 28
abbrev sRowsL : Stmt := topS 29
theorem scSomeL : FnScope ["_law_dice_here", "_law_columns_here", "_law_share", "_law_name"] ["_law_dice_here", "_law_columns_here", "_law_share"] (defScope sSomeL) := ⟨rfl, rfl, rfl, by decide +kernel, rfl, by decide +kernel, by decide +kernel⟩
theorem scRowsL : FnScope ["_law_dice_here", "_law_columns_here", "_law_total", "_law_pools", "_law_pool", "_law_found", "_law_turn", "_law_row", "_law_change", "_law_name"] ["_law_dice_here", "_law_columns_here", "_law_total"] (defScope sRowsL) := ⟨rfl, rfl, rfl, by decide +kernel, rfl, by decide +kernel, by decide +kernel⟩
/-- a word between a statement and what follows it -/
def tMid (t u : TS) : TS := fun D σ H => ∃ M : L2.St → Hp → Prop, t { D with nx := M } σ H ∧ ∀ σ' H', M σ' H' → u D σ' H'
theorem pss_mid {X : Cx} {st : Stmt} {l : List Stmt} {t u : TS} (a : PS X st t) (b : PSs X l u) : PSs X (st :: l) (tMid t u) := .mk fun pins s σ H D I h => by
  obtain ⟨M, hm, hu⟩ := h
  apply wpAny_execs_cons
  apply thn (a.run pins s σ H { D with nx := M } I hm)
  rintro f s1 q
  match f, q with
  | .next, ⟨σ', H', J, q⟩ => exact b.run pins s1 σ' H' D J (hu σ' H' q)
  | .ret v, q => exact q
  | .brk, q => exact q
  | .cont, q => exact q
section
variable {P : Program} {w : World} {K : PySem.W.Frag} {mg : Str → Option Value} {base : Heap}
structure DfG (P : Program) (w : World) (K : PySem.W.Frag) (mg : Str → Option Value) (base : Heap) (k : Nat) (x : Str) (ps : List Str) (sp : Sp) where
  f : Addr
  fd : FuncData
  G : FnG P w K mg base CX0 k f fd ps sp
  g : mg x = some (.ref f)
  kp : PySem.W.keepIn K (.ref f) = true
  b : Binds K fd ps []
def spSomeL : Sp := fun vs H Q _ => ∃ (a p : Addr) (cs : List Str) (n : Int), vs = [.ref a, .ref p, .int n] ∧ 0 < n ∧ n.natAbs < 2 ^ 200 ∧ Dice H a ∧ ColsAt H p cs ∧
  ∀ v ss H', Gro a H H' → H v = none → List.Sublist ss cs → TupF H' v (ss.map V.str) → Q (.ref v) H'
theorem ok_someL {f : Addr} {fd : FuncData} (F : Fun K "_law_some" "_law_some" sSomeL f fd) (T : Blt mg) (D : Dc P w K mg base) : FnG P w K mg base CX0 2 f fd ["_law_dice_here", "_law_columns_here", "_law_share"] spSomeL := by
  refine okG F scSomeL (fun vs H Q E h => ?_) (fun cdv A outer s H vs Q E hr h => ?_)
  · obtain ⟨a, p, cs, n, rfl, _⟩ := h
    rfl
  · obtain ⟨a, p, cs, n, rfl, n0, n1, hd, hc, q⟩ := h
    have nd := scSomeL.nd
    refine ⟨_, pss_one (ps_ret (pe_callTy call_tupleF (by rfl) T.tuple (by decide +kernel) (pa_cons (pe_lc (own := [("_law_name", 3)]) (g := gName 3) rfl nd (pi_tup (pv 1)) (blkOk_by (N := ["_law_dice_here", "_law_columns_here", "_law_share", "_law_name"]) (sc := defScope sSomeL) (by decide +kernel)) (fun _ _ _ _ _ => pg_name (i := 3) nd rfl (.inl rfl))
        (fun _ _ _ _ _ => pts_one (pt_cmpR op_eq (pe_callG D.G hr (by rfl) D.g D.kp D.b .nil pass0 (pa_cons (pv 0) (pa_cons (pv 2) pa_nil))) pe_int (nomark _)))
        (fun _ _ _ _ _ => pv 3)) pa_nil))), ?_⟩
    refine ⟨_, rfl, p, rfl, ⟨_, .inl hc.2⟩, fun L nL => ?_⟩
    have La : L ≠ a := hd.ne nL
    refine lc_tup (xs := cs.map V.str) (fun i H' => ∃ ss : List Str, ss.Sublist (cs.take i) ∧ Gro a H H' ∧ H' L = some (.lst (ss.map V.str)))
      ⟨[], List.nil_sublist _, Gro.of (Ex.new nL) hd, upd_same⟩ (fun i H' _ h => ?_) (fun i x H' hx h => ?_) (fun H' h => ?_)
    · obtain ⟨_, _, g, _⟩ := h
      exact .inl (g.rd hd hc.2)
    · obtain ⟨ss, sl, g, eL⟩ := h
      rw [List.getElem?_map] at hx
      obtain ⟨c, hcc, rfl⟩ := Option.map_eq_some_iff.mp hx
      refine ⟨rfl, _, rfl, _, rfl, a, n, rfl, n0, n1, g.di, fun v H2 v0 v1 g2 => ⟨rfl, _, rfl, ?_⟩⟩
      have eL2 := g2.st L _ La eL
      have g3 := g.trans g2
      have tk : cs.take (i + 1) = cs.take i ++ [c] := by rw [List.take_add_one, hcc]; rfl
      refine ite2 (fun e => ?_) (fun e => ?_)
      · refine ⟨_, rfl, _, eL2, ?_, ss ++ [c], ?_, g3.mut nL La, by rw [upd_same, List.map_append]; rfl⟩
        · rw [List.length_map]
          have := sl.length_le
          have := hc.1.len
          rw [List.length_take] at *
          exact room1000 (by omega)
        · rw [tk]
          exact sl.append (List.Sublist.refl _)
      · refine ⟨ss, ?_, g3, eL2⟩
        rw [tk]
        exact sl.trans (List.sublist_append_left _ _)
    · obtain ⟨ss, sl, g, eL⟩ := h
      rw [List.length_map, List.take_length] at sl
      exact ⟨L, _, rfl, .inl (.inl eL), fun v o nv ho => q v ss _ (g.ex (Ex.new nv)) (g.back hd nv).1 sl (tupF_new ho)⟩

/-- a list at l of rows of m small numbers -/
structure Lines (H : Hp) (l : Addr) (m : Nat) (rs : List (Addr × List Int)) : Prop where
  at_ : H l = some (.lst (rs.map fun r => V.ref r.1))
  row : ∀ r ∈ rs, RowAt H r.1 r.2 ∧ r.2.length = m ∧ ∀ n ∈ r.2, Few n
def spRowsL : Sp := fun vs H Q _ => ∃ (a p : Addr) (cs : List Str) (n : Nat), vs = [.ref a, .ref p, .int n] ∧ n ≤ 20 ∧ Dice H a ∧ ColsAt H p cs ∧ cs ≠ [] ∧
  ∀ l rs H', Gro a H H' → H l = none → l ≠ a → Lines H' l cs.length rs → rs.length = n → Q (.ref l) H'
theorem Lines.gro {a l : Addr} {H H' : Hp} {m : Nat} {rs : List (Addr × List Int)} (h : Lines H l m rs) (g : Gro a H H') (d : Dice H a) (n : l ≠ a) : Lines H' l m rs :=
  ⟨g.st l _ n h.at_, fun r hr => let ⟨x, y, z⟩ := h.row r hr; ⟨g.rd d x, y, z⟩⟩
theorem Lines.ex {l : Addr} {H H' : Hp} {m : Nat} {rs : List (Addr × List Int)} (h : Lines H l m rs) (e : Ex H H') : Lines H' l m rs :=
  ⟨e l _ h.at_, fun r hr => let ⟨x, y, z⟩ := h.row r hr; ⟨e.rd x, y, z⟩⟩
theorem rd_upd {H : Hp} {r b : Addr} {ys xs : List V} {o : HO} (hr : H r = some (.lst ys)) (h : Rd H b (.tup xs)) : Rd (upd H r o) b (.tup xs) := by
  rcases h with h | ⟨u, h⟩
  · exact .inl (by rw [upd_ne (ne_of h hr (fun z => nomatch z))]; exact h)
  · exact .inr ⟨u, by rw [upd_ne (ne_of h hr (fun z => nomatch z))]; exact h⟩
theorem Lines.upd {l r : Addr} {H : Hp} {ys : List V} {o : HO} {m : Nat} {rs : List (Addr × List Int)} (h : Lines H l m rs) (hr : H r = some (.lst ys)) (n : l ≠ r) : Lines (upd H r o) l m rs :=
  ⟨by rw [upd_ne n]; exact h.at_, fun x hx => let ⟨x, y, z⟩ := h.row x hx; ⟨rd_upd hr x, y, z⟩⟩
/-- a list of three small numbers -/
def PoolAt (H : Hp) (l : Addr) : Prop := ∃ is : List Int, H l = some (.lst (is.map V.int)) ∧ is.length = 3 ∧ ∀ n ∈ is, Few n
theorem PoolAt.mk3 {H : Hp} {l : Addr} {x y z : Int} (h : H l = some (.lst [.int x, .int y, .int z])) (hx : Few x) (hy : Few y) (hz : Few z) : PoolAt H l :=
  ⟨[x, y, z], h, rfl, fun n hn => by
    rcases List.mem_cons.mp hn with rfl | hn
    · exact hx
    rcases List.mem_cons.mp hn with rfl | hn
    · exact hy
    · rw [List.mem_singleton.mp hn]; exact hz⟩
theorem PoolAt.gro {a l : Addr} {H H' : Hp} (h : PoolAt H l) (g : Gro a H H') (n : l ≠ a) : PoolAt H' l := let ⟨is, x, y, z⟩ := h; ⟨is, g.st l _ n x, y, z⟩
theorem PoolAt.ex {l : Addr} {H H' : Hp} (h : PoolAt H l) (e : Ex H H') : PoolAt H' l := let ⟨is, x, y, z⟩ := h; ⟨is, e l _ x, y, z⟩
theorem PoolAt.upd {l r : Addr} {H : Hp} {o : HO} (h : PoolAt H l) (n : l ≠ r) : PoolAt (upd H r o) l := let ⟨is, x, y, z⟩ := h; ⟨is, by rw [upd_ne n]; exact x, y, z⟩
theorem Gro.upd {a r : Addr} {H H' : Hp} {o : HO} (g : Gro a H H') (h : H r = none) (n : r ≠ a) : Gro a H (upd H' r o) := g.mut h n
theorem dp_lines {K : PySem.W.Frag} {H : Hp} {l : Addr} {m : Nat} {rs : List (Addr × List Int)} (h : Lines H l m rs) : Dp K H (.ref l) (.list ((rs.map (·.2)).map dRow)) :=
  .lst (.inl (.inl h.at_)) (by rw [List.map_map]; exact dp_refs fun r hr => (h.row r hr).1)
theorem shaped_rows (rs : List (List Int)) : SeqAt.shaped (.list (rs.map dRow)) = true := shaped_of (by simp only [PyData.canLay0, lay_rows]) (by simp only [PyData.depth]; have := dep_rows rs; omega)
theorem few39 : Few ((10 : Int) ^ (39 : Int).toNat) := by unfold Few; decide +kernel
theorem few39' : Few (1 - (10 : Int) ^ (39 : Int).toNat) := by unfold Few; decide +kernel
theorem cpw39 : CPw 10 39 := ⟨by decide, by decide +kernel⟩
theorem few_small {n : Int} (h : n.natAbs ≤ 100) : Few n := Nat.lt_of_le_of_lt h (by decide)
theorem ok_rowsL {f : Addr} {fd : FuncData} (F : Fun K "_law_rows" "_law_rows" sRowsL f fd) (T : Blt mg) (D : Dc P w K mg base) (Pk : DfG P w K mg base 2 "_law_pick" ["_law_dice_here", "_law_items"] spPick) :
    FnG P w K mg base CX0 3 f fd ["_law_dice_here", "_law_columns_here", "_law_total"] spRowsL := by
  refine okG F scRowsL (fun vs H Q E h => ?_) (fun cdv A outer s H vs Q E hr h => ?_)
  · obtain ⟨a, p, cs, n, rfl, _⟩ := h
    rfl
  · obtain ⟨a, p, cs, n, rfl, n20, hd, hc, c0, q⟩ := h
    have nd := scRowsL.nd
    have hu : (A.deeper (envOfC "_law_rows" (defScope sRowsL) s.heap.objs.size f cdv)).units + 64 < cLine := by have := hr.rm.un; omega
    have hr1 := hr.mono (show 1 ≤ 2 by decide)
    refine ⟨_, pss_cons (ps_set (i := 3) nd rfl (.inl rfl) (pe_lst (pa_cons (pe_lst (pa_cons pe_int (pa_cons pe_int (pa_cons pe_int pa_nil)))) (pa_cons (pe_lst (pa_cons pe_int (pa_cons pe_int (pa_cons pe_int pa_nil))))
        (pa_cons (pe_lst (pa_cons (pe_un un_neg pe_int) (pa_cons (pe_un un_neg pe_int) (pa_cons pe_int pa_nil)))) (pa_cons (pe_lst (pa_cons pe_int (pa_cons (pe_op op_powW pe_int pe_int) (pa_cons pe_int pa_nil))))
        (pa_cons (pe_lst (pa_cons (pe_op op_sub pe_int (pe_op op_powW pe_int pe_int)) (pa_cons (pe_un un_neg pe_int) (pa_cons pe_int pa_nil)))) pa_nil)))))))
      (pss_cons (ps_asg (pe_tup (pa_cons (pe_callG Pk.G hr (by rfl) Pk.g Pk.kp Pk.b .nil pass0 (pa_cons (pv 0) (pa_cons (pv 3) pa_nil))) (pa_cons (pe_lst pa_nil) pa_nil))) (pg_tup rfl (pgs_cons (pg_name (i := 4) nd rfl (.inr rfl)) (pgs_cons (pg_name (i := 5) nd rfl (.inl rfl)) pgs_nil))))
      (pss_cons (ps_for PassesOwn.never rfl (pi_range1 rfl T.range (pa_cons (pv 2) pa_nil)) (pg_name (i := 6) nd rfl (.inl rfl))
        (pss_cons (ps_setLc (i := 7) (own := [("_law_name", 9)]) (g := gName 9) (tt := tYes) rfl nd rfl rfl (sw_true rfl rfl rfl (by decide +kernel)) (pi_tup (pv 1)) (blkOk_by (N := ["_law_dice_here", "_law_columns_here", "_law_total", "_law_pools", "_law_pool", "_law_found", "_law_turn", "_law_row", "_law_change", "_law_name"]) (sc := defScope sRowsL) (by decide +kernel)) (fun _ _ _ _ _ => pg_name (i := 9) nd rfl (.inl rfl)) (fun _ _ _ _ _ => pts_nil)
            (fun _ _ _ _ _ => pe_callG Pk.G hr (by rfl) Pk.g Pk.kp Pk.b .nil pass0 (pa_cons (pv 0) (pa_cons (pv 4) pa_nil))))
        (pss_mid (ps_if (pw_and (pt_cmpR (op_neD hu) (pv 5) (pe_lst pa_nil) (nomark _)) (pw_and1 (pt_cmpR op_gt (pe_callG D.G hr1 (by rfl) D.g D.kp D.b .nil pass0 (pa_cons (pv 0) (pa_cons pe_int pa_nil))) pe_int (nomark _)))).pt
            (pss_cons (ps_set (i := 7) nd rfl (.inl rfl) (pe_callTy call_list_of (by rfl) T.list (by decide +kernel) (pa_cons (pe_callG Pk.G hr (by rfl) Pk.g Pk.kp Pk.b .nil pass0 (pa_cons (pv 0) (pa_cons (pv 5) pa_nil))) pa_nil)))
            (pss_one (ps_for PassesOwn.never rfl (pi_range1 rfl T.range (pa_cons (pe_callG D.G hr1 (by rfl) D.g D.kp D.b .nil pass0 (pa_cons (pv 0) (pa_cons pe_int pa_nil))) pa_nil)) (pg_name (i := 8) nd rfl (.inl rfl))
              (pss_one (ps_asg (pe_callG Pk.G hr (by rfl) Pk.g Pk.kp Pk.b .nil pass0 (pa_cons (pv 0) (pa_cons (pv 4) pa_nil))) (pg_sub (pv 7) (pe_callG D.G hr1 (by rfl) D.g D.kp D.b .nil pass0 (pa_cons (pv 0) (pa_cons (pe_callB call_len_seq (by rfl) T.len PySem.boot_len (pa_cons (pv 1) pa_nil)) pa_nil))) set_list))))))
            pss_nil)
        (pss_one (ps_expr (pe_bm PySem.F.plainAttrs_list PySem.F.slot_list_append PySem.F.type_list_append mt_append (pv 5) (pa_cons (pe_callTy call_tupleF (by rfl) T.tuple (by decide +kernel) (pa_cons (pv 7) pa_nil)) pa_nil)))))))
      (pss_one (ps_ret (pv 5))))), ?_⟩
    have s3 : 3 ≤ sizeLine := by decide
    -- the pools
    refine ⟨s3, fun l1 n1 => ⟨s3, fun l2 n2 => ⟨_, rfl, _, rfl, s3, fun l3 n3 => ⟨_, _, rfl, rfl, cpw39, s3, fun l4 n4 => ⟨_, _, rfl, rfl, cpw39, _, _, rfl, rfl, _, rfl, s3, fun l5 n5 => ⟨by show 5 ≤ sizeLine; decide, fun lp np => ?_⟩⟩⟩⟩⟩⟩
    have x2 := Ex.new (o := .lst [.int 2, .int 10, .int 0]) n2
    have x3 := Ex.new (o := .lst [.int (-2), .int (-1), .int 1]) n3
    have x4 := Ex.new (o := .lst [.int 9, .int ((10 : Int) ^ (39 : Int).toNat), .int 0]) n4
    have x5 := Ex.new (o := .lst [.int (1 - (10 : Int) ^ (39 : Int).toNat), .int (-7), .int 0]) n5
    have xp := Ex.new (o := .lst [.ref l1, .ref l2, .ref l3, .ref l4, .ref l5]) np
    have xa := ((((Ex.new (o := .lst [.int 0, .int 1, .int 2]) n1).trans x2).trans x3).trans x4).trans x5
    have p1 : PoolAt _ l1 := (PoolAt.mk3 upd_same (few_small (by decide)) (few_small (by decide)) (few_small (by decide))).ex ((((x2.trans x3).trans x4).trans x5).trans xp)
    have p2 : PoolAt _ l2 := (PoolAt.mk3 upd_same (few_small (by decide)) (few_small (by decide)) (few_small (by decide))).ex (((x3.trans x4).trans x5).trans xp)
    have p3 : PoolAt _ l3 := (PoolAt.mk3 upd_same (few_small (by decide)) (few_small (by decide)) (few_small (by decide))).ex ((x4.trans x5).trans xp)
    have p4 : PoolAt _ l4 := (PoolAt.mk3 upd_same (few_small (by decide)) few39 (few_small (by decide))).ex (x5.trans xp)
    have p5 : PoolAt _ l5 := (PoolAt.mk3 upd_same few39' (few_small (by decide)) (few_small (by decide))).ex xp
    have gp := Gro.of (xa.trans xp) hd
    have lpa : lp ≠ a := (xa.dice hd).ne np
    have l1a : l1 ≠ a := hd.ne n1
    have l2a : l2 ≠ a := fun e => by
      subst e
      obtain ⟨i, j, k, z⟩ := hd
      rw [upd_ne (ne_of_none z n1)] at n2
      rw [z] at n2
      exact nomatch n2
    have pa_of : ∀ {H1 H2 : Hp} {l : Addr}, Ex H H1 → H1 l = none → l ≠ a := fun e n => (e.dice hd).ne n
    have e1 := Ex.new (o := .lst [.int 0, .int 1, .int 2]) n1
    have l3a : l3 ≠ a := ((e1.trans x2).dice hd).ne n3
    have l4a : l4 ≠ a := (((e1.trans x2).trans x3).dice hd).ne n4
    have l5a : l5 ≠ a := ((((e1.trans x2).trans x3).trans x4).dice hd).ne n5
    have hn1 : H l1 = none := n1
    have hn2 : H l2 = none := e1.back n2
    have hn3 : H l3 = none := (e1.trans x2).back n3
    have hn4 : H l4 = none := ((e1.trans x2).trans x3).back n4
    have hn5 : H l5 = none := (((e1.trans x2).trans x3).trans x4).back n5
    -- pool, found = pick(dice, pools), []
    refine ⟨_, rfl, _, rfl, a, lp, _, rfl, upd_same, lpa, by simp, (by show 5 ≤ 1000; decide), gp.di, fun v H6 hv g6 => ⟨Nat.zero_le _, fun o no => ⟨by show 2 ≤ sizeLine; decide, fun t nt => ⟨t, [v, .ref o], rfl, .inl (.inl upd_same), rfl, v, [.ref o], rfl, .ref o, [], rfl, rfl, ?_⟩⟩⟩⟩
    have gr6 := gp.trans g6
    have yo := Ex.new (o := .lst []) no
    have yt := Ex.new (o := .tup [v, .ref o]) nt
    have g8 := (gr6.ex yo).ex yt
    have oa : o ≠ a := gr6.di.ne no
    have ho : H o = none := (gr6.back hd no).1
    obtain ⟨pl, rfl, hp6, pla, hpl⟩ : ∃ pl, v = .ref pl ∧ PoolAt H6 pl ∧ pl ≠ a ∧ H pl = none := by
      rcases List.mem_cons.mp hv with rfl | hv
      · exact ⟨l1, rfl, p1.gro g6 l1a, l1a, hn1⟩
      rcases List.mem_cons.mp hv with rfl | hv
      · exact ⟨l2, rfl, p2.gro g6 l2a, l2a, hn2⟩
      rcases List.mem_cons.mp hv with rfl | hv
      · exact ⟨l3, rfl, p3.gro g6 l3a, l3a, hn3⟩
      rcases List.mem_cons.mp hv with rfl | hv
      · exact ⟨l4, rfl, p4.gro g6 l4a, l4a, hn4⟩
      · rw [List.mem_singleton] at hv
        subst hv
        exact ⟨l5, rfl, p5.gro g6 l5a, l5a, hn5⟩
    have plo : pl ≠ o := fun e => by
      subst e
      obtain ⟨_, z, _⟩ := hp6
      rw [z] at no
      exact nomatch no
    -- the rows
    refine ⟨_, rfl, n, rfl, by omega, by omega, ?_⟩
    refine for_range (n := n) (fun i σ H' => ∃ (rs : List (Addr × List Int)) (y6 y7 y8 : Option V), σ = [some (.ref a), some (.ref p), some (.int n), some (.ref lp), some (.ref pl), some (.ref o), y6, y7, y8, none] ∧ rs.length = i ∧ Gro a H H' ∧ Lines H' o cs.length rs ∧ PoolAt H' pl)
      ⟨[], none, none, none, rfl, rfl, g8, ⟨by rw [upd_ne (ne_of_none upd_same nt), upd_same]; rfl, fun r hr => nomatch hr⟩, (hp6.ex yo).ex yt⟩ (fun i σ H1 hi hW => ?_) (fun σ H1 hW => ?_)
    · obtain ⟨rs, y6, y7, y8, rfl, hrs, gr, ln, pl1⟩ := hW
      have hc1 := gr.rd hd hc.2
      have l8 := hc.1.len
      -- row = [pick(dice, pool) for name in columns]
      refine ⟨_, rfl, p, rfl, ⟨_, .inl hc1⟩, fun rl nl => ?_⟩
      have rla : rl ≠ a := gr.di.ne nl
      have hrl : H rl = none := (gr.back hd nl).1
      have rlo : rl ≠ o := fun e => by subst e; rw [ln.at_] at nl; exact nomatch nl
      refine lc_tup (xs := cs.map V.str) (fun j H' => ∃ ns : List Int, ns.length = j ∧ (∀ n ∈ ns, Few n) ∧ Gro a H1 H' ∧ H' rl = some (.lst (ns.map V.int)))
        ⟨[], rfl, (fun _ z => nomatch z), Gro.of (Ex.new nl) gr.di, upd_same⟩ (fun j H' _ h => ?_) (fun j x H' hx h => ?_) (fun H2 h => ?_)
      · obtain ⟨_, _, _, g, _⟩ := h
        exact .inl (g.rd gr.di hc1)
      · obtain ⟨ns, hns, few, g, el⟩ := h
        obtain ⟨is, e1, e2, e3⟩ := pl1.gro g pla
        have := (List.getElem?_eq_some_iff.mp hx).1
        rw [List.length_map] at this
        refine ⟨rfl, _, rfl, _, rfl, a, pl, _, rfl, e1, pla, ?_, ?_, g.di, fun v H3 hv g3 => ?_⟩
        · intro z
          have := congrArg List.length z
          rw [List.length_map, e2] at this
          exact nomatch this
        · rw [List.length_map, e2]; decide
        · obtain ⟨z, hz, rfl⟩ := List.mem_map.mp hv
          have el3 := g3.st rl _ rla el
          refine ⟨_, el3, ?_, ns ++ [z], by rw [List.length_append, hns]; rfl, fun u hu => ?_, (g.trans g3).mut nl rla, by rw [upd_same, List.map_append]; rfl⟩
          · rw [List.length_map, hns]
            exact room1000 (by omega)
          · rcases List.mem_append.mp hu with q | q
            · exact few u q
            · rw [List.mem_singleton.mp q]; exact e3 z hz
      · obtain ⟨ns, hns, few, g, el⟩ := h
        rw [List.length_map] at hns
        have gr2 := gr.trans g
        have ln2 := ln.gro g gr.di oa
        have pl2 := pl1.gro g pla
        have plr : pl ≠ rl := fun e => by subst e; obtain ⟨_, z, _⟩ := pl1; rw [z] at nl; exact nomatch nl
        refine ⟨fun σ H' => ∃ (rl : Addr) (ns : List Int) (y8 : Option V), σ = [some (.ref a), some (.ref p), some (.int n), some (.ref lp), some (.ref pl), some (.ref o), some (.int (0 + (i : Int))), some (.ref rl), y8, none] ∧ ns.length = cs.length ∧ (∀ n ∈ ns, Few n) ∧ H' rl = some (.lst (ns.map V.int)) ∧ Gro a H H' ∧ Lines H' o cs.length rs ∧ PoolAt H' pl, ?_, fun σ H' hM => ?_⟩
        · -- if found != [] and pull(dice, 3) > 0
          refine ⟨_, rfl, Nat.zero_le _, fun l nl2 => ⟨_, .list [], dp_lines (ln2.ex (Ex.new nl2)), .lst (.inl (.inl upd_same)) .nil, shaped_rows _, shaped_nilL, _, rfl, ?_⟩⟩
          rw [eqv_list_nil]
          have gl := gr2.ex (Ex.new (o := .lst []) nl2)
          have lnl := ln2.ex (Ex.new (o := .lst []) nl2)
          have pll := pl2.ex (Ex.new (o := .lst []) nl2)
          have ell : (upd H2 l (.lst [])) rl = some (.lst (ns.map V.int)) := Ex.new nl2 rl _ el
          by_cases z : rs.map (·.2) = []
          · rw [decide_eq_true z]
            exact ⟨rl, ns, y8, rfl, hns, few, ell, gl, lnl, pll⟩
          · rw [decide_eq_false z]
            have rsne : rs ≠ [] := fun y => z (by rw [y]; rfl)
            refine ⟨_, rfl, a, 3, rfl, by decide, by decide, gl.di, fun v H3 v0 v1 g3 => ⟨_, _, rfl, rfl, _, rfl, ite2 (fun e => ?_) (fun e => ?_)⟩⟩
            · have ln3 := lnl.gro g3 gl.di oa
              have gr3 := gl.trans g3
              refine ⟨_, rfl, _, rfl, a, o, _, rfl, ln3.at_, oa, ?_, ?_, g3.di, fun v H4 hv g4 => ?_⟩
              · intro y
                exact rsne (List.map_eq_nil_iff.mp y)
              · rw [List.length_map]; omega
              obtain ⟨r, hr4, rfl⟩ := List.mem_map.mp hv
              have gr4 := gr3.trans g4
              have ln4 := ln3.gro g4 g3.di oa
              obtain ⟨r1, r2, r3⟩ := ln4.row r hr4
              refine ⟨r.1, _, rfl, .inr (.inl r1), fun q5 n5 => ?_⟩
              have q5a : q5 ≠ a := gr4.di.ne n5
              have hq5 : H q5 = none := (gr4.back hd n5).1
              have q5o : o ≠ q5 := fun e => by subst e; rw [ln4.at_] at n5; exact nomatch n5
              have pl4 := (pll.gro g3 pla).gro g4 pla
              have plq : pl ≠ q5 := fun e => by subst e; obtain ⟨_, z, _⟩ := pl4; rw [z] at n5; exact nomatch n5
              have x5 := Ex.new (o := .lst (r.2.map V.int)) n5
              have gr5 := gr4.ex x5
              refine ⟨_, rfl, a, 3, rfl, by decide, by decide, gr5.di, fun v H6 w0 w1 g6 => ⟨v, rfl, by omega, by omega, ?_⟩⟩
              refine for_range (n := v.toNat) (fun j σ H' => ∃ (ns : List Int) (y8 : Option V), σ = [some (.ref a), some (.ref p), some (.int n), some (.ref lp), some (.ref pl), some (.ref o), some (.int (0 + (i : Int))), some (.ref q5), y8, none] ∧ ns.length = cs.length ∧ (∀ n ∈ ns, Few n) ∧ H' q5 = some (.lst (ns.map V.int)) ∧ Gro a H H' ∧ Lines H' o cs.length rs ∧ PoolAt H' pl)
                ⟨r.2, y8, rfl, r2, r3, g6.st q5 _ q5a upd_same, gr5.trans g6, (ln4.ex x5).gro g6 gr5.di oa, (pl4.ex x5).gro g6 pla⟩ (fun j σ H7 hj h => ?_) (fun σ H7 h => ?_)
              · obtain ⟨ns, y8, rfl, n1, n2, n3, g7, ln7, pl7⟩ := h
                obtain ⟨is, e1, e2, e3⟩ := pl7
                have pl7' : PoolAt H7 pl := ⟨is, e1, e2, e3⟩
                refine ⟨_, rfl, _, rfl, a, pl, _, rfl, e1, pla, ?_, ?_, g7.di, fun v H8 hv g8 => ?_⟩
                · intro z
                  have := congrArg List.length z
                  rw [List.length_map, e2] at this
                  exact nomatch this
                · rw [List.length_map, e2]; decide
                obtain ⟨z, hz, rfl⟩ := List.mem_map.mp hv
                have gr8 := g7.trans g8
                have clen : 0 < cs.length := List.length_pos_iff.mpr c0
                refine ⟨_, rfl, _, rfl, _, rfl, p, _, rfl, .inr (.inl (gr8.rd hd hc.2)), a, _, rfl, by rw [List.length_map]; omega, Nat.lt_of_le_of_lt (show ((cs.map V.str).length : Int).natAbs ≤ 8 by rw [List.length_map]; omega) (by decide), g8.di, fun k H9 k0 k1 g9 => ?_⟩
                rw [List.length_map] at k1
                have n9 := g9.st q5 _ q5a (g8.st q5 _ q5a n3)
                have gr9 := gr8.trans g9
                refine ⟨q5, _, k, k.toNat, rfl, rfl, n9, ?_, ?_⟩
                · unfold ixN
                  rw [if_pos k0, if_pos (by rw [List.length_map, n1]; exact k1)]
                · refine ⟨ns.set k.toNat z, _, rfl, by rw [List.length_set, n1], fun u hu => ?_, by rw [upd_same, List.map_set], gr9.mut hq5 q5a, ((ln7.gro g8 g7.di oa).gro g9 g8.di oa).upd n9 q5o, ((pl7'.gro g8 pla).gro g9 pla).upd plq⟩
                  rcases List.mem_or_eq_of_mem_set hu with y | y
                  · exact n2 u y
                  · rw [y]; exact e3 z hz
              · obtain ⟨ns, y8, rfl, n1, n2, n3, g7, ln7, pl7⟩ := h
                exact ⟨q5, ns, y8, rfl, n1, n2, n3, g7, ln7, pl7⟩
            · exact ⟨rl, ns, y8, rfl, hns, few, g3.st rl _ rla ell, gl.trans g3, lnl.gro g3 gl.di oa, pll.gro g3 pla⟩
        · obtain ⟨r5, ns, y8, rfl, n1, n2, n3, g7, ln7, pl7⟩ := hM
          refine ⟨_, rfl, .inl ⟨rfl, _, .inl (.inl ln7.at_)⟩, _, rfl, r5, _, rfl, .inl (.inl n3), fun t ob nt hob => ?_⟩
          have xt := Ex.new (o := .frz ob (.tup (ns.map V.int))) nt
          refine ⟨o, _, _, rfl, rfl, xt o _ ln7.at_, ?_, ?_⟩
          · rw [List.length_map]
            exact room1000 (by omega)
          · have lx := ln7.ex xt
            refine ⟨rs ++ [(t, ns)], _, _, _, rfl, by rw [List.length_append, hrs]; rfl, (g7.ex xt).mut ho oa, ⟨by rw [upd_same, List.map_append]; rfl, fun r hr => ?_⟩, (pl7.ex xt).upd plo⟩
            rcases List.mem_append.mp hr with y | y
            · obtain ⟨a1, a2, a3⟩ := lx.row r y
              exact ⟨rd_upd lx.at_ a1, a2, a3⟩
            · rw [List.mem_singleton.mp y]
              exact ⟨rd_upd lx.at_ (.inr ⟨ob, upd_same⟩), n1, n2⟩
    · obtain ⟨rs, y6, y7, y8, rfl, hrs, gr, ln, pl1⟩ := hW
      exact ⟨.ref o, rfl, q o rs H1 gr ho oa ln hrs⟩
end
end Gl

namespace Gl
open PySem PySem.Spec PyProof.Rows L2 RZ
abbrev sValL : Stmt := topS 30
abbrev sPairL : Stmt := topS 31
theorem scValL : FnScope ["_law_columns_here", "_law_row", "_law_chosen", "_law_found", "_law_name", "_law_other", "_law_number"] ["_law_columns_here", "_law_row", "_law_chosen"] (defScope sValL) := ⟨rfl, rfl, rfl, by decide +kernel, rfl, by decide +kernel, by decide +kernel⟩
theorem scPairL : FnScope ["_law_columns_here", "_law_row", "_law_other", "_law_due", "_law_at", "_law_told"] ["_law_columns_here", "_law_row", "_law_other"] (defScope sPairL) := ⟨rfl, rfl, rfl, by decide +kernel, rfl, by decide +kernel, by decide +kernel⟩
section
variable {K : PySem.W.Frag} {a b : Addr} {xs ys : List V}
theorem walk_zipT {n : Nat} (hn : n = min xs.length ys.length) : Walk (ItzT K a b) n (fun H => SqT K H a xs ∧ SqT K H b ys) (YPair (fun i => xs[i]?) (fun i => ys[i]?)) := by
  subst hn
  constructor
  · intro i H hi ⟨q1, q2⟩
    have h1 : i < xs.length := by omega
    have h2 : i < ys.length := by omega
    exact ⟨xs, ys, xs[i], ys[i], q1, q2, List.getElem?_eq_getElem h1, List.getElem?_eq_getElem h2⟩
  · intro H ⟨q1, q2⟩
    exact ⟨xs, ys, q1, q2, by omega⟩
  · rintro i H v H' _ ⟨q1, q2⟩ ⟨T, x, y, h1, h2, h3, h4, h5⟩
    exact ⟨T, x, y, h1, h2, h3, h4 xs q1, h5 ys q2⟩
end
theorem cs_inj {cs : List Str} (h : Asc cs) {i j : Nat} {c : Str} (h1 : cs[i]? = some c) (h2 : cs[j]? = some c) : i = j := by
  obtain ⟨l1, e1⟩ := List.getElem?_eq_some_iff.mp h1
  obtain ⟨l2, e2⟩ := List.getElem?_eq_some_iff.mp h2
  rcases Nat.lt_trichotomy i j with z | z | z
  · have := List.pairwise_iff_getElem.mp h i j l1 l2 z
    rw [e1, e2] at this
    exact absurd this (List.lt_irrefl _)
  · exact z
  · have := List.pairwise_iff_getElem.mp h j i l2 l1 z
    rw [e1, e2] at this
    exact absurd this (List.lt_irrefl _)
section
variable {P : Program} {w : World} {K : PySem.W.Frag} {mg : Str → Option Value} {base : Heap}
theorem vals_take {cs ss : List Str} {ns : List Int} {i : Nat} {c : Str} (h : ss[i]? = some c) : vals cs ns (ss.take (i + 1)) = vals cs ns (ss.take i) ++ [ns.getD (ix cs c) 0] := by
  unfold vals
  rw [List.take_add_one, h, List.map_append]
  rfl
def spValL : Sp := fun vs H Q _ => ∃ (p r q : Addr) (cs ss : List Str) (ns : List Int), vs = [.ref p, .ref r, .ref q] ∧ ColsAt H p cs ∧ RowAt H r ns ∧ ns.length = cs.length ∧ Rd H q (.tup (ss.map V.str)) ∧ (∀ s ∈ ss, s ∈ cs) ∧ ss.length ≤ 100 ∧
  ∀ v H', Ex H H' → H v = none → TupF H' v ((vals cs ns ss).map V.int) → Q (.ref v) H'
theorem ok_valL {f : Addr} {fd : FuncData} (F : Fun K "_law_values" "_law_values" sValL f fd) (T : Blt mg) : FnOk P w K mg base CX0 1 f fd ["_law_columns_here", "_law_row", "_law_chosen"] spValL := by
  refine F.ok scValL (fun vs H Q E h => ?_) (fun cdv A0 outer s H vs Q E hr h => ?_)
  · obtain ⟨p, r, q, cs, ss, ns, rfl, _⟩ := h
    rfl
  · obtain ⟨p, r, q, cs, ss, ns, rfl, hc, hr1, hl, hs, sub, sl, k⟩ := h
    have nd := scValL.nd
    refine ⟨_, pss_cons (ps_set (i := 3) nd rfl (.inl rfl) (pe_lst pa_nil))
      (pss_cons (ps_for PassesOwn.never rfl (pi_tup (pv 2)) (pg_name (i := 4) nd rfl (.inl rfl))
        (pss_one (ps_for PassesOwn.never rfl (pi_zipA (by rfl) T.zip (pa_cons (pv 0) (pa_cons (pv 1) pa_nil))) (pg_tup rfl (pgs_cons (pg_name (i := 5) nd rfl (.inl rfl)) (pgs_cons (pg_name (i := 6) nd rfl (.inl rfl)) pgs_nil)))
          (pss_one (ps_if (pt_cmpR op_eq (pv 5) (pv 4) (nomark _)) (pss_one (ps_expr (pe_bm PySem.F.plainAttrs_list PySem.F.slot_list_append PySem.F.type_list_append mt_append (pv 3) (pa_cons (pv 6) pa_nil)))) pss_nil)))))
      (pss_one (ps_ret (pe_callTy call_tupleF (by rfl) T.tuple (by decide +kernel) (pa_cons (pv 3) pa_nil))))), ?_⟩
    refine ⟨Nat.zero_le _, fun o no => ?_⟩
    have xo := Ex.new (o := .lst []) no
    refine ⟨_, rfl, q, rfl, ⟨_, .inl (xo.rd hs)⟩, for_tup (xs := ss.map V.str) (fun i σ H' => ∃ y4 y5 y6 : Option V, σ = [some (.ref p), some (.ref r), some (.ref q), some (.ref o), y4, y5, y6] ∧ Ex H H' ∧ H' o = some (.lst ((vals cs ns (ss.take i)).map V.int)))
      ⟨none, none, none, rfl, xo, upd_same⟩ (fun i σ H' _ h => ?_) (fun i x σ H1 hx h => ?_) (fun σ H1 h => ?_)⟩
    · obtain ⟨_, _, _, _, ex, _⟩ := h
      exact .inl (ex.rd hs)
    · obtain ⟨y4, y5, y6, rfl, ex, eo⟩ := h
      rw [List.getElem?_map] at hx
      obtain ⟨s1, hs1, rfl⟩ := Option.map_eq_some_iff.mp hx
      have hm : s1 ∈ cs := sub s1 (List.mem_of_getElem? hs1)
      have hi : i < ss.length := (List.getElem?_eq_some_iff.mp hs1).1
      have hixl := ix_lt hm
      refine ⟨_, rfl, _, rfl, p, r, _, _, rfl, .inr ⟨.inl (ex.rd hc.2), .inl (ex.rd hr1), ?_⟩⟩
      refine for_it (walk_zipT (n := cs.length) (xs := cs.map V.str) (ys := ns.map V.int) (by rw [List.length_map, List.length_map, hl, Nat.min_self])) (fun j σ H' => ∃ y5 y6 : Option V, σ = [some (.ref p), some (.ref r), some (.ref q), some (.ref o), some (.str s1), y5, y6] ∧ Ex H H' ∧ H' o = some (.lst ((vals cs ns (ss.take i) ++ (if ix cs s1 < j then [ns.getD (ix cs s1) 0] else [])).map V.int)))
        ⟨y5, y6, rfl, ex, by rw [if_neg (Nat.not_lt_zero _), List.append_nil]; exact eo⟩ (fun j σ H' _ h => ?_) (fun j x σ H2 H3 hj h y => ?_) (fun σ H2 h => ?_)
      · obtain ⟨_, _, _, ex, _⟩ := h
        exact ⟨.inl (ex.rd hc.2), .inl (ex.rd hr1)⟩
      · obtain ⟨y5, y6, rfl, ex2, eo2⟩ := h
        obtain ⟨t, u1, u2, rfl, nt, rfl, g1, g2⟩ := y
        have j2 : j < ns.length := by omega
        have g1 : (cs.map V.str)[j]? = some u1 := g1
        have g2 : (ns.map V.int)[j]? = some u2 := g2
        rw [List.getElem?_map, List.getElem?_eq_getElem hj] at g1
        rw [List.getElem?_map, List.getElem?_eq_getElem j2] at g2
        obtain rfl : V.str cs[j] = u1 := Option.some.inj g1
        obtain rfl : V.int ns[j] = u2 := Option.some.inj g2
        have ex3 := ex2.trans (Ex.new (o := .tup [V.str cs[j], V.int ns[j]]) nt)
        have eo3 : (upd H2 t (.tup [V.str cs[j], V.int ns[j]])) o = _ := Ex.new nt o _ eo2
        refine ⟨t, _, rfl, .inl (.inl upd_same), rfl, _, _, rfl, _, _, rfl, rfl, ?_⟩
        refine ⟨_, rfl, _, rfl, rfl, _, rfl, ite2 (fun e => ?_) (fun e => ?_)⟩
        · have e1 : cs[j] = s1 := V.str.inj (of_decide_eq_true e)
          have ej : j = ix cs s1 := cs_inj hc.1.asc (List.getElem?_eq_getElem hj) (by rw [e1]; exact ix_get hm)
          refine ⟨_, rfl, .inl ⟨rfl, _, .inl (.inl eo3)⟩, _, rfl, o, _, _, rfl, rfl, eo3, ?_, _, _, rfl, ex3.mut no, ?_⟩
          · rw [if_neg (by omega), List.append_nil]
            rw [List.length_map]
            unfold vals
            rw [List.length_map, List.length_take]
            exact room1000 (by omega)
          · rw [upd_same, if_neg (by omega), if_pos (by omega), List.append_nil, List.map_append]
            rw [show ns[j] = ns.getD (ix cs s1) 0 by rw [← ej, List.getD_eq_getElem?_getD, List.getElem?_eq_getElem j2]; rfl]
            rfl
        · have e1 : ¬ j = ix cs s1 := fun z => e (decide_eq_true (congrArg V.str (by
            have := ix_get hm
            rw [← z, List.getElem?_eq_getElem hj] at this
            exact Option.some.inj this)))
          refine ⟨_, _, rfl, ex3, ?_⟩
          rw [eo3]
          by_cases z : ix cs s1 < j
          · rw [if_pos z, if_pos (by omega)]
          · rw [if_neg z, if_neg (by omega)]
      · obtain ⟨y5, y6, rfl, ex2, eo2⟩ := h
        refine ⟨_, _, _, rfl, ex2, ?_⟩
        rw [eo2, if_pos hixl, ← vals_take hs1]
    · obtain ⟨y4, y5, y6, rfl, ex, eo⟩ := h
      rw [List.length_map, List.take_length] at eo
      exact ⟨_, rfl, o, _, rfl, .inl (.inl eo), fun v ob nv hob => k v _ (ex.trans (Ex.new nv)) (ex.back nv) (tupF_new hob)⟩
end
end Gl

namespace Gl
open PySem PySem.Spec PyProof.Rows L2
theorem agr_cons (c : Str) (cs : List Str) (n m : Int) (ns ms : List Int) : agr (c :: cs) (n :: ns) (m :: ms) = (if n = m then [c] else []) ++ agr cs ns ms := by
  unfold agr
  rw [List.zip_cons_cons, List.zip_cons_cons, List.filter_cons]
  by_cases e : n = m
  · rw [if_pos (decide_eq_true e), if_pos e]; rfl
  · rw [if_neg (by simp [e]), if_neg e]; rfl
theorem agr_comm : ∀ (cs : List Str) (ns ms : List Int), agr cs ns ms = agr cs ms ns
  | [], _, _ => rfl
  | _ :: _, [], [] => rfl
  | _ :: _, [], _ :: _ => rfl
  | _ :: _, _ :: _, [] => rfl
  | c :: cs, n :: ns, m :: ms => by
    rw [agr_cons, agr_cons, agr_comm cs ns ms]
    by_cases e : n = m
    · rw [if_pos e, if_pos e.symm]
    · rw [if_neg e, if_neg fun z => e z.symm]
theorem agr_self : ∀ (cs : List Str) (ns : List Int), ns.length = cs.length → agr cs ns ns = cs
  | [], _, _ => rfl
  | _ :: _, [], h => nomatch h
  | c :: cs, n :: ns, h => by
    rw [agr_cons, if_pos rfl, agr_self cs ns (Nat.succ.inj h)]
    rfl
theorem agr_sub : ∀ (cs : List Str) (ns ms : List Int), (agr cs ns ms).Sublist cs
  | [], _, _ => List.Sublist.refl _
  | _ :: _, [], _ => List.nil_sublist _
  | _ :: _, _ :: _, [] => List.nil_sublist _
  | c :: cs, n :: ns, m :: ms => by
    rw [agr_cons]
    by_cases e : n = m
    · rw [if_pos e]; exact (agr_sub cs ns ms).cons_cons c
    · rw [if_neg e]; exact (agr_sub cs ns ms).cons c
theorem ColsOk.sub {cs ss : List Str} (h : ColsOk cs) (s : ss.Sublist cs) : ColsOk ss :=
  ⟨fun c hc => h.nm c (s.subset hc), List.Pairwise.sublist s h.asc, Nat.le_trans s.length_le h.len⟩
/-- two of the columns' kind -/
theorem shows_two {cs : List Str} (h : ColsOk cs) : Shows (.list [dCols cs, dCols cs]) 3000 := by
  have s := shows_cols h.nm
  have l := h.len
  refine ⟨?_, ?_, ?_⟩
  · simp only [PyData.showable, PyData.showableAll, s.sh, Bool.and_self]
  · simp only [PyData.depth, PyData.depthAll, dCols, dep_strs]
    decide
  · simp only [wt, wtAll]
    have := s.wt
    omega
section
variable {P : Program} {w : World} {K : PySem.W.Frag} {mg : Str → Option Value} {base : Heap}
def spPairL : Sp := fun vs H Q _ => ∃ (p r q : Addr) (cs : List Str) (ns ms : List Int), vs = [.ref p, .ref r, .ref q] ∧ ColsAt H p cs ∧ RowAt H r ns ∧ RowAt H q ms ∧ ns.length = cs.length ∧ ms.length = cs.length ∧ ∀ H', Ex H H' → Q (.bl true) H'
theorem ok_pairL {f : Addr} {fd : FuncData} (F : Fun K "_law_pair_right" "_law_pair_right" sPairL f fd) (T : Blt mg) (Ag : Df P w K mg base 6 "agreement" ["columns", "row", "other"] spAgree) : FnG P w K mg base CX0 7 f fd ["_law_columns_here", "_law_row", "_law_other"] spPairL := by
  refine okG F scPairL (fun vs H Q E h => ?_) (fun cdv A outer s H vs Q E hr h => ?_)
  · obtain ⟨p, r, q, cs, ns, ms, rfl, _⟩ := h
    rfl
  · obtain ⟨p, r, q, cs, ns, ms, rfl, hc, h1, h2, l1, l2, k⟩ := h
    have nd := scPairL.nd
    have hu : (A.deeper (envOfC "_law_pair_right" (defScope sPairL) s.heap.objs.size f cdv)).units + 64 < cLine := by have := hr.rm.un; omega
    refine ⟨_, pss_cons (ps_set (i := 3) nd rfl (.inl rfl) (pe_lst pa_nil))
      (pss_cons (ps_for PassesOwn.never rfl (pi_range1 rfl T.range (pa_cons (pe_callB call_len_seq (by rfl) T.len PySem.boot_len (pa_cons (pv 0) pa_nil)) pa_nil)) (pg_name (i := 4) nd rfl (.inl rfl))
        (pss_one (ps_if (pt_cmpR op_eq (pe_ix ix_tup (pv 1) (pv 4) (fun _ _ => rfl)) (pe_ix ix_tup (pv 2) (pv 4) (fun _ _ => rfl)) (nomark _)) (pss_one (ps_expr (pe_bm PySem.F.plainAttrs_list PySem.F.slot_list_append PySem.F.type_list_append mt_append (pv 3) (pa_cons (pe_ix ix_tup (pv 0) (pv 4) (fun _ _ => rfl)) pa_nil)))) pss_nil)))
      (pss_cons (ps_set (i := 5) nd rfl (.inl rfl) (pe_lst (pa_cons (pe_call Ag.G hr.rm (by rfl) Ag.g Ag.kp Ag.b .nil pass0 (pa_cons (pv 0) (pa_cons (pv 1) (pa_cons (pv 2) pa_nil)))) (pa_cons (pe_call Ag.G hr.rm (by rfl) Ag.g Ag.kp Ag.b .nil pass0 (pa_cons (pv 0) (pa_cons (pv 2) (pa_cons (pv 1) pa_nil)))) pa_nil))))
      (pss_one (ps_ret (pe_and (pe_cmpR op_eq (pe_callB (call_reprD hr) (by rfl) T.repr (by decide +kernel) (pa_cons (pv 5) pa_nil)) (pe_callB (call_reprD hr) (by rfl) T.repr (by decide +kernel) (pa_cons (pe_lst (pa_cons (pe_callTy call_tupleF (by rfl) T.tuple (by decide +kernel) (pa_cons (pv 3) pa_nil)) (pa_cons (pe_callTy call_tupleF (by rfl) T.tuple (by decide +kernel) (pa_cons (pv 3) pa_nil)) pa_nil))) pa_nil)) (nomark _))
        (pe_one (pe_cmpR (op_eqD hu) (pe_call Ag.G hr.rm (by rfl) Ag.g Ag.kp Ag.b .nil pass0 (pa_cons (pv 0) (pa_cons (pv 1) (pa_cons (pv 1) pa_nil)))) (pv 0) (nomark _)))))))), ?_⟩
    refine ⟨Nat.zero_le _, fun o no => ?_⟩
    have xo := Ex.new (o := .lst []) no
    have l8 := hc.1.len
    refine ⟨_, rfl, p, _, rfl, .inr (.inl (xo.rd hc.2)), _, rfl, by omega, by rw [List.length_map]; omega, ?_⟩
    rw [show ((cs.map V.str).length : Int).toNat = cs.length by rw [List.length_map]; omega]
    refine for_range (fun i σ H' => ∃ y4 : Option V, σ = [some (.ref p), some (.ref r), some (.ref q), some (.ref o), y4, none] ∧ Ex H H' ∧ H' o = some (.lst ((agrT cs ns ms i).map V.str)))
      ⟨none, rfl, xo, upd_same⟩ (fun i σ H1 hi h => ?_) (fun σ H1 h => ?_)
    · obtain ⟨y4, rfl, ex, eo⟩ := h
      have i1 : i < ns.length := by omega
      have i2 : i < ms.length := by omega
      have gi : (0 + (i : Int)) = (i : Nat) := by omega
      have sc := agrT_succ (List.getElem?_eq_getElem hi) (List.getElem?_eq_getElem i1) (List.getElem?_eq_getElem i2)
      refine ⟨_, rfl, _, rfl, r, _, _, .int ns[i], rfl, rfl, .inl (ex.rd h1), by rw [gi]; exact atI_nat (by rw [List.getElem?_map, List.getElem?_eq_getElem i1]; rfl), ?_⟩
      refine ⟨_, rfl, _, rfl, q, _, _, .int ms[i], rfl, rfl, .inl (ex.rd h2), by rw [gi]; exact atI_nat (by rw [List.getElem?_map, List.getElem?_eq_getElem i2]; rfl), rfl, _, rfl, ite2 (fun e => ?_) (fun e => ?_)⟩
      · have e1 : ns[i] = ms[i] := V.int.inj (of_decide_eq_true e)
        refine ⟨_, rfl, .inl ⟨rfl, _, .inl (.inl eo)⟩, _, rfl, _, rfl, p, _, _, .str cs[i], rfl, rfl, .inl (ex.rd hc.2), by rw [gi]; exact atI_nat (by rw [List.getElem?_map, List.getElem?_eq_getElem hi]; rfl), o, _, _, rfl, rfl, eo, ?_, _, rfl, ex.mut no, ?_⟩
        · rw [List.length_map]
          have := agrT_len cs ns ms i
          exact room1000 (by omega)
        · rw [upd_same, sc, if_pos e1, List.map_append]
          rfl
      · have e1 : ¬ ns[i] = ms[i] := fun z => e (decide_eq_true (congrArg V.int z))
        refine ⟨_, rfl, ex, ?_⟩
        rw [sc, if_neg e1, List.append_nil]
        exact eo
    · obtain ⟨y4, rfl, ex, eo⟩ := h
      rw [agrT_all] at eo
      have aok := hc.1.sub (agr_sub cs ns ms)
      -- told = [agreement(..), agreement(..)]
      refine ⟨_, rfl, _, rfl, _, rfl, p, r, q, cs, ns, ms, rfl, ex.colsAt hc, ex.rd h1, ex.rd h2, l1, l2, fun v1 H2 e2 n2 t2 => ?_⟩
      have x2 := ex.trans e2
      refine ⟨_, rfl, _, rfl, _, rfl, p, q, r, cs, ms, ns, rfl, x2.colsAt hc, x2.rd h2, x2.rd h1, l2, l1, fun v2 H3 e3 n3 t3 => ⟨by show 2 ≤ sizeLine; decide, fun t nt => ?_⟩⟩
      have xt := Ex.new (o := .lst [.ref v1, .ref v2]) nt
      have x3 := (x2.trans e3).trans xt
      rw [← agr_comm] at t3
      have d1 : Dp K (upd H3 t (.lst [.ref v1, .ref v2])) (.ref t) (.list [dCols (agr cs ns ms), dCols (agr cs ns ms)]) :=
        .lst (.inl (.inl upd_same)) (.cons (dp_cols (xt.rd (e3.rd t2.rd))) (.cons (dp_cols (xt.rd t3.rd)) .nil))
      obtain ⟨w1, w2, w3⟩ := (shows_two aok).ok (by decide)
      refine ⟨_, rfl, _, _, rfl, d1, w1, w2, w3, ?_⟩
      -- repr([tuple(due), tuple(due)])
      have eo3 : (upd H3 t (.lst [.ref v1, .ref v2])) o = some (.lst ((agr cs ns ms).map V.str)) := xt o _ (e3 o _ (e2 o _ eo))
      refine ⟨_, rfl, o, _, rfl, .inl (.inl eo3), fun u1 o1 m1 ho1 => ?_⟩
      have y1 := Ex.new (o := .frz o1 (.tup ((agr cs ns ms).map V.str))) m1
      refine ⟨_, rfl, o, _, rfl, .inl (.inl (y1 o _ eo3)), fun u2 o2 m2 ho2 => ⟨by show 2 ≤ sizeLine; decide, fun u nu => ?_⟩⟩
      have y2 := Ex.new (o := .frz o2 (.tup ((agr cs ns ms).map V.str))) m2
      have yu := Ex.new (o := .lst [.ref u1, .ref u2]) nu
      have tu1 := tupF_new (H := upd H3 t (.lst [.ref v1, .ref v2])) (p := u1) (xs := (agr cs ns ms).map V.str) ho1
      have tu2 := tupF_new (H := upd (upd H3 t (.lst [.ref v1, .ref v2])) u1 (.frz o1 (.tup ((agr cs ns ms).map V.str)))) (p := u2) (xs := (agr cs ns ms).map V.str) ho2
      refine ⟨_, _, rfl, .lst (.inl (.inl upd_same)) (.cons (dp_cols (yu.rd (y2.rd tu1.rd))) (.cons (dp_cols (yu.rd tu2.rd)) .nil)), w1, w2, w3, rfl, true, ?_, ?_⟩
      · rw [decide_eq_true rfl]
      · have x5 := ((x3.trans y1).trans y2).trans yu
        refine ⟨_, rfl, _, rfl, _, rfl, p, r, r, cs, ns, ns, rfl, x5.colsAt hc, x5.rd h1, x5.rd h1, l1, l1, fun v3 H4 e4 n4 t4 => ?_⟩
        rw [agr_self cs ns l1] at t4
        have x6 := x5.trans e4
        refine ⟨_, rfl, _, _, dp_cols t4.rd, dp_cols (x6.rd hc.2), shaped_cols hc.1.nm, shaped_cols hc.1.nm, ?_⟩
        rw [eqv_cols]
        exact k _ x6
end
end Gl

namespace Gl
open PySem PySem.Spec PyProof.Rows L2
abbrev sRightL : Stmt := topS 32
theorem scRightL : FnScope ["_law_dice_here", "_law_columns_here", "_law_lines", "_law_kept", "_law_row", "_law_chosen", "_law_other", "_law_same"] ["_law_dice_here"] (defScope sRightL) := ⟨rfl, rfl, rfl, by decide +kernel, rfl, by decide +kernel, by decide +kernel⟩
theorem words_ok {cs : List Str} (h : Words cs) (l : cs.length ≤ 8) : ColsOk cs := by
  refine ⟨fun c hc => ?_, ?_, l⟩
  · obtain ⟨i, hi⟩ := List.getElem?_of_mem hc
    obtain ⟨d, r, e, hd, hr, sm⟩ := h i c hi
    have il := (List.getElem?_eq_some_iff.mp hi).1
    have len : c.length = r.length + 1 := by
      show c.cps.size = _
      rw [← Array.length_toList, e, List.length_cons]
    refine ⟨by omega, by omega, fun x hx => ?_⟩
    rw [e] at hx
    rcases List.mem_cons.mp hx with rfl | hx
    · unfold Small; omega
    · exact sm x hx
  · refine List.pairwise_iff_getElem.mpr fun i j hi hj lt => ?_
    obtain ⟨d, r, e, hd, _⟩ := h i _ (List.getElem?_eq_getElem hi)
    obtain ⟨d', r', e', hd', _⟩ := h j _ (List.getElem?_eq_getElem hj)
    rw [e, e']
    exact List.Lex.rel (by omega)
theorem vals_self {cs : List Str} {ns : List Int} (h : Asc cs) (l : ns.length = cs.length) : vals cs ns cs = ns := by
  apply List.ext_getElem?
  intro i
  unfold vals
  rw [List.getElem?_map]
  by_cases hi : i < cs.length
  · have e : ix cs cs[i] = i := cs_inj h (ix_get (List.getElem_mem hi)) (List.getElem?_eq_getElem hi)
    rw [List.getElem?_eq_getElem hi, Option.map_some, e, List.getD_eq_getElem?_getD, List.getElem?_eq_getElem (show i < ns.length by omega)]
    rfl
  · rw [List.getElem?_eq_none (by omega), List.getElem?_eq_none (by omega)]
    rfl
theorem vals_agr {cs : List Str} {ns ms : List Int} (h : Asc cs) : vals cs ns (agr cs ns ms) = vals cs ms (agr cs ns ms) := by
  unfold vals
  apply List.map_congr_left
  intro s hs
  unfold agr at hs
  obtain ⟨⟨c, n, m⟩, ht, rfl⟩ := List.mem_map.mp hs
  obtain ⟨h1, h2⟩ := List.mem_filter.mp ht
  have e : n = m := of_decide_eq_true h2
  obtain ⟨i, hi⟩ := List.getElem?_of_mem h1
  rw [List.getElem?_zip_eq_some, List.getElem?_zip_eq_some] at hi
  obtain ⟨a1, a2, a3⟩ := hi
  have ei : ix cs c = i := cs_inj h (ix_get (List.mem_of_getElem? a1)) a1
  show ns.getD (ix cs c) 0 = ms.getD (ix cs c) 0
  rw [ei, List.getD_eq_getElem?_getD, List.getD_eq_getElem?_getD, a2, a3, e]
theorem vals_few {cs ss : List Str} {ns : List Int} (h : ∀ n ∈ ns, Few n) : ∀ n ∈ vals cs ns ss, Few n := by
  intro n hn
  obtain ⟨s, _, rfl⟩ := List.mem_map.mp hn
  rw [List.getD_eq_getElem?_getD]
  rcases e : ns[ix cs s]? with _ | x
  · exact few_small (by decide)
  · exact h x (List.mem_of_getElem? e)
theorem vals_len (cs ss : List Str) (ns : List Int) : (vals cs ns ss).length = ss.length := List.length_map ..
def dAll (cs : List Str) (rs : List (List Int)) : PyData := .list [dCols cs, .list (rs.map dRow)]
theorem shows_all {cs : List Str} {rs : List (List Int)} (h : ColsOk cs) (l : rs.length ≤ 12) (hr : ∀ r ∈ rs, r.length ≤ 8 ∧ ∀ n ∈ r, Few n) : Shows (dAll cs rs) 200000 := by
  have s := shows_cols h.nm
  obtain ⟨s1, s2⟩ := shows_rows (m := 8) hr
  have l8 := h.len
  have m12 : (1932 * 8 + 5) * rs.length ≤ (1932 * 8 + 5) * 12 := Nat.mul_le_mul_left _ l
  refine ⟨?_, ?_, ?_⟩
  · simp only [dAll, PyData.showable, PyData.showableAll, s.sh, s1, Bool.and_self]
  · simp only [dAll, PyData.depth, PyData.depthAll, dCols, dep_strs]
    have := dep_rows rs
    omega
  · simp only [dAll, wt, wtAll]
    have := s.wt
    omega
theorem dp_all {K : PySem.W.Frag} {H : Hp} {t p l : Addr} {m : Nat} {cs : List Str} {rs : List (Addr × List Int)} (h : H t = some (.lst [.ref p, .ref l])) (hc : Rd H p (.tup (cs.map V.str))) (hl : Lines H l m rs) : Dp K H (.ref t) (dAll cs (rs.map (·.2))) :=
  .lst (.inl (.inl h)) (.cons (dp_cols hc) (.cons (dp_lines hl) .nil))
section
variable {P : Program} {w : World} {K : PySem.W.Frag} {mg : Str → Option Value} {base : Heap}
def spRightL : Sp := fun vs H Q _ => ∃ a : Addr, vs = [.ref a] ∧ Dice H a ∧ ∀ H', Gro a H H' → Q (.bl true) H'
theorem Gro.colsF {a p : Addr} {H H' : Hp} {cs : List Str} (x : Gro a H H') (d : Dice H a) (h : ColsF H p cs) : ColsF H' p cs := ⟨h.1, x.tupF d h.2⟩
theorem ok_rightL {f : Addr} {fd : FuncData} (F : Fun K "_law_right" "_law_right" sRightL f fd) (T : Blt mg) (D : Dc P w K mg base) (Co : DfG P w K mg base 2 "_law_columns" ["_law_dice_here", "_law_total"] spColumns)
    (Ro : DfG P w K mg base 3 "_law_rows" ["_law_dice_here", "_law_columns_here", "_law_total"] spRowsL) (So : DfG P w K mg base 2 "_law_some" ["_law_dice_here", "_law_columns_here", "_law_share"] spSomeL)
    (Va : Df P w K mg base 6 "values_at" ["columns", "row", "some"] spValAt) (Vl : DfG P w K mg base 1 "_law_values" ["_law_columns_here", "_law_row", "_law_chosen"] spValL)
    (Pa : DfG P w K mg base 7 "_law_pair_right" ["_law_columns_here", "_law_row", "_law_other"] spPairL) (Ag : Df P w K mg base 6 "agreement" ["columns", "row", "other"] spAgree) : FnG P w K mg base CX0 8 f fd ["_law_dice_here"] spRightL := by
  refine okG F scRightL (fun vs H Q E h => ?_) (fun cdv A outer s H vs Q E hr h => ?_)
  · obtain ⟨a, rfl, _⟩ := h
    rfl
  · obtain ⟨a, rfl, hd, k⟩ := h
    have nd := scRightL.nd
    have hu : (A.deeper (envOfC "_law_right" (defScope sRightL) s.heap.objs.size f cdv)).units + 64 < cLine := by have := hr.rm.un; omega
    have r1 := hr.mono (show 1 ≤ 7 by decide)
    have r2 := hr.mono (show 2 ≤ 7 by decide)
    have r3 := hr.mono (show 3 ≤ 7 by decide)
    have r6 := hr.mono (show 6 ≤ 7 by decide)
    refine ⟨_, pss_cons (ps_set (i := 1) nd rfl (.inl rfl) (pe_callG Co.G r2 (by rfl) Co.g Co.kp Co.b .nil pass0 (pa_cons (pv 0) (pa_cons (pe_callG D.G r1 (by rfl) D.g D.kp D.b .nil pass0 (pa_cons (pv 0) (pa_cons pe_int pa_nil))) pa_nil))))
      (pss_mid (ps_set (i := 2) nd rfl (.inl rfl) (pe_ifExp (pt_cmpR (op_neD hu) (pv 1) (pe_tup pa_nil) (nomark _)) (pe_callG Ro.G r3 (by rfl) Ro.g Ro.kp Ro.b .nil pass0 (pa_cons (pv 0) (pa_cons (pv 1) (pa_cons pe_int pa_nil)))) (pe_lst (pa_cons (pe_tup pa_nil) (pa_cons (pe_tup pa_nil) pa_nil)))))
      (pss_cons (ps_set (i := 3) nd rfl (.inl rfl) (pe_callB (call_reprD hr) (by rfl) T.repr (by decide +kernel) (pa_cons (pe_lst (pa_cons (pv 1) (pa_cons (pv 2) pa_nil))) pa_nil)))
      (pss_cons (ps_for PassesOwn.never rfl (pi_list (pv 2)) (pg_name (i := 4) nd rfl (.inl rfl))
        (pss_cons (ps_set (i := 5) nd rfl (.inl rfl) (pe_callG So.G r2 (by rfl) So.g So.kp So.b .nil pass0 (pa_cons (pv 0) (pa_cons (pv 1) (pa_cons pe_int pa_nil)))))
        (pss_cons (ps_if (pt_cmpR op_ne (pe_callB (call_reprD hr) (by rfl) T.repr (by decide +kernel) (pa_cons (pe_call Va.G r6.rm (by rfl) Va.g Va.kp Va.b .nil pass0 (pa_cons (pv 1) (pa_cons (pv 4) (pa_cons (pv 5) pa_nil)))) pa_nil)) (pe_callB (call_reprD hr) (by rfl) T.repr (by decide +kernel) (pa_cons (pe_callG Vl.G r1 (by rfl) Vl.g Vl.kp Vl.b .nil pass0 (pa_cons (pv 1) (pa_cons (pv 4) (pa_cons (pv 5) pa_nil)))) pa_nil)) (nomark _)) pss_never pss_nil)
        (pss_cons (ps_if (pw_or (pt_cmpR (op_neD hu) (pe_call Va.G r6.rm (by rfl) Va.g Va.kp Va.b .nil pass0 (pa_cons (pv 1) (pa_cons (pv 4) (pa_cons (pv 1) pa_nil)))) (pv 4) (nomark _)) (pw_or1 (pt_cmpR (op_neD hu) (pe_call Va.G r6.rm (by rfl) Va.g Va.kp Va.b .nil pass0 (pa_cons (pv 1) (pa_cons (pv 4) (pa_cons (pe_tup pa_nil) pa_nil)))) (pe_tup pa_nil) (nomark _)))).pt pss_never pss_nil)
        (pss_one (ps_for PassesOwn.never rfl (pi_list (pv 2)) (pg_name (i := 6) nd rfl (.inl rfl))
          (pss_cons (ps_if (pt_not (pt_val (pe_callG Pa.G hr (by rfl) Pa.g Pa.kp Pa.b .nil pass0 (pa_cons (pv 1) (pa_cons (pv 4) (pa_cons (pv 6) pa_nil)))))) pss_never pss_nil)
          (pss_cons (ps_set (i := 7) nd rfl (.inl rfl) (pe_call Ag.G r6.rm (by rfl) Ag.g Ag.kp Ag.b .nil pass0 (pa_cons (pv 1) (pa_cons (pv 4) (pa_cons (pv 6) pa_nil)))))
          (pss_one (ps_if (pt_cmpR (op_neD hu) (pe_call Va.G r6.rm (by rfl) Va.g Va.kp Va.b .nil pass0 (pa_cons (pv 1) (pa_cons (pv 4) (pa_cons (pv 7) pa_nil)))) (pe_call Va.G r6.rm (by rfl) Va.g Va.kp Va.b .nil pass0 (pa_cons (pv 1) (pa_cons (pv 6) (pa_cons (pv 7) pa_nil)))) (nomark _)) pss_never pss_nil))))))))))
      (pss_one (ps_ret (pe_cmpR op_eq (pe_callB (call_reprD hr) (by rfl) T.repr (by decide +kernel) (pa_cons (pe_lst (pa_cons (pv 1) (pa_cons (pv 2) pa_nil))) pa_nil)) (pv 3) (nomark _))))))), ?_⟩
    -- columns
    refine ⟨_, rfl, _, rfl, a, 9, rfl, by decide, by decide, hd, fun v H1 v0 v1 g1 => ?_⟩
    obtain ⟨n, rfl⟩ : ∃ n : Nat, v = n := ⟨v.toNat, by omega⟩
    refine ⟨a, n, rfl, by omega, g1.di, fun cs p H2 wd hcs g2 np tp => ?_⟩
    have ok : ColsOk cs := words_ok wd (by omega)
    have cf : ColsF H2 p cs := ⟨ok, tp⟩
    have g12 := g1.trans g2
    -- lines
    refine ⟨fun σ H' => ∃ (l : Addr) (rs : List (Addr × List Int)), σ = [some (.ref a), some (.ref p), some (.ref l), none, none, none, none, none] ∧ Gro a H H' ∧ ColsF H' p cs ∧ l ≠ a ∧ Lines H' l cs.length rs ∧ rs.length ≤ 4, ?_, fun σ H4 hM => ?_⟩
    · refine ⟨_, rfl, Nat.zero_le _, fun e ne => ⟨_, .tuple [], dp_cols ((Ex.new ne).rd tp.rd), .tup (.inl (.inl upd_same)) .nil, shaped_cols ok.nm, shaped_nilT, _, rfl, ?_⟩⟩
      rw [eqv_cols_nil]
      have xe := Ex.new (o := .tup []) ne
      have g3 := g12.ex xe
      by_cases z : cs = []
      · rw [decide_eq_true z]
        subst z
        refine ⟨Nat.zero_le _, fun t1 m1 => ⟨Nat.zero_le _, fun t2 m2 => ⟨by show 2 ≤ sizeLine; decide, fun l nl => ?_⟩⟩⟩
        have y1 := Ex.new (o := .tup []) m1
        have y2 := Ex.new (o := .tup []) m2
        have yl := Ex.new (o := .lst [.ref t1, .ref t2]) nl
        have ga := ((g3.ex y1).ex y2).ex yl
        refine ⟨l, [(t1, []), (t2, [])], rfl, ga, (((xe.trans y1).trans y2).trans yl).colsF cf, ((g3.ex y1).ex y2).di.ne nl, ⟨upd_same, fun r hr => ?_⟩, (by show 2 ≤ 4; decide)⟩
        rcases List.mem_cons.mp hr with rfl | hr
        · exact ⟨yl.rd (y2.rd (.inl upd_same)), rfl, fun _ z => nomatch z⟩
        · rw [List.mem_singleton.mp hr]
          exact ⟨yl.rd (.inl upd_same), rfl, fun _ z => nomatch z⟩
      · rw [decide_eq_false z]
        refine ⟨_, rfl, _, rfl, a, p, cs, 4, rfl, by decide, g3.di, (xe.colsF cf).at, z, fun l rs H4 g4 nl la ln hrs => ?_⟩
        exact ⟨l, rs, rfl, g3.trans g4, g4.colsF g3.di (xe.colsF cf), la, ln, by omega⟩
    · obtain ⟨l, rs, rfl, g4, cf4, la, ln4, l4⟩ := hM
      have hrows : ∀ r ∈ rs.map (·.2), r.length ≤ 8 ∧ ∀ n ∈ r, Few n := by
        intro r hr
        obtain ⟨x, hx, rfl⟩ := List.mem_map.mp hr
        obtain ⟨_, e1, e2⟩ := ln4.row x hx
        exact ⟨by rw [e1]; exact ok.len, e2⟩
      obtain ⟨w1, w2, w3⟩ := (shows_all (rs := rs.map (·.2)) ok (by rw [List.length_map]; omega) hrows).ok (by decide)
      -- kept
      generalize hd0 : dAll cs (rs.map (·.2)) = d0 at w1 w2 w3
      refine ⟨_, rfl, _, rfl, by show 2 ≤ sizeLine; decide, fun t nt => ?_⟩
      have xt := Ex.new (o := .lst [.ref p, .ref l]) nt
      have d1 : Dp K (upd H4 t (.lst [.ref p, .ref l])) (.ref t) d0 := hd0 ▸ dp_all upd_same (xt.rd cf4.2.rd) (ln4.ex xt)
      refine ⟨_, _, rfl, d1, w1, w2, w3, ?_⟩
      refine ⟨_, rfl, l, rfl, ⟨_, .inl (.inl (xt l _ ln4.at_))⟩, ?_⟩
      refine for_list (xs := rs.map fun r => V.ref r.1) (fun i σ H' => ∃ y4 y5 y6 y7 : Option V, σ = [some (.ref a), some (.ref p), some (.ref l), some (.str d0.shown), y4, y5, y6, y7] ∧ Gro a H H' ∧ ColsF H' p cs ∧ Lines H' l cs.length rs)
        ⟨none, none, none, none, rfl, g4.ex xt, xt.colsF cf4, ln4.ex xt⟩ (fun i σ H' _ h => ?_) (fun i x σ H5 hx h => ?_) (fun σ H5 h => ?_)
      · obtain ⟨_, _, _, _, _, _, _, ln⟩ := h
        exact .inl (.inl ln.at_)
      · obtain ⟨y4, y5, y6, y7, rfl, g5, cf5, ln5⟩ := h
        rw [List.getElem?_map] at hx
        obtain ⟨⟨r, ns⟩, hrx, rfl⟩ := Option.map_eq_some_iff.mp hx
        have hrm := List.mem_of_getElem? hrx
        -- chosen
        refine ⟨_, rfl, _, rfl, a, p, cs, 2, rfl, by decide, by decide, g5.di, cf5.at, fun v ss H6 g6 nv sl tv => ?_⟩
        have g56 := g5.trans g6
        have cf6 := g6.colsF g5.di cf5
        have ln6 := ln5.gro g6 g5.di la
        have sok := ok.sub sl
        have sub : ∀ s ∈ ss, s ∈ cs := fun s hs => sl.subset hs
        have s8 : ss.length ≤ 8 := sok.len
        obtain ⟨rr, rl, rf⟩ := ln6.row (r, ns) hrm
        have rl : ns.length = cs.length := rl
        have rr : RowAt H6 r ns := rr
        obtain ⟨u1, u2, u3⟩ := (shows_row (vals_few (cs := cs) (ss := ss) rf)).ok (by rw [vals_len]; omega)
        -- repr(values_at(..)) != repr(_law_values(..))
        refine ⟨_, rfl, _, rfl, _, rfl, p, r, v, cs, ss, ns, rfl, cf6, rr, rl, ⟨sok, tv.rd⟩, sub, fun w7 H7 e7 n7 t7 => ?_⟩
        refine ⟨_, _, rfl, dp_row t7.rd, u1, u2, u3, ?_⟩
        refine ⟨_, rfl, _, rfl, _, rfl, p, r, v, cs, ss, ns, rfl, (e7.colsF cf6).at, e7.rd rr, rl, e7.rd tv.rd, sub, by omega, fun w8 H8 e8 n8 t8 => ?_⟩
        refine ⟨_, _, rfl, dp_row t8.rd, u1, u2, u3, rfl, _, rfl, ?_⟩
        rw [decide_eq_true rfl]
        have e68 := e7.trans e8
        -- values_at(.., columns) != row or values_at(.., ()) != ()
        refine ⟨_, rfl, _, rfl, _, rfl, p, r, p, cs, cs, ns, rfl, e68.colsF cf6, e68.rd rr, rl, (e68.colsF cf6).at, (fun s hs => hs), fun w9 H9 e9 n9 t9 => ?_⟩
        rw [vals_self ok.asc rl] at t9
        have e69 := e68.trans e9
        refine ⟨_, rfl, _, _, dp_row t9.rd, dp_row (e69.rd rr), shaped_row _, shaped_row _, _, rfl, ?_⟩
        rw [eqv_row]
        refine ⟨_, rfl, _, rfl, Nat.zero_le _, fun t10 n10 => ?_⟩
        have x10 := Ex.new (o := .tup []) n10
        have e10 := e69.trans x10
        refine ⟨p, r, t10, cs, [], ns, rfl, e10.colsF cf6, e10.rd rr, rl, ⟨ok.sub (List.nil_sublist _), .inl upd_same⟩, (fun s hs => nomatch hs), fun w11 H11 e11 n11 t11 => ?_⟩
        refine ⟨Nat.zero_le _, fun t12 n12 => ?_⟩
        have x12 := Ex.new (o := .tup []) n12
        have t11 : TupF H11 w11 (([] : List Int).map V.int) := t11
        refine ⟨_, .tuple [], dp_row (x12.rd t11.rd), .tup (.inl (.inl upd_same)) .nil, shaped_row _, shaped_nilT, _, rfl, ?_⟩
        rw [eqv_row_nil]
        have e13 := (e10.trans e11).trans x12
        have g13 := g56.ex e13
        have cf13 := e13.colsF cf6
        have ln13 := ln6.ex e13
        -- for other in lines
        refine ⟨_, rfl, l, rfl, ⟨_, .inl (.inl ln13.at_)⟩, ?_⟩
        refine for_list (xs := rs.map fun r => V.ref r.1) (fun j σ H' => ∃ y6 y7 : Option V, σ = [some (.ref a), some (.ref p), some (.ref l), some (.str d0.shown), some (.ref r), some (.ref v), y6, y7] ∧ Gro a H H' ∧ ColsF H' p cs ∧ Lines H' l cs.length rs)
          ⟨_, _, rfl, g13, cf13, ln13⟩ (fun j σ H' _ h => ?_) (fun j x σ H14 hx h => ?_) (fun σ H14 h => ?_)
        · obtain ⟨_, _, _, _, _, ln⟩ := h
          exact .inl (.inl ln.at_)
        · obtain ⟨y6, y7, rfl, g14, cf14, ln14⟩ := h
          rw [List.getElem?_map] at hx
          obtain ⟨⟨r2, ms⟩, hrx2, rfl⟩ := Option.map_eq_some_iff.mp hx
          have hrm2 := List.mem_of_getElem? hrx2
          obtain ⟨ra, la1, _⟩ := ln14.row (r, ns) hrm
          obtain ⟨rb, lb1, _⟩ := ln14.row (r2, ms) hrm2
          have ra : RowAt H14 r ns := ra
          have rb : RowAt H14 r2 ms := rb
          have lb1 : ms.length = cs.length := lb1
          refine ⟨_, rfl, _, rfl, _, rfl, p, r, r2, cs, ns, ms, rfl, cf14.at, ra, rb, rl, lb1, fun H15 e15 => ⟨true, rfl, ?_⟩⟩
          -- same
          refine ⟨_, rfl, _, rfl, _, rfl, p, r, r2, cs, ns, ms, rfl, (e15.colsF cf14).at, e15.rd ra, e15.rd rb, rl, lb1, fun sv H16 e16 n16 t16 => ?_⟩
          have e46 := e15.trans e16
          have asub := agr_sub cs ns ms
          have aok := ok.sub asub
          refine ⟨_, rfl, _, rfl, _, rfl, p, r, sv, cs, agr cs ns ms, ns, rfl, e46.colsF cf14, e46.rd ra, rl, ⟨aok, t16.rd⟩, (fun s hs => asub.subset hs), fun w17 H17 e17 n17 t17 => ?_⟩
          have e47 := e46.trans e17
          refine ⟨_, rfl, _, rfl, _, rfl, p, r2, sv, cs, agr cs ns ms, ms, rfl, e47.colsF cf14, e47.rd rb, lb1, ⟨aok, e17.rd t16.rd⟩, (fun s hs => asub.subset hs), fun w18 H18 e18 n18 t18 => ?_⟩
          rw [← vals_agr ok.asc] at t18
          refine ⟨_, _, dp_row (e18.rd t17.rd), dp_row t18.rd, shaped_row _, shaped_row _, _, rfl, ?_⟩
          rw [eqv_row]
          have e48 := e47.trans e18
          exact ⟨_, _, rfl, g14.ex e48, e48.colsF cf14, ln14.ex e48⟩
        · obtain ⟨y6, y7, rfl, g14, cf14, ln14⟩ := h
          exact ⟨_, _, _, _, rfl, g14, cf14, ln14⟩
      · obtain ⟨y4, y5, y6, y7, rfl, g5, cf5, ln5⟩ := h
        refine ⟨_, rfl, _, rfl, by show 2 ≤ sizeLine; decide, fun t nt => ?_⟩
        have xt := Ex.new (o := .lst [.ref p, .ref l]) nt
        have d1 : Dp K (upd H5 t (.lst [.ref p, .ref l])) (.ref t) d0 := hd0 ▸ dp_all upd_same (xt.rd cf5.2.rd) (ln5.ex xt)
        refine ⟨_, _, rfl, d1, w1, w2, w3, ?_⟩
        refine ⟨_, rfl, rfl, ?_⟩
        rw [decide_eq_true rfl]
        exact k _ (g5.ex (Ex.new nt))
end
end Gl

namespace Gl
open PySem PySem.Spec PyProof.Rows L2
abbrev sLaw : Stmt := topS 33
theorem scLaw : FnScope ["_law_script", "_law_at", "_law_dice_here", "_law_turn", "_law_names", "_law_told"] ["_law_script"] (defScope sLaw) := ⟨rfl, rfl, rfl, by decide +kernel, rfl, by decide +kernel, by decide +kernel⟩
/-- what stood ahead of the dice stands -/
theorem Gro.toEx {p : Addr} {H H1 H2 : Hp} (e : Ex H H1) (n : H p = none) (g : Gro p H1 H2) : Ex H H2 := fun b o h => g.st b o (ne_of_none h n) (e b o h)
abbrev hrt : List Str := ["hour", "room", "talk"]
abbrev ht : List Str := ["hour", "talk"]
theorem ok_hrt : ColsOk hrt := ⟨by unfold NameOk Small; decide +kernel, by unfold Asc; decide +kernel, by decide⟩
theorem ok_ht : ColsOk ht := ⟨by unfold NameOk Small; decide +kernel, by unfold Asc; decide +kernel, by decide⟩
theorem ok_none : ColsOk [] := ⟨fun _ h => (nomatch h), List.Pairwise.nil, by decide⟩
theorem v1 : vals hrt [1, 2, 6] ht = [1, 6] := by decide +kernel
theorem a1 : agr hrt [1, 1, 6] [1, 2, 6] = ht := by decide +kernel
theorem a2 : agr hrt [0, -1, (10 : Int) ^ (39 : Int).toNat] [0, 1, (10 : Int) ^ (39 : Int).toNat] = ht := by decide +kernel
def dTold : PyData := .list [dRow [1, 6], dCols ht, dCols ht, dCols []]
theorem eqv_told : PyData.eqv dTold dTold = true := by simp only [dTold, PyData.eqv, PyData.eqvAll, eqv_row, eqv_cols, Bool.and_self]
theorem shaped_told : SeqAt.shaped dTold = true := shaped_of (by
    simp only [dTold, PyData.canLay0, PyData.canLayAll0, dRow, dCols, lay_ints, lay_strs ok_ht.nm, List.map_nil, Bool.and_self]) (by
    simp only [dTold, PyData.depth, PyData.depthAll, dRow, dCols, dep_ints, dep_strs]; decide)
section
variable {P : Program} {w : World} {K : PySem.W.Frag} {mg : Str → Option Value} {base : Heap}
def spLaw (K : PySem.W.Frag) : Sp := fun vs H Q _ => ∃ (a : Addr) (ns : List Int), vs = [.ref a] ∧ SqL K H a (ns.map V.int) ∧ ns.length ≤ 63 ∧ ∀ H', Q (.bl true) H'
theorem ok_law {f : Addr} {fd : FuncData} (F : Fun K "law" "law" sLaw f fd) (T : Blt mg) (Di : DfG P w K mg base 1 "_law_dice" ["_law_script", "_law_at"] (spDice K)) (Ri : DfG P w K mg base 8 "_law_right" ["_law_dice_here"] spRightL)
    (Va : Df P w K mg base 6 "values_at" ["columns", "row", "some"] spValAt) (Ag : Df P w K mg base 6 "agreement" ["columns", "row", "other"] spAgree) : FnG P w K mg base CX0 9 f fd ["_law_script"] (spLaw K) := by
  refine okG F scLaw (fun vs H Q E h => ?_) (fun cdv A outer s H vs Q E hr h => ?_)
  · obtain ⟨a, ns, rfl, _⟩ := h
    rfl
  · obtain ⟨a, ns, rfl, hS, hl, k⟩ := h
    have nd := scLaw.nd
    have hu : (A.deeper (envOfC "law" (defScope sLaw) s.heap.objs.size f cdv)).units + 64 < cLine := by have := hr.rm.un; omega
    have r1 := hr.mono (show 1 ≤ 8 by decide)
    have r6 := hr.mono (show 6 ≤ 8 by decide)
    refine ⟨_, pss_cons (ps_for PassesOwn.never rfl (pi_range1 rfl T.range (pa_cons (pe_callB (call_max2 rfl) (by rfl) T.max (by decide +kernel) (pa_cons pe_int (pa_cons (pe_callB (call_min2 rfl) (by rfl) T.min (by decide +kernel) (pa_cons pe_int (pa_cons (pe_callB call_len_seq (by rfl) T.len PySem.boot_len (pa_cons (pv 0) pa_nil)) pa_nil))) pa_nil))) pa_nil)) (pg_name (i := 1) nd rfl (.inl rfl))
        (pss_cons (ps_set (i := 2) nd rfl (.inl rfl) (pe_callG Di.G r1 (by rfl) Di.g Di.kp Di.b .nil pass0 (pa_cons (pv 0) (pa_cons (pv 1) pa_nil))))
        (pss_one (ps_for PassesOwn.never rfl (pi_range1 rfl T.range (pa_cons pe_int pa_nil)) (pg_name (i := 3) nd rfl (.inl rfl))
          (pss_one (ps_if (pt_not (pt_val (pe_callG Ri.G hr (by rfl) Ri.g Ri.kp Ri.b .nil pass0 (pa_cons (pv 2) pa_nil)))) pss_never pss_nil))))))
      (pss_cons (ps_set (i := 4) nd rfl (.inl rfl) (pe_tupF (pa_cons pe_str (pa_cons pe_str (pa_cons pe_str pa_nil)))))
      (pss_cons (ps_set (i := 5) nd rfl (.inl rfl) (pe_lst (pa_cons (pe_call Va.G r6.rm (by rfl) Va.g Va.kp Va.b .nil pass0 (pa_cons (pv 4) (pa_cons (pe_tup (pa_cons pe_int (pa_cons pe_int (pa_cons pe_int pa_nil)))) (pa_cons (pe_tup (pa_cons pe_str (pa_cons pe_str pa_nil))) pa_nil))))
          (pa_cons (pe_call Ag.G r6.rm (by rfl) Ag.g Ag.kp Ag.b .nil pass0 (pa_cons (pv 4) (pa_cons (pe_tup (pa_cons pe_int (pa_cons pe_int (pa_cons pe_int pa_nil)))) (pa_cons (pe_tup (pa_cons pe_int (pa_cons pe_int (pa_cons pe_int pa_nil)))) pa_nil)))) pa_nil))))
      (pss_cons (ps_set (i := 5) nd rfl (.inl rfl) (pe_op op_cat (pv 5) (pe_lst (pa_cons (pe_call Ag.G r6.rm (by rfl) Ag.g Ag.kp Ag.b .nil pass0 (pa_cons (pv 4) (pa_cons (pe_tup (pa_cons pe_int (pa_cons (pe_un un_neg pe_int) (pa_cons (pe_op op_powW pe_int pe_int) pa_nil)))) (pa_cons (pe_tup (pa_cons pe_int (pa_cons pe_int (pa_cons (pe_op op_powW pe_int pe_int) pa_nil)))) pa_nil))))
          (pa_cons (pe_call Ag.G r6.rm (by rfl) Ag.g Ag.kp Ag.b .nil pass0 (pa_cons (pe_tup pa_nil) (pa_cons (pe_tup pa_nil) (pa_cons (pe_tup pa_nil) pa_nil)))) pa_nil)))))
      (pss_one (ps_ret (pe_cmpR (op_eqD hu) (pv 5) (pe_lst (pa_cons (pe_tup (pa_cons pe_int (pa_cons pe_int pa_nil))) (pa_cons (pe_tup (pa_cons pe_str (pa_cons pe_str pa_nil))) (pa_cons (pe_tup (pa_cons pe_str (pa_cons pe_str pa_nil))) (pa_cons (pe_tup pa_nil) pa_nil))))) (nomark _))))))), ?_⟩
    refine ⟨_, rfl, a, _, rfl, .inl hS, _, _, rfl, _, _, rfl, _, rfl, ?_, ?_, ?_⟩
    · split <;> split <;> omega
    · split <;> split <;> (try rw [List.length_map] at *) <;> omega
    refine for_range (fun i σ H' => ∃ y1 y2 y3 : Option V, σ = [some (.ref a), y1, y2, y3, none, none] ∧ Ex H H') ⟨none, none, none, rfl, Ex.refl H⟩ (fun i σ H1 hi h => ?_) (fun σ H1 h => ?_)
    · obtain ⟨y1, y2, y3, rfl, e1⟩ := h
      refine ⟨_, rfl, _, rfl, a, ns, i, by rw [Int.zero_add]; rfl, e1.sqL hS, hl, fun H2 p e2 np dp => ?_⟩
      refine ⟨3, rfl, by decide, by decide, ?_⟩
      refine for_range (n := 3) (fun j σ H' => ∃ y3 : Option V, σ = [some (.ref a), some (.int (0 + (i : Int))), some (.ref p), y3, none, none] ∧ Ex H1 H' ∧ Dice H' p) ⟨y3, rfl, e2, dp⟩ (fun j σ H3 hj h => ?_) (fun σ H3 h => ?_)
      · obtain ⟨y3, rfl, e3, d3⟩ := h
        exact ⟨_, rfl, p, rfl, d3, fun H4 g4 => ⟨true, rfl, _, rfl, Gro.toEx e3 np g4, g4.di⟩⟩
      · obtain ⟨y3, rfl, e3, d3⟩ := h
        exact ⟨_, _, _, rfl, e1.trans e3⟩
    · obtain ⟨y1, y2, y3, rfl, e1⟩ := h
      have s3 : 3 ≤ sizeLine := by decide
      have s2 : 2 ≤ sizeLine := by decide
      refine ⟨s3, fun nm o nn ho => ?_⟩
      have cf : ColsF _ nm hrt := ⟨ok_hrt, tupF_new (H := H1) (xs := hrt.map V.str) ho⟩
      -- told: values_at(names, (1, 2, 6), ('hour', 'talk'))
      refine ⟨_, rfl, s3, fun t1 n1 => ⟨s2, fun t2 n2 => ?_⟩⟩
      have x1 := Ex.new (o := .tup [.int 1, .int 2, .int 6]) n1
      have x2 := Ex.new (o := .tup [.str "hour", .str "talk"]) n2
      refine ⟨nm, t1, t2, hrt, ht, [1, 2, 6], rfl, (x1.trans x2).colsF cf, x2.rd (.inl upd_same), rfl, ⟨ok_ht, .inl upd_same⟩, by decide +kernel, fun v H2 e2 nv tv => ?_⟩
      rw [v1] at tv
      have f2 := (x1.trans x2).trans e2
      -- agreement(names, (1, 1, 6), (1, 2, 6))
      refine ⟨_, rfl, s3, fun t3 n3 => ⟨s3, fun t4 n4 => ?_⟩⟩
      have x3 := Ex.new (o := .tup [.int 1, .int 1, .int 6]) n3
      have x4 := Ex.new (o := .tup [.int 1, .int 2, .int 6]) n4
      have f4 := (f2.trans x3).trans x4
      refine ⟨nm, t3, t4, hrt, [1, 1, 6], [1, 2, 6], rfl, (f4.colsF cf).at, x4.rd (.inl upd_same), .inl upd_same, rfl, rfl, fun v2 H5 e5 nv2 tv2 => ⟨s2, fun l1 nl1 => ?_⟩⟩
      rw [a1] at tv2
      have xl1 := Ex.new (o := .lst [.ref v, .ref v2]) nl1
      have f5 := (f4.trans e5).trans xl1
      have tvA := xl1.tupF (e5.tupF ((x3.trans x4).tupF tv))
      have tvB := xl1.tupF tv2
      -- told + [agreement(names, (0, -1, 10 ** 39), ..), agreement((), (), ())]
      refine ⟨_, rfl, _, rfl, _, rfl, _, _, rfl, rfl, cpw39, s3, fun t5 n5 => ⟨_, _, rfl, rfl, cpw39, s3, fun t6 n6 => ?_⟩⟩
      have x5 := Ex.new (o := .tup [.int 0, .int (-1), .int ((10 : Int) ^ (39 : Int).toNat)]) n5
      have x6 := Ex.new (o := .tup [.int 0, .int 1, .int ((10 : Int) ^ (39 : Int).toNat)]) n6
      have f6 := (f5.trans x5).trans x6
      refine ⟨nm, t5, t6, hrt, [0, -1, (10 : Int) ^ (39 : Int).toNat], [0, 1, (10 : Int) ^ (39 : Int).toNat], rfl, (f6.colsF cf).at, x6.rd (.inl upd_same), .inl upd_same, rfl, rfl, fun v3 H7 e7 nv3 tv3 => ?_⟩
      rw [a2] at tv3
      refine ⟨Nat.zero_le _, fun t7 n7 => ⟨Nat.zero_le _, fun t8 n8 => ⟨Nat.zero_le _, fun t9 n9 => ?_⟩⟩⟩
      have x7 := Ex.new (o := .tup []) n7
      have x8 := Ex.new (o := .tup []) n8
      have x9 := Ex.new (o := .tup []) n9
      refine ⟨t7, t8, t9, [], [], [], rfl, ⟨ok_none, (x8.trans x9).rd (.inl upd_same)⟩, x9.rd (.inl upd_same), .inl upd_same, rfl, rfl, fun v4 H8 e8 nv4 tv4 => ⟨s2, fun l2 nl2 => ?_⟩⟩
      have tv4 : TupF H8 v4 (([] : List Str).map V.str) := tv4
      have xl2 := Ex.new (o := .lst [.ref v3, .ref v4]) nl2
      have f7 := (((((x5.trans x6).trans e7).trans x7).trans x8).trans x9).trans e8
      have f8 := f7.trans xl2
      refine ⟨l1, l2, [.ref v, .ref v2], [.ref v3, .ref v4], rfl, rfl, f8 l1 _ upd_same, upd_same, by show 4 ≤ sizeLine; decide, fun l3 nl3 => ?_⟩
      have xl3 := Ex.new (o := .lst [.ref v, .ref v2, .ref v3, .ref v4]) nl3
      -- the comparison
      refine ⟨_, rfl, s2, fun q1 m1 => ⟨s2, fun q2 m2 => ⟨s2, fun q3 m3 => ⟨Nat.zero_le _, fun q4 m4 => ⟨by show 4 ≤ sizeLine; decide, fun q5 m5 => ?_⟩⟩⟩⟩⟩
      have z1 := Ex.new (o := .tup [.int 1, .int 6]) m1
      have z2 := Ex.new (o := .tup [.str "hour", .str "talk"]) m2
      have z3 := Ex.new (o := .tup [.str "hour", .str "talk"]) m3
      have z4 := Ex.new (o := .tup []) m4
      have z5 := Ex.new (o := .lst [.ref q1, .ref q2, .ref q3, .ref q4]) m5
      have zz := (((z1.trans z2).trans z3).trans z4).trans z5
      have toE := xl3.trans zz
      refine ⟨dTold, dTold, ?_, ?_, shaped_told, shaped_told, ?_⟩
      · refine .lst (.inl (.inl (zz l3 _ upd_same))) (.cons (dp_row (toE.rd (f8.rd tvA.rd))) (.cons (dp_cols (toE.rd (f8.rd tvB.rd))) (.cons (dp_cols (toE.rd (xl2.rd (e8.rd (((x7.trans x8).trans x9).rd tv3.rd))))) (.cons (dp_cols (toE.rd (xl2.rd tv4.rd))) .nil))))
      · refine .lst (.inl (.inl upd_same)) (.cons (dp_row (ns := [1, 6]) ((((z2.trans z3).trans z4).trans z5).rd (.inl upd_same))) (.cons (dp_cols (cs := ht) (((z3.trans z4).trans z5).rd (.inl upd_same))) (.cons (dp_cols (cs := ht) ((z4.trans z5).rd (.inl upd_same))) (.cons (dp_cols (cs := []) (z5.rd (.inl upd_same))) .nil))))
      · rw [eqv_told]
        exact k _
end
end Gl

namespace Gl
open PySem PySem.Spec PyProof.Rows L2
section
/-- a def of the text, by what the top has left -/
structure Has (K : PySem.W.Frag) (x : Str) (st : Stmt) (f : Addr) : Prop where
  at_ : PySem.W.nsIn K mainGlobals x = some (some (.ref f))
  fn : ∃ fd : FuncData, Fun K x x st f fd
theorem Has.mk' {K : PySem.W.Frag} {x : Str} {st : Stmt} {f : Addr} {oc kV doc pm cdv ct : Value} {od an : Option Addr} {sl : Array (Option Value)}
    (a : PySem.W.nsIn K mainGlobals x = some (some (.ref f)))
    (l : K.lookup f = some ⟨oc, od, .func (PySem.W.fnOf x x (defArgs st) (defBody st) (defScope st) .none kV doc pm an cdv ct), sl⟩)
    (c : PySem.W.codeIn K cdv x = true) (k : PySem.W.keepIn K (.ref f) = true) : Has K x st f := ⟨a, _, fun_mk l c k⟩
/-- one with the keyword-only default least=0 -/
structure HasD (K : PySem.W.Frag) (x : Str) (st : Stmt) (f : Addr) : Prop where
  at_ : PySem.W.nsIn K mainGlobals x = some (some (.ref f))
  fn : ∃ fd : FuncData, FunD K x x (defArgs st) (defBody st) (defScope st) [] [("least", .int 0)] f fd
theorem HasD.mk' {K : PySem.W.Frag} {x : Str} {st : Stmt} {f D : Addr} {oc doc pm cdv ct : Value} {od an : Option Addr} {sl : Array (Option Value)} {t : Tok}
    (a : PySem.W.nsIn K mainGlobals x = some (some (.ref f)))
    (l : K.lookup f = some ⟨oc, od, .func (PySem.W.fnOf x x (defArgs st) (defBody st) (defScope st) .none (.ref D) doc pm an cdv ct), sl⟩)
    (c : PySem.W.codeIn K cdv x = true) (k : PySem.W.keepIn K (.ref f) = true) (d : PySem.W.nsIn K D "least" = some (some (.int 0 t))) : HasD K x st f :=
  ⟨a, _, ⟨oc, od, .none, .ref D, doc, pm, an, cdv, ct, sl, rfl, l, c, .inl ⟨rfl, rfl⟩, .inr ⟨D, rfl, fun q hq => by
    rw [List.mem_singleton.mp hq]
    exact ⟨_, d, _, rfl⟩⟩⟩, k⟩
/-- what the law rests on -/
structure Facts (K : PySem.W.Frag) : Prop where
  d0 : ∃ f, Has K "is_whole" sWhole f
  d1 : ∃ f, Has K "are_whole" sWholes f
  d2 : ∃ f, Has K "is_index" sIndex f
  d3 : ∃ f, Has K "is_ascending" sAsc f
  d4 : ∃ f, Has K "is_name" sName f
  d5 : ∃ f, HasD K "is_columns" sCols f
  d6 : ∃ f, HasD K "check_columns" sChkC f
  d7 : ∃ f, Has K "check_row" sChkR f
  d8 : ∃ f, Has K "values_at" sValAt f
  d9 : ∃ f, Has K "agreement" sAgree f
  d10 : ∃ f, Has K "_places" sPlaces f
  d11 : ∃ f, Has K "_values" sValues f
  d12 : ∃ f, Has K "_check_some" sSome f
  d13 : ∃ f, Has K "_law_dice" sDice f
  d14 : ∃ f, Has K "_law_pull" sPull f
  d15 : ∃ f, Has K "_law_pick" sPick f
  d16 : ∃ f, Has K "_law_columns" sColumns f
  d17 : ∃ f, Has K "_law_some" sSomeL f
  d18 : ∃ f, Has K "_law_rows" sRowsL f
  d19 : ∃ f, Has K "_law_values" sValL f
  d20 : ∃ f, Has K "_law_pair_right" sPairL f
  d21 : ∃ f, Has K "_law_right" sRightL f
  d22 : ∃ f, Has K "law" sLaw f
  b_len : PySem.W.nsIn K mainGlobals "len" = some none
  b_int : PySem.W.nsIn K mainGlobals "int" = some none
  b_abs : PySem.W.nsIn K mainGlobals "abs" = some none
  b_max : PySem.W.nsIn K mainGlobals "max" = some none
  b_min : PySem.W.nsIn K mainGlobals "min" = some none
  b_range : PySem.W.nsIn K mainGlobals "range" = some none
  b_tuple : PySem.W.nsIn K mainGlobals "tuple" = some none
  b_list : PySem.W.nsIn K mainGlobals "list" = some none
  b_repr : PySem.W.nsIn K mainGlobals "repr" = some none
  b_zip : PySem.W.nsIn K mainGlobals "zip" = some none
  b_isinstance : PySem.W.nsIn K mainGlobals "isinstance" = some none
  b_all : PySem.W.nsIn K mainGlobals "all" = some none
  b_str : PySem.W.nsIn K mainGlobals "str" = some none
  b_bool : PySem.W.nsIn K mainGlobals "bool" = some none
  c_LETTERS : ∃ t, PySem.W.nsIn K mainGlobals "LETTERS" = some (some (.str abc t))
  c_MOST_LETTERS : ∃ t, PySem.W.nsIn K mainGlobals "MOST_LETTERS" = some (some (.int 8 t))
  c_MOST_NAMES : ∃ t, PySem.W.nsIn K mainGlobals "MOST_NAMES" = some (some (.int 8 t))
variable {w : World} {K : PySem.W.Frag} {mg : Str → Option Value} {h : Heap} {fa : Addr}
theorem all_law (P : Program) (Z : Facts K) (X : K.In h) (G : h.Ns mainGlobals mg) (hfa : mg "law" = some (.ref fa)) :
    ∃ fd : FuncData, (∀ (s : Shared) (v : Value), BindsTo s fd ⟨[v], []⟩ [("_law_script", v)]) ∧
      ∀ base : Heap, K.In base → base.Ns mainGlobals mg → FnG P w K mg base CX0 9 fa fd ["_law_script"] (spLaw K) := by
  obtain ⟨f0, h0⟩ := Z.d0
  obtain ⟨e0, F0⟩ := h0.fn
  have g0 := PySem.W.mg_of X G h0.at_
  obtain ⟨f1, h1⟩ := Z.d1
  obtain ⟨e1, F1⟩ := h1.fn
  have g1 := PySem.W.mg_of X G h1.at_
  obtain ⟨f2, h2⟩ := Z.d2
  obtain ⟨e2, F2⟩ := h2.fn
  have g2 := PySem.W.mg_of X G h2.at_
  obtain ⟨f3, h3⟩ := Z.d3
  obtain ⟨e3, F3⟩ := h3.fn
  have g3 := PySem.W.mg_of X G h3.at_
  obtain ⟨f4, h4⟩ := Z.d4
  obtain ⟨e4, F4⟩ := h4.fn
  have g4 := PySem.W.mg_of X G h4.at_
  obtain ⟨f5, h5⟩ := Z.d5
  obtain ⟨e5, F5⟩ := h5.fn
  have g5 := PySem.W.mg_of X G h5.at_
  obtain ⟨f6, h6⟩ := Z.d6
  obtain ⟨e6, F6⟩ := h6.fn
  have g6 := PySem.W.mg_of X G h6.at_
  obtain ⟨f7, h7⟩ := Z.d7
  obtain ⟨e7, F7⟩ := h7.fn
  have g7 := PySem.W.mg_of X G h7.at_
  obtain ⟨f8, h8⟩ := Z.d8
  obtain ⟨e8, F8⟩ := h8.fn
  have g8 := PySem.W.mg_of X G h8.at_
  obtain ⟨f9, h9⟩ := Z.d9
  obtain ⟨e9, F9⟩ := h9.fn
  have g9 := PySem.W.mg_of X G h9.at_
  obtain ⟨f10, h10⟩ := Z.d10
  obtain ⟨e10, F10⟩ := h10.fn
  have g10 := PySem.W.mg_of X G h10.at_
  obtain ⟨f11, h11⟩ := Z.d11
  obtain ⟨e11, F11⟩ := h11.fn
  have g11 := PySem.W.mg_of X G h11.at_
  obtain ⟨f12, h12⟩ := Z.d12
  obtain ⟨e12, F12⟩ := h12.fn
  have g12 := PySem.W.mg_of X G h12.at_
  obtain ⟨f13, h13⟩ := Z.d13
  obtain ⟨e13, F13⟩ := h13.fn
  have g13 := PySem.W.mg_of X G h13.at_
  obtain ⟨f14, h14⟩ := Z.d14
  obtain ⟨e14, F14⟩ := h14.fn
  have g14 := PySem.W.mg_of X G h14.at_
  obtain ⟨f15, h15⟩ := Z.d15
  obtain ⟨e15, F15⟩ := h15.fn
  have g15 := PySem.W.mg_of X G h15.at_
  obtain ⟨f16, h16⟩ := Z.d16
  obtain ⟨e16, F16⟩ := h16.fn
  have g16 := PySem.W.mg_of X G h16.at_
  obtain ⟨f17, h17⟩ := Z.d17
  obtain ⟨e17, F17⟩ := h17.fn
  have g17 := PySem.W.mg_of X G h17.at_
  obtain ⟨f18, h18⟩ := Z.d18
  obtain ⟨e18, F18⟩ := h18.fn
  have g18 := PySem.W.mg_of X G h18.at_
  obtain ⟨f19, h19⟩ := Z.d19
  obtain ⟨e19, F19⟩ := h19.fn
  have g19 := PySem.W.mg_of X G h19.at_
  obtain ⟨f20, h20⟩ := Z.d20
  obtain ⟨e20, F20⟩ := h20.fn
  have g20 := PySem.W.mg_of X G h20.at_
  obtain ⟨f21, h21⟩ := Z.d21
  obtain ⟨e21, F21⟩ := h21.fn
  have g21 := PySem.W.mg_of X G h21.at_
  obtain ⟨f22, h22⟩ := Z.d22
  obtain ⟨e22, F22⟩ := h22.fn
  have g22 := PySem.W.mg_of X G h22.at_
  have T : Blt mg := { len := PySem.W.mg_none_of X G Z.b_len, int := PySem.W.mg_none_of X G Z.b_int, abs := PySem.W.mg_none_of X G Z.b_abs, max := PySem.W.mg_none_of X G Z.b_max, min := PySem.W.mg_none_of X G Z.b_min, range := PySem.W.mg_none_of X G Z.b_range, tuple := PySem.W.mg_none_of X G Z.b_tuple, list := PySem.W.mg_none_of X G Z.b_list, repr := PySem.W.mg_none_of X G Z.b_repr, zip := PySem.W.mg_none_of X G Z.b_zip, isinstance := PySem.W.mg_none_of X G Z.b_isinstance, all := PySem.W.mg_none_of X G Z.b_all, str := PySem.W.mg_none_of X G Z.b_str, bool := PySem.W.mg_none_of X G Z.b_bool }
  obtain ⟨t1, k1⟩ := Z.c_LETTERS
  obtain ⟨t2, k2⟩ := Z.c_MOST_LETTERS
  obtain ⟨t3, k3⟩ := Z.c_MOST_NAMES
  have C : Cst mg := ⟨⟨_, PySem.W.mg_of X G k1⟩, ⟨_, PySem.W.mg_of X G k2⟩, ⟨_, PySem.W.mg_of X G k3⟩⟩
  have b0 := F0.binds (ps := ["value"]) fun _ _ _ _ _ _ us hl => match us, hl with | [_], _ => rfl
  have b1 := F1.binds (ps := ["value", "many"]) fun _ _ _ _ _ _ us hl => match us, hl with | [_, _], _ => rfl
  have b2 := F2.binds (ps := ["value", "many"]) fun _ _ _ _ _ _ us hl => match us, hl with | [_, _], _ => rfl
  have b3 := F3.binds (ps := ["values"]) fun _ _ _ _ _ _ us hl => match us, hl with | [_], _ => rfl
  have b4 := F4.binds (ps := ["value"]) fun _ _ _ _ _ _ us hl => match us, hl with | [_], _ => rfl
  have b7 := F7.binds (ps := ["columns", "row"]) fun _ _ _ _ _ _ us hl => match us, hl with | [_, _], _ => rfl
  have b8 := F8.binds (ps := ["columns", "row", "some"]) fun _ _ _ _ _ _ us hl => match us, hl with | [_, _, _], _ => rfl
  have b9 := F9.binds (ps := ["columns", "row", "other"]) fun _ _ _ _ _ _ us hl => match us, hl with | [_, _, _], _ => rfl
  have b10 := F10.binds (ps := ["columns", "some"]) fun _ _ _ _ _ _ us hl => match us, hl with | [_, _], _ => rfl
  have b11 := F11.binds (ps := ["row", "places"]) fun _ _ _ _ _ _ us hl => match us, hl with | [_, _], _ => rfl
  have b12 := F12.binds (ps := ["columns", "some"]) fun _ _ _ _ _ _ us hl => match us, hl with | [_, _], _ => rfl
  have b13 := F13.binds (ps := ["_law_script", "_law_at"]) fun _ _ _ _ _ _ us hl => match us, hl with | [_, _], _ => rfl
  have b14 := F14.binds (ps := ["_law_dice_here", "_law_total"]) fun _ _ _ _ _ _ us hl => match us, hl with | [_, _], _ => rfl
  have b15 := F15.binds (ps := ["_law_dice_here", "_law_items"]) fun _ _ _ _ _ _ us hl => match us, hl with | [_, _], _ => rfl
  have b16 := F16.binds (ps := ["_law_dice_here", "_law_total"]) fun _ _ _ _ _ _ us hl => match us, hl with | [_, _], _ => rfl
  have b17 := F17.binds (ps := ["_law_dice_here", "_law_columns_here", "_law_share"]) fun _ _ _ _ _ _ us hl => match us, hl with | [_, _, _], _ => rfl
  have b18 := F18.binds (ps := ["_law_dice_here", "_law_columns_here", "_law_total"]) fun _ _ _ _ _ _ us hl => match us, hl with | [_, _, _], _ => rfl
  have b19 := F19.binds (ps := ["_law_columns_here", "_law_row", "_law_chosen"]) fun _ _ _ _ _ _ us hl => match us, hl with | [_, _, _], _ => rfl
  have b20 := F20.binds (ps := ["_law_columns_here", "_law_row", "_law_other"]) fun _ _ _ _ _ _ us hl => match us, hl with | [_, _, _], _ => rfl
  have b21 := F21.binds (ps := ["_law_dice_here"]) fun _ _ _ _ _ _ us hl => match us, hl with | [_], _ => rfl
  obtain rfl : f22 = fa := Value.ref.inj (Option.some.inj (g22.symm.trans hfa))
  refine ⟨e22, fun s v => ?_, fun base KB NB => ?_⟩
  · obtain ⟨_, _, _, _, _, _, _, _, _, rfl, _, _⟩ := F22.ex
    exact .of_eq rfl
  let Wh : Df P w K mg base 1 "is_whole" ["value"] spWhole := ⟨f0, e0, ok_whole F0 T, g0, F0.kp, b0⟩
  let Ws : Df P w K mg base 2 "are_whole" ["value", "many"] spWholes := ⟨f1, e1, ok_wholes F1 T Wh, g1, F1.kp, b1⟩
  let In : Df P w K mg base 2 "is_index" ["value", "many"] spIndex := ⟨f2, e2, ok_index F2 T Wh, g2, F2.kp, b2⟩
  let As : Df P w K mg base 1 "is_ascending" ["values"] spAsc := ⟨f3, e3, ok_asc F3 T, g3, F3.kp, b3⟩
  let Nm : Df P w K mg base 1 "is_name" ["value"] spName := ⟨f4, e4, ok_name F4 T C, g4, F4.kp, b4⟩
  let Ic : DfK P w K mg base 3 "is_columns" ["value", "least"] spIsCols := ⟨f5, e5, ok_isCols F5 T C In Nm As, g5, F5.kp⟩
  obtain ⟨ds, vds, bds⟩ := bind_chkC F6
  let Cc : DfC P w K mg base := ⟨f6, e6, ds, ok_chkC F6 Ic (kbn_isCols F5), g6, F6.kp, bds, vds⟩
  let Cr : Df P w K mg base 3 "check_row" ["columns", "row"] spChkR := ⟨f7, e7, ok_chkR F7 T Ws, g7, F7.kp, b7⟩
  let Cs : Df P w K mg base 5 "_check_some" ["columns", "some"] spSome := ⟨f12, e12, ok_some F12 T Cc, g12, F12.kp, b12⟩
  let Pl : Df P w K mg base 1 "_places" ["columns", "some"] spPlaces := ⟨f10, e10, ok_places F10, g10, F10.kp, b10⟩
  let Vs : Df P w K mg base 1 "_values" ["row", "places"] spValues := ⟨f11, e11, ok_values F11 T, g11, F11.kp, b11⟩
  let Va : Df P w K mg base 6 "values_at" ["columns", "row", "some"] spValAt := ⟨f8, e8, ok_valAt F8 Cc Cr Cs Pl Vs, g8, F8.kp, b8⟩
  let Ag : Df P w K mg base 6 "agreement" ["columns", "row", "other"] spAgree := ⟨f9, e9, ok_agree F9 T Cc Cr, g9, F9.kp, b9⟩
  let Dd : Dc P w K mg base := ⟨f14, e14, ok_pull F14 T, g14, F14.kp, b14⟩
  let Di : DfG P w K mg base 1 "_law_dice" ["_law_script", "_law_at"] (spDice K) := ⟨f13, e13, ok_dice F13 T, g13, F13.kp, b13⟩
  let Pk : DfG P w K mg base 2 "_law_pick" ["_law_dice_here", "_law_items"] spPick := ⟨f15, e15, ok_pick F15 T Dd, g15, F15.kp, b15⟩
  let Co : DfG P w K mg base 2 "_law_columns" ["_law_dice_here", "_law_total"] spColumns := ⟨f16, e16, ok_columns F16 T Dd, g16, F16.kp, b16⟩
  let So : DfG P w K mg base 2 "_law_some" ["_law_dice_here", "_law_columns_here", "_law_share"] spSomeL := ⟨f17, e17, ok_someL F17 T Dd, g17, F17.kp, b17⟩
  let Ro : DfG P w K mg base 3 "_law_rows" ["_law_dice_here", "_law_columns_here", "_law_total"] spRowsL := ⟨f18, e18, ok_rowsL F18 T Dd Pk, g18, F18.kp, b18⟩
  let Vl : DfG P w K mg base 1 "_law_values" ["_law_columns_here", "_law_row", "_law_chosen"] spValL := ⟨f19, e19, .of (ok_valL F19 T), g19, F19.kp, b19⟩
  let Pa : DfG P w K mg base 7 "_law_pair_right" ["_law_columns_here", "_law_row", "_law_other"] spPairL := ⟨f20, e20, ok_pairL F20 T Ag, g20, F20.kp, b20⟩
  let Ri : DfG P w K mg base 8 "_law_right" ["_law_dice_here"] spRightL := ⟨f21, e21, ok_rightL F21 T Dd Co Ro So Va Vl Pa Ag, g21, F21.kp, b21⟩
  exact ok_law F22 T Di Ri Va Ag
end
end Gl

open PySem PySem.W PyProof.Rows
set_option maxHeartbeats 0 in
theorem PySem.Challenge.cw_mostkept_k02_values_and_agreements_holds : PySem.Challenge.rw_mostkept_k02_values_and_agreements.Holds := by
  w_on; o_law; k_head; (case hw => w_witness2)
  k_fill
  refine Gl.walkG (l := PySem.Challenge.rw_mostkept_k02_values_and_agreements) (n := 63) (k := 9) (x := "_law_script") (sp := Gl.spLaw) rfl (by decide) rfl ⟨rfl, by decide, by decide⟩ (fun w h Y => PySem.W.kIn_of Y) ?F (fun _ _ a ns hl _ hS => ⟨a, ns, rfl, hS, hl, fun _ => rfl⟩)
  case F =>
    intro w mg fa h KX G hmg
    refine Gl.all_law _ ?Z KX G hmg
    case Z =>
      constructor
      · refine' ⟨_, Gl.Has.mk' ?a ?l ?c ?k⟩
        (case a => k_is); (case l => k_is); (case c => k_is); (case k => k_is)
      · refine' ⟨_, Gl.Has.mk' ?a ?l ?c ?k⟩
        (case a => k_is); (case l => k_is); (case c => k_is); (case k => k_is)
      · refine' ⟨_, Gl.Has.mk' ?a ?l ?c ?k⟩
        (case a => k_is); (case l => k_is); (case c => k_is); (case k => k_is)
      · refine' ⟨_, Gl.Has.mk' ?a ?l ?c ?k⟩
        (case a => k_is); (case l => k_is); (case c => k_is); (case k => k_is)
      · refine' ⟨_, Gl.Has.mk' ?a ?l ?c ?k⟩
        (case a => k_is); (case l => k_is); (case c => k_is); (case k => k_is)
      · refine' ⟨_, Gl.HasD.mk' ?a ?l ?c ?k ?d⟩
        (case a => k_is); (case l => k_is); (case c => k_is); (case k => k_is); (case d => k_is)
      · refine' ⟨_, Gl.HasD.mk' ?a ?l ?c ?k ?d⟩
        (case a => k_is); (case l => k_is); (case c => k_is); (case k => k_is); (case d => k_is)
      · refine' ⟨_, Gl.Has.mk' ?a ?l ?c ?k⟩
        (case a => k_is); (case l => k_is); (case c => k_is); (case k => k_is)
      · refine' ⟨_, Gl.Has.mk' ?a ?l ?c ?k⟩
        (case a => k_is); (case l => k_is); (case c => k_is); (case k => k_is)
      · refine' ⟨_, Gl.Has.mk' ?a ?l ?c ?k⟩
        (case a => k_is); (case l => k_is); (case c => k_is); (case k => k_is)
      · refine' ⟨_, Gl.Has.mk' ?a ?l ?c ?k⟩
        (case a => k_is); (case l => k_is); (case c => k_is); (case k => k_is)
      · refine' ⟨_, Gl.Has.mk' ?a ?l ?c ?k⟩
        (case a => k_is); (case l => k_is); (case c => k_is); (case k => k_is)
      · refine' ⟨_, Gl.Has.mk' ?a ?l ?c ?k⟩
        (case a => k_is); (case l => k_is); (case c => k_is); (case k => k_is)
      · refine' ⟨_, Gl.Has.mk' ?a ?l ?c ?k⟩
        (case a => k_is); (case l => k_is); (case c => k_is); (case k => k_is)
      · refine' ⟨_, Gl.Has.mk' ?a ?l ?c ?k⟩
        (case a => k_is); (case l => k_is); (case c => k_is); (case k => k_is)
      · refine' ⟨_, Gl.Has.mk' ?a ?l ?c ?k⟩
        (case a => k_is); (case l => k_is); (case c => k_is); (case k => k_is)
      · refine' ⟨_, Gl.Has.mk' ?a ?l ?c ?k⟩
        (case a => k_is); (case l => k_is); (case c => k_is); (case k => k_is)
      · refine' ⟨_, Gl.Has.mk' ?a ?l ?c ?k⟩
        (case a => k_is); (case l => k_is); (case c => k_is); (case k => k_is)
      · refine' ⟨_, Gl.Has.mk' ?a ?l ?c ?k⟩
        (case a => k_is); (case l => k_is); (case c => k_is); (case k => k_is)
      · refine' ⟨_, Gl.Has.mk' ?a ?l ?c ?k⟩
        (case a => k_is); (case l => k_is); (case c => k_is); (case k => k_is)
      · refine' ⟨_, Gl.Has.mk' ?a ?l ?c ?k⟩
        (case a => k_is); (case l => k_is); (case c => k_is); (case k => k_is)
      · refine' ⟨_, Gl.Has.mk' ?a ?l ?c ?k⟩
        (case a => k_is); (case l => k_is); (case c => k_is); (case k => k_is)
      · refine' ⟨_, Gl.Has.mk' ?a ?l ?c ?k⟩
        (case a => k_is); (case l => k_is); (case c => k_is); (case k => k_is)
      · k_is
      · k_is
      · k_is
      · k_is
      · k_is
      · k_is
      · k_is
      · k_is
      · k_is
      · k_is
      · k_is
      · k_is
      · k_is
      · k_is
      · exact ⟨_, by k_is⟩
      · exact ⟨_, by k_is⟩
      · exact ⟨_, by k_is⟩
