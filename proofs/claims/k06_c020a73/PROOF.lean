import PyProof.Rows.All
import Wide.All
import OpenK.AllK
import Wide.FinOn
import HandS.ForMost
import HandS.Wide
import HandS.Zip
import PyProof.ReprRoads
import HandS.ClsMeth
import HandS.TupMul
import HandS.OwnEq
import KE.KCallOwn
import HandS.Iter
import KE.GoesMore
import HandS.Style
import KE.KRevSl
import PyProof.StrLawsRepr
import PyProof.Rows.RegStrFacts
import HandS.IsInst
import HandS.Walk
import HandS.Strs
import HandS.Defaults
import PyProof.NeData
import PyProof.EqAt
import HandS.List
import HandS.Gcd
import HandS.Property
import HandS.FStr
import HandS.RaiseMore
import HandS.TupAny
import PySem.Challenge.RW_mostkept_k06_weights_and_amounts
set_option Elab.async false
set_option linter.all false
set_option maxRecDepth 100000
set_option maxHeartbeats 4000000
/-! Defs called while no repr is under way: the promise FnG of a def, and the rules that go with it. -/
namespace Gl
open PySem PySem.Spec PyProof.Rows L2

/-- there is room for k calls, and the stack holds no repr -/
structure RmG (k : Nat) (A : Around) : Prop where
  rm : Room k A
  gd : A.guards = some []
theorem RmG.mono {j k : Nat} {A : Around} (r : RmG k A) (h : j ≤ k) : RmG j A := ⟨r.rm.mono h, r.gd⟩
theorem RmG.deeper {k : Nat} {A : Around} (r : RmG (k + 1) A) (v : Env) : RmG k (A.deeper v) := ⟨r.rm.deeper v, r.gd⟩

structure FnG (P : Program) (w : World) (K : PySem.W.Frag)
    (mg : Str → Option Value) (base : Heap) (CX : CXT) (k : Nat)
    (f : Addr) (fd : FuncData) (ps : List Str) (sp : Sp) : Prop where
  len : ∀ vs H Q E, sp vs H Q E → vs.length = ps.length
  go : ∀ (A : Around) (o : List Env) (s : Shared) (H : Hp)
    (ar : Args) (us : List Value) (vs : List V) (Q : VK) (E : XK),
    RmG k A → Env0 P w K mg base A o s H → BindsTo s fd ar (ps.zip us) →
    Vals vs us → sp vs H Q E →
    codeAny (model P w) A (.call (.ref f) ar) (CR CX o P w H s Q E) s

section
variable {P : Program} {w : World} {K : PySem.W.Frag} {mg : Str → Option Value} {base : Heap} {CX : CXT} {k : Nat} {f : Addr} {fd : FuncData} {ps : List Str} {sp : Sp}
theorem FnG.mono {j : Nat} (F : FnG P w K mg base CX j f fd ps sp) (h : j ≤ k) : FnG P w K mg base CX k f fd ps sp :=
  ⟨F.len, fun A o s H ar us vs Q E r => F.go A o s H ar us vs Q E (r.mono h)⟩
/-- a promise of the layer's own -/
theorem FnG.of (F : FnOk P w K mg base CX k f fd ps sp) : FnG P w K mg base CX k f fd ps sp :=
  ⟨F.len, fun A o s H ar us vs Q E r => F.run A o s H ar us vs Q E r.rm⟩
theorem FnG.imp {sp' : Sp} (F : FnG P w K mg base CX k f fd ps sp) (h : ∀ vs H Q E, sp' vs H Q E → sp vs H Q E) : FnG P w K mg base CX k f fd ps sp' :=
  ⟨fun vs H Q E q => F.len vs H Q E (h _ _ _ _ q), fun A o s H ar us vs Q E r e b v q => F.go A o s H ar us vs Q E r e b v (h _ _ _ _ q)⟩
end

section
variable {X : Cx} {CX : CXT} {k : Nat} {f : Addr} {fd : FuncData} {ps : List Str} {sp : Sp} {dvs : List V} {ds : List Value} {E : XK} {x : Str} {p pos : Pos} {e : Expr} {es : List Expr} {t : TA}
theorem runG {pins : List (Addr × Obj)} {σ : L2.St} {H : Hp} {s : Shared} {Q : VK} {us : List Value} {vs : List V}
    (F : FnG X.prog X.w X.K X.mg X.base CX k f fd ps sp) (r : RmG k X.A)
    (hb : Binds X.K fd ps ds) (hd : Vals dvs ds) (hx : Passes CX X E) (I : Inv X pins σ H s)
    (hv : Vals vs us) (q : sp (vs ++ dvs) H Q E) : wpAny (model X.prog X.w) X.A (call (.ref f) us) (EP X pins σ Q) X.xe s := by
  have hv2 : Vals (vs ++ dvs) (us ++ ds) := hv.append hd
  have n1 : (us ++ ds).length = ps.length := hv2.length.symm.trans (F.len _ _ _ _ q)
  have c := F.go X.A X.stack s H ⟨us, []⟩ (us ++ ds) (vs ++ dvs) Q E r I.env0 (hb s us I.kIn n1) hv2 q
  apply wpAny_call
  apply codeAny_mono c
  intro y s2 z
  match y, z with
  | .error a, z => exact hx pins σ H s a s2 I z
  | .ok (.ret u), z => exact I.after z
  | .ok .next, z => exact z.elim
  | .ok .brk, z => exact z.elim
  | .ok .cont, z => exact z.elim

/-- f(e, ..), a def of the text -/
theorem pe_callG (F : FnG X.prog X.w X.K X.mg X.base CX k f fd ps sp) (r : RmG k X.A)
    (hg : Gl X x) (hm : X.mg x = some (.ref f)) (hk : PySem.W.keepIn X.K (.ref f) = true)
    (hb : Binds X.K fd ps ds) (hd : Vals dvs ds) (hx : Passes CX X E) (ha : PA X (e :: es) t)
    (h1 : (x == ("__debug__" : Str)) = false := by decide)
    (h2 : starEach (e :: es) X.env = (false, eval e X.env) :: starEach es X.env := by rfl)
    (h3 : (backTo pos (starEach es X.env)).any (·.1) = false := by rfl) :
    PE X (.Call (.Name x p) (e :: es) [] pos) (tCall sp dvs E t) := .mk fun pins s σ H Q I q => by
  apply wpAny_Call_Name_kw
  apply ld_glob I hg hm _ h1
  apply PySem.W.callWith_K (h₀ := X.base) I.ok.mod.kin hk _ h2 h3
  apply thn (ha.run pos pins s σ H _ I q)
  rintro us s2 ⟨vs, H2, I2, v2, q2⟩
  exact ⟨I2.kIn, runG F r hb hd hx I2 v2 q2⟩
/-- f() -/
theorem pe_callG0 (F : FnG X.prog X.w X.K X.mg X.base CX k f fd ps sp) (r : RmG k X.A)
    (hg : Gl X x) (hm : X.mg x = some (.ref f)) (hk : PySem.W.keepIn X.K (.ref f) = true)
    (hb : Binds X.K fd ps ds) (hd : Vals dvs ds) (hx : Passes CX X E)
    (h1 : (x == ("__debug__" : Str)) = false := by decide) :
    PE X (.Call (.Name x p) [] [] pos) (tCall sp dvs E tNil) := .mk fun pins s σ H Q I q => by
  apply wpAny_Call_Name_kw
  apply ld_glob I hg hm _ h1
  exact PySem.W.callWith_K0 I.kIn hk (runG (us := []) F r hb hd hx I .nil q)
end

/-! ### a def's body -/
section
variable {P : Program} {w : World} {K : PySem.W.Frag} {mg : Str → Option Value} {base : Heap}
theorem okG_of {CX : CXT} {k : Nat} {f : Addr} {nm qual : Str} {pr : Arguments} {body : List Stmt} {sc : Scope} {dV kV doc pm cdv ct oc : Value} {an od : Option Addr}
    {sl : Array (Option Value)} {N ps : List Str} {sp : Sp}
    (lk : K.lookup f = some ⟨oc, od, .func (PySem.W.fnOf nm qual pr body sc dV kV doc pm an cdv ct), sl⟩)
    (hc : PySem.W.codeIn K cdv qual = true) (S : FnScope N ps sc)
    (len : ∀ vs H Q E, sp vs H Q E → vs.length = ps.length)
    (bd : ∀ (A : Around) (o : List Env) (s : Shared) (H : Hp) (vs : List V) (Q : VK) (E : XK),
      RmG k (A.deeper (envOfC qual sc s.heap.objs.size f cdv)) → sp vs H Q E →
      ∃ t, PSs (cxOf CX P w K mg base N qual sc f cdv A o s H E) body t ∧ t { nx := fun _ H' => Q .non H', rt := Q } (start N vs) H) :
    FnG P w K mg base CX (k + 1) f (PySem.W.fnOf nm qual pr body sc dV kV doc pm an cdv ct) ps sp where
  len := len
  go := by
    intro A o s H ar us vs Q E r e0 hb hv q
    have n1 := len _ _ _ _ q
    have up : ∀ b u, base.get? b = some u → s.heap.get? b = some u := fun b u z => (e0.bs b u z).1
    have KX : K.In s.heap := e0.mod.kin.keeps up
    have par : ∀ y ∈ ps.zip us, sc.names.lookup y.1 = some .local ∨
        (sc.names.lookup y.1 = some .cell ∧ ((cellsFrom (s.heap.objs.size + 1) sc.names []).lookup y.1).isSome = true) := by
      rintro ⟨a, v⟩ hy
      have := S.par a (List.of_mem_zip hy).1
      exact this.imp id fun z => ⟨z, PySem.W.cellsFrom_some _ _ _ (.inl z)⟩
    apply codeAny_call_function r.rm.depth (KX _ _ lk) rfl S.co S.gen rfl (PySem.W.codeRec_of KX hc)
    apply hb
    apply wpAny_newFunctionEnv_cells S.kind par
    rintro env rfl s1 ic
    refine ⟨(e0.mod.nolimit.keeps up).keeps ic.toInCall.keep, codeAny_func ?_⟩
    obtain ⟨t, d, z⟩ := bd A o s H vs Q E (r.deeper _) q
    have I := inv_start (CX := CX) (E := E) S r.rm.hd e0 n1 hv ic
    refine wpAny_mono (d.run [] s1 (start N vs) H _ I z) ?_ fun _ _ z => z
    rintro fl s2 y
    match fl, y with
    | .ret u, ⟨v, σ', H', J, rv, q⟩ => exact ⟨v, H', J.os, J.bare, J.base, J.hok, rv, q⟩
    | .next, ⟨σ', H', J, q⟩ => exact ⟨.non, H', J.os, J.bare, J.base, J.hok, rfl, q⟩
    | .brk, ⟨_, _, _, q⟩ => exact q.elim
    | .cont, ⟨_, _, _, q⟩ => exact q.elim
theorem okG {x qual : Str} {st : Stmt} {f : Addr} {fd : FuncData} {N ps : List Str} {k : Nat} {sp : Sp}
    (F : Fun K x qual st f fd) (S : FnScope N ps (defScope st)) (len : ∀ vs H Q E, sp vs H Q E → vs.length = ps.length)
    (bd : ∀ (cdv : Value) (A : Around) (o : List Env) (s : Shared) (H : Hp) (vs : List V) (Q : VK) (E : XK),
      RmG k (A.deeper (envOfC qual (defScope st) s.heap.objs.size f cdv)) → sp vs H Q E →
      ∃ t, PSs (cxOf CX0 P w K mg base N qual (defScope st) f cdv A o s H E).nox (defBody st) t ∧
        t { nx := fun _ H' => Q .non H', rt := Q } (start N vs) H) : FnG P w K mg base CX0 (k + 1) f fd ps sp := by
  obtain ⟨_, _, _, _, _, _, _, _, _, rfl, lk, hc⟩ := F.ex
  apply okG_of lk hc S len
  intro A o s H vs Q E r q
  obtain ⟨t, d, z⟩ := bd _ A o s H vs Q E r q
  exact ⟨t, d.nox, z⟩
end
end Gl

/-! repr of data as a whole. -/
namespace Gl
open PySem PySem.Spec PyProof.Rows L2

mutual
theorem Dp.noDict {K : PySem.W.Frag} {H : Hp} : ∀ {v : V} {d : PyData}, Dp K H v d → d.hasDict = false
  | _, _, .non => by simp only [PyData.hasDict]
  | _, _, .bl b => by simp only [PyData.hasDict]
  | _, _, .int i => by simp only [PyData.hasDict]
  | _, _, .str x => by simp only [PyData.hasDict]
  | _, _, .lst _ h => by simp only [PyData.hasDict]; exact DpAll.noDict h
  | _, _, .tup _ h => by simp only [PyData.hasDict]; exact DpAll.noDict h
theorem DpAll.noDict {K : PySem.W.Frag} {H : Hp} : ∀ {v : List V} {d : List PyData}, DpAll K H v d → PyData.hasDictAll d = false
  | _, _, .nil => by simp only [PyData.hasDictAll]
  | _, _, .cons a b => by simp only [PyData.hasDictAll]; rw [Dp.noDict a, DpAll.noDict b]; rfl
end
/-- repr(x), x data of any shape without dicts -/
def rRepr (K : PySem.W.Frag) : List V → Hp → VK → Prop := fun xs H Q => ∃ x d, xs = [x] ∧ Dp K H x d ∧ d.showable = true ∧ d.depth ≤ 100 ∧ d.shown.length ≤ sizeLine ∧ Q (.str d.shown) H
section
variable {X : Cx}
theorem repr_core {pins : List (Addr × Obj)} {s : Shared} {σ : L2.St} {H : Hp} {Q : VK} {k : Nat} (r : RmG k X.A) (I : Inv X pins σ H s) : ∀ {x : V} {d : PyData} {u : Value}, Dp X.K H x d → RelV x u → d.showable = true → d.depth ≤ 100 → d.shown.length ≤ sizeLine → Q (.str d.shown) H →
    wpAny (model X.prog X.w) X.A (call (.builtin "repr") [u]) (EP X pins σ Q) X.xe s := by
  intro x d u hd ru hs hp hz q
  have nd := Dp.noDict hd
  obtain ⟨as, R⟩ := Dp.reads I d x u hd ru
  have room := r.rm.un
  have refs : ∀ a, u = .ref a → wpAny (model X.prog X.w) X.A (call (.builtin "repr") [u]) (EP X pins σ Q) X.xe s := by
    rintro a rfl
    refine repr_of_reads' R hs (PyData.noDict_hsm nd) r.gd (by omega) (fun _ _ z => z) (fun h' t tk hk => ?_) hz
    exact ⟨.str _, H, I.kept hk, ⟨_, rfl⟩, q⟩
  cases hd with
  | non =>
    cases ru
    exact PySem.P.repr_of_none ⟨.str _, H, I.tok _, ⟨_, rfl⟩, q⟩
  | bl b =>
    cases ru
    exact PySem.P.repr_of_bool ⟨.str _, H, I.tok _, ⟨_, rfl⟩, q⟩
  | int i =>
    obtain ⟨t, rfl⟩ := ru
    have hs' : i.natAbs.log2 < 1920 := of_decide_eq_true (by simpa only [PyData.showable] using hs)
    exact PySem.P.repr_of_int hs' ⟨.str _, H, I.tok _, ⟨_, rfl⟩, q⟩
  | str y =>
    obtain ⟨t, rfl⟩ := ru
    exact PySem.P.repr_of_str ⟨.str _, H, I.tok _, ⟨_, rfl⟩, q⟩ hz
  | lst _ _ =>
    cases ru
    exact refs _ rfl
  | tup _ _ =>
    cases ru
    exact refs _ rfl
theorem call_reprD {k : Nat} (r : RmG k X.A) : CallR X (.builtin "repr") (rRepr X.K) := by
  intro pins s σ H xs us Q I hv h
  obtain ⟨x, d, rfl, hd, hs, hp, hz, q⟩ := h
  obtain ⟨u, rfl, ru⟩ := vals1 hv
  exact repr_core r I hd ru hs hp hz q
/-- a ** n of written numbers -/
def CPw (i j : Int) : Prop := 0 ≤ j ∧ (Builtin.Int.intBits i : Int) * j ≤ 2 ^ 27
theorem op_powW : OpR X (binaryOp .Pow) (rI CPw fun i j => .int (i ^ j.toNat)) := opI fun _ _ _ _ _ _ _ hc q => pow_int hc.1 hc.2 q
end

/-! ### a bound of a shown text -/
mutual
def wt : PyData → Nat
  | .none => 4
  | .bool _ => 5
  | .int _ => 1930
  | .str x => (reprText x).length
  | .list xs => wtAll xs + 2
  | .tuple xs => wtAll xs + 3
  | .dict kvs => (PyData.dict kvs).shown.length
def wtAll : List PyData → Nat
  | [] => 0
  | x :: xs => wt x + 2 + wtAll xs
end
theorem textFrom_le : ∀ (ts : List Str) (k : Nat) (acc : Str), (textFrom k acc ts).length ≤ acc.length + piled ts
  | [], k, acc => by show acc.length ≤ _; omega
  | t :: ts, k, acc => by
    have h := textFrom_le ts (k + 1) (acc ++ (if k > 0 then ", " else "" : String) ++ t)
    have e : (acc ++ (if k > 0 then ", " else "" : String) ++ t).length ≤ acc.length + 2 + t.length := by
      rw [strLen_append, strLen_append]
      split
      · show _ + 2 + _ ≤ _; omega
      · show _ + 0 + _ ≤ _; omega
    rw [piled_cons]
    show (textFrom (k + 1) _ ts).length ≤ _
    omega
theorem join_le : ∀ ts : List Str, (Str.join ", " ts).length ≤ piled ts
  | [] => Nat.zero_le _
  | t :: ts => by
    have h := join_length_add (t :: ts) (by simp)
    omega
theorem listText_le (ts : List Str) : (listText ts).length ≤ piled ts + 2 := by
  unfold listText
  rw [strLen_append]
  have h := textFrom_le ts 0 "["
  have e1 : (("[" : String) : Str).length = 1 := rfl
  have e2 : (("]" : String) : Str).length = 1 := rfl
  omega
theorem tupleText_le (ts : List Str) : (tupleText ts).length ≤ piled ts + 3 := by
  unfold tupleText
  rw [strLen_append, strLen_append]
  have h := join_le ts
  have e1 : (("(" : Str)).length = 1 := rfl
  split
  · have e2 : ((",)" : String) : Str).length = 2 := rfl
    omega
  · have e2 : ((")" : String) : Str).length = 1 := rfl
    omega
mutual
theorem shown_le : ∀ d : PyData, d.showable = true → d.shown.length ≤ wt d
  | .none, _ => by simp only [PyData.shown, wt]; decide
  | .bool b, _ => by simp only [PyData.shown, wt]; cases b <;> decide
  | .int i, h => by
    simp only [PyData.shown, wt]
    have h' : i.natAbs.log2 < 1920 := of_decide_eq_true (by simpa only [PyData.showable] using h)
    have e := int_text_length_le (k := 1920) (by decide) h'
    have e2 : (Str.ofString (toString i)).length = (toString i).length := PySem.ofString_length _
    show (Str.ofString (toString i)).length ≤ _
    omega
  | .str x, _ => by simp only [PyData.shown, wt]; exact Nat.le_refl _
  | .list xs, h => by
    simp only [PyData.shown, wt]
    have h1 := listText_le (PyData.shownAll xs)
    have h2 := shownAll_le xs (by simpa only [PyData.showable] using h)
    omega
  | .tuple xs, h => by
    simp only [PyData.shown, wt]
    have h1 := tupleText_le (PyData.shownAll xs)
    have h2 := shownAll_le xs (by simpa only [PyData.showable] using h)
    omega
  | .dict kvs, _ => by simp only [wt]; exact Nat.le_refl _
theorem shownAll_le : ∀ xs : List PyData, PyData.showableAll xs = true → piled (PyData.shownAll xs) ≤ wtAll xs
  | [], _ => by simp only [PyData.shownAll, wtAll]; exact Nat.le_refl _
  | x :: xs, h => by
    have h' : (x.showable && PyData.showableAll xs) = true := by simpa only [PyData.showableAll] using h
    have h2 := Bool.and_eq_true_iff.mp h'
    simp only [PyData.shownAll, wtAll]
    rw [piled_cons]
    have a := shown_le x h2.1
    have b := shownAll_le xs h2.2
    omega
end
end Gl

/-! The end of a law over FnG. -/
namespace Gl
open PySem PySem.Spec PyProof.Rows L2
open PySem.W (OpenLaw)

theorem rmCaller {k : Nat} (h : Room k callerA) : RmG k callerA := ⟨h, rfl⟩

section
variable {P : Program} {w : World} {K : PySem.W.Frag} {mg mb : Str → Option Value} {k : Nat} {fa a : Addr} {fd : FuncData} {x : Str} {sp : Sp} {s1 : Shared} {vs : List Value} {ns : List Int}
/-- what stands at the law's entry -/
structure Entry (P : Program) (w : World) (K : PySem.W.Frag) (mg mb : Str → Option Value) (k : Nat) (fa a : Addr) (fd : FuncData) (x : Str) (sp : Sp) (s1 : Shared) (vs : List Value) (ns : List Int) : Prop where
  kin : K.In s1.heap
  ng : s1.heap.Ns mainGlobals mg
  nb : s1.heap.Ns builtinsNs mb
  bb : ∀ y : Str, y ≠ "__name__" → mb y = bootBuiltins y
  lim : s1.heap.NoLimit
  gn : s1.gens = #[]
  at_ : s1.heap.get? a = some { cls := .type "list", data := .seq vs.toArray }
  ia : IntsAre vs ns
  sz : ns.length ≤ sizeLine
  rm : Room k callerA
  F : ∀ base : Heap, K.In base → base.Ns mainGlobals mg → FnG P w K mg base CX0 k fa fd [x] sp
  bind : ∀ (s : Shared) (u : Value), BindsTo s fd ⟨[u], []⟩ [(x, u)]
  sp_ : ∀ H : Hp, Only H → SqL K H a (ns.map V.int) → sp [.ref a] H (fun v _ => v = .bl true) fun _ _ _ => False
abbrev Fin (s1 : Shared) (r : Result) (s' : Shared) : Prop := r = .ok (.ret (.bool true)) ∧ OldK s1.heap s'.heap ∧ s'.os = s1.os ∧ AllBare s'.gens

theorem Entry.from (N : Entry P w K mg mb k fa a fd x sp s1 vs ns) (H : Hp) (only : Only H) (sq : SqL K H a (ns.map V.int)) (ok : HOk P w H s1.heap)
    (just : ∀ b, H b ≠ none → b = a) (own : H a ≠ none → K.lookup a = none) :
    codeAny (model P w) callerA (.call (.ref fa) ⟨[.ref a], []⟩) (Fin s1) s1 := by
  have none_of : ∀ b, (H b ≠ none → False) → H b = none := fun b z => by
    rcases h : H b with _ | u
    · rfl
    · exact (z (by rw [h]; exact fun e => nomatch e)).elim
  have dict_free : ∀ {b : Addr} {o : Obj} {es : Array DictEntry} {ep : Nat}, s1.heap.get? b = some o → o.data = .dict es ep → H b = none := by
    intro b o es ep e d
    apply none_of
    intro z
    obtain rfl := just b z
    rw [N.at_] at e
    obtain rfl := Option.some.inj e
    exact nomatch d
  have keepNs : ∀ {b : Addr} {m : Str → Option Value}, s1.heap.Ns b m → (hidT s1.heap H).Ns b m := by
    rintro b m ⟨o, es, ep, e, d, r⟩
    exact ⟨o, es, ep, hidT_get e (dict_free e d), d, r⟩
  have kb : K.In (hidT s1.heap H) := by
    intro b o e
    apply hidT_get (N.kin b o e)
    apply none_of
    intro z
    obtain rfl := just b z
    rw [own z] at e
    exact nomatch e
  have lim : (hidT s1.heap H).NoLimit := by
    obtain ⟨m, h1, h2⟩ := N.lim
    exact ⟨m, keepNs h1, h2⟩
  have md : Mod K mg (hidT s1.heap H) := ⟨kb, keepNs N.ng, ⟨mb, keepNs N.nb, N.bb⟩, lim⟩
  have e0 : Env0 P w K mg (hidT s1.heap H) callerA [] s1 H :=
    { frames := rfl, mod := md, bs := fun _ _ e => of_hidT e, bsz := Nat.le_of_eq (hidT_size _ _), funs := trivial,
      frf := (fun b z => absurd (show b ∈ ([] : List Addr) from z) (by simp)), hok := ok, bare := .of_eq N.gn }
  have c := (N.F _ kb (keepNs N.ng)).go callerA [] s1 H ⟨[.ref a], []⟩ [.ref a] [.ref a] _ _ (rmCaller N.rm) e0 (N.bind s1 (.ref a)) (.cons rfl .nil) (N.sp_ H only sq)
  apply codeAny_mono c
  intro r s2 z
  match r, z with
  | .error e, z => exact z.elim
  | .ok .next, z => exact z.elim
  | .ok .brk, z => exact z.elim
  | .ok .cont, z => exact z.elim
  | .ok (.ret u), ⟨v, H2, os, br, un, ok2, rv, q⟩ =>
    obtain rfl : v = .bl true := q
    obtain rfl : u = Value.bool true := rv
    refine ⟨rfl, OldK.of_keep ?_, os, br⟩
    intro b o e
    rcases h : H b with _ | u
    · exact un.keep b o e h (fun z => nomatch z) (fun z => nomatch z)
    · rcases only b with z | ⟨ob, xs, z⟩
      · rw [h] at z
        exact nomatch z
      · have y1 := (ok b _ z).1
        have y2 := (ok2 b _ (un.frzs b ob _ z)).1
        obtain rfl := Option.some.inj (e.symm.trans y1)
        exact y2

theorem Entry.run (N : Entry P w K mg mb k fa a fd x sp s1 vs ns) : codeAny (model P w) callerA (.call (.ref fa) ⟨[.ref a], []⟩) (Fin s1) s1 := by
  have rv := vals_ints N.ia
  rcases hk : K.lookup a with _ | o
  · let ob : Obj := { cls := .type "list", data := .seq vs.toArray }
    let H : Hp := upd (fun _ => none) a (.frz ob (.lst (ns.map V.int)))
    have ha : H a = some (.frz ob (.lst (ns.map V.int))) := upd_same
    have hn : ∀ b, b ≠ a → H b = none := fun b z => upd_ne z
    have just : ∀ b, H b ≠ none → b = a := fun b z => Decidable.byContradiction fun y => z (hn b y)
    refine N.from H ?_ (.inl (.inr ⟨ob, ha⟩)) ?_ just fun _ => hk
    · intro b
      by_cases z : b = a
      · subst z
        exact .inr ⟨ob, ns.map V.int, ha⟩
      · exact .inl (hn b z)
    · intro b o z
      obtain rfl := just b (by rw [z]; exact fun e => nomatch e)
      rw [ha] at z
      obtain rfl := Option.some.inj z
      exact ⟨N.at_, by rw [List.length_map]; exact N.sz, vs, _, rv, N.at_⟩
  · have e := N.kin a o hk
    rw [N.at_] at e
    obtain rfl := Option.some.inj e
    refine N.from (fun _ => none) (fun _ => .inl rfl) (.inr ⟨_, vs.toArray, _, hk, rfl, rfl, rfl, ?_, by simpa using rv⟩) (fun b u z => nomatch (show (none : Option HO) = some u from z)) (fun b z => (z rfl).elim) fun z => (z rfl).elim
    rw [List.size_toArray, N.ia.length]
    exact N.sz
end

theorem walkG {l : OpenLaw} {n k : Nat} {q : Program} {lo : List Str} {XP : (Str → Option Value) → Heap → Prop} {YP : World → Heap → Prop} {d : DefRec} {K : Params → PySem.W.Frag} {sp : PySem.W.Frag → Sp} {x : Str}
    (hn : l.most = some n) (n2 : n ≤ sizeLine) (df : d.params.defaults = []) (rm : Room k callerA)
    (kY : ∀ (w : World) (h : Heap), YP w h → (K w.params).In h)
    (F : ∀ (w : World) (mg : Str → Option Value) (fa : Addr) (h : Heap), (K w.params).In h → h.Ns mainGlobals mg → mg d.name = some (.ref fa) →
      ∃ fd : FuncData, (∀ (s : Shared) (u : Value), BindsTo s fd ⟨[u], []⟩ [(x, u)]) ∧
        ∀ base : Heap, (K w.params).In base → base.Ns mainGlobals mg → FnG l.prog w (K w.params) mg base CX0 k fa fd [x] (sp (K w.params)))
    (hs : ∀ (K : PySem.W.Frag) (H : Hp) (a : Addr) (ns : List Int), ns.length ≤ n → Only H → SqL K H a (ns.map V.int) → sp K [.ref a] H (fun v _ => v = .bl true) fun _ _ _ => False) :
    PySem.W.WalkO q lo XP YP l.row.toRowW d [] (fun f vs => PySem.call f vs) := by
  apply Att.attach_call hn df
  intro w s0 s1 mg mb fa o pm cd doc a vs ns G Y ho hd hc hm ha hi hl hg
  obtain ⟨fd, hb, hF⟩ := F w mg fa _ (kY w _ Y) G.T.g hm
  exact Entry.run { kin := kY w _ Y, ng := G.T.g, nb := G.T.b, bb := G.T.builtins, lim := G.T.nolimit, gn := hg, at_ := ha, ia := hi, sz := Nat.le_trans hl n2, rm := rm, F := hF, bind := hb, sp_ := fun H h1 h2 => hs _ H a ns hl h1 h2 }
end Gl

namespace Gl
open PySem PySem.Spec PyProof.Rows L2 ClX
/-- C.m is a staticmethod: its record at p, its def at g -/
structure SMet (K : PySem.W.Frag) (C : Addr) (mc : Value) (m : Str) (p g : Addr) : Prop where
  at_ : PySem.W.findCls K (.ref C) mc m = some (.get (.builtin "staticmethod.__get__") (.ref p) .none (.ref C))
  rc : ∃ rest, PySem.W.recIn K p "staticmethod" = some (.ref g :: rest)
  kp : PySem.W.keepIn K (.ref g) = true
/-- e.m(..), e the class at C, m a staticmethod -/
def tSMeth (C : Addr) (sp : Sp) (dvs : List V) (E : XK) (ta : TE) (t : TA) : TE := fun σ H Q => ta σ H fun x H1 => x = .ref C ∧ t σ H1 fun vs H2 => sp (vs ++ dvs) H2 Q E
section
variable {X : Cx} {pins : List (Addr × Obj)} {σ : L2.St} {H : Hp} {s : Shared} {C p g : Addr} {mc : Value} {m : Str} {A : Around} {E' : Value → Shared → Prop}
theorem getsmet_ok {b : Bool} {Q : Value → Shared → Prop} (I : Inv X pins σ H s) (r : CRead X.K C mc) (k : SMet X.K C mc m p g)
    (h : ∀ s', Inv X pins σ H s' → Q (.ref g) s') : wpAny (model X.prog X.w) A (getAttr (.ref C) m b) Q E' s := by
  obtain ⟨rest, hp⟩ := k.rc
  refine PySem.W.cls_bind I.kIn r.rd k.at_ ?_
  refine wpAny_call (PySem.W.sm_get (s := { s with toks := s.toks + 1 }) I.kIn hp (PySem.W.handed_on rfl ?_))
  exact h _ (I.tok _)
theorem getmethsm_ok {pl : Sem Bool} {Q : Value × List Value → Shared → Prop} (I : Inv X pins σ H s) (r : CRead X.K C mc) (k : SMet X.K C mc m p g)
    (h : ∀ s', Inv X pins σ H s' → Q (.ref g, []) s') : wpAny (model X.prog X.w) A (getMethod (.ref C) m pl) Q E' s :=
  PySem.W.method_cls I.kIn r.ga (getsmet_ok I r k h)
variable {CX : CXT} {k : Nat} {sp : Sp} {E : XK} {fd : FuncData} {ps : List Str} {ds : List Value} {dvs : List V} {o e : Expr} {es : List Expr} {pos apos : Pos} {ta : TE} {t : TA} {pl : Sem Bool}
theorem pe_smeth (he : PE X o ta) (r : CRead X.K C mc) (c : SMet X.K C mc m p g) (F : FnOk X.prog X.w X.K X.mg X.base CX k g fd ps sp) (hr : Room k X.A) (hb : Binds X.K fd ps ds) (hd : Vals dvs ds) (hx : Passes CX X E) (ha : PA X (e :: es) t)
    (hst : starEach (e :: es) X.env = (false, eval e X.env) :: starEach es X.env := by rfl) (hpl : (backTo pos (starEach es X.env)).any (·.1) = false := by rfl)
    (ht : eval (.Call (.Attribute o m apos) (e :: es) [] pos) X.env = (do
      let ov ← eval o X.env
      standAt apos.atName
      let (f, first) ← holding [ov] (getMethod ov m pl)
      callWith pos f first (backTo pos (starEach (e :: es) X.env)) (backToKw pos (keywordEach [] X.env))) := by rfl) :
    PE X (.Call (.Attribute o m apos) (e :: es) [] pos) (tSMeth C sp dvs E ta t) := by
  refine ⟨fun pins s σ H Q I h => ?_⟩
  refine PySem.W.methodCall_KW (pl := pl) (thn (he.run pins s σ H _ I h) fun u s1 ⟨x, H1, I1, rx, ex, q⟩ => ?_) ht
  subst ex
  obtain rfl : u = Value.ref C := rx
  refine getmethsm_ok I1 r c fun s2 I2 => ?_
  refine PySem.W.callWith_K (h₀ := X.base) I2.ok.mod.kin c.kp (thn (ha.run pos pins s2 σ H1 _ I2 q) fun us s3 ⟨vs, H2, I3, rv, q2⟩ => ⟨I3.kIn, ?_⟩) hst hpl
  exact run_fn F hr hb hd hx I3 rv q2
theorem pe_smeth0 (he : PE X o ta) (r : CRead X.K C mc) (c : SMet X.K C mc m p g) (F : FnOk X.prog X.w X.K X.mg X.base CX k g fd ps sp) (hr : Room k X.A) (hb : Binds X.K fd ps ds) (hd : Vals dvs ds) (hx : Passes CX X E)
    (ht : eval (.Call (.Attribute o m apos) [] [] pos) X.env = (do
      let ov ← eval o X.env
      standAt apos.atName
      let (f, first) ← holding [ov] (getMethod ov m pl)
      callWith pos f first (backTo pos (starEach [] X.env)) (backToKw pos (keywordEach [] X.env))) := by rfl) :
    PE X (.Call (.Attribute o m apos) [] [] pos) (tSMeth C sp dvs E ta tNil) := by
  refine ⟨fun pins s σ H Q I h => ?_⟩
  refine PySem.W.methodCall_KW (pl := pl) (thn (he.run pins s σ H _ I h) fun u s1 ⟨x, H1, I1, rx, ex, q⟩ => ?_) ht
  subst ex
  obtain rfl : u = Value.ref C := rx
  refine getmethsm_ok I1 r c fun s2 I2 => ?_
  exact PySem.W.callWith_K0 I2.kIn c.kp (run_fn (us := []) F hr hb hd hx I2 .nil q)
end
end Gl

namespace Gl
open PySem PySem.Spec PyProof.Rows L2
/-- tuple * 1: the tuple itself -/
theorem tuple_mul1 (l : Addr) (items : Array Value) (n : Nat) (dd : Option Addr) (sl : Array (Option Value)) (u : Tok) :
    Meets (Builtin.«tuple.__mul__» ⟨[.ref l, .int 1 u], []⟩) (fun _ R s => s.heap.get? l = some { cls := .type "tuple", dict := dd, data := .seq items n, slots := sl } ∧
      R (.ok (.ret (Value.ref l))) s) :=
  .of_wp fun prog w A R s h => by
    obtain ⟨hp, g, d, tk, os⟩ := s
    obtain ⟨hl, h⟩ := h
    have f1 := AutoSeq1.idx_int
    have c1 : (items.isEmpty || (1 : Int) == 1) = true := by rw [show ((1 : Int) == 1) = true from rfl, Bool.or_true]
    have c0 : (decide ((1 : Int) < -(2 ^ 63)) || decide ((1 : Int) ≥ 2 ^ 63)) = false := by decide
    wp_walk using wpAny_loadPart' hl
    exact ⟨_, rfl, h⟩
def rRepT1 (K : PySem.W.Frag) : R2 := fun x y H Q => ∃ l xs, x = .ref l ∧ y = .int 1 ∧ SqT K H l xs ∧ Q (.ref l) H
section
variable {X : Cx}
theorem op_repT1 : OpR X (binaryOp .Mult) (rRepT1 X.K) := by
  intro pins s σ H x y v u Q I rx ry h
  obtain ⟨l, xs, rfl, rfl, hT, q⟩ := h
  cases rx
  obtain ⟨t, rfl⟩ := ry
  obtain ⟨its, r, ⟨⟨cls, dd, data, sl⟩, ho, hc, n, hd⟩, hs⟩ := I.tuple hT
  simp only at hc hd
  subst hc hd
  refine wpAny_binaryOp_repeat_ref (T := "tuple") (U := "int") (by decide) ⟨_, ho, rfl⟩ (fun s' => typeIs_int s' 1 t) noFill_tuple_mul F.fills_int_mul F.slot_int_rmul repeat_tuple F.slot_int_index.lookup
    (call_meets F.slot_int_rmul (typeIs_int s 1 t) F.entry_int_rmul (F.args_int_rmul_2 _ _) (int_rmul_tuple 1 t l its.toArray n dd sl)
      ⟨ho, rfl, ⟨_, ho, rfl⟩, call_meets F.slot_tuple_mul ⟨_, ho, rfl⟩ F.entry_tuple_mul (F.args_tuple_mul_2 _ _) (tuple_mul1 l its.toArray n dd sl t) ⟨ho, ?_⟩⟩)
  exact ⟨.ref l, H, I, rfl, q⟩
end
end Gl

namespace Gl
open PySem PySem.Spec PyProof.Rows L2
/-- tuple * 0: an empty tuple -/
theorem tuple_mul0 (l : Addr) (items : Array Value) (n : Nat) (dd : Option Addr) (sl : Array (Option Value)) (u : Tok) (hne : items.isEmpty = false) :
    Meets (Builtin.«tuple.__mul__» ⟨[.ref l, .int 0 u], []⟩) (fun _ R s => s.heap.get? l = some { cls := .type "tuple", dict := dd, data := .seq items n, slots := sl } ∧
      R (.ok (.ret (Value.ref s.heap.objs.size))) { s with heap := s.heap.push { cls := Value.type "tuple", data := Data.seq #[] }, toks := s.toks }) :=
  .of_wp fun prog w A R s h => by
    obtain ⟨hp, g, d, tk, os⟩ := s
    obtain ⟨hl, h⟩ := h
    have f1 := AutoSeq1.idx_int
    have c1 : (items.isEmpty || (0 : Int) == 1) = false := by rw [hne]; rfl
    have c2 : (decide ((0 : Int) ≤ 0) || items.isEmpty) = true := rfl
    have c0 : (decide ((0 : Int) < -(2 ^ 63)) || decide ((0 : Int) ≥ 2 ^ 63)) = false := by decide
    wp_walk using wpAny_loadPart' hl
    repeat (first
      | (refine wpAny_ite_false (decide_eq_false (by rw [c1]; exact Bool.false_ne_true)) ?_; wp_walk using wpAny_loadPart' hl))
    exact ⟨_, rfl, h⟩
def rRepT0 (K : PySem.W.Frag) : R2 := fun x y H Q => ∃ l xs, x = .ref l ∧ y = .int 0 ∧ SqT K H l xs ∧ xs ≠ [] ∧ ∀ p, H p = none → Q (.ref p) (upd H p (.tup []))
section
variable {X : Cx}
theorem op_repT0 : OpR X (binaryOp .Mult) (rRepT0 X.K) := by
  intro pins s σ H x y v u Q I rx ry h
  obtain ⟨l, xs, rfl, rfl, hT, hx, q⟩ := h
  cases rx
  obtain ⟨t, rfl⟩ := ry
  obtain ⟨its, r, ⟨⟨cls, dd, data, sl⟩, ho, hc, n, hd⟩, hs⟩ := I.tuple hT
  simp only at hc hd
  subst hc hd
  have hf : H s.heap.objs.size = none := I.hok.fresh (Nat.le_refl _)
  have hne : its.toArray.isEmpty = false := by
    cases r with
    | nil => exact absurd rfl hx
    | cons _ _ => rfl
  refine wpAny_binaryOp_repeat_ref (T := "tuple") (U := "int") (by decide) ⟨_, ho, rfl⟩ (fun s' => typeIs_int s' 0 t) noFill_tuple_mul F.fills_int_mul F.slot_int_rmul repeat_tuple F.slot_int_index.lookup
    (call_meets F.slot_int_rmul (typeIs_int s 0 t) F.entry_int_rmul (F.args_int_rmul_2 _ _) (int_rmul_tuple 0 t l its.toArray n dd sl)
      ⟨ho, rfl, ⟨_, ho, rfl⟩, call_meets F.slot_tuple_mul ⟨_, ho, rfl⟩ F.entry_tuple_mul (F.args_tuple_mul_2 _ _) (tuple_mul0 l its.toArray n dd sl t hne) ⟨ho, ?_⟩⟩)
  refine ⟨.ref s.heap.objs.size, _, I.laid (t' := s.toks) (o := .tup []) (fun b ob q => Heap.get?_push_of_some _ q) (Nat.le_refl _) ?_, rfl, q _ (I.hok.fresh (Nat.le_refl _))⟩
  exact ⟨Nat.zero_le _, _, .nil, IsTup.new _ _⟩
end
end Gl

namespace Gl
open PySem PySem.Spec PyProof.Rows L2

section
variable {prog : Program} {w : World} {A : Around} {E : Value → Shared → Prop} {s : Shared} {K : PySem.W.Frag} {x C L f : Addr} {h₀ : Heap} {m : Str → Option Value} {ox : Obj} {od : Option Obj} {b tb : Value}
/-- x != b by the class's own ==, where no __ne__ is told -/
theorem try_neO {Q : Option Value → Shared → Prop} (hu : A.units + 1 < cLine) (X : K.In s.heap) (I : PySem.W.InstAt s.heap x ox C od)
    (hn : PySem.W.findIn K (.ref C) "__ne__" = some (some (.builtin "object.__ne__"))) (ho : PySem.W.subIn K (.ref C) (.type "object") = some true)
    (hs : PySem.W.findIn K (.ref C) "__eq__" = some (some (.ref f))) (hf : PySem.W.isFn K (.ref f) = true)
    (h : wpAny (model prog w) A.in1 (call (.ref f) [.ref x, b]) (fun v s' => ∃ r, v = .bool r ∧ Q (some (.bool (!r))) s') E s) :
    wpAny (model prog w) A (tryCompare (.ref x) "__ne__" b) Q E s := by
  unfold tryCompare
  have hc : wpAny (model prog w) A (call (.builtin "object.__ne__") [.ref x, b]) (fun v s' => ∃ r, v = .bool r ∧ Q (some v) s') E s := by
    refine wpAny_call (codeAny_call_builtin PySem.F.cmp_object.ne.plain PySem.F.cmpEntry_ne ?_)
    simp only [checkBuiltinCall, PySem.F.cmpKind_ne, PySem.F.cmpSplit_ne]
    refine wpAny_bind (wpAny_bind ?_)
    refine I.type.here ?_
    refine (PySem.W.looks_subIn X ho).here ?_
    have fin : wpAny (model prog w) A.in1 (Builtin.«object.__ne__» ⟨[.ref x, b], []⟩) (GQ.FinOf prog w A (wants (fun v s' => ∃ r, v = .bool r ∧ Q (some v) s') E)) (fun e s' => E e s') s := by
      unfold Builtin.«object.__ne__»
      refine wpAny_bind (wpAny_pure ?_)
      refine wpAny_bind (wpAny_cRoomFor hu ?_)
      refine wpAny_bind (PySem.W.ifBound_K X I hs hf (wpAny_mono h (fun r s' hr => ?_) fun _ _ e => e))
      obtain ⟨r, rfl, hq⟩ := hr
      refine wpAny_bind (wpAny_truthy_bool ?_)
      exact wpAny_pure ⟨_, rfl, hq⟩
    have ha := PySem.F.cmpArgs_ne (.ref x) b
    show wpAny _ _ (match Manifest.signature? "object.__ne__" with | some sig => Bind.checkArgs "object.__ne__" sig ⟨[.ref x, b], []⟩ | _ => pure ()) _ _ _
    cases hsig : Manifest.signature? "object.__ne__" with
    | none => exact wpAny_pure fin
    | some sig =>
      simp only [argsOk, hsig] at ha
      have h2 : Bind.checkArgs "object.__ne__" sig ⟨[.ref x, b], []⟩ = pure () := ha
      show wpAny _ _ (Bind.checkArgs "object.__ne__" sig ⟨[.ref x, b], []⟩) _ _ _
      rw [h2]
      exact wpAny_pure fin
  simp only [callSpecialIfBound?, bindSpecialIfBound?]
  refine wpAny_bind (wpAny_holding (wpAny_bind (wpAny_bind (wpAny_bind (I.type.here ((PySem.W.looks_findIn X hn).here ?_))))))
  simp only [PySem.F.cmp_object.ne.bind]
  refine wpAny_bind (wpAny_askSetting (wpAny_ite ?_))
  have fin : wpAny (model prog w) A (call (.builtin "object.__ne__") ([.ref x] ++ [b]) >>= fun v => pure (some v)) (fun v s' => ∃ r, v = some (.bool r) ∧ Q v s') E s :=
    wpAny_bind (wpAny_mono hc (fun v s' ⟨r, e, q⟩ => wpAny_pure ⟨r, e ▸ rfl, q⟩) fun _ _ h' => h')
  split
  · refine wpAny_bind (wpAny_pure (wpAny_pure (wpAny_mono fin (fun v s' q => ?_) fun _ _ e => e)))
    obtain ⟨r, rfl, q⟩ := q
    exact wpAny_pure q
  · refine wpAny_tryCatch (wpAny_bind (wpAny_pure (wpAny_pure (wpAny_mono fin (fun v s' q => ?_) fun _ _ e => e))))
    obtain ⟨r, rfl, q⟩ := q
    exact wpAny_pure q
theorem ne_KO {Q : Value → Shared → Prop} (hu : A.units + 1 < cLine) (F : Fr h₀ L s.heap m) (X₀ : K.In h₀) (I : PySem.W.InstAt s.heap x ox C od) (hb : PySem.W.Looks (model prog w) s.heap (typeOf b) tb) (hnf : PySem.W.notFirst K C tb = true)
    (hn : PySem.W.findIn K (.ref C) "__ne__" = some (some (.builtin "object.__ne__"))) (ho : PySem.W.subIn K (.ref C) (.type "object") = some true)
    (hs : PySem.W.findIn K (.ref C) "__eq__" = some (some (.ref f))) (hf : PySem.W.isFn K (.ref f) = true)
    (h : wpAny (model prog w) A.in1 (call (.ref f) [.ref x, b]) (fun v s' => ∃ r, v = .bool r ∧ Q (.bool (!r)) s') E s) : wpAny (model prog w) A (richCompare .NotEq (.ref x) b) Q E s := by
  have X := X₀.keeps F.keep
  have one : wpAny (model prog w) A (tryCompare (.ref x) (cmpInfo .NotEq).2.1 b) (fun r s' => ∃ v, r = some v ∧ Q v s') E s :=
    try_neO hu X I hn ho hs hf (wpAny_mono h (fun v s' ⟨r, e, q⟩ => ⟨r, e, _, rfl, q⟩) fun _ _ e => e)
  unfold richCompare
  simp only [oneThing_ref]
  refine wpAny_holding (wpAny_bind (wpAny_cRoomFor (Nat.lt_of_succ_lt hu) ?_))
  refine wpAny_bind (I.type.here (wpAny_bind (hb.here ?_)))
  split
  · rename_i q
    have e : PySem.W.subIn K tb (.ref C) = some false := by
      rcases Bool.or_eq_true_iff.mp hnf with e | e
      · rw [beq_iff_eq.mp e] at q; simp at q
      · exact beq_iff_eq.mp e
    refine wpAny_bind ((PySem.W.looks_subIn X e).here ?_)
    simp only [Bool.false_eq_true, if_false]
    refine wpAny_bind (wpAny_mono one (fun r s' z => ?_) fun _ _ e => e)
    obtain ⟨v, rfl, hq⟩ := z
    exact wpAny_pure hq
  · refine wpAny_bind (wpAny_pure ?_)
    simp only [Bool.false_eq_true, if_false]
    refine wpAny_bind (wpAny_mono one (fun r s' z => ?_) fun _ _ e => e)
    obtain ⟨v, rfl, hq⟩ := z
    exact wpAny_pure hq
end

/-- the class at C has the def f under the name nm -/
structure OwnAt (K : PySem.W.Frag) (C f : Addr) (nm : Str) : Prop where
  find : PySem.W.findIn K (.ref C) nm = some (some (.ref f))
  fn : PySem.W.isFn K (.ref f) = true

section
variable {X : Cx} {A : Around} {pins : List (Addr × Obj)} {σ : L2.St} {H : Hp} {s : Shared} {CX : CXT} {C f : Addr} {n : Nat} {fd : FuncData} {ps : List Str} {sp : Sp} {E : XK}
/-- a def of the text, called from within an operation -/
theorem call_fnO (F : FnOk X.prog X.w X.K X.mg X.base CX n f fd ps sp) (hb : Binds X.K fd ps []) (hx : Passes CX X E) (sb : Sub X n A) (I : Inv X pins σ H s) {vs : List V} {us : List Value} {Q : VK} (r : Vals vs us)
    (hq : sp vs H Q E) : wpAny (model X.prog X.w) A (call (.ref f) us) (EP X pins σ Q) X.xe s := by
  have e0 : Env0 X.prog X.w X.K X.mg X.base A X.stack s H := by
    have e := I.env0
    exact ⟨by rw [sb.fr]; exact e.frames, e.mod, e.bs, e.bsz, e.funs, e.frf, e.hok, e.bare⟩
  have hl := F.len _ _ _ _ hq
  refine wpAny_call (codeAny_mono (F.run A X.stack s H ⟨us, []⟩ us vs _ E sb.room e0 (by
    have := hb s us I.kIn (by rw [List.append_nil, ← r.length]; exact hl)
    simpa using this) r hq) fun r s' hq => ?_)
  cases r with
  | error e => exact hx pins σ H s e s' I hq
  | ok fl =>
    cases fl with
    | ret w => exact I.after hq
    | next => exact False.elim hq
    | brk => exact False.elim hq
    | cont => exact False.elim hq

/-- x in c, c an instance with a __contains__ of its own -/
def rInO (C : Addr) (sp : Sp) (E : XK) (neg : Bool) : R2 := fun x y H Q => ∃ a d fs, y = .ref a ∧ H a = some (.ins C d fs) ∧ sp [.ref a, x] H (fun r H' => ∃ b, r = .bl b ∧ Q (.bl (xor neg b)) H') E
theorem op_inO (F : FnOk X.prog X.w X.K X.mg X.base CX n f fd ps sp) (c : OwnAt X.K C f "__contains__") (hb : Binds X.K fd ps []) (hx : Passes CX X E) (hr : Room n X.A) : OpR X (compareOp .In) (rInO C sp E false) := by
  intro pins s σ H x y v u Q I rx ry hq
  obtain ⟨a, d, fs, rfl, ha, q⟩ := hq
  obtain rfl : u = Value.ref a := ry
  obtain ⟨mA, J, _⟩ := ins_get I.hok ha
  obtain ⟨od, J, _⟩ := J.look
  obtain ⟨m, hF⟩ := I.fr
  refine PySem.W.in_K hF I.ok.mod.kin J c.find c.fn (wpAny_mono (call_fnO F hb hx ⟨hr, rfl⟩ I (vs := [.ref a, x]) (.cons rfl (.cons rx .nil)) q) (fun r s' z => ?_) fun _ _ e => e)
  obtain ⟨v', H', I', rv, b, rfl, q'⟩ := z
  obtain rfl : r = Value.bool b := rv
  refine wpAny_truthy_bool ⟨.bl b, H', I', rfl, ?_⟩
  simpa using q'
theorem op_notinO (F : FnOk X.prog X.w X.K X.mg X.base CX n f fd ps sp) (c : OwnAt X.K C f "__contains__") (hb : Binds X.K fd ps []) (hx : Passes CX X E) (hr : Room n X.A) : OpR X (compareOp .NotIn) (rInO C sp E true) := by
  intro pins s σ H x y v u Q I rx ry hq
  obtain ⟨a, d, fs, rfl, ha, q⟩ := hq
  obtain rfl : u = Value.ref a := ry
  obtain ⟨mA, J, _⟩ := ins_get I.hok ha
  obtain ⟨od, J, _⟩ := J.look
  obtain ⟨m, hF⟩ := I.fr
  refine PySem.W.notIn_K hF I.ok.mod.kin J c.find c.fn (wpAny_mono (call_fnO F hb hx ⟨hr, rfl⟩ I (vs := [.ref a, x]) (.cons rfl (.cons rx .nil)) q) (fun r s' z => ?_) fun _ _ e => e)
  obtain ⟨v', H', I', rv, b, rfl, q'⟩ := z
  obtain rfl : r = Value.bool b := rv
  refine wpAny_truthy_bool ⟨.bl (!b), H', I', rfl, ?_⟩
  simpa using q'

/-- y is of the type tb, as the heap stands -/
def TyO (X : Cx) (y : V) (tb : Value) (H : Hp) : Prop := ∀ (pins : List (Addr × Obj)) (s : Shared) (σ : L2.St) (u : Value), Inv X pins σ H s → RelV y u → PySem.W.Looks (model X.prog X.w) s.heap (typeOf u) tb
theorem TyO.non : TyO X .non (.type "NoneType") H := fun pins s σ u I r => by obtain rfl : u = Value.none := r; exact .now
theorem TyO.bl {b : Bool} : TyO X (.bl b) (.type "bool") H := fun pins s σ u I r => by obtain rfl : u = Value.bool b := r; exact .now
theorem TyO.int {i : Int} : TyO X (.int i) (.type "int") H := fun pins s σ u I r => by obtain ⟨t, rfl⟩ := r; exact .now
theorem TyO.str {x : Str} : TyO X (.str x) (.type "str") H := fun pins s σ u I r => by obtain ⟨t, rfl⟩ := r; exact .now
theorem TyO.tup {a : Addr} {xs : List V} (h : SqT X.K H a xs) : TyO X (.ref a) (.type "tuple") H := fun pins s σ u I r => by
  obtain rfl : u = Value.ref a := r
  obtain ⟨its, _, ⟨o, ho, hc, _⟩, _⟩ := I.tuple h
  exact hc ▸ (PySem.W.Looks.ld ho).andThen .now
theorem TyO.ins {a d C : Addr} {fs : List (Str × V)} (h : H a = some (.ins C d fs)) : TyO X (.ref a) (.ref C) H := fun pins s σ u I r => by
  obtain rfl : u = Value.ref a := r
  obtain ⟨mA, J, _⟩ := ins_get I.hok h
  obtain ⟨od, J, _⟩ := J.look
  exact J.type

/-- x == y, x an instance with an == of its own that tells a boolean -/
def rEqO (X : Cx) (C : Addr) (sp : Sp) (E : XK) (neg : Bool) : R2 := fun x y H Q => ∃ a d fs tb, x = .ref a ∧ H a = some (.ins C d fs) ∧ TyO X y tb H ∧ PySem.W.notFirst X.K C tb = true ∧
  sp [.ref a, y] H (fun r H' => ∃ b, r = .bl b ∧ Q (.bl (xor neg b)) H') E
theorem op_eqO (F : FnOk X.prog X.w X.K X.mg X.base CX n f fd ps sp) (c : OwnAt X.K C f "__eq__") (hb : Binds X.K fd ps []) (hx : Passes CX X E) (hr : Room n X.A) : OpR X (compareOp .Eq) (rEqO X C sp E false) := by
  intro pins s σ H x y v u Q I rx ry hq
  obtain ⟨a, d, fs, tb, rfl, ha, ht, hn, q⟩ := hq
  obtain rfl : v = Value.ref a := rx
  obtain ⟨mA, J, _⟩ := ins_get I.hok ha
  obtain ⟨od, J, _⟩ := J.look
  obtain ⟨m, hF⟩ := I.fr
  show wpAny (model X.prog X.w) X.A (richCompare .Eq (.ref a) u) _ _ _
  refine PySem.W.cmp_K (op := .Eq) (tb := tb) hr.units0 hF I.ok.mod.kin J (ht pins s σ u I ry) hn c.find c.fn (wpAny_mono (call_fnO F hb hx ⟨hr, rfl⟩ I (vs := [.ref a, y]) (.cons rfl (.cons ry .nil)) q) (fun r s' z => ?_) fun _ _ e => e)
  obtain ⟨v', H', I', rv, b, rfl, q'⟩ := z
  obtain rfl : r = Value.bool b := rv
  refine ⟨.bl b, H', I', rfl, ?_⟩
  simpa using q'
/-- x != y by the same -/
theorem op_neO (F : FnOk X.prog X.w X.K X.mg X.base CX n f fd ps sp) (c : OwnAt X.K C f "__eq__") (hne : PySem.W.findIn X.K (.ref C) "__ne__" = some (some (.builtin "object.__ne__"))) (ho : PySem.W.subIn X.K (.ref C) (.type "object") = some true)
    (hb : Binds X.K fd ps []) (hx : Passes CX X E) (hr : Room (n + 1) X.A) : OpR X (compareOp .NotEq) (rEqO X C sp E true) := by
  intro pins s σ H x y v u Q I rx ry hq
  obtain ⟨a, d, fs, tb, rfl, ha, ht, hn, q⟩ := hq
  obtain rfl : v = Value.ref a := rx
  obtain ⟨mA, J, _⟩ := ins_get I.hok ha
  obtain ⟨od, J, _⟩ := J.look
  obtain ⟨m, hF⟩ := I.fr
  have sb : Sub X (n + 1) X.A := ⟨hr, rfl⟩
  show wpAny (model X.prog X.w) X.A (richCompare .NotEq (.ref a) u) _ _ _
  refine ne_KO (tb := tb) hr.in1.units0 hF I.ok.mod.kin J (ht pins s σ u I ry) hn hne ho c.find c.fn (wpAny_mono (call_fnO F hb hx sb.in1 I (vs := [.ref a, y]) (.cons rfl (.cons ry .nil)) q) (fun r s' z => ?_) fun _ _ e => e)
  obtain ⟨v', H', I', rv, b, rfl, q'⟩ := z
  obtain rfl : r = Value.bool b := rv
  refine ⟨b, rfl, .bl (!b), H', I', rfl, ?_⟩
  simpa using q'

/-- len(c), c an instance with a __len__ of its own -/
def rLenO (C : Addr) (sp : Sp) (E : XK) : List V → Hp → VK → Prop := fun xs H Q => ∃ a d fs, xs = [.ref a] ∧ H a = some (.ins C d fs) ∧ sp [.ref a] H (fun r H' => ∃ i : Int, r = .int i ∧ 0 ≤ i ∧ i < 2 ^ 63 ∧ Q (.int i) H') E
theorem cr_lenO (F : FnOk X.prog X.w X.K X.mg X.base CX n f fd ps sp) (c : OwnAt X.K C f "__len__") (hb : Binds X.K fd ps []) (hx : Passes CX X E) (hr : Room (n + 1) X.A) : CallR X (.builtin "len") (rLenO C sp E) := by
  intro pins s σ H xs us Q I rs hq
  obtain ⟨a, d, fs, rfl, ha, q⟩ := hq
  cases rs with
  | cons r0 rs =>
    cases rs
    rename_i u
    obtain rfl : u = Value.ref a := r0
    obtain ⟨mA, J, _⟩ := ins_get I.hok ha
    obtain ⟨od, J, _⟩ := J.look
    obtain ⟨m, hF⟩ := I.fr
    have sb : Sub X (n + 1) X.A := ⟨hr, rfl⟩
    refine PySem.W.len_K hF I.ok.mod.kin J c.find c.fn (wpAny_mono (call_fnO F hb hx sb.in1 I (vs := [.ref a]) (.cons rfl .nil) q) (fun r s' z => ?_) fun _ _ e => e)
    obtain ⟨v', H', I', rv, i, rfl, h0, h1, q'⟩ := z
    obtain ⟨t, rfl⟩ := rv
    exact ⟨⟨h0, h1⟩, .int i, H', I'.tok _, ⟨_, rfl⟩, q'⟩

/-- str(c), c an instance with a __str__ of its own -/
def rStrO (C : Addr) (sp : Sp) (E : XK) : List V → Hp → VK → Prop := fun xs H Q => ∃ a d fs, xs = [.ref a] ∧ H a = some (.ins C d fs) ∧ sp [.ref a] H (fun r H' => ∃ z : Str, r = .str z ∧ Q (.str z) H') E
theorem cr_strO (F : FnOk X.prog X.w X.K X.mg X.base CX n f fd ps sp) (c : OwnAt X.K C f "__str__") (hb : Binds X.K fd ps []) (hx : Passes CX X E) (hr : Room (n + 2) X.A) : CallR X (.type "str") (rStrO C sp E) := by
  intro pins s σ H xs us Q I rs hq
  obtain ⟨a, d, fs, rfl, ha, q⟩ := hq
  cases rs with
  | cons r0 rs =>
    cases rs
    rename_i u
    obtain rfl : u = Value.ref a := r0
    obtain ⟨mA, J, _⟩ := ins_get I.hok ha
    obtain ⟨od, J, _⟩ := J.look
    obtain ⟨m, hF⟩ := I.fr
    have sb : Sub X (n + 2) X.A := ⟨hr, rfl⟩
    refine PySem.W.kso_call (A := X.A) hr.in1.in1.units0 (I.ok.mod.kin.keeps hF.keep) J c.find c.fn (wpAny_mono (call_fnO F hb hx (sb.in1 (n := n + 1)).in1 I (vs := [.ref a]) (.cons rfl .nil) q) (fun r s' z => ?_) fun _ _ e => e)
    obtain ⟨v', H', I', rv, y, rfl, q'⟩ := z
    obtain ⟨t, rfl⟩ := rv
    exact ⟨.str y, H', I', ⟨_, rfl⟩, q'⟩

/-- c[i], c an instance with a __getitem__ of its own -/
def rIxO (C : Addr) (sp : Sp) (E : XK) : R2 := fun x y H Q => ∃ a d fs, x = .ref a ∧ H a = some (.ins C d fs) ∧ sp [.ref a, y] H Q E
theorem pe_ixO {a b : Expr} {ta tb : TE} {pos : Pos} (ha : PE X a ta) (hb' : PE X b tb) (F : FnOk X.prog X.w X.K X.mg X.base CX n f fd ps sp) (c : OwnAt X.K C f "__getitem__") (hf : PySem.W.fnIn X.K f = true) (hb : Binds X.K fd ps []) (hx : Passes CX X E) (hr : Room (n + 1) X.A)
    (hs : ∀ o i, subscripted b true o i = runValue (.builtin "lifetime.subscript" ⟨[o, i], []⟩) := by intros; rfl) : PE X (.Subscript a b pos) (tOp (rIxO C sp E) ta tb) := by
  refine ⟨fun pins s σ H Q I h => ?_⟩
  refine Subscript_ (binT ha hb' I h fun v u s2 x y H2 I2 rx ry q => ?_)
  obtain ⟨a', d, fs, rfl, ha', q⟩ := q
  obtain rfl : v = Value.ref a' := rx
  obtain ⟨mA, J, _⟩ := ins_get I2.hok ha'
  obtain ⟨od, J, _⟩ := J.look
  obtain ⟨m, hF⟩ := I2.fr
  have sb : Sub X (n + 1) X.A := ⟨hr, rfl⟩
  exact PySem.W.sub_K hF I2.ok.mod.kin J c.find hf c.fn (call_fnO F hb hx sb.in1 I2 (vs := [.ref a', y]) (.cons rfl (.cons ry .nil)) q) (hs _ _)

/-- x op y, both instances of the class, whose own def tells an object -/
def rBinO (C : Addr) (sp : Sp) (E : XK) : R2 := fun x y H Q => ∃ a b d e fs gs, x = .ref a ∧ y = .ref b ∧ H a = some (.ins C d fs) ∧ H b = some (.ins C e gs) ∧ sp [.ref a, .ref b] H (fun r H' => ∃ z, r = .ref z ∧ Q (.ref z) H') E
theorem op_binO {op : Operator} (F : FnOk X.prog X.w X.K X.mg X.base CX n f fd ps sp) (c : OwnAt X.K C f (PySem.dunder op.info.2)) (hc : PySem.W.selfFirst X.K C = true) (hb : Binds X.K fd ps []) (hx : Passes CX X E) (hr : Room n X.A) : OpR X (binaryOp op) (rBinO C sp E) := by
  intro pins s σ H x y v u Q I rx ry hq
  obtain ⟨a, b, d, e, fs, gs, rfl, rfl, ha, hb', q⟩ := hq
  obtain rfl : v = Value.ref a := rx
  obtain rfl : u = Value.ref b := ry
  obtain ⟨mA, J, _⟩ := ins_get I.hok ha
  obtain ⟨od, J, _⟩ := J.look
  obtain ⟨mB, J', _⟩ := ins_get I.hok hb'
  obtain ⟨od', J', _⟩ := J'.look
  obtain ⟨m, hF⟩ := I.fr
  refine PySem.W.binop_K hF I.ok.mod.kin J J'.type hc c.find c.fn (wpAny_mono (call_fnO F hb hx ⟨hr, rfl⟩ I (vs := [.ref a, .ref b]) (.cons rfl (.cons rfl .nil)) q) (fun r s' z => ?_) fun _ _ e => e)
  obtain ⟨v', H', I', rv, z, rfl, q'⟩ := z
  obtain rfl : r = Value.ref z := rv
  exact ⟨.ref z, H', I', rfl, q'⟩
end
end Gl

/-! == and != by an own __eq__, the right side's type told without the frame (for comprehensions). -/
namespace Gl
open PySem PySem.Spec PyProof.Rows L2
inductive TyK (K : PySem.W.Frag) (H : Hp) : V → Value → Prop
  | non : TyK K H .non (.type "NoneType")
  | bl (b : Bool) : TyK K H (.bl b) (.type "bool")
  | int (i : Int) : TyK K H (.int i) (.type "int")
  | str (x : Str) : TyK K H (.str x) (.type "str")
  | tup {a : Addr} {xs : List V} : SqT K H a xs → TyK K H (.ref a) (.type "tuple")
  | ins {a d C : Addr} {fs : List (Str × V)} : H a = some (.ins C d fs) → TyK K H (.ref a) (.ref C)
theorem TyK.o {X : Cx} {H : Hp} {y : V} {tb : Value} (h : TyK X.K H y tb) : TyO X y tb H := by
  cases h with
  | non => exact .non
  | bl b => exact .bl
  | int i => exact .int
  | str x => exact .str
  | tup h => exact .tup h
  | ins h => exact .ins h
def rEqK (K : PySem.W.Frag) (C : Addr) (sp : Sp) (E : XK) (neg : Bool) : R2 := fun x y H Q => ∃ a d fs tb, x = .ref a ∧ H a = some (.ins C d fs) ∧ TyK K H y tb ∧ PySem.W.notFirst K C tb = true ∧
  sp [.ref a, y] H (fun r H' => ∃ b, r = .bl b ∧ Q (.bl (xor neg b)) H') E
section
variable {X : Cx} {CX : CXT} {C f : Addr} {n : Nat} {fd : FuncData} {ps : List Str} {sp : Sp} {E : XK}
theorem op_eqK (F : FnOk X.prog X.w X.K X.mg X.base CX n f fd ps sp) (c : OwnAt X.K C f "__eq__") (hb : Binds X.K fd ps []) (hx : Passes CX X E) (hr : Room n X.A) : OpR X (compareOp .Eq) (rEqK X.K C sp E false) := by
  intro pins s σ H x y v u Q I rx ry hq
  obtain ⟨a, d, fs, tb, e, ha, ht, hn, q⟩ := hq
  exact op_eqO F c hb hx hr pins s σ H x y v u Q I rx ry ⟨a, d, fs, tb, e, ha, ht.o, hn, q⟩
theorem op_neK (F : FnOk X.prog X.w X.K X.mg X.base CX n f fd ps sp) (c : OwnAt X.K C f "__eq__") (hne : PySem.W.findIn X.K (.ref C) "__ne__" = some (some (.builtin "object.__ne__"))) (ho : PySem.W.subIn X.K (.ref C) (.type "object") = some true)
    (hb : Binds X.K fd ps []) (hx : Passes CX X E) (hr : Room (n + 1) X.A) : OpR X (compareOp .NotEq) (rEqK X.K C sp E true) := by
  intro pins s σ H x y v u Q I rx ry hq
  obtain ⟨a, d, fs, tb, e, ha, ht, hn, q⟩ := hq
  exact op_neO F c hne ho hb hx hr pins s σ H x y v u Q I rx ry ⟨a, d, fs, tb, e, ha, ht.o, hn, q⟩
end
end Gl

/-! enumerate(a tuple) -/
namespace Gl
open PySem PySem.Spec PyProof.Rows L2
open Sem (wp)
open AutoSeq1 (wpAny_loadPart')
theorem enum_newB {v : Value} {o : Obj} {G : Heap → Prop} (B : Begins v o G) : Meets (Builtin.«enumerate.__new__» ⟨[.type "enumerate", v], []⟩) (fun _ R s => G s.heap ∧
      R (.ok (.ret (.ref (s.heap.push o).objs.size))) { s with heap := (s.heap.push o).push { cls := .type "enumerate", data := .fields #[.none, .bool false, .ref s.heap.objs.size, rawInt 0, .none, .none] } }) :=
  .of_wp fun P w A R s h => by
    obtain ⟨m, g, d, tk, os⟩ := s
    obtain ⟨hl, h⟩ := h
    have sub := sub_enumerate
    have begin_ : ∀ {A : Around} {E : Value → Shared → Prop} {Q : Value → Shared → Prop}, Q (.ref m.objs.size) ⟨m.push o, g, d, tk, os⟩ → wpAny (model P w) A (pyIter v) Q E ⟨m, g, d, tk, os⟩ := fun q => B.iter P w _ _ ⟨m, g, d, tk, os⟩ _ hl q
    wp_walk
    refine wpAny_stack_any fun st => wpAny_pure ?_
    split
    · rename_i c _ _ _ _ _
      cases (c == Value.type "enumerate") <;> (wp_walk using begin_; exact ⟨_, rfl, h⟩)
    · wp_walk using begin_
      exact ⟨_, rfl, h⟩
section
variable {P : Program} {w : World} {A : Around} {E : Value → Shared → Prop} {s : Shared}
theorem enum_call {v : Value} {o : Obj} {G : Heap → Prop} {Q : Value → Shared → Prop} (B : Begins v o G) (hl : G s.heap)
    (h : ∀ m, IsEnum m (s.heap.objs.size + 1) s.heap.objs.size 0 .none → m.get? s.heap.objs.size = some o → m.objs.size = s.heap.objs.size + 2 →
      (∀ b u, s.heap.get? b = some u → m.get? b = some u) → Q (.ref (s.heap.objs.size + 1)) { s with heap := m }) :
    wpAny (model P w) A (call (.type "enumerate") [v]) Q E s := by
  have go := callType_new (prog := P) (w := w) (A := A) (E := E) (s := s) (Q := Q) F.called_enumerate (by decide) (F.typeCall_enumerate_1 v) (F.newCall_enumerate_1 v) (fun x => F.args_object_init_2 x _) F.entry_enumerate_new (enum_newB B)
  have hz : (s.heap.push o).objs.size = s.heap.objs.size + 1 := Heap.size_push ..
  refine go ⟨hl, ?_⟩
  rw [hz]
  have e1 := Heap.get?_push_size (s.heap.push o) (o := { cls := .type "enumerate", data := .fields #[.none, .bool false, .ref s.heap.objs.size, rawInt 0, .none, .none] }) rfl
  rw [hz] at e1
  exact ⟨⟨_, e1, rfl⟩, h _ e1 (Heap.get?_push_of_some _ (Heap.get?_push_size _ B.free)) (by rw [Heap.size_push, hz]) fun b u x => Heap.get?_push_of_some _ (Heap.get?_push_of_some _ x)⟩
end
/-- the tuple at a, each item in a new pair -/
def IteT (K : PySem.W.Frag) (a : Addr) : It :=
  ⟨fun i H => ∃ (xs : List V) (x : V), SqT K H a xs ∧ xs[i]? = some x, fun i H v H' => ∃ T x, v = .ref T ∧ H T = none ∧ H' = upd H T (.tup [.int (i : Nat), x]) ∧ ∀ xs, SqT K H a xs → xs[i]? = some x, fun i H => ∃ xs : List V, SqT K H a xs ∧ xs.length ≤ i⟩
theorem turn_enumT {P : Program} {w : World} {K : PySem.W.Frag} {elts : List Expr} {kk : Nat} {tpos : Pos} (a e it : Addr) :
    Turn P w K (.Tuple elts kk tpos) (IteT K a) [e, it] e (fun i h => (∃ old, IsEnum h e it ((i : Nat) : Int) old) ∧ h.IsTupleIter it a i ∧ e ≠ it ∧ a ≠ it ∧ e ≠ a) where
  mem := by simp
  obj := fun i h st b hb => by
    obtain ⟨⟨old, he⟩, ⟨o, ho, hc, hd⟩, _⟩ := st
    rcases (show b = e ∨ b = it by simpa using hb) with rfl | rfl
    · exact ⟨_, he, fun v q => nomatch q⟩
    · exact ⟨o, ho, fun v q => by rw [hd] at q; cases q⟩
  keep := fun i h h' st k => let ⟨⟨old, he⟩, hi, hne⟩ := st; ⟨⟨old, k e (by simp) _ he⟩, hi.at fun o q => k it (by simp) o q, hne⟩
  item := by
    intro X hP hw hK hc i pins s σ H E I hf st hg
    subst hP hw hK
    obtain ⟨⟨old, he⟩, hit, hne, hai, hea⟩ := st
    obtain ⟨xs, x, hq, hx⟩ := hg
    obtain ⟨its, rv, p, hz⟩ := I.tuple hq
    obtain ⟨u, hu, ru⟩ := rv.get hx
    have hel : e < s.heap.objs.size := Heap.lt_size he
    have hil : it < s.heap.objs.size := let ⟨_, q, _⟩ := hit; Heap.lt_size q
    have D := Draws.tuple (prog := X.prog) (w := X.w) (A := X.A.in1) (I.ok.hd hc) it a hai its.toArray
    have p' : s.heap.IsTuple a its.toArray := p
    have lt : i < its.toArray.size := by
      have := (List.getElem?_eq_some_iff.mp hu).1
      simpa using this
    refine wpAny_pyNext_enum_itemD D he ⟨hit, p'⟩ lt hne (by simp [hne, hea]) fun y h' tk hy ho hst' hT hsz hk => ?_
    obtain rfl : u = y := by
      have hy' : its[i]? = some y := by simpa using hy
      exact Option.some.inj (hu.symm.trans hy')
    refine ⟨_, rfl, wpAny_letOwnedTupleGo_enum (s := { s with heap := h', toks := tk + 1 }) ho fun h'' he' sb => ?_⟩
    have hT2 : h''.get? s.heap.objs.size = some { cls := .type "tuple", data := .seq #[.int i tk, u] } := (sb.2 _ (Nat.ne_of_gt hel)).trans hT
    have new : ObjOk X.prog X.w (upd H s.heap.objs.size (.tup [.int (i : Nat), x])) h'' s.heap.objs.size (.tup [.int (i : Nat), x]) :=
      ⟨by show 2 ≤ sizeLine; decide, [.int i tk, u], .cons ⟨_, rfl⟩ (.cons ru .nil), ⟨_, hT2, rfl, _, rfl⟩⟩
    have I1 : Inv X pins σ (upd H s.heap.objs.size (.tup [.int (i : Nat), x])) { s with heap := h'', toks := tk + 1 } :=
      I.turnedNew (ch := [e, it]) (t' := tk + 1) (fun b ob hb q => (sb.2 b (fun z => hb (by simp [z]))).trans (hk b ob (fun z => hb (by simp [z])) (fun z => hb (by simp [z])) q)) hf (Nat.le_refl _) new
    refine ⟨.ref s.heap.objs.size, _, I1, rfl, ⟨_, x, rfl, I.hok.fresh (Nat.le_refl _), rfl, fun ys hy => by rw [I.tuple_inj hy hq]; exact hx⟩, ⟨⟨u, ?_⟩, hst'.1.at fun o q => (sb.2 it (Ne.symm hne)).trans q, hne, hai, hea⟩, fun b hb => ?_⟩
    · rw [show ((i + 1 : Nat) : Int) = (i : Int) + 1 by omega]
      exact he'
    · have lb : b < s.heap.objs.size := by
        rcases (show b = e ∨ b = it by simpa using hb) with rfl | rfl
        · exact hel
        · exact hil
      rw [upd_ne (Nat.ne_of_lt lb)]
      exact (hf b hb).1
  done := by
    intro X hP hw hK hc i pins s σ H E I hf st hg
    subst hP hw hK
    obtain ⟨⟨old, he⟩, hit, hne, hai, hea⟩ := st
    obtain ⟨xs, hq, hx⟩ := hg
    obtain ⟨its, rv, p, hz⟩ := I.tuple hq
    obtain ⟨f0, f1, f2, f3, f4, f5⟩ := hf it (by simp)
    have hl := rv.length
    have p' : s.heap.IsTuple a its.toArray := p
    have D := Draws.tuple (prog := X.prog) (w := X.w) (A := X.A.in1) (I.ok.hd hc) it a hai its.toArray
    have hT : s.TypeIs (.ref e) "enumerate" := ⟨_, he, rfl⟩
    unfold pyNext
    refine wpAny_bind (wpAny_attempt (wpAny_callSpecial?_slot (name := Str.ofString "__next__") hT F.slot_enumerate_next (wpAny_call_entry F.slot_enumerate_next hT F.entry_enumerate_next ?_ (F.args_enumerate_next_1 _))))
    show wpAny _ _ (field (.ref e) 2 >>= _) _ _ _
    refine wpAny_bind (wpAny_field he rfl (x := .ref it) rfl ?_)
    refine wpAny_bind (wpAny_nextOf_tuple_end (I.ok.hd hc) hit p' (by rw [List.getElem?_toArray]; exact List.getElem?_eq_none (by omega)) fun h' x he' hx' => ?_)
    obtain ⟨o, ho, hc'⟩ := hx'
    refine wpAny_bind (wpAny_isInstance (T := "StopIteration") (b := true) ⟨o, ho, hc'⟩ isSubtype_stop ?_)
    exact wpAny_pure ⟨rfl, I.turned (t' := s.toks) (fun b o hb q => he' b o hb q) f0 f1 f3 f4 f5⟩
  self := fun A i s Q E st h => let ⟨⟨_, he⟩, _⟩ := st; wpAny_pyIter_enum he h
def iEnumT (K : PySem.W.Frag) (ta : TA) : TI := fun σ H R => ta σ H fun vs H1 => ∃ a xs, vs = [.ref a] ∧ SqT K H1 a xs ∧ R (IteT K a) H1
theorem pi_enumT {X : Cx} {e : Expr} {ta : TA} {p pos tpos : Pos} {elts : List Expr} {kk : Nat} (hg : Gl X "enumerate") (hm : X.mg "enumerate" = none) (ha : PA X [e] ta) (hs : starEach [e] X.env = [(false, eval e X.env)] := by rfl) :
    PI X (.Tuple elts kk tpos) (.Call (.Name "enumerate" p) [e] [] pos) (iEnumT X.K ta) := by
  refine ⟨fun pins s σ H R I h => ?_⟩
  refine Call_ (ld_blt I hg hm boot_enumerate (PyProof.Rows.callWith_type1 (thn (ha.run pos pins s σ H _ I h) fun us s1 ⟨vs, H1, I1, r1, a, xs, ex, hq, q⟩ => ?_) hs rfl))
  subst ex
  obtain ⟨u, rfl, r⟩ := vals1 r1
  obtain rfl : u = Value.ref a := r
  obtain ⟨its, rv, p', hz⟩ := I1.tuple hq
  have pt : s1.heap.IsTuple a its.toArray := p'
  have al : a < s1.heap.objs.size := let ⟨_, z, _⟩ := pt; Heap.lt_size z
  refine enum_call (begins_tuple a its.toArray) pt fun h' he hit hsz hk => wpAny_pyIter_enum he ?_
  have I2 : Inv X pins σ H1 { s1 with heap := h' } := I1.kept (t' := s1.toks) hk
  refine ⟨s1.heap.objs.size + 1, [s1.heap.objs.size + 1, s1.heap.objs.size], _, _, H1, rfl, I2, turn_enumT a (s1.heap.objs.size + 1) s1.heap.objs.size, ⟨⟨.none, he⟩, ⟨_, hit, rfl, rfl⟩, Nat.succ_ne_self _, Nat.ne_of_lt al, Nat.ne_of_gt (Nat.lt_succ_of_lt al)⟩, fun b hb => ?_, q⟩
  have le : s1.heap.objs.size ≤ b := by
    rcases (show b = s1.heap.objs.size + 1 ∨ b = s1.heap.objs.size by simpa using hb) with rfl | rfl
    · exact Nat.le_succ _
    · exact Nat.le_refl _
  exact I1.fpOk le (I1.hok.fresh le)
end Gl
namespace Gl
open PySem PySem.Spec PyProof.Rows L2
theorem for_enumT {K : PySem.W.Frag} {a : Addr} {xs : List V} {g : TG} {tb : TS} {D : Ends} {σ : L2.St} {H : Hp} (Pv : Nat → L2.St → Hp → Prop) (h0 : Pv 0 σ H) (hl : ∀ i σ H, i ≤ xs.length → Pv i σ H → SqT K H a xs)
    (hs : ∀ i x σ H T, xs[i]? = some x → Pv i σ H → H T = none → g (.ref T) σ (upd H T (.tup [.int (i : Nat), x])) fun σ2 H2 => tb { D with nx := Pv (i + 1), ct := Pv (i + 1), bk := D.nx } σ2 H2) (hd : ∀ σ H, Pv xs.length σ H → D.nx σ H) :
    ∃ W : Nat → Nat → L2.St → Hp → Prop, (∃ m, W 0 m σ H) ∧ ∀ i m σ H, W i m σ H →
      ((IteT K a).stop i H ∧ D.nx σ H) ∨ ((IteT K a).go i H ∧ ∃ N : L2.St → Hp → Prop, (∀ σ' H', N σ' H' → ∃ m', m' < m ∧ W (i + 1) m' σ' H') ∧ ∀ x H', (IteT K a).yld i H x H' → g x σ H' fun σ2 H2 => tb { D with nx := N, ct := N, bk := D.nx } σ2 H2) := by
  refine ⟨fun i m σ H => m + i = xs.length ∧ Pv i σ H, ⟨xs.length, rfl, h0⟩, fun i m σ H h => ?_⟩
  obtain ⟨e, p⟩ := h
  have q := hl i σ H (by omega) p
  by_cases lt : i < xs.length
  · refine .inr ⟨⟨xs, xs[i], q, List.getElem?_eq_getElem lt⟩, Pv (i + 1), fun σ' H' p' => ⟨m - 1, by omega, by omega, p'⟩, ?_⟩
    rintro v H' ⟨T, x, rfl, nT, rfl, hx⟩
    exact hs i x σ H T (hx xs q) p nT
  · have : i = xs.length := by omega
    subst this
    exact .inl ⟨⟨xs, q, Nat.le_refl _⟩, hd σ H p⟩
theorem for_enumL {K : PySem.W.Frag} {a : Addr} {xs : List V} {g : TG} {tb : TS} {D : Ends} {σ : L2.St} {H : Hp} (Pv : Nat → L2.St → Hp → Prop) (h0 : Pv 0 σ H) (hl : ∀ i σ H, i ≤ xs.length → Pv i σ H → SqL K H a xs)
    (hs : ∀ i x σ H T, xs[i]? = some x → Pv i σ H → H T = none → g (.ref T) σ (upd H T (.tup [.int (i : Nat), x])) fun σ2 H2 => tb { D with nx := Pv (i + 1), ct := Pv (i + 1), bk := D.nx } σ2 H2) (hd : ∀ σ H, Pv xs.length σ H → D.nx σ H) :
    ∃ W : Nat → Nat → L2.St → Hp → Prop, (∃ m, W 0 m σ H) ∧ ∀ i m σ H, W i m σ H →
      ((Ite K a).stop i H ∧ D.nx σ H) ∨ ((Ite K a).go i H ∧ ∃ N : L2.St → Hp → Prop, (∀ σ' H', N σ' H' → ∃ m', m' < m ∧ W (i + 1) m' σ' H') ∧ ∀ x H', (Ite K a).yld i H x H' → g x σ H' fun σ2 H2 => tb { D with nx := N, ct := N, bk := D.nx } σ2 H2) := by
  refine ⟨fun i m σ H => m + i = xs.length ∧ Pv i σ H, ⟨xs.length, rfl, h0⟩, fun i m σ H h => ?_⟩
  obtain ⟨e, p⟩ := h
  have q := hl i σ H (by omega) p
  by_cases lt : i < xs.length
  · refine .inr ⟨⟨xs, xs[i], q, List.getElem?_eq_getElem lt⟩, Pv (i + 1), fun σ' H' p' => ⟨m - 1, by omega, by omega, p'⟩, ?_⟩
    rintro v H' ⟨T, x, rfl, nT, rfl, hx⟩
    exact hs i x σ H T (hx xs q) p nT
  · have : i = xs.length := by omega
    subst this
    exact .inl ⟨⟨xs, q, Nat.le_refl _⟩, hd σ H p⟩
end Gl

namespace Gl
open PySem PySem.Spec PyProof.Rows L2
/-- a op b op' c op'' d -/
def tChain3 (r r' r2 : R2) (ta tb tc td : TE) : TE := fun σ H Q => ta σ H fun x H1 => tb σ H1 fun y H2 => r x y H2 fun z H3 => ∃ k, z = .bl k ∧
  (if k = true then tc σ H3 fun w' H4 => r' y w' H4 fun z' H5 => ∃ k', z' = .bl k' ∧ (if k' = true then td σ H5 fun x' H6 => r2 w' x' H6 Q else Q (.bl false) H5) else Q (.bl false) H3)
section
variable {X : Cx} {a b c d : Expr} {ta tb tc td : TE} {pos : Pos}
theorem pe_chain3 {op op' op2 : CmpOp} {r r' r2 : R2} (ho : OpR X (compareOp op) r) (ho' : OpR X (compareOp op') r') (ho2 : OpR X (compareOp op2) r2) (ha : PE X a ta) (hb : PE X b tb) (hc : PE X c tc) (hd : PE X d td)
    (hm : lastMarks [op, op', op2] [b, c, d] = false := by with_unfolding_all rfl) : PE X (.Compare a [op, op', op2] [b, c, d] pos) (tChain3 r r' r2 ta tb tc td) := by
  refine ⟨fun pins s σ H Q I h => ?_⟩
  refine Compare_chain (thn (ha.run pins s σ H _ I h) fun v s1 ⟨x, H1, I1, r1, q1⟩ => chain_link (thn (hb.run pins s1 σ H1 _ I1 q1) fun u s2 ⟨y, H2, I2, rr2, q2⟩ =>
    thn (ho pins s2 σ H2 x y v u _ I2 r1 rr2 q2) fun e s3 ⟨z, H3, I3, r3, k, ez, q3⟩ => ?_)) hm
  subst ez
  cases r3
  refine wpAny_truthy_bool ?_
  cases k with
  | false => exact ite_ff ⟨.bl false, H3, I3, rfl, q3⟩
  | true =>
    refine ite_tt (chain_link (thn (hc.run pins s3 σ H3 _ I3 q3) fun w' s4 ⟨z', H4, I4, r4, q4⟩ => thn (ho' pins s4 σ H4 y z' u w' _ I4 rr2 r4 q4) fun e' s5 ⟨z2, H5, I5, r5, k', ez', q5⟩ => ?_))
    subst ez'
    cases r5
    refine wpAny_truthy_bool ?_
    cases k' with
    | false => exact ite_ff ⟨.bl false, H5, I5, rfl, q5⟩
    | true => exact ite_tt (chain_last (thn (hd.run pins s5 σ H5 _ I5 q5) fun w2 s6 ⟨z3, H6, I6, r6, q6⟩ => ho2 pins s6 σ H6 z' z3 w' w2 Q I6 r4 r6 q6))
end
end Gl

namespace Gl
open PySem PySem.Spec PyProof.Rows L2 HT
theorem adjust_rev (n : Nat) : Builtin.Slice.sliceAdjust none none (-1) (n : Int) = ((n : Int) - 1, -1) := by
  unfold Builtin.Slice.sliceAdjust
  have h1 : ((-1 : Int) < 0) := by omega
  simp only [h1, if_true]
theorem places_rev (n : Nat) : Builtin.Slice.slicePlaces ((n : Int) - 1) (-1) (-1) = n := by
  unfold Builtin.Slice.slicePlaces
  have h1 : ¬ ((-1 : Int) > 0) := by omega
  simp only [h1, if_false]
  rw [show (- -1 : Int) = 1 by decide, Int.ediv_one]
  split <;> omega
theorem pick_rev (xs : Array Value) : ((List.range xs.size).filterMap fun (m : Nat) => xs[(((xs.size : Int) - 1) + (m : Int) * (-1)).toNat]?).toArray = xs.toList.reverse.toArray := by
  have e : (fun (m : Nat) => xs[(((xs.size : Int) - 1) + (m : Int) * (-1)).toNat]?) = (fun i => xs[i]?) ∘ fun (m : Nat) => (((xs.size : Int) - 1) + (m : Int) * (-1)).toNat := rfl
  rw [e, ← List.filterMap_map]
  have e2 : (List.range xs.size).map (fun (m : Nat) => (((xs.size : Int) - 1) + (m : Int) * (-1)).toNat) = (List.range xs.size).reverse := by
    refine Eq.trans (List.map_congr_left fun m hm => ?_) (PySem.W.krv_range xs.size)
    have := List.mem_range.mp hm
    omega
  rw [e2, List.filterMap_reverse, PySem.W.krv_all]
section
variable {prog : Program} {w : World} {A : Around} {E : Value → Shared → Prop} {s : Shared}
theorem sliceApplied_rev {sl : Addr} {vl vu vs : Value} {n : Nat} {Q : Int × Int × Nat → Shared → Prop} (hs : s.heap.IsSliceOf sl vl vu vs) (pl : IsPart vl none) (pu : IsPart vu none) (ps : IsPart vs (some (-1)))
    (h : Q ((n : Int) - 1, -1, n) s) : wpAny (model prog w) A (Builtin.Slice.sliceApplied (.ref sl) (pure (n : Int))) Q E s := by
  obtain ⟨os, hos, hcs, hds⟩ := id hs
  unfold Builtin.Slice.sliceApplied Builtin.Slice.sliceFields
  refine wpAny_bind (wpAny_bind (wpAny_field hos hds (x := vl) rfl (wpAny_bind (wpAny_field hos hds (x := vu) rfl (wpAny_bind (wpAny_field hos hds (x := vs) rfl (wpAny_pure ?_)))))))
  refine wpAny_bind (slicePart_ ps ?_)
  show wpAny _ _ (if ((-1 : Int) == 0) = true then _ else _) _ _ s
  rw [if_neg (by decide)]
  refine wpAny_bind (slicePart_ pl (wpAny_bind (slicePart_ pu (wpAny_bind (wpAny_pure ?_)))))
  show wpAny _ _ (match Builtin.Slice.sliceAdjust none none (-1) (n : Int) with | (lo, hi) => pure (lo, (-1 : Int), Builtin.Slice.slicePlaces lo hi (-1))) _ _ s
  rw [adjust_rev n]
  show wpAny _ _ (pure ((n : Int) - 1, (-1 : Int), Builtin.Slice.slicePlaces ((n : Int) - 1) (-1) (-1))) _ _ s
  rw [places_rev]
  exact wpAny_pure h
theorem getItem_tuple_rev {t sl : Addr} {items : Array Value} {vl vu vs : Value} {Q : Value → Shared → Prop} (ht : IsTup s.heap t items) (hs : s.heap.IsSliceOf sl vl vu vs) (pl : IsPart vl none) (pu : IsPart vu none) (ps : IsPart vs (some (-1)))
    (h : Q (.ref s.heap.objs.size) { s with heap := s.heap.push { cls := .type "tuple", data := .seq items.toList.reverse.toArray } })
    (hsz : items.size ≤ sizeLine) : wpAny (model prog w) A (getItem (.ref t) (.ref sl)) Q E s := by
  have htake : sizeOk (.seq items.toList.reverse.toArray) := by
    show items.toList.reverse.toArray.size ≤ sizeLine
    rw [List.size_toArray, List.length_reverse, Array.length_toList]
    exact hsz
  obtain ⟨os, hos, hcs, hds⟩ := id hs
  have hTs : s.TypeIs (.ref sl) "slice" := ⟨os, hos, hcs⟩
  unfold getItem
  try with_reducible refine wpAny_holding ?_
  first | refine wpAny_bind (wpAny_pure ?_) | skip
  refine wpAny_bind (wpAny_sequenceKey ht.typeIs (by decide) ?_)
  refine wpAny_bind (wpAny_callSpecial?_slot (name := Str.ofString "__getitem__") ht.typeIs PyProof.Rows.slot_tuple_getitem
    (wpAny_call_entry PyProof.Rows.slot_tuple_getitem ht.typeIs entry_tuple_getitem ?_ (args_tuple_getitem _ _)))
  show wpAny _ _ (Builtin.Tuple.tupleItemsOf (.ref t) >>= _) _ _ s
  refine wpAny_bind (tupleItemsOf_ ht ?_)
  refine wpAny_bind (wpAny_typeOf hTs ?_)
  rw [if_pos (by decide)]
  refine wpAny_bind (sliceApplied_rev hs pl pu ps ?_)
  have hno : ¬ ((((items.size : Int) - 1) == 0 && (-1 : Int) == 1 && items.size == items.size) = true) := by
    rw [show ((-1 : Int) == 1) = false from rfl, Bool.and_false, Bool.false_and]
    exact Bool.false_ne_true
  show wpAny _ _ (if (((items.size : Int) - 1) == 0 && (-1 : Int) == 1 && items.size == items.size) = true then _ else _) _ _ s
  rw [if_neg hno, pick_rev]
  first
    | exact wpAny_bind (m := Builtin.Tuple.tupleExact _) (wpAny_newObj_type (wpAny_pure ⟨_, rfl, wpAny_pure h⟩) htake)
    | exact wpAny_bind (m := Builtin.Tuple.tupleExact _) (wpAny_newObj_type (wpAny_bind (wpAny_pure (wpAny_pure ⟨_, rfl, wpAny_pure h⟩))) htake)
    | exact wpAny_bind (wpAny_bind (m := Builtin.Tuple.tupleExact _) (wpAny_newObj_type (wpAny_pure (wpAny_pure ⟨_, rfl, wpAny_pure h⟩)) htake))
    | exact wpAny_bind (wpAny_bind (m := Builtin.Tuple.tupleExact _) (wpAny_newObj_type (wpAny_pure ⟨_, rfl, wpAny_pure h⟩) htake))
end
/-- t[::-1] -/
def tRevT (K : PySem.W.Frag) (te : TE) : TE := fun σ H Q => te σ H fun x H1 => ∃ a xs, x = .ref a ∧ SqT K H1 a xs ∧ ∀ p, H1 p = none → Q (.ref p) (upd H1 p (.tup xs.reverse))
section
variable {X : Cx}
theorem pe_revT {e : Expr} {te : TE} {k : Nat} {p1 p2 p3 pos : Pos} (he : PE X e te) : PE X (.Subscript e (.Slice none none (some (.UnaryOp .USub (.Constant (.int 1) k p1) p2)) p3) pos) (tRevT X.K te) := by
  refine ⟨fun pins s σ H Q I h => ?_⟩
  refine Subscript_ (thn (he.run pins s σ H _ I h) fun v s1 ⟨x, H1, I1, r1, q1⟩ => ?_)
  obtain ⟨a, xs, ex, hx, q⟩ := q1
  subst ex
  cases r1
  have hst : PO X (some (.UnaryOp .USub (.Constant (.int 1) k p1) p2)) (tPart (tUn (rU fun i => .int (-i)) (tC (.int 1)))) := po_some (pe_un un_neg pe_int)
  refine wpAny_Slice (thn (po_none.run pins s1 σ H1 (fun o H2 => o = none ∧ H2 = H1) I1 ⟨rfl, rfl⟩) fun vl s2 ⟨l, H2, I2, pl, el, e2⟩ => ?_)
  subst el e2
  refine thn (po_none.run pins s2 σ H2 (fun o H3 => o = none ∧ H3 = H2) I2 ⟨rfl, rfl⟩) fun vu s3 ⟨u, H3, I3, pu, eu, e3⟩ => ?_
  subst eu e3
  refine thn (hst.run pins s3 σ H3 (fun o H4 => o = some (-1) ∧ H4 = H3) I3 ⟨1, rfl, -1, rfl, rfl, rfl⟩) fun vs s4 ⟨o, H4, I4, ps, eo, e4⟩ => ?_
  subst eo e4
  have I5 : Inv X pins σ H4 { s4 with heap := s4.heap.push { cls := .type "slice", data := .fields #[vl, vu, vs] } } := I4.kept (t' := s4.toks) fun b ob q => Heap.get?_push_of_some _ q
  obtain ⟨its, r, ht, hz⟩ := I5.tuple hx
  have hlen := r.length
  show wpAny (model X.prog X.w) X.A (subscriptTail e (.Slice none none (some (.UnaryOp .USub (.Constant (.int 1) k p1) p2)) p3) (.ref a) (.ref s4.heap.objs.size)) (EP X pins σ Q) X.xe { s4 with heap := s4.heap.push { cls := .type "slice", data := .fields #[vl, vu, vs] } }
  refine tail_any (ops := [.ref a, .ref s4.heap.objs.size]) ht.typeIs (PyProof.Rows.slot_tuple_getitem.lookup) ?_ (by with_unfolding_all rfl)
  refine getItem_tuple_rev ht (Heap.IsSliceOf.new _ vl vu vs) pl pu ps ?_ (by rw [List.size_toArray]; omega)
  refine ⟨.ref _, _, I5.laid (t' := s4.toks) (o := .tup xs.reverse) (fun b ob q => Heap.get?_push_of_some _ q) (Nat.le_refl _) ?_, rfl, q _ (I5.hok.fresh (Nat.le_refl _))⟩
  exact ⟨by rw [List.length_reverse]; exact hz, _, r.reverse, IsTup.new _ _⟩
end
end Gl

namespace Gl
open PySem PySem.Spec PyProof.Rows L2
theorem text_small (s : String) : ∀ c ∈ (Str.ofString s).cps.toList, c < 16 ^ 8 := by
  intro c hc
  rw [Str.ofString_eq_toList] at hc
  have hc : c ∈ (s.toList.map Char.toNat) := hc
  obtain ⟨x, _, rfl⟩ := List.mem_map.mp hc
  have := x.valid
  have h : x.toNat < 1114112 := by
    rcases x.valid with h | h
    · exact Nat.lt_trans h (by decide)
    · exact h.2
  exact Nat.lt_trans h (by decide)
theorem text_wt {i : Int} (h : i.natAbs.log2 < 1920) : wt (.str (Str.ofString (toString i))) ≤ 19300 := by
  simp only [wt]
  have := PySem.StrLaws.reprText_len (Str.ofString (toString i)) (text_small _)
  have := int_text_len_1921 h
  omega
end Gl

namespace Gl
open PySem PySem.Spec PyProof.Rows L2
def topS (i : Nat) : Stmt := PySem.Challenge.pw_mostkept_k06_weights_and_amounts.main.body.getD i (.Pass ⟨0, 0, 0, 0⟩)
/-- what the dice are: a list of three ints -/
def Dice (H : Hp) (a : Addr) : Prop := ∃ x y z : Int, H a = some (.lst [.int x, .int y, .int z])
/-- all that stands stays -/
def Ex (H H' : Hp) : Prop := ∀ b o, H b = some o → H' b = some o
/-- all that stands stays, but the dice at a -/
structure Gro (a : Addr) (H H' : Hp) : Prop where
  st : ∀ b o, b ≠ a → H b = some o → H' b = some o
  di : Dice H' a
theorem Ex.refl (H : Hp) : Ex H H := fun _ _ e => e
theorem Ex.trans {H H1 H2 : Hp} (a : Ex H H1) (b : Ex H1 H2) : Ex H H2 := fun _ _ e => b _ _ (a _ _ e)
theorem Ex.new {H : Hp} {p : Addr} {o : HO} (h : H p = none) : Ex H (upd H p o) := fun b u e => by rw [upd_ne (ne_of_none e h)]; exact e
/-- an object that was not there may change -/
theorem Ex.mut {H H' : Hp} {p : Addr} {o : HO} (e : Ex H H') (h : H p = none) : Ex H (upd H' p o) := fun b u q => by rw [upd_ne (ne_of_none q h)]; exact e b u q
theorem Ex.sqL {K : PySem.W.Frag} {H H' : Hp} {a : Addr} {xs : List V} (e : Ex H H') (h : SqL K H a xs) : SqL K H' a xs := by
  rcases h with (h | ⟨o, h⟩) | h
  · exact .inl (.inl (e a _ h))
  · exact .inl (.inr ⟨o, e a _ h⟩)
  · exact .inr h
theorem Ex.rd {H H' : Hp} {a : Addr} {u : HO} (e : Ex H H') (h : Rd H a u) : Rd H' a u := by
  rcases h with h | ⟨o, h⟩
  · exact .inl (e a _ h)
  · exact .inr ⟨o, e a _ h⟩
theorem Ex.dice {H H' : Hp} {a : Addr} (e : Ex H H') (h : Dice H a) : Dice H' a := let ⟨x, y, z, q⟩ := h; ⟨x, y, z, e a _ q⟩
theorem Ex.back {H H' : Hp} {p : Addr} (e : Ex H H') (h : H' p = none) : H p = none := by
  rcases q : H p with _ | o
  · rfl
  · rw [e p o q] at h; exact nomatch h
theorem Gro.refl {H : Hp} {a : Addr} (d : Dice H a) : Gro a H H := ⟨fun _ _ _ e => e, d⟩
theorem Gro.trans {a : Addr} {H H1 H2 : Hp} (x : Gro a H H1) (y : Gro a H1 H2) : Gro a H H2 := ⟨fun b o n e => y.st b o n (x.st b o n e), y.di⟩
theorem Gro.ex {a : Addr} {H H1 H2 : Hp} (x : Gro a H H1) (y : Ex H1 H2) : Gro a H H2 := ⟨fun b o n e => y b o (x.st b o n e), y.dice x.di⟩
theorem Gro.of {a : Addr} {H H1 : Hp} (y : Ex H H1) (d : Dice H a) : Gro a H H1 := (Gro.refl d).ex y
theorem Gro.mut {a : Addr} {H H' : Hp} {p : Addr} {o : HO} (x : Gro a H H') (h : H p = none) (n : p ≠ a) : Gro a H (upd H' p o) :=
  ⟨fun b u nb e => by rw [upd_ne (ne_of_none e h)]; exact x.st b u nb e, let ⟨i, j, k, q⟩ := x.di; ⟨i, j, k, by rw [upd_ne n.symm]; exact q⟩⟩
theorem Gro.tup {a p : Addr} {H H' : Hp} {xs : List V} (x : Gro a H H') (d : Dice H a) (h : H p = some (.tup xs)) : H' p = some (.tup xs) :=
  x.st p _ (fun e => by obtain ⟨i, j, k, q⟩ := d; rw [e, q] at h; exact nomatch h) h
theorem Gro.rd {a p : Addr} {H H' : Hp} {xs : List V} (x : Gro a H H') (d : Dice H a) (h : Rd H p (.tup xs)) : Rd H' p (.tup xs) := by
  obtain ⟨i, j, k, q⟩ := d
  rcases h with h | ⟨o, h⟩
  · exact .inl (x.st p _ (fun e => by rw [e, q] at h; exact nomatch h) h)
  · exact .inr ⟨o, x.st p _ (fun e => by rw [e, q] at h; exact nomatch h) h⟩
theorem Gro.frz {a p : Addr} {H H' : Hp} {o : Obj} {u : HO} (x : Gro a H H') (d : Dice H a) (h : H p = some (.frz o u)) : H' p = some (.frz o u) := by
  obtain ⟨i, j, k, q⟩ := d
  exact x.st p _ (fun e => by rw [e, q] at h; exact nomatch h) h
theorem Gro.sqL {K : PySem.W.Frag} {a p : Addr} {H H' : Hp} {xs : List V} (x : Gro a H H') (n : p ≠ a) (h : SqL K H p xs) : SqL K H' p xs := by
  rcases h with (h | ⟨o, h⟩) | h
  · exact .inl (.inl (x.st p _ n h))
  · exact .inl (.inr ⟨o, x.st p _ n h⟩)
  · exact .inr h
theorem Gro.back {a p : Addr} {H H' : Hp} (x : Gro a H H') (d : Dice H a) (h : H' p = none) : H p = none ∧ p ≠ a := by
  have n : p ≠ a := fun e => by obtain ⟨i, j, k, q⟩ := x.di; rw [← e, h] at q; exact nomatch q
  refine ⟨?_, n⟩
  rcases q : H p with _ | o
  · rfl
  · rw [x.st p o n q] at h; exact nomatch h
theorem Dice.ne {H : Hp} {a p : Addr} (d : Dice H a) (h : H p = none) : p ≠ a := fun e => by obtain ⟨i, j, k, q⟩ := d; rw [← e, h] at q; exact nomatch q
/-- names that the module leaves to the built-ins -/
structure Blt (mg : Str → Option Value) : Prop where
  len : mg "len" = none
  int : mg "int" = none
  abs : mg "abs" = none
  max : mg "max" = none
  min : mg "min" = none
  range : mg "range" = none
  tuple : mg "tuple" = none
  list : mg "list" = none
  repr : mg "repr" = none
  zip : mg "zip" = none
  isinstance : mg "isinstance" = none
  all : mg "all" = none
  str : mg "str" = none
  bool : mg "bool" = none
end Gl

namespace Gl
open PySem PySem.Spec PyProof.Rows L2
abbrev sDice : Stmt := topS 16
abbrev sPull : Stmt := topS 17
abbrev sPick : Stmt := topS 18
theorem scDice : FnScope ["_law_script", "_law_at", "_law_cell", "_law_great", "_law_mixed"] ["_law_script", "_law_at"] (defScope sDice) := ⟨rfl, rfl, rfl, by decide +kernel, rfl, by decide +kernel, by decide +kernel⟩
theorem scPull : FnScope ["_law_dice_here", "_law_total", "_law_found", "_law_one", "_law_two"] ["_law_dice_here", "_law_total"] (defScope sPull) := ⟨rfl, rfl, rfl, by decide +kernel, rfl, by decide +kernel, by decide +kernel⟩
theorem scPick : FnScope ["_law_dice_here", "_law_items"] ["_law_dice_here", "_law_items"] (defScope sPick) := ⟨rfl, rfl, rfl, by decide +kernel, rfl, by decide +kernel, by decide +kernel⟩
section
variable {P : Program} {w : World} {K : PySem.W.Frag} {mg : Str → Option Value} {base : Heap}
def spDice (K : PySem.W.Frag) : Sp := fun vs H Q _ => ∃ (a : Addr) (ns : List Int) (at_ : Nat), vs = [.ref a, .int at_] ∧ SqL K H a (ns.map V.int) ∧ ns.length ≤ 63 ∧
  ∀ H' p, Ex H H' → H p = none → Dice H' p → Q (.ref p) H'
theorem cmul_l {i j : Int} (h1 : -(2 ^ 64) < i) (h2 : i < 2 ^ 64) : CMul i j := .inl ⟨h1, h2⟩
theorem cpw60 : CPw 10 60 := ⟨by decide, by decide +kernel⟩
theorem cpw12 : CPw ((10 : Int) ^ (60 : Int).toNat) 12 := ⟨by decide, by decide +kernel⟩
theorem cpw18 : CPw 10 18 := ⟨by decide, by decide +kernel⟩
theorem pos720 : (0 : Int) < ((10 : Int) ^ (60 : Int).toNat) ^ (12 : Int).toNat := by decide +kernel
theorem ok_dice {f : Addr} {fd : FuncData} {k : Nat} (F : Fun K "_law_dice" "_law_dice" sDice f fd) (T : Blt mg) : FnG P w K mg base CX0 (k + 1) f fd ["_law_script", "_law_at"] (spDice K) := by
  refine okG F scDice (fun vs H Q E h => ?_) (fun cdv A outer s H vs Q E hr h => ?_)
  · obtain ⟨a, ns, i, rfl, _⟩ := h
    rfl
  · obtain ⟨a, ns, i, rfl, hS, hl, q⟩ := h
    have nd := scDice.nd
    refine ⟨_, pss_cons (ps_set (i := 2) nd rfl (.inl rfl) (pe_op op_add (pe_op op_mul pe_int (pv 1)) pe_int))
      (pss_cons (ps_if (pt_cmpR op_lt (pv 1) (pe_callB call_len_seq (by rfl) T.len PySem.boot_len (pa_cons (pv 0) pa_nil)) (nomark _)) (pss_one (ps_set (i := 2) nd rfl (.inl rfl) (pe_ix ix_list (pv 0) (pv 1) (fun _ _ => rfl)))) pss_nil)
      (pss_cons (ps_set (i := 3) nd rfl (.inl rfl) (pe_op op_mod (pe_callTy call_int1 (by rfl) T.int (by decide +kernel) (pa_cons (pe_callB call_abs (by rfl) T.abs (by decide +kernel) (pa_cons (pv 2) pa_nil)) pa_nil)) (pe_op op_powW (pe_op op_powW pe_int pe_int) pe_int)))
      (pss_cons (ps_set (i := 4) nd rfl (.inl rfl) (pe_op op_add (pe_op op_add (pe_op op_add (pe_op op_mul (pe_op op_mod (pe_callTy call_int1 (by rfl) T.int (by decide +kernel) (pa_cons (pv 3) pa_nil)) pe_int) pe_int) (pe_op op_mul pe_int (pv 1))) (pe_op op_mul pe_int (pe_callTy call_int1 (by rfl) T.int (by decide +kernel) (pa_cons (pe_cmpR op_lt (pv 2) pe_int (nomark _)) pa_nil)))) pe_int))
      (pss_one (ps_ret (pe_lst (pa_cons (pe_callB (call_max2 rfl) (by rfl) T.max (by decide +kernel) (pa_cons pe_int (pa_cons (pe_op op_sub (pv 3) (pe_op op_powW pe_int pe_int)) pa_nil))) (pa_cons (pe_op op_mod (pe_callTy call_int1 (by rfl) T.int (by decide +kernel) (pa_cons (pv 4) pa_nil)) pe_int) (pa_cons pe_int pa_nil))))))))), ?_⟩
    -- cell = 13 * at + 6
    refine ⟨_, rfl, 13, i, rfl, rfl, cmul_l (by decide) (by decide), _, _, rfl, rfl, ?_⟩
    -- if at < len(script): cell = script[at]
    refine ⟨_, rfl, .ref a, rfl, a, _, rfl, .inl hS, i, _, rfl, rfl, _, rfl, ?_⟩
    refine ite2 (fun e => ?_) (fun e => ?_)
    have hi : i < ns.length := by
      have := of_decide_eq_true e
      rw [List.length_map] at this
      omega
    refine ⟨_, rfl, _, rfl, a, _, i, .int ns[i], rfl, rfl, hS, atI_nat (j := i) (by rw [List.getElem?_map, List.getElem?_eq_getElem hi]; rfl), ?_⟩
    generalize ns[i] = c
    revert c
    rotate_left
    generalize 13 * (i : Int) + 6 = c
    revert c
    all_goals
      intro c
      refine ⟨_, rfl, _, rfl, .inl ⟨_, rfl, 10, 60, rfl, rfl, cpw60, _, 12, rfl, rfl, cpw12, _, _, rfl, rfl, pos720, ?_⟩⟩
      refine ⟨_, rfl, .inl ⟨_, rfl, _, _, rfl, rfl, (show (0 : Int) < 2147483497 by decide), _, _, rfl, rfl, .inr ⟨by decide, by decide⟩, _, rfl, _, _, rfl, rfl, cmul_l (by decide) (by decide), _, _, rfl, rfl, _, rfl, _, _, rfl, rfl, .inr ⟨_, rfl, _, _, rfl, rfl, cmul_l (by decide) (by decide), _, _, rfl, rfl, _, _, rfl, rfl, ?_⟩⟩⟩
      refine ⟨_, rfl, 10, 18, rfl, rfl, cpw18, _, _, rfl, rfl, _, _, rfl, _, rfl, .inl ⟨_, rfl, _, _, rfl, rfl, (show (0 : Int) < 2147483489 by decide), by show 3 ≤ sizeLine; decide, fun p np => ?_⟩⟩
      exact q _ p (Ex.new np) np ⟨_, _, _, upd_same⟩
def spPull : Sp := fun vs H Q _ => ∃ (a : Addr) (n : Int), vs = [.ref a, .int n] ∧ 0 < n ∧ n.natAbs < 2 ^ 200 ∧ Dice H a ∧
  ∀ (v : Int) H', 0 ≤ v → v < n → Gro a H H' → Q (.int v) H'
theorem ok_pull {f : Addr} {fd : FuncData} {k : Nat} (F : Fun K "_law_pull" "_law_pull" sPull f fd) (T : Blt mg) : FnG P w K mg base CX0 (k + 1) f fd ["_law_dice_here", "_law_total"] spPull := by
  refine okG F scPull (fun vs H Q E h => ?_) (fun cdv A outer s H vs Q E hr h => ?_)
  · obtain ⟨a, n, rfl, _⟩ := h
    rfl
  · obtain ⟨a, n, rfl, hn, hn2, ⟨x, y, z, hd⟩, q⟩ := h
    have nd := scPull.nd
    have hu := hu_of hr.rm
    refine ⟨_, pss_cons (ps_if (pt_cmpR op_gt (pe_ix ix_list (pv 0) pe_int (fun _ _ => rfl)) pe_int (nomark _))
        (pss_cons (ps_set (i := 2) nd rfl (.inl rfl) (pe_op op_mod (pe_callTy call_int1 (by rfl) T.int (by decide +kernel) (pa_cons (pe_ix ix_list (pv 0) pe_int (fun _ _ => rfl)) pa_nil)) (pv 1)))
        (pss_cons (ps_asg (pe_op op_fdivW (pe_ix ix_list (pv 0) pe_int (fun _ _ => rfl)) (pv 1)) (pg_sub (pv 0) pe_int set_list))
        (pss_one (ps_ret (pv 2))))) pss_nil)
      (pss_cons (ps_asg (pe_op op_add (pe_ix ix_list (pv 0) pe_int (fun _ _ => rfl)) pe_int) (pg_sub (pv 0) pe_int set_list))
      (pss_cons (ps_set (i := 3) nd rfl (.inl rfl) (pe_op op_mod (pe_callTy call_int1 (by rfl) T.int (by decide +kernel) (pa_cons (pe_op op_add (pe_ix ix_list (pv 0) pe_int (fun _ _ => rfl)) (pe_op op_mul pe_int (pe_ix ix_list (pv 0) pe_int (fun _ _ => rfl)))) pa_nil)) pe_int))
      (pss_cons (ps_set (i := 4) nd rfl (.inl rfl) (pe_op op_mul (pe_op op_mod (pe_callTy call_int1 (by rfl) T.int (by decide +kernel) (pa_cons (pe_op op_mul (pv 3) (pv 3)) pa_nil)) pe_int) (pv 3)))
      (pss_one (ps_ret (pe_op op_mod (pe_callTy call_int1 (by rfl) T.int (by decide +kernel) (pa_cons (pe_op op_fdiv (pe_op op_mod (pe_callTy call_int1 (by rfl) T.int (by decide +kernel) (pa_cons (pe_op op_add (pv 4) (pe_op op_mul pe_int (pe_ix ix_list (pv 0) pe_int (fun _ _ => rfl)))) pa_nil)) pe_int) pe_int) pa_nil)) (pv 1))))))), ?_⟩
    have at0 : atI [V.int x, .int y, .int z] 0 = some (.int x) := rfl
    have hl : SqL K H a [.int x, .int y, .int z] := .inl (.inl hd)
    have hdi : ∀ H', H' a = some (.lst [.int x, .int y, .int z]) → SqL K H' a [.int x, .int y, .int z] := fun _ h => .inl (.inl h)
    have grow : ∀ x' y' z' : Int, Gro a H (upd H a (.lst [.int x', .int y', .int z'])) := fun x' y' z' => ⟨fun b o n e => by rw [upd_ne n]; exact e, x', y', z', upd_same⟩
    refine ⟨_, rfl, a, _, 0, _, rfl, rfl, hl, rfl, _, _, rfl, rfl, _, rfl, ite2 (fun e => ?_) (fun e => ?_)⟩
    · refine ⟨_, rfl, a, _, 0, _, rfl, rfl, hl, rfl, .inl ⟨_, rfl, _, rfl, x, n, rfl, rfl, hn, ?_⟩⟩
      refine ⟨_, rfl, a, _, 0, _, rfl, rfl, hl, rfl, _, rfl, x, n, rfl, rfl, wide_div hn hn2 (by decide) (by decide), ?_⟩
      refine ⟨_, rfl, a, _, 0, 0, rfl, rfl, hd, rfl, ?_⟩
      exact ⟨_, rfl, q (x % n) _ (Int.emod_nonneg _ (by omega)) (Int.emod_lt_of_pos _ hn) (grow _ _ _)⟩
    · refine ⟨_, rfl, a, _, 2, _, rfl, rfl, hl, rfl, z, 1, rfl, rfl, ?_⟩
      refine ⟨_, rfl, a, _, 2, 2, rfl, rfl, hd, rfl, ?_⟩
      have hl2 : SqL K (upd H a (.lst [.int x, .int y, .int (z + 1)])) a [.int x, .int y, .int (z + 1)] := .inl (.inl upd_same)
      refine ⟨_, rfl, a, _, 1, _, rfl, rfl, hl2, rfl, _, rfl, a, _, 2, _, rfl, rfl, hl2, rfl, _, _, rfl, rfl, cmul_l (by decide) (by decide), _, _, rfl, rfl, .inl ⟨_, rfl, _, _, rfl, rfl, (show (0 : Int) < 2305843009213693951 by decide), ?_⟩⟩
      have b1 : ∀ u : Int, 0 ≤ u % 2305843009213693951 ∧ u % 2305843009213693951 < 2305843009213693951 := fun u => ⟨Int.emod_nonneg _ (by decide), Int.emod_lt_of_pos _ (by decide)⟩
      have b2 : ∀ u : Int, 0 ≤ u % 2305843009213693921 ∧ u % 2305843009213693921 < 2305843009213693921 := fun u => ⟨Int.emod_nonneg _ (by decide), Int.emod_lt_of_pos _ (by decide)⟩
      have c1 : ∀ u v : Int, CMul (u % 2305843009213693951) v := fun u v => cmul_l (by have := b1 u; omega) (by have := b1 u; omega)
      have c2 : ∀ u v : Int, CMul (u % 2305843009213693921) v := fun u v => cmul_l (by have := b2 u; omega) (by have := b2 u; omega)
      refine ⟨_, rfl, _, rfl, _, _, rfl, rfl, c1 _ _, .inl ⟨_, rfl, _, _, rfl, rfl, (show (0 : Int) < 2305843009213693921 by decide), _, rfl, _, _, rfl, rfl, c2 _ _, ?_⟩⟩
      refine ⟨_, rfl, _, rfl, a, _, 2, _, rfl, rfl, hl2, rfl, _, _, rfl, rfl, cmul_l (by decide) (by decide), _, _, rfl, rfl, .inl ⟨_, rfl, _, _, rfl, rfl, (show (0 : Int) < 2305843009213693907 by decide), _, _, rfl, rfl, ⟨by decide, by decide⟩, .inl ⟨_, rfl, _, rfl, _, _, rfl, rfl, hn, ?_⟩⟩⟩
      exact q _ _ (Int.emod_nonneg _ (by omega)) (Int.emod_lt_of_pos _ hn) (grow _ _ _)
end
end Gl

namespace Gl
open PySem PySem.Spec PyProof.Rows L2
/-- a tuple that carries no dict of its own: known to the object -/
def TupF (H : Hp) (p : Addr) (xs : List V) : Prop := ∃ o : Obj, o.dict = none ∧ H p = some (.frz o (.tup xs))
theorem TupF.rd {H : Hp} {p : Addr} {xs : List V} (h : TupF H p xs) : Rd H p (.tup xs) := let ⟨o, _, e⟩ := h; .inr ⟨o, e⟩
theorem Ex.tupF {H H' : Hp} {p : Addr} {xs : List V} (e : Ex H H') (h : TupF H p xs) : TupF H' p xs := let ⟨o, d, q⟩ := h; ⟨o, d, e _ _ q⟩
theorem Gro.tupF {a p : Addr} {H H' : Hp} {xs : List V} (x : Gro a H H') (d : Dice H a) (h : TupF H p xs) : TupF H' p xs := let ⟨o, n, q⟩ := h; ⟨o, n, x.frz d q⟩
theorem tupF_new {H : Hp} {p : Addr} {xs : List V} {o : Obj} (d : o.dict = none) : TupF (upd H p (.frz o (.tup xs))) p xs := ⟨o, d, upd_same⟩
section
variable {X : Cx}
/-- tuple(a list): new, without a dict -/
def rTupF (K : PySem.W.Frag) : List V → Hp → VK → Prop := fun xs H Q => ∃ p ys, xs = [.ref p] ∧ SqL K H p ys ∧ ∀ l o, H l = none → o.dict = none → Q (.ref l) (upd H l (.frz o (.tup ys)))
theorem call_tupleF : CallR X (.type "tuple") (rTupF X.K) := by
  rintro pins s σ H xs us Q I rv ⟨p, ys, rfl, hq, q⟩
  obtain ⟨u, rfl, ru⟩ := vals1 rv
  obtain rfl : u = Value.ref p := ru
  obtain ⟨its, ri, pl, hz⟩ := I.list hq
  have n1 := ri.length
  apply call_tuple_list pl.isList _ (by simp only [List.size_toArray]; omega)
  intro h' kp
  have J : Inv X pins σ H { s with heap := h' } := I.kept (t' := s.toks) kp
  let o : Obj := { cls := .type "tuple", data := .seq its.toArray }
  have g : (h'.push o).get? h'.objs.size = some o := Heap.get?_push_size _ rfl
  have ok : ObjOk X.prog X.w (upd H h'.objs.size (.frz o (.tup ys))) (h'.push o) h'.objs.size (.frz o (.tup ys)) :=
    ⟨g, hz, its, ri, o, g, rfl, _, rfl⟩
  exact ⟨.ref h'.objs.size, _, J.laid (t' := s.toks) (fun _ _ e => Heap.get?_push_of_some _ e) (Nat.le_refl _) ok, rfl, q _ o (J.hok.fresh (Nat.le_refl _)) rfl⟩
variable {es : List Expr} {pos : Pos} {t : TA}
/-- (a, b, ..): new, without a dict -/
def tTupF (t : TA) : TE := fun σ H Q => t σ H fun xs H1 => xs.length ≤ sizeLine ∧ ∀ p o, H1 p = none → o.dict = none → Q (.ref p) (upd H1 p (.frz o (.tup xs)))
theorem pe_tupF {n} (h : PA X es t) : PE X (.Tuple es n pos) (tTupF t) := .mk fun pins s σ H Q I hq => by
  apply wpAny_Tuple_spliced
  apply thn (h.run pos pins s σ H _ I hq)
  rintro us s1 ⟨xs, H1, J, r, z, q⟩
  refine ⟨by rw [← r.length]; exact z, ?_⟩
  let o : Obj := { cls := .type "tuple", data := .seq us.toArray }
  have g : (s1.heap.push o).get? s1.heap.objs.size = some o := Heap.get?_push_size _ rfl
  have ok : ObjOk X.prog X.w (upd H1 s1.heap.objs.size (.frz o (.tup xs))) (s1.heap.push o) s1.heap.objs.size (.frz o (.tup xs)) :=
    ⟨g, z, us, r, o, g, rfl, _, rfl⟩
  exact ⟨.ref s1.heap.objs.size, _, J.laid (t' := s1.toks) (fun _ _ e => Heap.get?_push_of_some _ e) (Nat.le_refl _) ok, rfl, q _ o (J.hok.fresh (Nat.le_refl _)) rfl⟩
/-- t.m(e, ..), t a tuple without a dict -/
def tBMT (r : V → List V → Hp → VK → Prop) (to : TE) (t : TA) : TE := fun σ H Q => to σ H fun x H1 => (∃ p xs, x = .ref p ∧ TupF H1 p xs) ∧ t σ H1 fun ys H2 => r x ys H2 Q
theorem pe_bmT {o e : Expr} {name : Str} {apos cpos : Pos} {id : String} {to : TE} {r : V → List V → Hp → VK → Prop} (sl : Slot "tuple" name id) (ty : typeOf (.builtin id) = pure (.type "method_descriptor")) (hm : MtR X id r) (ho : PE X o to) (ha : PA X (e :: es) t)
    (h1 : attributeBase o name X.env (eval o X.env) = eval o X.env := by rfl)
    (h2 : ((backTo cpos (starEach (e :: es) X.env)).all (fun x => !x.1) && (backToKw cpos (keywordEach [] X.env)).all (fun x => x.1.isSome)
        && decide ((e :: es).length + ([] : List Keyword).length + (if ([] : List Keyword).isEmpty then 0 else 1) < 30)) = true := by rfl)
    (h3 : (apos.endLine == cpos.line) = true := by rfl) (h4 : starEach (e :: es) X.env = (false, eval e X.env) :: starEach es X.env := by rfl)
    (h5 : (backTo cpos (starEach es X.env)).any (·.1) = false := by rfl) :
    PE X (.Call (.Attribute o name apos) (e :: es) [] cpos) (tBMT r to t) := .mk fun pins s σ H Q I h => by
  apply wpAny_Call_method_late h1 h2 h3 rfl
  apply thn (ho.run pins s σ H _ I h)
  rintro v s1 ⟨x, H1, J, rx, ⟨p, xs, rfl, ob, hd, hp⟩, q⟩
  obtain rfl : v = Value.ref p := rx
  obtain ⟨g, _, its, ri, o2, g2, c2, _⟩ := J.hok p _ hp
  obtain rfl := Option.some.inj (g.symm.trans g2)
  refine ⟨"tuple", id, PySem.F.plainAttrs_tuple, sl, ty, ⟨ob, g, c2⟩, ?_, ?_⟩
  · rintro a z
    obtain rfl := Value.ref.inj z
    exact ⟨ob, g, hd⟩
  · have A := ha.run cpos pins s1 σ H1 _ J q
    rw [h4] at A ⊢
    have h6 : (backTo cpos ((false, eval e X.env) :: starEach es X.env)).any (·.1) = false := (Bool.false_or _).trans h5
    apply Calls.callWith_builtin h6
    apply Calls.evalArgs_plain
    exact thn A fun us s2 ⟨vs, H2, J2, r2, q2⟩ => hm pins s2 σ H2 _ vs _ us Q J2 (show RelV (V.ref p) (Value.ref p) from rfl) r2 q2
end
end Gl

namespace Gl
open PySem PySem.Spec PyProof.Rows L2
section
variable {P : Program} {w : World} {K : PySem.W.Frag} {mg : Str → Option Value} {base : Heap}
def spPick : Sp := fun vs H Q _ => ∃ (a p : Addr) (xs : List V), vs = [.ref a, .ref p] ∧ H p = some (.lst xs) ∧ p ≠ a ∧ xs ≠ [] ∧ xs.length ≤ 1000 ∧ Dice H a ∧
  ∀ (v : V) H', v ∈ xs → Gro a H H' → Q v H'
/-- the dice's defs -/
structure Dc (P : Program) (w : World) (K : PySem.W.Frag) (mg : Str → Option Value) (base : Heap) where
  f : Addr
  fd : FuncData
  G : FnG P w K mg base CX0 1 f fd ["_law_dice_here", "_law_total"] spPull
  g : mg "_law_pull" = some (.ref f)
  kp : PySem.W.keepIn K (.ref f) = true
  b : Binds K fd ["_law_dice_here", "_law_total"] []
theorem ok_pick {f : Addr} {fd : FuncData} (F : Fun K "_law_pick" "_law_pick" sPick f fd) (T : Blt mg) (D : Dc P w K mg base) : FnG P w K mg base CX0 2 f fd ["_law_dice_here", "_law_items"] spPick := by
  refine okG F scPick (fun vs H Q E h => ?_) (fun cdv A outer s H vs Q E hr h => ?_)
  · obtain ⟨a, n, xs, rfl, _⟩ := h
    rfl
  · obtain ⟨a, p, xs, rfl, hp, pa, hx, hl, hd, q⟩ := h
    have nd := scPick.nd
    refine ⟨_, pss_one (ps_ret (pe_ix ix_list (pv 1) (pe_callG D.G hr (by rfl) D.g D.kp D.b .nil pass0 (pa_cons (pv 0) (pa_cons (pe_callB call_len_seq (by rfl) T.len PySem.boot_len (pa_cons (pv 1) pa_nil)) pa_nil))) (fun _ _ => rfl))), ?_⟩
    have hl0 : 0 < xs.length := List.length_pos_iff.mpr hx
    refine ⟨_, rfl, _, rfl, _, rfl, p, xs, rfl, .inl (.inl (.inl hp)), a, _, rfl, by omega, Nat.lt_of_le_of_lt (show ((xs.length : Int)).natAbs ≤ 1000 by omega) (by decide), hd, fun v H' h0 h1 gr => ?_⟩
    obtain ⟨m, rfl⟩ : ∃ m : Nat, v = m := ⟨v.toNat, by omega⟩
    have hi : m < xs.length := by omega
    exact ⟨p, xs, m, xs[m], rfl, rfl, .inl (.inl (gr.st p _ pa hp)), atI_nat (List.getElem?_eq_getElem hi), q _ _ (List.getElem_mem hi) gr⟩

end
end Gl

namespace Gl
open PySem PySem.Spec PyProof.Rows L2
/-! ### data of any shape, with dicts from texts to ints -/
mutual
inductive Dx (K : PySem.W.Frag) (H : Hp) : V → PyData → Prop
  | non : Dx K H .non .none
  | bl (b : Bool) : Dx K H (.bl b) (.bool b)
  | int (i : Int) : Dx K H (.int i) (.int i)
  | str (x : Str) : Dx K H (.str x) (.str x)
  | lst {a : Addr} {xs : List V} {ds : List PyData} : H a = some (.lst xs) → DxAll K H xs ds → Dx K H (.ref a) (.list ds)
  | tup {a : Addr} {xs : List V} {ds : List PyData} : Rd H a (.tup xs) → DxAll K H xs ds → Dx K H (.ref a) (.tuple ds)
  | dk {a : Addr} (ps : List (Str × Int)) : H a = some (.dK (ps.map fun p => (.inr p.1, .int p.2))) → Dx K H (.ref a) (.dict (ps.map fun p => (.str p.1, .int p.2)))
inductive DxAll (K : PySem.W.Frag) (H : Hp) : List V → List PyData → Prop
  | nil : DxAll K H [] []
  | cons {v : V} {vs : List V} {d : PyData} {ds : List PyData} : Dx K H v d → DxAll K H vs ds → DxAll K H (v :: vs) (d :: ds)
end
mutual
def noList : PyData → Bool
  | .list _ => false
  | .tuple xs => noLists xs
  | _ => true
def noLists : List PyData → Bool
  | [] => true
  | x :: xs => noList x && noLists xs
end
section
variable {X : Cx} {pins : List (Addr × Obj)} {σ : L2.St} {H : Hp} {s : Shared}
theorem dict_key {P : Program} {w : World} {h : Heap} : ∀ (ps : List (Str × Int)) (vs : List (Key × Value)) (l : List DictEntry), KV (ps.map fun p => ((Sum.inr p.1 : Key), V.int p.2)) vs → Pairs (mixKind P w) l vs →
    ReadsAll h (l.map (·.key)) ((ps.map fun p => (PyData.str p.1, PyData.int p.2)).map (·.1)) [] ∧ ReadsAll h (l.map (·.val)) ((ps.map fun p => (PyData.str p.1, PyData.int p.2)).map (·.2)) []
  | [], _, _, .nil, .nil => ⟨.nil, .nil⟩
  | p :: ps, (k, v) :: vs, e :: l, .cons ⟨e1, e2⟩ r, .cons h1 h2 h3 => by
    obtain ⟨r1, r2⟩ := dict_key ps vs l r h3
    have e1 : (Sum.inr p.1 : Key) = k := e1
    subst e1
    obtain ⟨t, rfl⟩ : ∃ t, v = Value.int p.2 t := e2
    have h1 : keyIs (.inr p.1) e.key = true := h1
    have h2 : e.val = Value.int p.2 t := h2
    constructor
    · show ReadsAll h (e.key :: l.map (·.key)) (PyData.str p.1 :: _) ([] ++ [])
      refine .cons ?_ r1
      rcases keyIs_shape h1 with ⟨i, u, e3, _⟩ | ⟨x, u, e3, e4⟩
      · exact nomatch e3
      · rw [e4, Sum.inr.inj e3]; exact .str x u
    · show ReadsAll h (e.val :: l.map (·.val)) (PyData.int p.2 :: _) ([] ++ [])
      rw [h2]
      exact .cons (.int _ _) r2
theorem dict_reads (I : Inv X pins σ H s) {a : Addr} {ps : List (Str × Int)} (h : H a = some (.dK (ps.map fun p => (.inr p.1, .int p.2)))) :
    ∃ as, Reads s.heap (.ref a) (.dict (ps.map fun p => (.str p.1, .int p.2))) as ∧ sysModules ∉ as := by
  obtain ⟨_, hs, vs, kv, o, es, ep, g, hx, hd, _, pr, _⟩ := I.hok a _ h
  obtain ⟨k1, k2⟩ := dict_key (h := s.heap) ps vs es.toList kv pr
  refine ⟨[a], .dict (as := []) (bs := []) g hx.1 hd k1 k2, ?_⟩
  intro z
  rw [List.mem_singleton.mp z] at hs
  simp at hs
mutual
theorem Dx.reads (I : Inv X pins σ H s) : ∀ (d : PyData) (v : V) (u : Value), Dx X.K H v d → RelV v u → ∃ as, Reads s.heap u d as ∧ (noList d = true → sysModules ∉ as)
  | .none, _, _, .non, r => by
    cases r
    exact ⟨_, .none, fun _ z => nomatch z⟩
  | .bool b, _, _, .bl _, r => by
    cases r
    exact ⟨_, .bool b, fun _ z => nomatch z⟩
  | .int i, _, _, .int _, r => by
    obtain ⟨t, rfl⟩ := r
    exact ⟨_, .int i t, fun _ z => nomatch z⟩
  | .str x, _, _, .str _, r => by
    obtain ⟨t, rfl⟩ := r
    exact ⟨_, .str x t, fun _ z => nomatch z⟩
  | .list ds, _, _, .lst ha hd, r => by
    cases r
    obtain ⟨_, its, n, ri, g⟩ := I.hok _ _ ha
    obtain ⟨as, R, _⟩ := DxAll.reads I ds _ its hd ri
    exact ⟨_, .list g rfl rfl (by simpa using R), fun z => by simp [noList] at z⟩
  | .tuple ds, _, _, .tup ha hd, r => by
    cases r
    obtain ⟨_, its, ri, o, g, c, n, dt⟩ := ha.ok I.hok
    obtain ⟨as, R, q⟩ := DxAll.reads I ds _ its hd ri
    exact ⟨_, .tuple g c dt (by simpa using R), fun z => q (by simpa only [noList] using z)⟩
  | .dict _, _, _, .dk ps ha, r => by
    cases r
    obtain ⟨as, R, q⟩ := dict_reads I ha
    exact ⟨as, R, fun _ => q⟩
theorem DxAll.reads (I : Inv X pins σ H s) : ∀ (ds : List PyData) (vs : List V) (us : List Value), DxAll X.K H vs ds → Vals vs us → ∃ as, ReadsAll s.heap us ds as ∧ (noLists ds = true → sysModules ∉ as)
  | [], _, _, .nil, .nil => ⟨_, .nil, fun _ z => nomatch z⟩
  | d :: ds, v :: vs, u :: us, .cons h1 h2, .cons r1 r2 => by
    obtain ⟨as, R, q⟩ := Dx.reads I d v u h1 r1
    obtain ⟨bs, R2, q2⟩ := DxAll.reads I ds vs us h2 r2
    refine ⟨_, .cons R R2, fun z m => ?_⟩
    have z' : (noList d && noLists ds) = true := by simpa only [noLists] using z
    have z2 := Bool.and_eq_true_iff.mp z'
    rcases List.mem_append.mp m with y | y
    · exact q z2.1 y
    · exact q2 z2.2 y
end
/-- repr(x) of such data: dicts only where no list is -/
def rReprX (K : PySem.W.Frag) : List V → Hp → VK → Prop := fun xs H Q => ∃ x d, xs = [x] ∧ Dx K H x d ∧ (d.hasDict = false ∨ noList d = true) ∧ d.showable = true ∧ d.depth ≤ 100 ∧ d.shown.length ≤ sizeLine ∧ Q (.str d.shown) H
theorem call_reprX {k : Nat} (r : RmG k X.A) : CallR X (.builtin "repr") (rReprX X.K) := by
  intro pins s σ H xs us Q I hv h
  obtain ⟨x, d, rfl, hd, hdict, hs, hp, hz, q⟩ := h
  obtain ⟨u, rfl, ru⟩ := vals1 hv
  obtain ⟨as, R, nl⟩ := Dx.reads I d x u hd ru
  have room := r.rm.un
  have hsm : d.hasDict = true → sysModules ∉ as := fun z => by
    rcases hdict with y | y
    · rw [y] at z; exact nomatch z
    · exact nl y
  have refs : ∀ a, u = .ref a → wpAny (model X.prog X.w) X.A (call (.builtin "repr") [u]) (EP X pins σ Q) X.xe s := by
    rintro a rfl
    refine repr_of_reads' R hs hsm r.gd (by omega) (fun _ _ z => z) (fun h' t tk hk => ?_) hz
    exact ⟨.str _, H, I.kept hk, ⟨_, rfl⟩, q⟩
  cases hd with
  | non =>
    cases ru
    exact PySem.P.repr_of_none ⟨.str _, H, I.tok _, ⟨_, rfl⟩, q⟩
  | bl b =>
    cases ru
    exact PySem.P.repr_of_bool ⟨.str _, H, I.tok _, ⟨_, rfl⟩, q⟩
  | int i =>
    obtain ⟨t, rfl⟩ := ru
    have hs' : i.natAbs.log2 < 1920 := of_decide_eq_true (by simpa only [PyData.showable] using hs)
    exact PySem.P.repr_of_int hs' ⟨.str _, H, I.tok _, ⟨_, rfl⟩, q⟩
  | str y =>
    obtain ⟨t, rfl⟩ := ru
    exact PySem.P.repr_of_str ⟨.str _, H, I.tok _, ⟨_, rfl⟩, q⟩ hz
  | lst _ _ =>
    cases ru
    exact refs _ rfl
  | tup _ _ =>
    cases ru
    exact refs _ rfl
  | dk _ _ =>
    cases ru
    exact refs _ rfl
/-- xs == [] and xs != [], whatever the items are -/
def rNil (b : Bool) (K : PySem.W.Frag) : R2 := fun x y H Q => ∃ p q xs, x = .ref p ∧ y = .ref q ∧ SqL K H p xs ∧ H q = some (.lst []) ∧ Q (.bl (if b then decide (xs = []) else !decide (xs = []))) H
theorem nil_core (I : Inv X pins σ H s) {p q : Addr} {xs : List V} (h1 : SqL X.K H p xs) (h2 : H q = some (.lst [])) :
    ∃ its its2 : Array Value, s.heap.IsList p its ∧ s.heap.IsList q its2 ∧ its2.size = 0 ∧ its.size = xs.length := by
  obtain ⟨its, r, pl, _⟩ := I.list h1
  obtain ⟨_, its2, n, r2, g⟩ := I.hok q _ h2
  have := r2.length
  exact ⟨its.toArray, its2.toArray, pl.isList, ⟨_, g, rfl, _, rfl⟩, by simpa using this.symm, by simpa using r.length.symm⟩
theorem op_eqNil (hu : X.A.units < cLine) : OpR X (compareOp .Eq) (rNil true X.K) := by
  rintro pins s σ H x y v u Q I rx ry ⟨p, q, xs, rfl, rfl, h1, h2, k⟩
  obtain rfl : v = Value.ref p := rx
  obtain rfl : u = Value.ref q := ry
  obtain ⟨i1, i2, l1, l2, z, n⟩ := nil_core I h1 h2
  by_cases e : xs = []
  · refine SeqAt.eq_listAt (e := fun _ => true) l1 l2 (by rw [z, n, e]; rfl) hu (fun j j1 j2 => by omega) ⟨.bl true, H, I, ?_, ?_⟩
    · rw [n, e]; rfl
    · rw [if_pos rfl, decide_eq_true e] at k; exact k
  · refine SeqAt.eq_list_lengthsAt l1 l2 ?_ hu ⟨.bl false, H, I, rfl, ?_⟩
    · rw [z, n]
      have : xs.length ≠ 0 := fun z => e (List.length_eq_zero_iff.mp z)
      simpa using this
    · rw [if_pos rfl, decide_eq_false e] at k; exact k
theorem op_neNil (hu : X.A.units < cLine) : OpR X (compareOp .NotEq) (rNil false X.K) := by
  rintro pins s σ H x y v u Q I rx ry ⟨p, q, xs, rfl, rfl, h1, h2, k⟩
  obtain rfl : v = Value.ref p := rx
  obtain rfl : u = Value.ref q := ry
  obtain ⟨i1, i2, l1, l2, z, n⟩ := nil_core I h1 h2
  rw [if_neg Bool.false_ne_true] at k
  by_cases e : xs = []
  · refine SeqAt.RcNeAt.lists (e := fun _ => true) l1 l2 (by rw [z, n, e]; rfl) hu (fun j j1 j2 => by omega) X.prog X.w X.xe _ ⟨.bl false, H, I, ?_, ?_⟩
    · rw [n, e]; rfl
    · rw [decide_eq_true e] at k; exact k
  · refine SeqAt.RcNeAt.lists_lengths l1 l2 ?_ hu X.prog X.w X.xe _ ⟨.bl true, H, I, rfl, ?_⟩
    · rw [z, n]
      have : xs.length ≠ 0 := fun z => e (List.length_eq_zero_iff.mp z)
      simpa using this
    · rw [decide_eq_false e] at k; exact k
end
end Gl

namespace Gl
open PySem PySem.Spec PyProof.Rows L2
abbrev sWhole : Stmt := topS 3
abbrev sWholes : Stmt := topS 4
abbrev sIndex : Stmt := topS 5
theorem scWhole : FnScope ["value"] ["value"] (defScope sWhole) := ⟨rfl, rfl, rfl, by decide +kernel, rfl, by decide +kernel, by decide +kernel⟩
theorem scWholes : FnScope ["value", "many", "one"] ["value", "many"] (defScope sWholes) := ⟨rfl, rfl, rfl, by decide +kernel, rfl, by decide +kernel, by decide +kernel⟩
theorem scIndex : FnScope ["value", "many"] ["value", "many"] (defScope sIndex) := ⟨rfl, rfl, rfl, by decide +kernel, rfl, by decide +kernel, by decide +kernel⟩
/-! ### the answers as plain functions -/
def tyName : PyData → String
  | .none => "NoneType"
  | .bool _ => "bool"
  | .int _ => "int"
  | .str _ => "str"
  | .list _ => "list"
  | .tuple _ => "tuple"
  | .dict _ => "dict"
def wholeB : PyData → Bool
  | .int _ => true
  | _ => false
def wholesB (d : PyData) (n : Int) : Bool := match d with
  | .tuple ds => decide ((ds.length : Int) = n) && ds.all wholeB
  | _ => false
theorem room1000 {n : Nat} (h : n ≤ 100000) : n < sizeLine := Nat.lt_of_le_of_lt h (by decide)
/-- texts of at most 1000 signs, tuples of at most 1000 things -/
def Short : PyData → Prop
  | .tuple ds => ds.length ≤ 1000 ∧ True
  | _ => True
theorem DxAll.get {K : PySem.W.Frag} {H : Hp} : ∀ {xs : List V} {ds : List PyData} {i : Nat} {v : V}, DxAll K H xs ds → xs[i]? = some v → ∃ d, ds[i]? = some d ∧ Dx K H v d
  | _, _, _, _, .nil, e => by simp at e
  | _, _, 0, _, .cons h _, e => by simp at e; subst e; exact ⟨_, rfl, h⟩
  | _, _, i + 1, _, .cons _ t, e => DxAll.get (i := i) t (by simpa using e)
theorem DxAll.length {K : PySem.W.Frag} {H : Hp} : ∀ {xs : List V} {ds : List PyData}, DxAll K H xs ds → xs.length = ds.length
  | _, _, .nil => rfl
  | _, _, .cons _ t => congrArg (· + 1) (DxAll.length t)
mutual
theorem Dx.ex {K : PySem.W.Frag} {H H' : Hp} (e : Ex H H') : ∀ {v : V} {d : PyData}, Dx K H v d → Dx K H' v d
  | _, _, .non => .non
  | _, _, .bl b => .bl b
  | _, _, .int i => .int i
  | _, _, .str x => .str x
  | _, _, .lst h t => .lst (e _ _ h) (DxAll.ex e t)
  | _, _, .tup h t => .tup (e.rd h) (DxAll.ex e t)
  | _, _, .dk ps h => .dk ps (e _ _ h)
theorem DxAll.ex {K : PySem.W.Frag} {H H' : Hp} (e : Ex H H') : ∀ {v : List V} {d : List PyData}, DxAll K H v d → DxAll K H' v d
  | _, _, .nil => .nil
  | _, _, .cons h t => .cons (Dx.ex e h) (DxAll.ex e t)
end
theorem tyx {K : PySem.W.Frag} {H : Hp} {v : V} {d : PyData} (h : Dx K H v d) : TyX K H v (.type (tyName d)) := by
  cases h with
  | non => exact .base .non
  | bl b => exact .base (.bl b)
  | int i => exact .base (.int i)
  | str x => exact .base (.str x)
  | lst h _ => exact .base (.lst h)
  | tup h _ =>
    rcases h with h | ⟨o, h⟩
    · exact .base (.tup h)
    · exact .fTuple h
  | dk ps h => exact .base (.dK h)
abbrev tys : List String := ["NoneType", "bool", "int", "str", "list", "tuple", "dict"]
theorem tyName_in (d : PyData) : tyName d ∈ tys := by cases d <;> simp [tyName]
theorem isInt (d : PyData) : L2.kitB (tyName d) "int" = some (tyName d == "int" || tyName d == "bool") := (show ∀ t ∈ tys, L2.kitB t "int" = some (t == "int" || t == "bool") by decide +kernel) _ (tyName_in d)
theorem isBool (d : PyData) : L2.kitB (tyName d) "bool" = some (tyName d == "bool") := (show ∀ t ∈ tys, L2.kitB t "bool" = some (t == "bool") by decide +kernel) _ (tyName_in d)
theorem isStr (d : PyData) : L2.kitB (tyName d) "str" = some (tyName d == "str") := (show ∀ t ∈ tys, L2.kitB t "str" = some (t == "str") by decide +kernel) _ (tyName_in d)
theorem isTup (d : PyData) : L2.kitB (tyName d) "tuple" = some (tyName d == "tuple") := (show ∀ t ∈ tys, L2.kitB t "tuple" = some (t == "tuple") by decide +kernel) _ (tyName_in d)
/-- what is known of the class, as a type -/
structure ClsT (K : PySem.W.Frag) (C : Addr) : Prop where
  c : Cls K C
  t1 : PySem.W.findIn K (.ref C) "__class__" = some (some (.builtin "object.__class__"))
  t2 : PySem.W.specialIn K (.builtin "object.__class__") "__get__" = some (some (.builtin "getset_descriptor.__get__"))
  t3 : PySem.W.takesIn K (.builtin "object.__class__") = some true
  t4 : PySem.W.mroIn K C (.type "object") = some true
  ki : PySem.W.kitOne K (.ref C) (.type "int") = some false
  kt : PySem.W.kitOne K (.ref C) (.type "tuple") = some false
/-- data, or an instance of the class, which is neither an int nor a tuple and counts as none here -/
inductive Od (K : PySem.W.Frag) (H : Hp) : V → PyData → Prop
  | dx {v : V} {d : PyData} : Dx K H v d → Od K H v d
  | ins {a C dx : Addr} {fs : List (Str × V)} : H a = some (.ins C dx fs) → ClsT K C → Od K H (.ref a) .none
theorem Od.ex {K : PySem.W.Frag} {H H' : Hp} (e : Ex H H') {v : V} {d : PyData} (h : Od K H v d) : Od K H' v d := by
  cases h with
  | dx h => exact .dx (h.ex e)
  | ins h a => exact .ins (e _ _ h) a
section
variable {P : Program} {w : World} {K : PySem.W.Frag} {mg : Str → Option Value} {base : Heap}
structure Df (P : Program) (w : World) (K : PySem.W.Frag) (mg : Str → Option Value) (base : Heap) (k : Nat) (x : Str) (ps : List Str) (sp : Sp) where
  f : Addr
  fd : FuncData
  G : FnOk P w K mg base CX0 k f fd ps sp
  g : mg x = some (.ref f)
  kp : PySem.W.keepIn K (.ref f) = true
  b : Binds K fd ps []
structure DfG (P : Program) (w : World) (K : PySem.W.Frag) (mg : Str → Option Value) (base : Heap) (k : Nat) (x : Str) (ps : List Str) (sp : Sp) where
  f : Addr
  fd : FuncData
  G : FnG P w K mg base CX0 k f fd ps sp
  g : mg x = some (.ref f)
  kp : PySem.W.keepIn K (.ref f) = true
  b : Binds K fd ps []
def spWhole (K : PySem.W.Frag) : Sp := fun vs H Q _ => ∃ v d, vs = [v] ∧ Od K H v d ∧ Q (.bl (wholeB d)) H
theorem ok_whole {f : Addr} {fd : FuncData} (F : Fun K "is_whole" "is_whole" sWhole f fd) (T : Blt mg) : FnOk P w K mg base CX0 1 f fd ["value"] (spWhole K) := by
  refine F.ok scWhole (fun vs H Q E h => ?_) (fun cdv A outer s H vs Q E hr h => ?_)
  · obtain ⟨v, d, rfl, _⟩ := h
    rfl
  · obtain ⟨v, d, rfl, hd, q⟩ := h
    refine ⟨_, pss_one (ps_ret (pe_and (pe_callB call_isi (by rfl) T.isinstance (by decide +kernel) (pa_cons (pv 0) (pa_cons (pe_bltn (v := .ty "int") (by rfl) T.int (by decide +kernel) rfl) pa_nil)))
      (pe_one (pe_not (pe_callB call_isi (by rfl) T.isinstance (by decide +kernel) (pa_cons (pv 0) (pa_cons (pe_bltn (v := .ty "bool") (by rfl) T.bool (by decide +kernel) rfl) pa_nil))))))), ?_⟩
    rcases hd with hd | ⟨hd, z⟩
    case ins => exact ⟨_, rfl, _, _, _, _, _, rfl, .ty _, .base (.ins hd z.c z.t1 z.t2 z.t3 z.t4), z.ki, false, rfl, q⟩
    refine ⟨_, rfl, _, _, _, _, _, rfl, .ty _, tyx hd, kit_ty (isInt d), _, rfl, ?_⟩
    cases d with
    | bool b => exact ⟨_, rfl, _, _, _, _, _, rfl, .ty _, tyx hd, kit_ty (isBool _), true, rfl, q⟩
    | int i => exact ⟨_, rfl, _, _, _, _, _, rfl, .ty _, tyx hd, kit_ty (isBool _), false, rfl, q⟩
    | none => exact q
    | str x => exact q
    | list xs => exact q
    | tuple xs => exact q
    | dict xs => exact q

def spWholes (K : PySem.W.Frag) : Sp := fun vs H Q _ => ∃ v d n, vs = [v, .int n] ∧ Od K H v d ∧ Short d ∧ ∀ H', Ex H H' → Q (.bl (wholesB d n)) H'
theorem take_all {α : Type} {f : α → Bool} {l : List α} {i : Nat} {x : α} (h : l[i]? = some x) : (l.take (i + 1)).map f = (l.take i).map f ++ [f x] := by
  rw [List.take_add_one, h, List.map_append]
  rfl
theorem all_id {α : Type} (f : α → Bool) (l : List α) : (l.map f).all id = l.all f := by
  rw [List.all_map]
  rfl
theorem ok_wholes {f : Addr} {fd : FuncData} (F : Fun K "are_whole" "are_whole" sWholes f fd) (T : Blt mg) (W : Df P w K mg base 1 "is_whole" ["value"] (spWhole K)) : FnOk P w K mg base CX0 2 f fd ["value", "many"] (spWholes K) := by
  refine F.ok scWholes (fun vs H Q E h => ?_) (fun cdv A outer s H vs Q E hr h => ?_)
  · obtain ⟨v, d, n, rfl, _⟩ := h
    rfl
  · obtain ⟨v, d, n, rfl, hd, sh, q⟩ := h
    have nd := scWholes.nd
    refine ⟨_, pss_one (ps_ret (pe_and (pe_callB call_isi (by rfl) T.isinstance (by decide +kernel) (pa_cons (pv 0) (pa_cons (pe_bltn (v := .ty "tuple") (by rfl) T.tuple (by decide +kernel) rfl) pa_nil)))
      (pe_and (pe_cmpR op_eq (pe_callB call_len_seq (by rfl) T.len PySem.boot_len (pa_cons (pv 0) pa_nil)) (pv 1) (nomark _))
      (pe_one (pe_callB (cr_all rfl) (by rfl) T.all (by decide +kernel) (pa_cons (pe_lc (own := [("one", 2)]) (g := gName 2) (tt := tYes) rfl nd (pi_tup (pv 0)) (blkOk_by (N := ["value", "many", "one"]) (sc := defScope sWholes) (by decide +kernel)) (fun _ _ _ _ _ => pg_name (i := 2) nd rfl (.inl rfl)) (fun _ _ _ _ _ => pts_nil)
        (fun _ _ _ _ _ => pe_call W.G hr (by rfl) W.g W.kp W.b .nil pass0 (pa_cons (pv 2) pa_nil))) pa_nil)))))), ?_⟩
    rcases hd with hd | ⟨hd, z⟩
    case ins => exact ⟨_, rfl, _, _, _, _, _, rfl, .ty _, .base (.ins hd z.c z.t1 z.t2 z.t3 z.t4), z.kt, false, rfl, q _ (Ex.refl H)⟩
    refine ⟨_, rfl, _, _, _, _, _, rfl, .ty _, tyx hd, kit_ty (isTup d), _, rfl, ?_⟩
    cases hd with
    | non => exact q _ (Ex.refl H)
    | bl b => exact q _ (Ex.refl H)
    | int i => exact q _ (Ex.refl H)
    | str x => exact q _ (Ex.refl H)
    | lst _ _ => exact q _ (Ex.refl H)
    | dk _ _ => exact q _ (Ex.refl H)
    | @tup p xs ds hp ha =>
      have ln := ha.length
      have q : ∀ H', Ex H H' → Q (.bl (decide ((ds.length : Int) = n) && ds.all wholeB)) H' := q
      refine ⟨_, rfl, p, _, rfl, .inr (.inl hp), _, rfl, rfl, _, rfl, ?_⟩
      by_cases e : (ds.length : Int) = n
      · rw [decide_eq_true (show V.int (xs.length : Int) = V.int n by rw [ln, e])]
        refine ⟨_, rfl, p, rfl, ⟨_, .inl hp⟩, fun D nD => lc_tup (xs := xs) (fun i H' => Ex H H' ∧ H' D = some (.lst (((ds.take i).map wholeB).map V.bl)))
          ⟨Ex.new nD, upd_same⟩ (fun i H' _ h => .inl (h.1.rd hp)) (fun i x H' hx h => ?_) (fun H' h => ?_)⟩
        · obtain ⟨ex, eD⟩ := h
          obtain ⟨d1, hd1, hx1⟩ := ha.get hx
          refine ⟨rfl, _, rfl, x, d1, rfl, .dx (hx1.ex ex), _, eD, ?_, ex.mut nD, ?_⟩
          · rw [List.length_map, List.length_map, List.length_take]
            have := sh.1
            exact room1000 (by omega)
          · rw [upd_same, take_all hd1, List.map_append]
            rfl
        · obtain ⟨ex, eD⟩ := h
          rw [ln, List.take_length] at eD
          refine ⟨D, _, rfl, .inl (.inl eD), ?_⟩
          rw [all_id]
          have := q _ ex
          rw [decide_eq_true e, Bool.true_and] at this
          exact this
      · rw [decide_eq_false (show ¬ V.int (xs.length : Int) = V.int n from fun z => e (by rw [← ln]; exact V.int.inj z))]
        have := q _ (Ex.refl H)
        rw [decide_eq_false e, Bool.false_and] at this
        exact this

def spIndex : Sp := fun vs H Q _ => ∃ i n : Int, vs = [.int i, .int n] ∧ 0 ≤ i ∧ i < n ∧ Q (.bl true) H
theorem ok_index {f : Addr} {fd : FuncData} (F : Fun K "is_index" "is_index" sIndex f fd) (T : Blt mg) (W : Df P w K mg base 1 "is_whole" ["value"] (spWhole K)) : FnOk P w K mg base CX0 2 f fd ["value", "many"] spIndex := by
  refine F.ok scIndex (fun vs H Q E h => ?_) (fun cdv A outer s H vs Q E hr h => ?_)
  · obtain ⟨i, n, rfl, _⟩ := h
    rfl
  · obtain ⟨i, n, rfl, h0, h1, q⟩ := h
    refine ⟨_, pss_one (ps_ret (pe_and (pe_call W.G hr (by rfl) W.g W.kp W.b .nil pass0 (pa_cons (pv 0) pa_nil)) (pe_one (pe_chain op_le op_lt pe_int (pv 0) (pv 1))))), ?_⟩
    refine ⟨_, rfl, _, .int i, rfl, .dx (.int i), true, rfl, ?_⟩
    refine ⟨_, rfl, _, _, rfl, rfl, decide (0 ≤ i), rfl, ?_⟩
    rw [decide_eq_true h0]
    refine ⟨_, rfl, _, _, rfl, rfl, ?_⟩
    show Q (.bl (decide (i < n))) H
    rw [decide_eq_true h1]
    exact q

end
end Gl

namespace Gl
/-! the order of amounts: greater ones first, equal ones in their order -/
section
variable {α : Type} (lt : α → α → Prop) [DecidableRel lt] [DecidableEq α]
structure Lin : Prop where
  irr : ∀ a, ¬ lt a a
  tr : ∀ a b c, lt a b → lt b c → lt a c
  tot : ∀ a b, lt a b ∨ a = b ∨ lt b a
/-- x stands ahead of y -/
def Bef (k : Nat → α) (x y : Nat) : Prop := lt (k y) (k x) ∨ (k x = k y ∧ x < y)
instance (k : Nat → α) (x y : Nat) : Decidable (Bef lt k x y) := inferInstanceAs (Decidable (_ ∨ _))
variable {lt} {k : Nat → α}
theorem Lin.asym (h : Lin lt) {a b : α} (x : lt a b) : ¬ lt b a := fun y => h.irr _ (h.tr _ _ _ x y)
theorem Lin.befIrr (h : Lin lt) (x : Nat) : ¬ Bef lt k x x := by
  rintro (y | ⟨_, y⟩)
  · exact h.irr _ y
  · omega
theorem Lin.befAsym (h : Lin lt) {x y : Nat} (a : Bef lt k x y) : ¬ Bef lt k y x := by
  rintro (b | ⟨e, b⟩)
  · rcases a with a | ⟨e, a⟩
    · exact h.asym a b
    · rw [e] at b; exact h.irr _ b
  · rcases a with a | ⟨_, a⟩
    · rw [e] at a; exact h.irr _ a
    · omega
/-- the indices below i, in this order -/
structure Ord (k : Nat → α) (i : Nat) (o : List Nat) : Prop where
  pw : o.Pairwise (Bef lt k)
  pm : o.Perm (List.range i)
theorem Ord.nil : Ord (lt := lt) k 0 [] := ⟨List.Pairwise.nil, List.Perm.refl _⟩
theorem Ord.length {i : Nat} {o : List Nat} (h : Ord (lt := lt) k i o) : o.length = i := by
  rw [h.pm.length_eq, List.length_range]
theorem Ord.lt_of {i : Nat} {o : List Nat} (h : Ord (lt := lt) k i o) {x : Nat} (m : x ∈ o) : x < i := List.mem_range.mp (h.pm.mem_iff.mp m)
/-- one more, put in where all behind are less and none ahead is -/
theorem Ord.put (H : Lin lt) {i low : Nat} {o : List Nat} (h : Ord (lt := lt) k i o) (hl : low ≤ o.length)
    (h1 : ∀ p x, p < low → o[p]? = some x → ¬ lt (k x) (k i)) (h2 : ∀ p x, low ≤ p → o[p]? = some x → lt (k x) (k i)) : Ord (lt := lt) k (i + 1) (o.take low ++ i :: o.drop low) := by
  have pw := h.pw
  rw [← List.take_append_drop low o] at pw
  obtain ⟨pa, pb, pc⟩ := List.pairwise_append.mp pw
  refine ⟨List.pairwise_append.mpr ⟨pa, List.pairwise_cons.mpr ⟨fun y hy => ?_, pb⟩, fun x hx y hy => ?_⟩, ?_⟩
  · obtain ⟨p, hp⟩ := List.getElem?_of_mem hy
    rw [List.getElem?_drop] at hp
    exact .inl (h2 _ y (Nat.le_add_right _ _) hp)
  · rcases List.mem_cons.mp hy with rfl | hy
    · obtain ⟨p, hp⟩ := List.getElem?_of_mem hx
      have pl : p < low := by
        have := (List.getElem?_eq_some_iff.mp hp).1
        rw [List.length_take] at this
        omega
      rw [List.getElem?_take_of_lt pl] at hp
      have nx := h1 p x pl hp
      have xi := h.lt_of (List.mem_of_getElem? hp)
      rcases H.tot (k y) (k x) with z | z | z
      · exact .inl z
      · exact .inr ⟨z.symm, xi⟩
      · exact absurd z nx
    · exact pc x hx y hy
  · refine List.perm_middle.trans ?_
    rw [List.take_append_drop, List.range_succ]
    exact (List.Perm.cons i h.pm).trans (List.perm_append_singleton _ _).symm
theorem place_of (H : Lin lt) : ∀ {o : List Nat} {j x : Nat}, o.Pairwise (Bef lt k) → o[j]? = some x → o.countP (fun y => decide (Bef lt k y x)) = j
  | [], j, x, _, e => by simp at e
  | y :: o, 0, x, pw, e => by
    simp at e
    subst e
    rw [List.countP_eq_zero]
    intro z hz
    rcases List.mem_cons.mp hz with rfl | hz
    · simpa using H.befIrr (k := k) z
    · simpa using H.befAsym ((List.pairwise_cons.mp pw).1 z hz)
  | y :: o, j + 1, x, pw, e => by
    have e' : o[j]? = some x := by simpa using e
    have pc := List.pairwise_cons.mp pw
    rw [List.countP_cons, place_of H pc.2 e', if_pos (decide_eq_true (pc.1 x (List.mem_of_getElem? e')))]
/-- the place of x: how many stand ahead of it -/
theorem Ord.place (H : Lin lt) {i j x : Nat} {o : List Nat} (h : Ord (lt := lt) k i o) (e : o[j]? = some x) : (List.range i).countP (fun y => decide (Bef lt k y x)) = j := by
  rw [← h.pm.countP_eq]
  exact place_of H h.pw e
theorem Ord.has {i x : Nat} {o : List Nat} (h : Ord (lt := lt) k i o) (l : x < i) : ∃ j : Nat, o[j]? = some x := List.getElem?_of_mem (h.pm.mem_iff.mpr (List.mem_range.mpr l))
/-- the list that the law fills -/
def filled (o : List Nat) (i : Nat) : List Nat := o.map fun x => if x < i then x else 0
theorem filled_zero (o : List Nat) : filled o 0 = List.replicate o.length 0 := by
  unfold filled
  induction o with
  | nil => rfl
  | cons x o ih => rw [List.map_cons, ih]; rfl
theorem filled_all {i : Nat} {o : List Nat} (h : Ord (lt := lt) k i o) : filled o i = o := by
  have e : o.map (fun x => if x < i then x else 0) = o.map id := List.map_congr_left fun x hx => if_pos (h.lt_of hx)
  unfold filled
  rw [e, List.map_id]
theorem filled_set {n i j : Nat} {o : List Nat} (h : Ord (lt := lt) k n o) (e : o[j]? = some i) : (filled o i).set j i = filled o (i + 1) := by
  have nd : o.Nodup := h.pm.nodup_iff.mpr List.nodup_range
  obtain ⟨jl, ej⟩ := List.getElem?_eq_some_iff.mp e
  unfold filled
  apply List.ext_getElem
  · rw [List.length_set, List.length_map, List.length_map]
  · intro m m1 m2
    rw [List.getElem_set, List.getElem_map, List.getElem_map]
    have ml : m < o.length := by rw [List.length_map] at m2; exact m2
    by_cases q : j = m
    · subst q
      rw [if_pos rfl, ej, if_pos (Nat.lt_succ_self _)]
    · rw [if_neg q]
      have : o[m] ≠ i := fun z => by
        rcases Nat.lt_or_gt_of_ne q with y | y
        · exact List.pairwise_iff_getElem.mp nd j m jl ml y (ej.trans z.symm)
        · exact List.pairwise_iff_getElem.mp nd m j ml jl y (z.trans ej.symm)
      by_cases a : o[m] < i
      · rw [if_pos a, if_pos (by omega)]
      · rw [if_neg a, if_neg (by omega)]
end
end Gl

namespace Gl
open PySem PySem.Spec PyProof.Rows L2
/-- a fraction in lowest terms -/
structure Low (p q : Nat) : Prop where
  p0 : 0 < p
  q0 : 0 < q
  co : Nat.gcd p q = 1
abbrev Odds := { x : Nat × Nat // Low x.1 x.2 }
def oddsLt (a b : Odds) : Prop := a.1.1 * b.1.2 < b.1.1 * a.1.2
instance : DecidableRel oddsLt := fun a b => inferInstanceAs (Decidable (_ < _))
theorem low_eq {p q r s : Nat} (a : Low p q) (b : Low r s) (e : p * s = r * q) : p = r ∧ q = s := by
  have h1 : p ∣ r := (Nat.Coprime.dvd_of_dvd_mul_right (show Nat.Coprime p q from a.co) ⟨s, e.symm⟩)
  have h2 : r ∣ p := (Nat.Coprime.dvd_of_dvd_mul_right (show Nat.Coprime r s from b.co) ⟨q, e⟩)
  have h3 : p = r := Nat.dvd_antisymm h1 h2
  subst h3
  exact ⟨rfl, (Nat.eq_of_mul_eq_mul_left a.p0 e).symm⟩
theorem odds_lin : Lin oddsLt := by
  refine ⟨fun a => Nat.lt_irrefl _, fun a b c h1 h2 => ?_, fun a b => ?_⟩
  · unfold oddsLt at *
    have b0 := b.2.q0
    have x1 : a.1.1 * b.1.2 * c.1.2 < b.1.1 * a.1.2 * c.1.2 := Nat.mul_lt_mul_of_pos_right h1 c.2.q0
    have x2 : b.1.1 * c.1.2 * a.1.2 < c.1.1 * b.1.2 * a.1.2 := Nat.mul_lt_mul_of_pos_right h2 a.2.q0
    have x3 : a.1.1 * c.1.2 * b.1.2 < c.1.1 * a.1.2 * b.1.2 := by
      calc a.1.1 * c.1.2 * b.1.2 = a.1.1 * b.1.2 * c.1.2 := Nat.mul_right_comm ..
        _ < b.1.1 * a.1.2 * c.1.2 := x1
        _ = b.1.1 * c.1.2 * a.1.2 := Nat.mul_right_comm ..
        _ < c.1.1 * b.1.2 * a.1.2 := x2
        _ = c.1.1 * a.1.2 * b.1.2 := Nat.mul_right_comm ..
    exact Nat.lt_of_mul_lt_mul_right x3
  · unfold oddsLt
    rcases Nat.lt_trichotomy (a.1.1 * b.1.2) (b.1.1 * a.1.2) with z | z | z
    · exact .inl z
    · obtain ⟨e1, e2⟩ := low_eq a.2 b.2 z
      exact .inr (.inl (Subtype.ext (Prod.ext e1 e2)))
    · exact .inr (.inr z)
/-- divided by the greatest divisor -/
theorem low_div {p q : Nat} (hp : 0 < p) (hq : 0 < q) : Low (p / Nat.gcd p q) (q / Nat.gcd p q) :=
  have g0 : 0 < Nat.gcd p q := Nat.gcd_pos_of_pos_left _ hp
  ⟨Nat.div_pos (Nat.le_of_dvd hp (Nat.gcd_dvd_left ..)) g0, Nat.div_pos (Nat.le_of_dvd hq (Nat.gcd_dvd_right ..)) g0, by rw [Nat.gcd_div (Nat.gcd_dvd_left ..) (Nat.gcd_dvd_right ..), Nat.div_self g0]⟩
theorem int_lin : Lin (fun a b : Int => a < b) := ⟨fun a => Int.lt_irrefl a, fun a b c h1 h2 => Int.lt_trans h1 h2, fun a b => by omega⟩
theorem lex_irr : ∀ a : List Int, HT.lexLt a a = false
  | [] => rfl
  | x :: xs => by rw [HT.lexLt_cons, if_pos rfl]; exact lex_irr xs
theorem lex_trans : ∀ a b c : List Int, HT.lexLt a b = true → HT.lexLt b c = true → HT.lexLt a c = true
  | [], [], _, h, _ => nomatch h
  | [], _ :: _, [], _, h => nomatch h
  | [], _ :: _, _ :: _, _, _ => rfl
  | _ :: _, [], _, h, _ => nomatch h
  | _ :: _, _ :: _, [], _, h => nomatch h
  | x :: xs, y :: ys, z :: zs, h1, h2 => by
    rw [HT.lexLt_cons] at *
    by_cases e1 : x = y
    · subst e1
      rw [if_pos rfl] at h1
      by_cases e2 : x = z
      · subst e2
        rw [if_pos rfl] at *
        exact lex_trans xs ys zs h1 h2
      · rw [if_neg e2] at *
        exact h2
    · rw [if_neg e1] at h1
      have l1 := of_decide_eq_true h1
      by_cases e2 : y = z
      · subst e2
        rw [if_neg e1]
        exact h1
      · rw [if_neg e2] at h2
        have l2 := of_decide_eq_true h2
        rw [if_neg (by omega)]
        exact decide_eq_true (by omega)
theorem lex_tot : ∀ a b : List Int, HT.lexLt a b = true ∨ a = b ∨ HT.lexLt b a = true
  | [], [] => .inr (.inl rfl)
  | [], _ :: _ => .inl rfl
  | _ :: _, [] => .inr (.inr rfl)
  | x :: xs, y :: ys => by
    rw [HT.lexLt_cons, HT.lexLt_cons]
    by_cases e : x = y
    · subst e
      rw [if_pos rfl, if_pos rfl]
      rcases lex_tot xs ys with h | h | h
      · exact .inl h
      · exact .inr (.inl (by rw [h]))
      · exact .inr (.inr h)
    · rw [if_neg e, if_neg (fun z => e z.symm)]
      by_cases l : x < y
      · exact .inl (decide_eq_true l)
      · exact .inr (.inr (decide_eq_true (by omega)))
theorem lex_lin : Lin (fun a b : List Int => HT.lexLt a b = true) := ⟨fun a => by rw [lex_irr]; exact Bool.false_ne_true, lex_trans, lex_tot⟩
end Gl

namespace Gl
open PySem PySem.Spec PyProof.Rows L2
/-- an amount of any scale -/
inductive Am
  | n (i : Int)
  | c (ns : List Int)
  | o (x : Odds)
deriving DecidableEq
def amLt : Am → Am → Prop
  | .n i, .n j => i < j
  | .c a, .c b => HT.lexLt a b = true
  | .o a, .o b => oddsLt a b
  | .n _, .c _ => True
  | .n _, .o _ => True
  | .c _, .o _ => True
  | _, _ => False
instance : DecidableRel amLt := fun a b => by cases a <;> cases b <;> unfold amLt <;> infer_instance
theorem am_lin : Lin amLt := by
  refine ⟨fun a => ?_, fun a b c h1 h2 => ?_, fun a b => ?_⟩
  · cases a with
    | n i => exact int_lin.irr i
    | c ns => exact lex_lin.irr ns
    | o x => exact odds_lin.irr x
  · cases a <;> cases b <;> cases c <;> first
      | exact int_lin.tr _ _ _ h1 h2
      | exact lex_lin.tr _ _ _ h1 h2
      | exact odds_lin.tr _ _ _ h1 h2
      | trivial
      | exact h1.elim
      | exact h2.elim
  · cases a with
    | n i => cases b with
      | n j => rcases int_lin.tot i j with h | h | h
               · exact .inl h
               · exact .inr (.inl (congrArg Am.n h))
               · exact .inr (.inr h)
      | c _ => exact .inl trivial
      | o _ => exact .inl trivial
    | c i => cases b with
      | n j => exact .inr (.inr trivial)
      | c j => rcases lex_lin.tot i j with h | h | h
               · exact .inl h
               · exact .inr (.inl (congrArg Am.c h))
               · exact .inr (.inr h)
      | o _ => exact .inl trivial
    | o i => cases b with
      | n j => exact .inr (.inr trivial)
      | c _ => exact .inr (.inr trivial)
      | o j => rcases odds_lin.tot i j with h | h | h
               · exact .inl h
               · exact .inr (.inl (congrArg Am.o h))
               · exact .inr (.inr h)
/-- a scale, as the law has it -/
inductive Ms
  | sums
  | classes (n : Nat)
  | odds
deriving DecidableEq
def Ms.word : Ms → Str
  | .sums => "sums"
  | .classes _ => "classes"
  | .odds => "odds"
def Ms.size : Ms → Nat
  | .classes n => n
  | _ => 1
def Ms.ok : Ms → Prop
  | .classes n => 1 ≤ n ∧ n ≤ 4
  | _ => True
/-- an amount of this scale -/
def Ms.has : Ms → Am → Prop
  | .sums, .n _ => True
  | .classes k, .c ns => ns.length = k
  | .odds, .o _ => True
  | _, _ => False
def one1 : Odds := ⟨(1, 1), by decide, by decide, by decide⟩
def Ms.zero : Ms → Am
  | .sums => .n 0
  | .classes k => .c (List.replicate k 0)
  | .odds => .o one1
theorem Ms.zero_has (m : Ms) : m.has m.zero := by
  cases m with
  | sums => trivial
  | classes k => exact List.length_replicate
  | odds => trivial
def Am.data : Am → PyData
  | .n i => .int i
  | .c ns => .tuple (ns.map PyData.int)
  | .o x => .tuple [.int (x.1.1 : Nat), .int (x.1.2 : Nat)]
/-- an amount, in the heap -/
def AmV (H : Hp) (v : V) : Am → Prop
  | .n i => v = .int i
  | .c ns => ∃ p, v = .ref p ∧ Rd H p (.tup (ns.map V.int))
  | .o x => ∃ p, v = .ref p ∧ Rd H p (.tup [.int (x.1.1 : Nat), .int (x.1.2 : Nat)])
end Gl

namespace Gl
open PySem PySem.Spec PyProof.Rows L2
abbrev sPart : Stmt := topS 12
abbrev sLowest : Stmt := topS 13
abbrev sAreOdds : Stmt := topS 14
theorem scPart : FnScope ["value"] ["value"] (defScope sPart) := ⟨rfl, rfl, rfl, by decide +kernel, rfl, by decide +kernel, by decide +kernel⟩
theorem scLowest : FnScope ["value"] ["value"] (defScope sLowest) := ⟨rfl, rfl, rfl, by decide +kernel, rfl, by decide +kernel, by decide +kernel⟩
theorem scAreOdds : FnScope ["right", "wrong"] ["right", "wrong"] (defScope sAreOdds) := ⟨rfl, rfl, rfl, by decide +kernel, rfl, by decide +kernel, by decide +kernel⟩
def big40 : Int := (10 : Int) ^ (40 : Int).toNat
theorem cpw40 : CPw 10 40 := ⟨by decide, by decide +kernel⟩
/-- the answers -/
def partB : PyData → Bool
  | .int i => decide (0 ≤ i) && decide (i < big40)
  | _ => false
def lowB : PyData → Bool
  | .tuple [.int a, .int b] => decide (0 < a) && (decide (0 < b) && decide (Nat.gcd a.natAbs b.natAbs = 1))
  | _ => false
def oddsB (a b : Int) : Bool := decide (a ≤ 1000000) && decide (b < a)
section
variable {P : Program} {w : World} {K : PySem.W.Frag} {mg : Str → Option Value} {base : Heap}
theorem iteT {A B : Prop} (h : A) : if true = true then A else B := by rw [if_pos rfl]; exact h
theorem iteF {A B : Prop} (h : B) : if false = true then A else B := by rw [if_neg Bool.false_ne_true]; exact h
def spPart (K : PySem.W.Frag) : Sp := fun vs H Q _ => ∃ v d, vs = [v] ∧ Od K H v d ∧ Q (.bl (partB d)) H
theorem ok_part {f : Addr} {fd : FuncData} (F : Fun K "_is_part" "_is_part" sPart f fd) (W : Df P w K mg base 1 "is_whole" ["value"] (spWhole K)) : FnOk P w K mg base CX0 2 f fd ["value"] (spPart K) := by
  refine F.ok scPart (fun vs H Q E h => ?_) (fun cdv A outer s H vs Q E hr h => ?_)
  · obtain ⟨v, d, rfl, _⟩ := h
    rfl
  · obtain ⟨v, d, rfl, hd, q⟩ := h
    refine ⟨_, pss_one (ps_ret (pe_and (pe_call W.G hr (by rfl) W.g W.kp W.b .nil pass0 (pa_cons (pv 0) pa_nil)) (pe_one (pe_chain op_le op_lt pe_int (pv 0) (pe_op op_powW pe_int pe_int))))), ?_⟩
    refine ⟨_, rfl, _, d, rfl, hd, _, rfl, ?_⟩
    cases d with
    | int i =>
      rcases hd with hd | _
      cases hd
      refine ⟨_, rfl, _, _, rfl, rfl, decide (0 ≤ i), rfl, ?_⟩
      by_cases z : 0 ≤ i
      · rw [decide_eq_true z]
        refine ⟨_, _, rfl, rfl, cpw40, _, _, rfl, rfl, ?_⟩
        have q' := q
        simp only [partB, decide_eq_true z, Bool.true_and] at q'
        exact q'
      · rw [decide_eq_false z]
        have q' := q
        simp only [partB, decide_eq_false z, Bool.false_and] at q'
        exact q'
    | none => exact q
    | bool b => exact q
    | str x => exact q
    | list xs => exact q
    | tuple xs => exact q
    | dict xs => exact q

def spAreOdds : Sp := fun vs H Q _ => ∃ a b : Int, vs = [.int a, .int b] ∧ Q (.bl (oddsB a b)) H
theorem ok_areOdds {f : Addr} {fd : FuncData} (F : Fun K "_are_odds" "_are_odds" sAreOdds f fd) (ms : ∃ t, mg "MAX_ODDS" = some (.int 1000000 t)) : FnOk P w K mg base CX0 1 f fd ["right", "wrong"] spAreOdds := by
  refine F.ok scAreOdds (fun vs H Q E h => ?_) (fun cdv A outer s H vs Q E hr h => ?_)
  · obtain ⟨a, b, rfl, _⟩ := h
    rfl
  · obtain ⟨a, b, rfl, q⟩ := h
    obtain ⟨t, ms⟩ := ms
    refine ⟨_, pss_one (ps_ret (pe_chain op_ge op_gt (pe_glob (v := .int 1000000) (by rfl) ms ⟨t, rfl⟩) (pv 0) (pv 1))), ?_⟩
    refine ⟨_, rfl, _, _, rfl, rfl, decide (a ≤ 1000000), rfl, ?_⟩
    unfold oddsB at q
    by_cases z : a ≤ 1000000
    · rw [decide_eq_true z] at q ⊢
      rw [Bool.true_and] at q
      exact ⟨_, rfl, _, _, rfl, rfl, q⟩
    · rw [decide_eq_false z] at q ⊢
      exact q

theorem wholes_two {d : PyData} (h : wholesB d 2 = true) : ∃ a b, d = .tuple [.int a, .int b] := by
  cases d with
  | tuple ds =>
    simp only [wholesB, Bool.and_eq_true, decide_eq_true_eq] at h
    obtain ⟨l, h⟩ := h
    match ds, l, h with
    | [x, y], _, h =>
      simp only [List.all_cons, List.all_nil, Bool.and_true, Bool.and_eq_true] at h
      obtain ⟨hx, hy⟩ := h
      cases x <;> first | cases hx; done | skip
      cases y <;> first | cases hy; done | skip
      exact ⟨_, _, rfl⟩
    | [], l, _ => simp at l
    | [_], l, _ => simp at l
    | _ :: _ :: _ :: _, l, _ => simp only [List.length_cons] at l; omega
  | _ => cases h
theorem low_not {d : PyData} (h : wholesB d 2 = false) : lowB d = false := by
  unfold lowB
  split
  · simp [wholesB, wholeB] at h
  · rfl
def spLowest (K : PySem.W.Frag) : Sp := fun vs H Q _ => ∃ v d, vs = [v] ∧ Od K H v d ∧ Short d ∧ ∀ H', Ex H H' → Q (.bl (lowB d)) H'
theorem ok_lowest {f : Addr} {fd : FuncData} (F : Fun K "_is_lowest" "_is_lowest" sLowest f fd) (hg : mg "gcd" = some (.builtin "math.gcd")) (W : Df P w K mg base 2 "are_whole" ["value", "many"] (spWholes K)) : FnOk P w K mg base CX0 3 f fd ["value"] (spLowest K) := by
  refine F.ok scLowest (fun vs H Q E h => ?_) (fun cdv A outer s H vs Q E hr h => ?_)
  · obtain ⟨v, d, rfl, _⟩ := h
    rfl
  · obtain ⟨v, d, rfl, hd, sh, q⟩ := h
    refine ⟨_, pss_one (ps_ret (pe_and (pe_call W.G hr (by rfl) W.g W.kp W.b .nil pass0 (pa_cons (pv 0) (pa_cons pe_int pa_nil)))
      (pe_and (pe_cmpR op_gt (pe_ix ix_tup (pv 0) pe_int (fun _ _ => rfl)) pe_int (nomark _))
      (pe_and (pe_cmpR op_gt (pe_ix ix_tup (pv 0) pe_int (fun _ _ => rfl)) pe_int (nomark _))
      (pe_one (pe_cmpR op_eq (pe_callBfun cr_gcd (by rfl) hg (pa_cons (pe_ix ix_tup (pv 0) pe_int (fun _ _ => rfl)) (pa_cons (pe_ix ix_tup (pv 0) pe_int (fun _ _ => rfl)) pa_nil))) pe_int (nomark _))))))), ?_⟩
    refine ⟨_, rfl, _, d, 2, rfl, hd, sh, fun H1 e1 => ⟨_, rfl, ?_⟩⟩
    have q := q H1 e1
    cases hw : wholesB d 2 with
    | false =>
      rw [low_not hw] at q
      exact q
    | true =>
      obtain ⟨a, b, rfl⟩ := wholes_two hw
      rcases hd with hd | _
      cases hd with
      | @tup p xs _ hp ha =>
        cases ha with
        | cons h1 ha =>
        cases ha with
        | cons h2 ha =>
        cases ha
        cases h1
        cases h2
        have hp1 : SqT K H1 p [.int a, .int b] := .inl (e1.rd hp)
        simp only [lowB] at q
        refine ⟨_, rfl, p, _, 0, _, rfl, rfl, hp1, rfl, _, _, rfl, rfl, decide (0 < a), rfl, ?_⟩
        by_cases za : 0 < a
        · rw [decide_eq_true za] at q ⊢
          rw [Bool.true_and] at q
          refine ⟨_, rfl, p, _, 1, _, rfl, rfl, hp1, rfl, _, _, rfl, rfl, decide (0 < b), rfl, ?_⟩
          by_cases zb : 0 < b
          · rw [decide_eq_true zb] at q ⊢
            rw [Bool.true_and] at q
            refine ⟨_, rfl, p, _, 0, _, rfl, rfl, hp1, rfl, _, rfl, p, _, 1, _, rfl, rfl, hp1, rfl, _, _, rfl, rfl, ?_⟩
            have g : decide (V.int ((Nat.gcd a.natAbs b.natAbs : Nat) : Int) = V.int 1) = decide (Nat.gcd a.natAbs b.natAbs = 1) := decide_eq_decide.mpr ⟨fun z => by injection z with z; exact Int.natCast_inj.mp z, fun z => by rw [z]; rfl⟩
            rw [g]
            exact q
          · rw [decide_eq_false zb] at q ⊢
            exact q
        · rw [decide_eq_false za] at q ⊢
          exact q
end
end Gl

namespace Gl
open PySem PySem.Spec PyProof.Rows L2
abbrev sLowL : Stmt := topS 20
theorem scLowL : FnScope ["_law_top", "_law_bottom", "_law_one", "_law_other"] ["_law_top", "_law_bottom"] (defScope sLowL) := ⟨rfl, rfl, rfl, by decide +kernel, rfl, by decide +kernel, by decide +kernel⟩
section
variable {P : Program} {w : World} {K : PySem.W.Frag} {mg : Str → Option Value} {base : Heap}
def oddV (x : Odds) : List V := [.int (x.1.1 : Nat), .int (x.1.2 : Nat)]
def spLowL : Sp := fun vs H Q _ => ∃ a b : Nat, vs = [.int a, .int b] ∧ 0 < a ∧ 0 < b ∧ a < 2 ^ 190 ∧ b < 2 ^ 190 ∧ ∀ (p : Addr) H' (h : Low (a / Nat.gcd a b) (b / Nat.gcd a b)), Ex H H' → H p = none → Rd H' p (.tup (oddV ⟨(a / Nat.gcd a b, b / Nat.gcd a b), h⟩)) → Q (.ref p) H'
theorem ok_lowL {f : Addr} {fd : FuncData} (F : Fun K "_law_lowest" "_law_lowest" sLowL f fd) (T : Blt mg) : FnG P w K mg base CX0 1 f fd ["_law_top", "_law_bottom"] spLowL := by
  refine okG F scLowL (fun vs H Q E h => ?_) (fun cdv A outer s H vs Q E hr h => ?_)
  · obtain ⟨a, b, rfl, _⟩ := h
    rfl
  · obtain ⟨a, b, rfl, ha, hb, la, lb, q⟩ := h
    have nd := scLowL.nd
    refine ⟨_, pss_cons (ps_par (i := 2) (j := 3) rfl nd rfl rfl (by decide) rfl rfl (pa_cons (pv 0) (pa_cons (pv 1) pa_nil)) (by rfl))
      (pss_cons (ps_while PassesOwn.never (pt_cmpR op_gt (pv 3) pe_int (nomark _)) (pss_one (ps_par (i := 2) (j := 3) rfl nd rfl rfl (by decide) rfl rfl (pa_cons (pv 3) (pa_cons (pe_op op_mod (pe_callTy call_int1 (by rfl) T.int (by decide +kernel) (pa_cons (pv 2) pa_nil)) (pv 3)) pa_nil)) (by rfl))))
      (pss_one (ps_ret (pe_tup (pa_cons (pe_op op_fdivW (pv 0) (pv 2)) (pa_cons (pe_op op_fdivW (pv 1) (pv 2)) pa_nil)))))), ?_⟩
    refine ⟨_, rfl, _, rfl, _, _, rfl, ?_⟩
    refine ⟨fun m σ H' => ∃ u v : Nat, σ = [some (.int a), some (.int b), some (.int u), some (.int v)] ∧ H' = H ∧ v = m ∧ Nat.gcd u v = Nat.gcd a b ∧ 0 < u ∧ u < 2 ^ 190 ∧ v < 2 ^ 190, ⟨b, a, b, rfl, rfl, rfl, rfl, ha, la, lb⟩, fun m σ H' h => ?_⟩
    obtain ⟨u, v, rfl, rfl, rfl, g, u0, ul, vl⟩ := h
    refine ⟨_, rfl, _, _, rfl, rfl, _, rfl, ?_⟩
    by_cases z : v = 0
    · subst z
      rw [decide_eq_false (show ¬ (0 : Int) < ((0 : Nat) : Int) by omega)]
      refine iteF ?_
      rw [Nat.gcd_zero_right] at g
      subst g
      refine ⟨_, rfl, _, rfl, _, _, rfl, rfl, wide_div (by omega) (show ((Nat.gcd a b : Nat) : Int).natAbs < 2 ^ 190 by rw [Int.natAbs_natCast]; exact ul) (by decide) (by decide), _, rfl, _, rfl, _, _, rfl, rfl, wide_div (by omega) (show ((Nat.gcd a b : Nat) : Int).natAbs < 2 ^ 190 by rw [Int.natAbs_natCast]; exact ul) (by decide) (by decide), by show 2 ≤ sizeLine; decide, fun p np => ?_⟩
      exact q p _ (low_div ha hb) (Ex.new np) np (.inl (by rw [upd_same]; rfl))
    · rw [decide_eq_true (show (0 : Int) < (v : Int) by omega)]
      refine iteT ?_
      refine ⟨fun σ' H'' => σ' = [some (.int a), some (.int b), some (.int v), some (.int (u % v : Nat))] ∧ H'' = H', fun σ' H'' h => ?_, ?_⟩
      · obtain ⟨rfl, rfl⟩ := h
        refine ⟨u % v, Nat.mod_lt _ (by omega), v, u % v, rfl, rfl, rfl, ?_, by omega, by omega, Nat.lt_trans (Nat.mod_lt _ (by omega)) vl⟩
        rw [← g, Nat.gcd_comm u v, Nat.gcd_rec v u, Nat.gcd_comm]
      · refine ⟨_, rfl, _, rfl, .inl ⟨_, rfl, _, rfl, _, _, rfl, rfl, (show (0 : Int) < v by omega), _, _, rfl, rfl, rfl⟩⟩
end
end Gl

namespace Gl
open PySem PySem.Spec PyProof.Rows L2
abbrev sScaleL : Stmt := topS 19
theorem scScaleL : FnScope ["_law_dice_here"] ["_law_dice_here"] (defScope sScaleL) := ⟨rfl, rfl, rfl, by decide +kernel, rfl, by decide +kernel, by decide +kernel⟩
/-- the pair (word, size) -/
def MsV (H : Hp) (p : Addr) (m : Ms) : Prop := Rd H p (.tup [.str m.word, .int (m.size : Nat)])
/-- parts that fit a product -/
def Am.wide : Am → Prop
  | .o x => x.1.1 < 2 ^ 2000 ∧ x.1.2 < 2 ^ 2000
  | _ => True
theorem cmulW {a b : Nat} (h1 : a < 2 ^ 2000) (h2 : b < 2 ^ 2000) : CMulW a b := by
  unfold CMulW
  rw [Int.natAbs_natCast, Int.natAbs_natCast]
  have l : ∀ n : Nat, n < 2 ^ 2000 → n.log2 < 2001 := fun n h => by
    by_cases z : n = 0
    · subst z; decide
    · have := (Nat.log2_lt z).mpr h
      omega
  have := l a h1
  have := l b h2
  omega
theorem word_odds (m : Ms) : decide (V.str m.word = V.str "odds") = decide (m = .odds) := by
  cases m with
  | sums => decide +kernel
  | classes k =>
    rw [decide_eq_false (fun z => nomatch z)]
    exact (show decide (V.str "classes" = V.str "odds") = false by decide +kernel)
  | odds => decide +kernel
section
variable {P : Program} {w : World} {K : PySem.W.Frag} {mg : Str → Option Value} {base : Heap}
def spScaleL : Sp := fun vs H Q _ => ∃ a : Addr, vs = [.ref a] ∧ Dice H a ∧ ∀ (m : Ms) p H', m.ok → Gro a H H' → MsV H' p m → Q (.ref p) H'
theorem ok_scaleL {f : Addr} {fd : FuncData} (F : Fun K "_law_scale" "_law_scale" sScaleL f fd) (D : Dc P w K mg base) : FnG P w K mg base CX0 2 f fd ["_law_dice_here"] spScaleL := by
  refine okG F scScaleL (fun vs H Q E h => ?_) (fun cdv A outer s H vs Q E hr h => ?_)
  · obtain ⟨a, rfl, _⟩ := h
    rfl
  · obtain ⟨a, rfl, hd, q⟩ := h
    refine ⟨_, pss_one (ps_ret (pe_ix ix_list (pe_lst (pa_cons (pe_tup (pa_cons pe_str (pa_cons pe_int pa_nil))) (pa_cons (pe_tup (pa_cons pe_str (pa_cons (pe_op op_add pe_int (pe_callG D.G hr (by rfl) D.g D.kp D.b .nil pass0 (pa_cons (pv 0) (pa_cons pe_int pa_nil)))) pa_nil))) (pa_cons (pe_tup (pa_cons pe_str (pa_cons pe_int pa_nil))) pa_nil))))
      (pe_callG D.G hr (by rfl) D.g D.kp D.b .nil pass0 (pa_cons (pv 0) (pa_cons pe_int pa_nil))) (fun _ _ => rfl))), ?_⟩
    have s2 : 2 ≤ sizeLine := by decide
    refine ⟨s2, fun t1 n1 => ⟨_, rfl, a, 4, rfl, by decide, by decide, (Ex.new n1).dice hd, fun v H1 v0 v1 g1 => ?_⟩⟩
    have x1 := Ex.new (o := .tup [.str "sums", .int 1]) n1
    obtain ⟨n, rfl⟩ : ∃ n : Nat, v = n := ⟨v.toNat, by omega⟩
    have gA := (Gro.of x1 hd).trans g1
    refine ⟨_, _, rfl, rfl, s2, fun t2 n2 => ⟨s2, fun t3 n3 => ⟨by show 3 ≤ sizeLine; decide, fun L nL => ?_⟩⟩⟩
    have x2 := Ex.new (o := .tup [.str "classes", .int (1 + (n : Int))]) n2
    have x3 := Ex.new (o := .tup [.str "odds", .int 1]) n3
    have xL := Ex.new (o := .lst [.ref t1, .ref t2, .ref t3]) nL
    have gB := ((gA.ex x2).ex x3).ex xL
    have La := ((gA.ex x2).ex x3).di.ne nL
    refine ⟨_, rfl, a, 3, rfl, by decide, by decide, gB.di, fun v H2 w0 w1 g2 => ?_⟩
    have g := gB.trans g2
    have eL := g2.st L _ La upd_same
    have d0 := gB.di
    obtain ⟨m, rfl⟩ : ∃ m : Nat, v = m := ⟨v.toNat, by omega⟩
    match m, w1 with
    | 0, _ => exact ⟨L, _, 0, _, rfl, rfl, .inl (.inl eL), rfl, q .sums t1 H2 trivial g (g2.rd d0 ((x2.trans (x3.trans xL)).rd (g1.rd (x1.dice hd) (.inl upd_same))))⟩
    | 1, _ =>
      refine ⟨L, _, 1, _, rfl, rfl, .inl (.inl eL), rfl, q (.classes (1 + n)) t2 H2 ⟨by omega, by omega⟩ g (g2.rd d0 ((x3.trans xL).rd (.inl ?_)))⟩
      rw [upd_same]
      show some (HO.tup [.str "classes", .int (1 + (n : Int))]) = some (HO.tup [.str "classes", .int ((1 + n : Nat) : Int)])
      rw [show ((1 + n : Nat) : Int) = 1 + (n : Int) by omega]
    | 2, _ => exact ⟨L, _, 2, _, rfl, rfl, .inl (.inl eL), rfl, q .odds t3 H2 trivial g (g2.rd d0 (xL.rd (.inl upd_same)))⟩
    | m + 3, z => omega

end
end Gl

namespace Gl
open PySem PySem.Spec PyProof.Rows L2
abbrev sAmtL : Stmt := topS 23
theorem scAmtL : FnScope ["_law_dice_here", "_law_measure", "_law_found", "_law_big", "_law_turn"] ["_law_dice_here", "_law_measure"] (defScope sAmtL) := ⟨rfl, rfl, rfl, by decide +kernel, rfl, by decide +kernel, by decide +kernel⟩
theorem big40_lt : 0 < big40 ∧ big40 + 1 < 2 ^ 190 ∧ big40.natAbs < 2 ^ 200 := by unfold big40; decide +kernel
/-- not far from zero -/
def Am.near : Am → Prop
  | .n i => i.natAbs < 2 ^ 190
  | .c ns => ∀ n ∈ ns, n.natAbs < 2 ^ 190
  | .o x => x.1.1 < 2 ^ 190 ∧ x.1.2 < 2 ^ 190
theorem Am.near.wide {x : Am} (h : x.near) : x.wide := by
  cases x with
  | n _ => trivial
  | c _ => trivial
  | o x =>
    have l : (2 : Nat) ^ 190 ≤ 2 ^ 2000 := Nat.pow_le_pow_right (by decide) (by decide)
    exact ⟨Nat.lt_of_lt_of_le h.1 l, Nat.lt_of_lt_of_le h.2 l⟩
theorem word_sums (m : Ms) : decide (V.str m.word = V.str "sums") = decide (m = .sums) := by
  cases m with
  | sums => decide +kernel
  | classes k =>
    rw [decide_eq_false (show ¬ Ms.classes k = .sums from fun z => nomatch z)]
    exact (show decide (V.str "classes" = V.str "sums") = false by decide +kernel)
  | odds => decide +kernel
def Ms.isC : Ms → Bool
  | .classes _ => true
  | _ => false
theorem word_classes (m : Ms) : decide (V.str m.word = V.str "classes") = m.isC := by
  cases m with
  | sums => exact (show decide (V.str "sums" = V.str "classes") = false by decide +kernel)
  | classes k => exact (show decide (V.str "classes" = V.str "classes") = true by decide +kernel)
  | odds => exact (show decide (V.str "odds" = V.str "classes") = false by decide +kernel)
theorem Gro.msV {a p : Addr} {H H' : Hp} {m : Ms} (g : Gro a H H') (d : Dice H a) (h : MsV H p m) : MsV H' p m := g.rd d h
section
variable {P : Program} {w : World} {K : PySem.W.Frag} {mg : Str → Option Value} {base : Heap}
def spAmtL : Sp := fun vs H Q _ => ∃ (a p : Addr) (m : Ms), vs = [.ref a, .ref p] ∧ Dice H a ∧ MsV H p m ∧ m.ok ∧ ∀ (v : V) (x : Am) H', Gro a H H' → m.has x → x.near → AmV H' v x → Q v H'
theorem ok_amtL {f : Addr} {fd : FuncData} (F : Fun K "_law_amount" "_law_amount" sAmtL f fd) (T : Blt mg) (D : Dc P w K mg base) (Lo : DfG P w K mg base 1 "_law_lowest" ["_law_top", "_law_bottom"] spLowL) : FnG P w K mg base CX0 2 f fd ["_law_dice_here", "_law_measure"] spAmtL := by
  refine okG F scAmtL (fun vs H Q E h => ?_) (fun cdv A outer s H vs Q E hr h => ?_)
  · obtain ⟨a, p, m, rfl, _⟩ := h
    rfl
  · obtain ⟨a, p, m, rfl, hd, hm, mok, q⟩ := h
    have nd := scAmtL.nd
    refine ⟨_, pss_cons (ps_if (pt_cmpR op_eq (pe_ix ix_tup (pv 1) pe_int (fun _ _ => rfl)) pe_str (nomark _))
        (pss_cons (ps_set (i := 2) nd rfl (.inl rfl) (pe_callG D.G hr (by rfl) D.g D.kp D.b .nil pass0 (pa_cons (pv 0) (pa_cons (pe_ix ix_list (pe_lst (pa_cons pe_int (pa_cons pe_int (pa_cons (pe_op op_powW pe_int pe_int) pa_nil)))) (pe_callG D.G hr (by rfl) D.g D.kp D.b .nil pass0 (pa_cons (pv 0) (pa_cons pe_int pa_nil))) (fun _ _ => rfl)) pa_nil))))
        (pss_one (ps_ret (pe_op op_sub (pv 2) (pe_callG D.G hr (by rfl) D.g D.kp D.b .nil pass0 (pa_cons (pv 0) (pa_cons (pe_ix ix_list (pe_lst (pa_cons pe_int (pa_cons pe_int (pa_cons (pe_op op_powW pe_int pe_int) pa_nil)))) (pe_callG D.G hr (by rfl) D.g D.kp D.b .nil pass0 (pa_cons (pv 0) (pa_cons pe_int pa_nil))) (fun _ _ => rfl)) pa_nil))))))) pss_nil)
      (pss_cons (ps_if (pt_cmpR op_eq (pe_ix ix_tup (pv 1) pe_int (fun _ _ => rfl)) pe_str (nomark _))
        (pss_one (ps_ret (pe_callTy call_tupleF (by rfl) T.tuple (by decide +kernel) (pa_cons (pe_lc (own := [("_law_turn", 4)]) (g := gName 4) (tt := tYes) rfl nd (pi_range1 rfl T.range (pa_cons (pe_ix ix_tup (pv 1) pe_int (fun _ _ => rfl)) pa_nil)) (blkOk_by (N := ["_law_dice_here", "_law_measure", "_law_found", "_law_big", "_law_turn"]) (sc := defScope sAmtL) (by decide +kernel)) (fun _ _ _ _ _ => pg_name (i := 4) nd rfl (.inl rfl)) (fun _ _ _ _ _ => pts_nil)
          (fun _ _ _ _ _ => pe_op op_sub (pe_callG D.G hr (by rfl) D.g D.kp D.b .nil pass0 (pa_cons (pv 0) (pa_cons pe_int pa_nil))) (pe_callG D.G hr (by rfl) D.g D.kp D.b .nil pass0 (pa_cons (pv 0) (pa_cons pe_int pa_nil))))) pa_nil)))) pss_nil)
      (pss_cons (ps_set (i := 3) nd rfl (.inl rfl) (pe_ix ix_list (pe_lst (pa_cons pe_int (pa_cons pe_int (pa_cons (pe_op op_powW pe_int pe_int) pa_nil)))) (pe_callG D.G hr (by rfl) D.g D.kp D.b .nil pass0 (pa_cons (pv 0) (pa_cons pe_int pa_nil))) (fun _ _ => rfl)))
      (pss_one (ps_ret (pe_callG Lo.G hr (by rfl) Lo.g Lo.kp Lo.b .nil pass0 (pa_cons (pe_op op_add pe_int (pe_callG D.G hr (by rfl) D.g D.kp D.b .nil pass0 (pa_cons (pv 0) (pa_cons (pv 3) pa_nil)))) (pa_cons (pe_op op_add pe_int (pe_callG D.G hr (by rfl) D.g D.kp D.b .nil pass0 (pa_cons (pv 0) (pa_cons (pv 3) pa_nil)))) pa_nil))))))), ?_⟩
    have s3 : 3 ≤ sizeLine := by decide
    obtain ⟨b0, b1, b2⟩ := big40_lt
    have pick3 : ∀ (c d : Int) {j : Int}, 0 < c → c ≤ 100 → 0 < d → d ≤ 100 → 0 ≤ j → j < 3 → ∃ t : Int, atI [V.int c, .int d, .int big40] j = some (.int t) ∧ 0 < t ∧ t.natAbs < 2 ^ 200 ∧ t + 1 < 2 ^ 190 := by
      intro c d j c0 c1 d0 d1 j0 j1
      obtain ⟨j, rfl⟩ : ∃ k : Nat, j = k := ⟨j.toNat, by omega⟩
      match j, j1 with
      | 0, _ => exact ⟨c, rfl, c0, by omega, by omega⟩
      | 1, _ => exact ⟨d, rfl, d0, by omega, by omega⟩
      | 2, _ => exact ⟨big40, rfl, b0, b2, b1⟩
      | j + 3, z => omega
    refine ⟨_, rfl, p, _, 0, _, rfl, rfl, .inl hm, rfl, rfl, _, rfl, ?_⟩
    rw [word_sums]
    cases m with
    | sums =>
      refine ⟨_, rfl, _, _, rfl, rfl, cpw40, s3, fun L nL => ?_⟩
      have xL := Ex.new (o := .lst [.int 2, .int 5, .int ((10 : Int) ^ (40 : Int).toNat)]) nL
      refine ⟨_, rfl, a, 3, rfl, by decide, by decide, xL.dice hd, fun j H1 j0 j1 g1 => ?_⟩
      have gA := (Gro.of xL hd).trans g1
      have La := hd.ne nL
      obtain ⟨t, ht, t0, t1, t2⟩ := pick3 2 5 (by decide) (by decide) (by decide) (by decide) j0 j1
      refine ⟨L, _, j, _, rfl, rfl, .inl (.inl (g1.st L _ La upd_same)), ht, a, t, rfl, t0, t1, gA.di, fun i H2 i0 i1 g2 => ?_⟩
      have gB := gA.trans g2
      refine ⟨_, rfl, _, rfl, _, _, rfl, rfl, cpw40, s3, fun M nM => ?_⟩
      have xM := Ex.new (o := .lst [.int 2, .int 5, .int ((10 : Int) ^ (40 : Int).toNat)]) nM
      refine ⟨_, rfl, a, 3, rfl, by decide, by decide, xM.dice gB.di, fun k H3 k0 k1 g3 => ?_⟩
      have gC := (gB.ex xM).trans g3
      have Ma := gB.di.ne nM
      obtain ⟨u, hu, u0, u1, u2⟩ := pick3 2 5 (by decide) (by decide) (by decide) (by decide) k0 k1
      refine ⟨M, _, k, _, rfl, rfl, .inl (.inl (g3.st M _ Ma upd_same)), hu, a, u, rfl, u0, u1, gC.di, fun l H4 l0 l1 g4 => ?_⟩
      exact ⟨_, _, rfl, rfl, q _ (.n (i - l)) H4 (gC.trans g4) trivial (show (i - l).natAbs < 2 ^ 190 by omega) rfl⟩
    | classes k =>
      refine ⟨_, rfl, p, _, 0, _, rfl, rfl, .inl hm, rfl, rfl, _, rfl, ?_⟩
      rw [word_classes]
      refine ⟨_, rfl, p, _, 1, _, rfl, rfl, .inl hm, rfl, k, rfl, by have := mok.2; omega, by have := mok.2; omega, fun L nL => ?_⟩
      have La := hd.ne nL
      refine lc_range (n := k) (fun i H' => ∃ ns : List Int, Gro a H H' ∧ H' L = some (.lst (ns.map V.int)) ∧ ns.length = i ∧ ∀ n ∈ ns, n.natAbs < 2 ^ 190)
        ⟨[], Gro.of (Ex.new nL) hd, upd_same, rfl, fun _ z => (nomatch z)⟩ (fun i H1 hi h => ?_) (fun H1 h => ?_)
      · obtain ⟨ns, g, eL, len, bd⟩ := h
        refine ⟨rfl, _, rfl, a, 4, rfl, by decide, by decide, g.di, fun u H2 u0 u1 g2 => ?_⟩
        refine ⟨_, rfl, a, 4, rfl, by decide, by decide, g2.di, fun t H3 t0 t1 g3 => ?_⟩
        have g23 := g2.trans g3
        have := mok.2
        refine ⟨_, _, rfl, rfl, _, g23.st L _ La eL, ?_, ns ++ [u - t], (g.trans g23).mut nL La, by rw [upd_same, List.map_append]; rfl, by rw [List.length_append, len]; rfl, fun n hn => ?_⟩
        · rw [List.length_map, len]
          exact Nat.lt_of_lt_of_le (show i < 100 by omega) (by decide)
        · rcases List.mem_append.mp hn with z | z
          · exact bd n z
          · rw [List.mem_singleton.mp z]
            have : (u - t).natAbs < 4 := by omega
            exact Nat.lt_of_lt_of_le this (by decide)
      · obtain ⟨ns, g, eL, len, bd⟩ := h
        refine ⟨L, _, rfl, .inl (.inl eL), fun t o nt _ => ?_⟩
        exact q _ (.c ns) _ (g.ex (Ex.new nt)) len bd ⟨t, rfl, .inr ⟨o, upd_same⟩⟩
    | odds =>
      refine ⟨_, rfl, p, _, 0, _, rfl, rfl, .inl hm, rfl, rfl, _, rfl, ?_⟩
      rw [word_classes]
      refine ⟨_, _, rfl, rfl, cpw40, s3, fun L nL => ?_⟩
      have xL := Ex.new (o := .lst [.int 3, .int 12, .int ((10 : Int) ^ (40 : Int).toNat)]) nL
      refine ⟨_, rfl, a, 3, rfl, by decide, by decide, xL.dice hd, fun j H1 j0 j1 g1 => ?_⟩
      have gA := (Gro.of xL hd).trans g1
      obtain ⟨t, ht, t0, t1, t2⟩ := pick3 3 12 (by decide) (by decide) (by decide) (by decide) j0 j1
      refine ⟨L, _, j, _, rfl, rfl, .inl (.inl (g1.st L _ (hd.ne nL) upd_same)), ht, ?_⟩
      refine ⟨_, rfl, _, rfl, a, t, rfl, t0, t1, gA.di, fun u H2 u0 u1 g2 => ?_⟩
      have gB := gA.trans g2
      refine ⟨_, _, rfl, rfl, _, rfl, _, rfl, a, t, rfl, t0, t1, gB.di, fun v H3 v0 v1 g3 => ?_⟩
      obtain ⟨u, rfl⟩ : ∃ k : Nat, u = k := ⟨u.toNat, by omega⟩
      obtain ⟨v, rfl⟩ : ∃ k : Nat, v = k := ⟨v.toNat, by omega⟩
      refine ⟨_, _, rfl, rfl, 1 + u, 1 + v, by rw [Int.natCast_add, Int.natCast_add]; rfl, by omega, by omega, by omega, by omega, fun pt H4 lo e4 np rd => ?_⟩
      refine q _ (.o ⟨_, lo⟩) _ ((gB.trans g3).ex e4) trivial ⟨?_, ?_⟩ ⟨pt, rfl, rd⟩
      · exact Nat.lt_of_le_of_lt (Nat.div_le_self ..) (by omega)
      · exact Nat.lt_of_le_of_lt (Nat.div_le_self ..) (by omega)
end
end Gl

namespace Gl
open PySem PySem.Spec PyProof.Rows L2
abbrev sWgtL : Stmt := topS 21
theorem scWgtL : FnScope ["_law_dice_here", "_law_measure", "_law_found", "_law_bottom", "_law_turn", "_law_one"] ["_law_dice_here", "_law_measure"] (defScope sWgtL) := ⟨rfl, rfl, rfl, by decide +kernel, rfl, by decide +kernel, by decide +kernel⟩
section
variable {P : Program} {w : World} {K : PySem.W.Frag} {mg : Str → Option Value} {base : Heap}
theorem pick_small (xs : List Int) (hx : ∀ x ∈ xs, 0 < x ∧ x ≤ 10 ^ 30) {j : Int} (j0 : 0 ≤ j) (j1 : j < xs.length) : ∃ t : Int, atI (xs.map V.int) j = some (.int t) ∧ 0 < t ∧ t ≤ 10 ^ 30 := by
  obtain ⟨j, rfl⟩ : ∃ k : Nat, j = k := ⟨j.toNat, by omega⟩
  have l : j < xs.length := by omega
  exact ⟨xs[j], atI_nat (by rw [List.getElem?_map, List.getElem?_eq_getElem l]; rfl), hx _ (List.getElem_mem l)⟩
theorem cpw30 : CPw 10 30 := ⟨by decide, by decide +kernel⟩
theorem ok_wgtL {f : Addr} {fd : FuncData} (F : Fun K "_law_weight" "_law_weight" sWgtL f fd) (T : Blt mg) (D : Dc P w K mg base) (Lo : DfG P w K mg base 1 "_law_lowest" ["_law_top", "_law_bottom"] spLowL) : FnG P w K mg base CX0 2 f fd ["_law_dice_here", "_law_measure"] spAmtL := by
  refine okG F scWgtL (fun vs H Q E h => ?_) (fun cdv A outer s H vs Q E hr h => ?_)
  · obtain ⟨a, p, m, rfl, _⟩ := h
    rfl
  · obtain ⟨a, p, m, rfl, hd, hm, mok, q⟩ := h
    have nd := scWgtL.nd
    have hu : (A.deeper (envOfC "_law_weight" (defScope sWgtL) s.heap.objs.size f cdv)).units < cLine := by have := hr.rm.un; omega
    refine ⟨_, pss_cons (ps_if (pt_cmpR op_eq (pe_ix ix_tup (pv 1) pe_int (fun _ _ => rfl)) pe_str (nomark _))
        (pss_one (ps_ret (pe_op op_add pe_int (pe_callG D.G hr (by rfl) D.g D.kp D.b .nil pass0 (pa_cons (pv 0) (pa_cons (pe_ix ix_list (pe_lst (pa_cons pe_int (pa_cons pe_int (pa_cons pe_int (pa_cons (pe_op op_powW pe_int pe_int) pa_nil))))) (pe_callG D.G hr (by rfl) D.g D.kp D.b .nil pass0 (pa_cons (pv 0) (pa_cons pe_int pa_nil))) (fun _ _ => rfl)) pa_nil)))))) pss_nil)
      (pss_cons (ps_if (pt_cmpR op_eq (pe_ix ix_tup (pv 1) pe_int (fun _ _ => rfl)) pe_str (nomark _))
        (pss_cons (ps_setLc (i := 2) (own := [("_law_turn", 4)]) (g := gName 4) (tt := tYes) rfl nd rfl rfl (sw_true rfl rfl rfl (by decide +kernel)) (pi_range1 rfl T.range (pa_cons (pe_ix ix_tup (pv 1) pe_int (fun _ _ => rfl)) pa_nil)) (blkOk_by (N := ["_law_dice_here", "_law_measure", "_law_found", "_law_bottom", "_law_turn", "_law_one"]) (sc := defScope sWgtL) (by decide +kernel)) (fun _ _ _ _ _ => pg_name (i := 4) nd rfl (.inl rfl)) (fun _ _ _ _ _ => pts_nil)
          (fun _ _ _ _ _ => pe_callG D.G hr (by rfl) D.g D.kp D.b .nil pass0 (pa_cons (pv 0) (pa_cons (pe_ix (r := rIxL K) ix_list (pe_lst (pa_cons pe_int (pa_cons pe_int (pa_cons pe_int pa_nil)))) (pe_callG D.G hr (by rfl) D.g D.kp D.b .nil pass0 (pa_cons (pv 0) (pa_cons pe_int pa_nil))) (fun _ _ => rfl)) pa_nil))))
        (pss_cons (ps_if (pt_cmpR (op_eqNil hu) (pe_lc (own := [("_law_one", 5)]) (g := gName 5) rfl nd (pi_list (pv 2)) (blkOk_by (N := ["_law_dice_here", "_law_measure", "_law_found", "_law_bottom", "_law_turn", "_law_one"]) (sc := defScope sWgtL) (by decide +kernel)) (fun _ _ _ _ _ => pg_name (i := 5) nd rfl (.inl rfl)) (fun _ _ _ _ _ => pts_one (pt_cmpR op_gt (pv 5) pe_int (nomark _)))
            (fun _ _ _ _ _ => pv 5)) (pe_lst pa_nil) (nomark _))
          (pss_one (ps_asg pe_int (pg_sub (pv 2) (pe_callG D.G hr (by rfl) D.g D.kp D.b .nil pass0 (pa_cons (pv 0) (pa_cons (pe_callB call_len_seq (by rfl) T.len PySem.boot_len (pa_cons (pv 2) pa_nil)) pa_nil))) set_list))) pss_nil)
        (pss_one (ps_ret (pe_callTy call_tupleF (by rfl) T.tuple (by decide +kernel) (pa_cons (pv 2) pa_nil)))))) pss_nil)
      (pss_cons (ps_set (i := 3) nd rfl (.inl rfl) (pe_op op_add pe_int (pe_callG D.G hr (by rfl) D.g D.kp D.b .nil pass0 (pa_cons (pv 0) (pa_cons (pe_ix ix_list (pe_lst (pa_cons pe_int (pa_cons pe_int (pa_cons pe_int (pa_cons pe_int pa_nil))))) (pe_callG D.G hr (by rfl) D.g D.kp D.b .nil pass0 (pa_cons (pv 0) (pa_cons pe_int pa_nil))) (fun _ _ => rfl)) pa_nil)))))
      (pss_one (ps_ret (pe_callG Lo.G hr (by rfl) Lo.g Lo.kp Lo.b .nil pass0 (pa_cons (pe_op op_add (pe_op op_add (pv 3) pe_int) (pe_callG D.G hr (by rfl) D.g D.kp D.b .nil pass0 (pa_cons (pv 0) (pa_cons (pe_ix ix_list (pe_lst (pa_cons pe_int (pa_cons pe_int (pa_cons pe_int (pa_cons pe_int pa_nil))))) (pe_callG D.G hr (by rfl) D.g D.kp D.b .nil pass0 (pa_cons (pv 0) (pa_cons pe_int pa_nil))) (fun _ _ => rfl)) pa_nil)))) (pa_cons (pv 3) pa_nil))))))), ?_⟩
    have b200 : ∀ t : Int, 0 < t → t ≤ 10 ^ 30 → t.natAbs < 2 ^ 200 := fun t h0 h1 => by omega
    refine ⟨_, rfl, p, _, 0, _, rfl, rfl, .inl hm, rfl, rfl, _, rfl, ?_⟩
    rw [word_sums]
    cases m with
    | sums =>
      refine ⟨_, rfl, _, _, rfl, rfl, cpw30, by show 4 ≤ sizeLine; decide, fun L nL => ?_⟩
      have xL := Ex.new (o := .lst [.int 2, .int 3, .int 9, .int ((10 : Int) ^ (30 : Int).toNat)]) nL
      refine ⟨_, rfl, a, 4, rfl, by decide, by decide, xL.dice hd, fun j H1 j0 j1 g1 => ?_⟩
      have gA := (Gro.of xL hd).trans g1
      obtain ⟨t, ht, t0, t1⟩ := pick_small [2, 3, 9, 10 ^ 30] (by decide +kernel) j0 j1
      refine ⟨L, _, j, .int t, rfl, rfl, .inl (.inl (g1.st L _ (hd.ne nL) upd_same)), ht, a, t, rfl, t0, b200 t t0 t1, gA.di, fun i H2 i0 i1 g2 => ?_⟩
      exact ⟨_, _, rfl, rfl, q _ (.n (1 + i)) H2 (gA.trans g2) trivial (show (1 + i).natAbs < 2 ^ 190 by omega) rfl⟩
    | classes k =>
      refine ⟨_, rfl, p, _, 0, _, rfl, rfl, .inl hm, rfl, rfl, _, rfl, ?_⟩
      rw [word_classes]
      have k1 := mok.1
      have k4 := mok.2
      refine ⟨_, rfl, p, _, 1, _, rfl, rfl, .inl hm, rfl, k, rfl, by omega, by omega, fun L nL => ?_⟩
      have La := hd.ne nL
      refine lc_range (n := k) (fun i H' => ∃ ns : List Int, Gro a H H' ∧ H' L = some (.lst (ns.map V.int)) ∧ ns.length = i ∧ ∀ n ∈ ns, n.natAbs < 2 ^ 190)
        ⟨[], Gro.of (Ex.new nL) hd, upd_same, rfl, fun _ z => (nomatch z)⟩ (fun i H1 hi h => ?_) (fun H1 h => ?_)
      · obtain ⟨ns, g, eL, len, bd⟩ := h
        refine ⟨rfl, _, rfl, by show 3 ≤ sizeLine; decide, fun M nM => ?_⟩
        have xM := Ex.new (o := .lst [.int 2, .int 3, .int 9]) nM
        refine ⟨_, rfl, a, 3, rfl, by decide, by decide, xM.dice g.di, fun j H2 j0 j1 g2 => ?_⟩
        obtain ⟨t, ht, t0, t1⟩ := pick_small [2, 3, 9] (by decide +kernel) j0 j1
        refine ⟨M, _, j, .int t, rfl, rfl, .inl (.inl (g2.st M _ (g.di.ne nM) upd_same)), ht, a, t, rfl, t0, b200 t t0 t1, g2.di, fun u H3 u0 u1 g3 => ?_⟩
        have g23 := g2.trans g3
        refine ⟨_, g23.st L _ La (xM L _ eL), ?_, ns ++ [u], ((g.ex xM).trans g23).mut nL La, by rw [upd_same, List.map_append]; rfl, by rw [List.length_append, len]; rfl, fun n hn => ?_⟩
        · rw [List.length_map, len]
          exact Nat.lt_of_lt_of_le (show i < 100 by omega) (by decide)
        · rcases List.mem_append.mp hn with z | z
          · exact bd n z
          · rw [List.mem_singleton.mp z]; omega
      · obtain ⟨ns, g, eL, len, bd⟩ := h
        refine ⟨_, rfl, L, rfl, ⟨_, .inl (.inl eL)⟩, fun D2 nD2 => lc_list (xs := ns.map V.int) (fun i H' => ∃ ks : List V, Ex H1 H' ∧ H' D2 = some (.lst ks) ∧ ks.length ≤ i)
          ⟨[], Ex.new nD2, upd_same, Nat.le_refl _⟩ (fun i H' _ h => ?_) (fun i x H' hx h => ?_) (fun H2 h => ?_)⟩
        · obtain ⟨_, ex, _⟩ := h
          exact .inl (.inl (ex L _ eL))
        · obtain ⟨ks, ex, eD, lk⟩ := h
          rw [List.getElem?_map] at hx
          obtain ⟨n, hn, rfl⟩ := Option.map_eq_some_iff.mp hx
          have il := (List.getElem?_eq_some_iff.mp hn).1
          refine ⟨rfl, _, rfl, _, _, rfl, rfl, _, rfl, ite2 (fun _ => ?_) (fun _ => ?_)⟩
          · refine ⟨_, rfl, ks, eD, ?_, ks ++ [.int n], ex.mut nD2, upd_same, by rw [List.length_append]; exact Nat.succ_le_succ lk⟩
            exact Nat.lt_of_lt_of_le (show ks.length < 100 by omega) (by decide)
          · exact ⟨ks, ex, eD, by omega⟩
        · obtain ⟨ks, ex, eD, lk⟩ := h
          refine ⟨Nat.zero_le _, fun m nm => ⟨D2, m, _, rfl, rfl, .inl (.inl (Ex.new nm D2 _ eD)), upd_same, _, rfl, ?_⟩⟩
          have xm := Ex.new (o := .lst []) nm
          have e1 := ex.trans xm
          have gm := g.ex e1
          refine ite2 (fun _ => ?_) (fun _ => ?_)
          · refine ⟨_, rfl, _, rfl, _, rfl, L, _, rfl, .inl (.inl (.inl (e1 L _ eL))), a, _, rfl, by rw [List.length_map, len]; omega, Nat.lt_of_le_of_lt (show (((ns.map V.int).length : Nat) : Int).natAbs ≤ 1000 by rw [List.length_map, len]; omega) (by decide), gm.di, fun j H4 j0 j1 g4 => ?_⟩
            obtain ⟨j, rfl⟩ : ∃ k : Nat, j = k := ⟨j.toNat, by omega⟩
            refine ⟨L, _, j, j, rfl, rfl, g4.st L _ La (e1 L _ eL), (by unfold ixN; rw [if_pos (by omega), if_pos j1]; rfl), ?_⟩
            refine ⟨_, rfl, L, _, rfl, .inl (.inl upd_same), fun t o nt _ => ?_⟩
            refine q _ (.c (ns.set j 1)) _ (((gm.trans g4).mut nL La).ex (Ex.new nt)) (by show (ns.set j 1).length = k; rw [List.length_set, len]) (fun n hn => ?_) ⟨t, rfl, .inr ⟨o, by rw [upd_same, List.map_set]⟩⟩
            rcases List.mem_or_eq_of_mem_set hn with z | rfl
            · exact bd n z
            · decide
          · refine ⟨_, rfl, L, _, rfl, .inl (.inl (e1 L _ eL)), fun t o nt _ => ?_⟩
            exact q _ (.c ns) _ (gm.ex (Ex.new nt)) len bd ⟨t, rfl, .inr ⟨o, upd_same⟩⟩
    | odds =>
      refine ⟨_, rfl, p, _, 0, _, rfl, rfl, .inl hm, rfl, rfl, _, rfl, ?_⟩
      rw [word_classes]
      refine ⟨_, rfl, by show 4 ≤ sizeLine; decide, fun L nL => ?_⟩
      have xL := Ex.new (o := .lst [.int 1, .int 3, .int 12, .int 999]) nL
      refine ⟨_, rfl, a, 4, rfl, by decide, by decide, xL.dice hd, fun j H1 j0 j1 g1 => ?_⟩
      have gA := (Gro.of xL hd).trans g1
      obtain ⟨t, ht, t0, t1⟩ := pick_small [1, 3, 12, 999] (by decide +kernel) j0 j1
      refine ⟨L, _, j, .int t, rfl, rfl, .inl (.inl (g1.st L _ (hd.ne nL) upd_same)), ht, a, t, rfl, t0, b200 t t0 t1, gA.di, fun u H2 u0 u1 g2 => ?_⟩
      have gB := gA.trans g2
      obtain ⟨u, rfl⟩ : ∃ k : Nat, u = k := ⟨u.toNat, by omega⟩
      refine ⟨_, _, rfl, rfl, _, rfl, _, _, rfl, rfl, _, rfl, by show 4 ≤ sizeLine; decide, fun M nM => ?_⟩
      have xM := Ex.new (o := .lst [.int 1, .int 4, .int 20, .int 990000]) nM
      refine ⟨_, rfl, a, 4, rfl, by decide, by decide, xM.dice gB.di, fun i H3 i0 i1 g3 => ?_⟩
      have gC := (gB.ex xM).trans g3
      obtain ⟨r, hrr, r0, r1⟩ := pick_small [1, 4, 20, 990000] (by decide +kernel) i0 i1
      refine ⟨M, _, i, .int r, rfl, rfl, .inl (.inl (g3.st M _ (gB.di.ne nM) upd_same)), hrr, a, r, rfl, r0, b200 r r0 r1, gC.di, fun v H4 v0 v1 g4 => ?_⟩
      obtain ⟨v, rfl⟩ : ∃ k : Nat, v = k := ⟨v.toNat, by omega⟩
      refine ⟨_, _, rfl, rfl, _, rfl, 1 + u + 1 + v, 1 + u, by simp only [Int.natCast_add]; rfl, by omega, by omega, by omega, by omega, fun pt H5 lo e5 np rd => ?_⟩
      refine q _ (.o ⟨_, lo⟩) _ ((gC.trans g4).ex e5) trivial ⟨?_, ?_⟩ ⟨pt, rfl, rd⟩
      · exact Nat.lt_of_le_of_lt (Nat.div_le_self ..) (by omega)
      · exact Nat.lt_of_le_of_lt (Nat.div_le_self ..) (by omega)
end
end Gl

namespace Gl
open PySem PySem.Spec PyProof.Rows L2
def sgn (m : Ms) (x : Am) : Int := if amLt x m.zero then -1 else if amLt m.zero x then 1 else 0
theorem zero_wide (m : Ms) : m.zero.wide := by
  cases m with
  | sums => trivial
  | classes k => trivial
  | odds => exact ⟨Nat.one_lt_two_pow (by decide), Nat.one_lt_two_pow (by decide)⟩
theorem AmV.ex {H H' : Hp} (e : Ex H H') {v : V} : ∀ {x : Am}, AmV H v x → AmV H' v x
  | .n _, h => h
  | .c _, ⟨p, h, r⟩ => ⟨p, h, e.rd r⟩
  | .o _, ⟨p, h, r⟩ => ⟨p, h, e.rd r⟩
theorem AmV.gro {a : Addr} {H H' : Hp} (g : Gro a H H') (d : Dice H a) {v : V} : ∀ {x : Am}, AmV H v x → AmV H' v x
  | .n _, h => h
  | .c _, ⟨p, h, r⟩ => ⟨p, h, g.rd d r⟩
  | .o _, ⟨p, h, r⟩ => ⟨p, h, g.rd d r⟩
end Gl

namespace Gl
open PySem PySem.Spec PyProof.Rows L2
def clsS (i : Nat) : Stmt := match topS 11 with
  | .ClassDef _ _ _ body _ _ _ _ _ _ _ => body.getD i (.Pass ⟨0, 0, 0, 0⟩)
  | _ => .Pass ⟨0, 0, 0, 0⟩
/-- a scale of the program -/
def SclAt (H : Hp) (a C : Addr) (m : Ms) : Prop := ∃ dx fs, H a = some (.ins C dx fs) ∧ fs.lookup ("_word" : Str) = some (V.str m.word) ∧ fs.lookup ("_size" : Str) = some (V.int (m.size : Nat)) ∧ ∀ x : Str, x ≠ ("_word" : Str) → x ≠ ("_size" : Str) → fs.lookup x = none
theorem Ex.scl {H H' : Hp} {a C : Addr} {m : Ms} (e : Ex H H') (h : SclAt H a C m) : SclAt H' a C m := let ⟨dx, fs, h1, h2⟩ := h; ⟨dx, fs, e _ _ h1, h2⟩
/-- what is known of the class -/
structure ClsK (K : PySem.W.Frag) (C : Addr) : Prop where
  cls : Cls K C
  nw : NoAttr K C "_word"
  ns : NoAttr K C "_size"
section
variable {P : Program} {w : World} {K : PySem.W.Frag} {mg : Str → Option Value} {base : Heap} {C : Addr}
end
end Gl

namespace Gl
open PySem PySem.Spec PyProof.Rows L2
abbrev sInit : Stmt := clsS 0
abbrev sSums : Stmt := clsS 1
abbrev sClasses : Stmt := clsS 2
abbrev sOddsM : Stmt := clsS 3
abbrev sZero : Stmt := clsS 6
abbrev sMadeL : Stmt := topS 22
theorem scInit : FnScope ["self", "word", "size"] ["self", "word", "size"] (defScope sInit) := ⟨rfl, rfl, rfl, by decide +kernel, rfl, by decide +kernel, by decide +kernel⟩
theorem scSums : FnScope [] [] (defScope sSums) := ⟨rfl, rfl, rfl, by decide +kernel, rfl, by decide +kernel, by decide +kernel⟩
theorem scClasses : FnScope ["size"] ["size"] (defScope sClasses) := ⟨rfl, rfl, rfl, by decide +kernel, rfl, by decide +kernel, by decide +kernel⟩
theorem scOddsM : FnScope [] [] (defScope sOddsM) := ⟨rfl, rfl, rfl, by decide +kernel, rfl, by decide +kernel, by decide +kernel⟩
theorem scZero : FnScope ["self"] ["self"] (defScope sZero) := ⟨rfl, rfl, rfl, by decide +kernel, rfl, by decide +kernel, by decide +kernel⟩
theorem scMadeL : FnScope ["_law_measure"] ["_law_measure"] (defScope sMadeL) := ⟨rfl, rfl, rfl, by decide +kernel, rfl, by decide +kernel, by decide +kernel⟩
section
variable {P : Program} {w : World} {K : PySem.W.Frag} {mg : Str → Option Value} {base : Heap} {C : Addr}
def spInit (C : Addr) : Sp := fun vs H Q _ => ∃ (x dx : Addr) (m : Ms), vs = [.ref x, .str m.word, .int (m.size : Nat)] ∧ H x = some (.ins C dx []) ∧ ∀ H', (∀ b o, b ≠ x → H b = some o → H' b = some o) → SclAt H' x C m → Q .non H'
theorem ok_init {f : Addr} {fd : FuncData} (F : Fun K "__init__" "Scale.__init__" sInit f fd) (Z : ClsK K C) : FnOk P w K mg base CX0 1 f fd ["self", "word", "size"] (spInit C) := by
  refine F.ok scInit (fun vs H Q E h => ?_) (fun cdv A outer s H vs Q E hr h => ?_)
  · obtain ⟨x, dx, m, rfl, _⟩ := h
    rfl
  · obtain ⟨x, dx, m, rfl, hx, q⟩ := h
    refine ⟨_, pss_cons (ps_fld (pv 0) (pv 1) rfl) (pss_one (ps_fld (pv 0) (pv 2) rfl)), ?_⟩
    refine ⟨_, rfl, _, rfl, x, C, dx, [], rfl, hx, Z.cls, Z.nw, (by show 0 < 1000; decide), ?_⟩
    refine ⟨_, rfl, _, rfl, x, C, dx, _, rfl, upd_same, Z.cls, Z.ns, (by show 1 < 1000; decide), ?_⟩
    refine q _ (fun b o nb e => ?_) ⟨dx, _, upd_same, ?_, ?_, fun y n1 n2 => ?_⟩
    · rw [upd_ne nb, upd_ne nb]; exact e
    · rw [lookup_putF, if_neg (by decide +kernel), lookup_putF, if_pos rfl]
    · rw [lookup_putF, if_pos rfl]
    · rw [lookup_putF, if_neg n2, lookup_putF, if_neg n1]
      rfl
/-- the class as the module has it -/
structure SclD (P : Program) (w : World) (K : PySem.W.Frag) (mg : Str → Option Value) (base : Heap) (C : Addr) where
  k : ClsK K C
  f : Addr
  fd : FuncData
  G : FnOk P w K mg base CX0 1 f fd ["self", "word", "size"] (spInit C)
  made : Mk K C f
  g : mg "Scale" = some (.ref C)
  b : Binds K fd ["self", "word", "size"] []
def spNew (C : Addr) (m : Ms) : Sp := fun vs H Q _ => vs = [] ∧ ∀ a H', Ex H H' → H a = none → SclAt H' a C m → Q (.ref a) H'
def spClasses (C : Addr) : Sp := fun vs H Q _ => ∃ k : Nat, vs = [.int k] ∧ 1 ≤ k ∧ k ≤ 4 ∧ ∀ a H', Ex H H' → H a = none → SclAt H' a C (.classes k) → Q (.ref a) H'
theorem scl_made {H1 H2 : Hp} {x dx : Addr} (nx : H1 x = none) (nd : H1 dx = none) (hk : ∀ b o, b ≠ x → upd (upd H1 dx (.own x)) x (.ins C dx []) b = some o → H2 b = some o) : Ex H1 H2 := fun b o e => by
  have b1 := ne_of_none e nx
  have b2 := ne_of_none e nd
  refine hk b o b1 ?_
  rw [upd_ne b1, upd_ne b2]
  exact e
theorem ok_sums {f : Addr} {fd : FuncData} (F : Fun K "sums" "Scale.sums" sSums f fd) (Z : SclD P w K mg base C) : FnOk P w K mg base CX0 3 f fd [] (spNew C .sums) := by
  refine F.ok scSums (fun vs H Q E h => ?_) (fun cdv A outer s H vs Q E hr h => ?_)
  · obtain ⟨rfl, _⟩ := h
    rfl
  · obtain ⟨rfl, q⟩ := h
    refine ⟨_, pss_one (ps_ret (pe_make Z.made Z.G hr (by rfl) Z.g Z.b .nil pass0 (pa_cons pe_str (pa_cons pe_int pa_nil)))), ?_⟩
    refine fun x dx nx nd ne => ⟨x, dx, .sums, rfl, upd_same, fun H2 hk sa => ⟨rfl, q x H2 (scl_made nx nd hk) nx sa⟩⟩
theorem ok_oddsM {f : Addr} {fd : FuncData} (F : Fun K "odds" "Scale.odds" sOddsM f fd) (Z : SclD P w K mg base C) : FnOk P w K mg base CX0 3 f fd [] (spNew C .odds) := by
  refine F.ok scOddsM (fun vs H Q E h => ?_) (fun cdv A outer s H vs Q E hr h => ?_)
  · obtain ⟨rfl, _⟩ := h
    rfl
  · obtain ⟨rfl, q⟩ := h
    refine ⟨_, pss_one (ps_ret (pe_make Z.made Z.G hr (by rfl) Z.g Z.b .nil pass0 (pa_cons pe_str (pa_cons pe_int pa_nil)))), ?_⟩
    refine fun x dx nx nd ne => ⟨x, dx, .odds, rfl, upd_same, fun H2 hk sa => ⟨rfl, q x H2 (scl_made nx nd hk) nx sa⟩⟩
theorem ok_classes {f : Addr} {fd : FuncData} (F : Fun K "classes" "Scale.classes" sClasses f fd) (Z : SclD P w K mg base C) (I : Df P w K mg base 2 "is_index" ["value", "many"] spIndex) (ms : ∃ t, mg "MAX_SIZE" = some (.int 4 t)) : FnOk P w K mg base CX0 3 f fd ["size"] (spClasses C) := by
  refine F.ok scClasses (fun vs H Q E h => ?_) (fun cdv A outer s H vs Q E hr h => ?_)
  · obtain ⟨k, rfl, _⟩ := h
    rfl
  · obtain ⟨k, rfl, k1, k4, q⟩ := h
    obtain ⟨t, ms⟩ := ms
    refine ⟨_, pss_cons (ps_if (pw_or (pt_not (pt_val (pe_call I.G hr (by rfl) I.g I.kp I.b .nil pass0 (pa_cons (pv 0) (pa_cons (pe_op op_add (pe_glob (v := .int 4) (by rfl) ms ⟨t, rfl⟩) pe_int) pa_nil))))) (pw_or1 (pt_cmpR op_eq (pv 0) pe_int (nomark _)))).pt pss_never pss_nil)
      (pss_one (ps_ret (pe_make Z.made Z.G hr (by rfl) Z.g Z.b .nil pass0 (pa_cons pe_str (pa_cons (pv 0) pa_nil))))), ?_⟩
    refine ⟨_, rfl, _, _, rfl, rfl, k, _, rfl, by omega, by omega, ⟨_, rfl, ?_⟩⟩
    refine ⟨_, rfl, rfl, _, rfl, ?_⟩
    rw [decide_eq_false (show ¬ V.int (k : Nat) = V.int 0 from fun z => by injection z with z; omega)]
    refine ⟨_, rfl, fun x dx nx nd ne => ⟨x, dx, .classes k, rfl, upd_same, fun H2 hk sa => ⟨rfl, q x H2 (scl_made nx nd hk) nx sa⟩⟩⟩
end
end Gl

namespace Gl
open PySem PySem.Spec PyProof.Rows L2
/-- a method that the class has -/
structure Dm (P : Program) (w : World) (K : PySem.W.Frag) (mg : Str → Option Value) (base : Heap) (C : Addr) (k : Nat) (m : Str) (ps : List Str) (sp : Sp) where
  f : Addr
  fd : FuncData
  G : FnOk P w K mg base CX0 k f fd ps sp
  at_ : Meth K C m f
  b : Binds K fd ps []
/-- a tuple of amounts -/
def AmsT (H : Hp) (p : Addr) (m : Ms) (ps : List (V × Am)) : Prop := Rd H p (.tup (ps.map (·.1))) ∧ ∀ q ∈ ps, m.has q.2 ∧ q.2.wide ∧ AmV H q.1 q.2
theorem Ex.amsT {H H' : Hp} {p : Addr} {m : Ms} {ps : List (V × Am)} (e : Ex H H') (h : AmsT H p m ps) : AmsT H' p m ps := ⟨e.rd h.1, fun q hq => let ⟨a, b, c⟩ := h.2 q hq; ⟨a, b, c.ex e⟩⟩
section
variable {P : Program} {w : World} {K : PySem.W.Frag} {mg : Str → Option Value} {base : Heap} {C : Addr}
def spZero (C : Addr) : Sp := fun vs H Q _ => ∃ (a : Addr) (m : Ms), vs = [.ref a] ∧ SclAt H a C m ∧ m.ok ∧ ∀ v H', Ex H H' → AmV H' v m.zero → Q v H'
theorem zeros_rep (n : Nat) : (List.replicate n [V.int 0]).flatten = (List.replicate n (0 : Int)).map V.int := by
  induction n with
  | zero => rfl
  | succ n ih => rw [List.replicate_succ, List.replicate_succ, List.flatten_cons, ih]; rfl
theorem ok_zero {f : Addr} {fd : FuncData} (F : Fun K "zero" "Scale.zero" sZero f fd) (Z : ClsK K C) : FnOk P w K mg base CX0 1 f fd ["self"] (spZero C) := by
  refine F.ok scZero (fun vs H Q E h => ?_) (fun cdv A outer s H vs Q E hr h => ?_)
  · obtain ⟨a, m, rfl, _⟩ := h
    rfl
  · obtain ⟨a, m, rfl, ⟨dx, fs, ha, hw, hs, hn⟩, mok, q⟩ := h
    refine ⟨_, pss_cons (ps_if (pt_cmpR op_eq (pe_fld (pv 0) (by rfl)) pe_str (nomark _)) (pss_one (ps_ret pe_int)) pss_nil)
      (pss_cons (ps_if (pt_cmpR op_eq (pe_fld (pv 0) (by rfl)) pe_str (nomark _)) (pss_one (ps_ret (pe_tup (pa_cons pe_int (pa_cons pe_int pa_nil))))) pss_nil)
      (pss_one (ps_ret (pe_op (op_repT1.or op_repT) (pe_tup (pa_cons pe_int pa_nil)) (pe_fld (pv 0) (by rfl)))))), ?_⟩
    refine ⟨_, rfl, a, C, dx, fs, _, rfl, ha, Z.cls, Z.nw, hw, rfl, _, rfl, ?_⟩
    rw [word_sums]
    have other : m ≠ .sums → m ≠ .odds → ∃ k, m = .classes k := fun h1 h2 => by
      cases m with
      | sums => exact absurd rfl h1
      | classes k => exact ⟨k, rfl⟩
      | odds => exact absurd rfl h2
    by_cases e : m = .sums
    · subst e
      exact q _ H (Ex.refl H) rfl
    · rw [decide_eq_false e]
      refine ⟨_, rfl, a, C, dx, fs, _, rfl, ha, Z.cls, Z.nw, hw, rfl, _, rfl, ?_⟩
      rw [word_odds]
      by_cases e2 : m = .odds
      · subst e2
        exact ⟨by show 2 ≤ sizeLine; decide, fun t nt => q _ _ (Ex.new nt) ⟨t, rfl, .inl upd_same⟩⟩
      · rw [decide_eq_false e2]
        obtain ⟨k, rfl⟩ := other e e2
        have k1 := mok.1
        have k4 := mok.2
        refine ⟨by show 1 ≤ sizeLine; decide, fun t nt => ?_⟩
        have xt := Ex.new (o := .tup [.int 0]) nt
        refine ⟨_, rfl, a, C, dx, fs, _, rfl, xt a _ ha, Z.cls, Z.ns, hs, ?_⟩
        by_cases one : k = 1
        · subst one
          exact .inl ⟨t, _, rfl, rfl, .inl (.inl upd_same), q _ _ xt ⟨t, rfl, .inl upd_same⟩⟩
        · refine .inr ⟨t, (k : Int), [.int 0], rfl, rfl, .inl (.inl upd_same), by simp, by omega, by omega, by decide, fun z nz => ?_⟩
          refine q _ _ (xt.trans (Ex.new nz)) ⟨z, rfl, .inl ?_⟩
          rw [upd_same, Int.toNat_natCast, zeros_rep]
end
end Gl

namespace Gl
open PySem PySem.Spec PyProof.Rows L2
/-! ### amounts as data -/
def Few (n : Int) : Prop := n.natAbs < 2 ^ 200
section
variable {K : PySem.W.Frag} {H : Hp}
theorem dp_ints : ∀ ns : List Int, DpAll K H (ns.map V.int) (ns.map PyData.int)
  | [] => .nil
  | n :: ns => .cons (.int n) (dp_ints ns)
theorem dp_am {v : V} : ∀ {x : Am}, AmV H v x → Dp K H v x.data
  | .n i, h => by obtain rfl := h; exact .int i
  | .c ns, ⟨p, e, h⟩ => by subst e; exact .tup (.inl h) (dp_ints ns)
  | .o x, ⟨p, e, h⟩ => by subst e; exact .tup (.inl h) (.cons (.int _) (.cons (.int _) .nil))
theorem dp_ams : ∀ {ps : List (V × Am)}, (∀ q ∈ ps, AmV H q.1 q.2) → DpAll K H (ps.map (·.1)) (ps.map fun q => q.2.data)
  | [], _ => .nil
  | q :: ps, h => .cons (dp_am (h q (List.mem_cons_self ..))) (dp_ams fun r hr => h r (List.mem_cons_of_mem _ hr))
end
theorem eqv_int (i j : Int) : PyData.eqv (.int i) (.int j) = decide (i = j) := by simp only [PyData.eqv]; rfl
theorem eqv_ints : ∀ as bs : List Int, PyData.eqvAll (as.map PyData.int) (bs.map PyData.int) = decide (as = bs)
  | [], [] => by simp only [List.map_nil, PyData.eqvAll]; rfl
  | [], _ :: _ => by simp only [List.map_nil, List.map_cons, PyData.eqvAll]; rfl
  | _ :: _, [] => by simp only [List.map_nil, List.map_cons, PyData.eqvAll]; rfl
  | a :: as, b :: bs => by
    simp only [List.map_cons, PyData.eqvAll]
    rw [eqv_int, eqv_ints as bs]
    by_cases h1 : a = b
    · subst h1
      by_cases h2 : as = bs
      · subst h2; simp
      · rw [decide_eq_false h2, decide_eq_false (show ¬ a :: as = a :: bs from fun z => h2 (List.cons.inj z).2)]; simp
    · rw [decide_eq_false h1, decide_eq_false (show ¬ a :: as = b :: bs from fun z => h1 (List.cons.inj z).1)]; simp
theorem eqv_am {m : Ms} : ∀ {x y : Am}, m.has x → m.has y → PyData.eqv x.data y.data = decide (x = y)
  | .n i, .n j, _, _ => by
    show PyData.eqv (.int i) (.int j) = _
    rw [eqv_int]
    by_cases h : i = j
    · subst h; simp
    · rw [decide_eq_false h, decide_eq_false fun z => h (Am.n.inj z)]
  | .c as, .c bs, _, _ => by
    show PyData.eqv (.tuple _) (.tuple _) = _
    simp only [PyData.eqv]
    rw [eqv_ints]
    by_cases h : as = bs
    · subst h; simp
    · rw [decide_eq_false h, decide_eq_false fun z => h (Am.c.inj z)]
  | .o x, .o y, _, _ => by
    show PyData.eqv (.tuple ([((x.1.1 : Nat) : Int), ((x.1.2 : Nat) : Int)].map PyData.int)) (.tuple ([((y.1.1 : Nat) : Int), ((y.1.2 : Nat) : Int)].map PyData.int)) = _
    simp only [PyData.eqv]
    rw [eqv_ints]
    by_cases h : x = y
    · subst h; simp
    · rw [decide_eq_false fun z => h (Am.o.inj z), decide_eq_false fun z => h ?_]
      have h1 := (List.cons.inj z).1
      have h2 := (List.cons.inj (List.cons.inj z).2).1
      exact Subtype.ext (Prod.ext (by omega) (by omega))
  | .n _, .c _, h1, h2 => by cases m <;> first | exact h1.elim | exact h2.elim
  | .n _, .o _, h1, h2 => by cases m <;> first | exact h1.elim | exact h2.elim
  | .c _, .n _, h1, h2 => by cases m <;> first | exact h1.elim | exact h2.elim
  | .c _, .o _, h1, h2 => by cases m <;> first | exact h1.elim | exact h2.elim
  | .o _, .n _, h1, h2 => by cases m <;> first | exact h1.elim | exact h2.elim
  | .o _, .c _, h1, h2 => by cases m <;> first | exact h1.elim | exact h2.elim
theorem lay_ints : ∀ ns : List Int, PyData.canLayAll0 (ns.map PyData.int) = true
  | [] => by simp only [List.map_nil, PyData.canLayAll0]
  | n :: ns => by simp only [List.map_cons, PyData.canLayAll0, PyData.canLay0, lay_ints ns, Bool.and_self]
theorem dep_ints : ∀ ns : List Int, PyData.depthAll (ns.map PyData.int) = 0
  | [] => by simp only [List.map_nil, PyData.depthAll]
  | n :: ns => by simp only [List.map_cons, PyData.depthAll, PyData.depth, dep_ints ns, Nat.max_self]
theorem shaped_of {d : PyData} (h1 : d.canLay0 = true) (h2 : d.depth ≤ 64) : SeqAt.shaped d = true := by
  unfold SeqAt.shaped
  rw [h1, decide_eq_true h2]
  rfl
theorem Am.lay : ∀ x : Am, x.data.canLay0 = true
  | .n i => by simp only [Am.data, PyData.canLay0]
  | .c ns => by simp only [Am.data, PyData.canLay0, lay_ints]
  | .o x => by simp only [Am.data, PyData.canLay0, PyData.canLayAll0, Bool.and_self]
theorem Am.dep : ∀ x : Am, x.data.depth ≤ 1
  | .n i => by simp only [Am.data, PyData.depth]; decide
  | .c ns => by simp only [Am.data, PyData.depth, dep_ints]; decide
  | .o x => by simp only [Am.data, PyData.depth, PyData.depthAll]; decide
theorem Am.shaped (x : Am) : SeqAt.shaped x.data = true := shaped_of x.lay (Nat.le_trans x.dep (by decide))
/-- shown without trouble, in at most n signs -/
structure Shows (d : PyData) (n : Nat) : Prop where
  sh : d.showable = true
  dp : d.depth ≤ 3
  wt : wt d ≤ n
theorem Shows.ok {d : PyData} {n : Nat} (h : Shows d n) (hn : n ≤ 1000000) : d.showable = true ∧ d.depth ≤ 100 ∧ d.shown.length ≤ sizeLine :=
  ⟨h.sh, Nat.le_trans h.dp (by decide), Nat.le_trans (Nat.le_trans (shown_le d h.sh) h.wt) (Nat.le_trans hn (by decide))⟩
theorem show_int {n : Int} (h : Few n) : PyData.showable (.int n) = true := by
  simp only [PyData.showable]
  exact decide_eq_true (Nat.lt_trans (PySem.Flt.log2_lt_of (by decide) h) (by decide))
theorem show_ints : ∀ {ns : List Int}, (∀ n ∈ ns, Few n) → PyData.showableAll (ns.map PyData.int) = true
  | [], _ => by simp only [List.map_nil, PyData.showableAll]
  | n :: ns, h => by
    simp only [List.map_cons, PyData.showableAll]
    rw [show_int (h n (List.mem_cons_self ..)), show_ints fun x hx => h x (List.mem_cons_of_mem _ hx)]
    rfl
theorem wt_ints : ∀ ns : List Int, wtAll (ns.map PyData.int) = 1932 * ns.length
  | [] => by simp only [List.map_nil, wtAll]; rfl
  | n :: ns => by
    simp only [List.map_cons, wtAll, wt, List.length_cons]
    rw [wt_ints ns]
    omega
theorem few190 {n : Int} (h : n.natAbs < 2 ^ 190) : Few n := Nat.lt_trans h (by decide)
theorem Am.shows {m : Ms} : ∀ {x : Am}, m.ok → m.has x → x.near → x.data.showable = true ∧ wt x.data ≤ 8000
  | .n i, _, _, h => ⟨show_int (few190 h), by simp only [Am.data, wt]; decide⟩
  | .c ns, mok, hm, h => by
    have l : ns.length ≤ 4 := by
      cases m with
      | classes k =>
        have e : ns.length = k := hm
        have := mok.2
        omega
      | sums => exact hm.elim
      | odds => exact hm.elim
    refine ⟨by simp only [Am.data, PyData.showable]; exact show_ints fun n hn => few190 (h n hn), ?_⟩
    simp only [Am.data, wt]
    rw [wt_ints]
    omega
  | .o x, _, _, h => by
    have e : Am.data (.o x) = .tuple ([((x.1.1 : Nat) : Int), ((x.1.2 : Nat) : Int)].map PyData.int) := rfl
    have few : ∀ n ∈ [((x.1.1 : Nat) : Int), ((x.1.2 : Nat) : Int)], Few n := fun n hn => by
      rcases List.mem_cons.mp hn with rfl | hn
      · exact few190 (by rw [Int.natAbs_natCast]; exact h.1)
      · rw [List.mem_singleton.mp hn]
        exact few190 (by rw [Int.natAbs_natCast]; exact h.2)
    rw [e]
    exact ⟨by simp only [PyData.showable]; exact show_ints few, by simp only [wt]; rw [wt_ints]; show 1932 * 2 + 3 ≤ 8000; decide⟩
theorem Am.noDict : ∀ x : Am, x.data.hasDict = false
  | .n i => by simp only [Am.data, PyData.hasDict]
  | .c ns => by
    simp only [Am.data, PyData.hasDict]
    induction ns with
    | nil => simp only [List.map_nil, PyData.hasDictAll]
    | cons n ns ih => simp only [List.map_cons, PyData.hasDictAll, PyData.hasDict, ih, Bool.or_self]
  | .o x => by simp only [Am.data, PyData.hasDict, PyData.hasDictAll, Bool.or_self]
def dAms (ps : List (V × Am)) : PyData := .list (ps.map fun q => q.2.data)
theorem shows_ams {m : Ms} (mok : m.ok) : ∀ {ps : List (V × Am)}, (∀ q ∈ ps, m.has q.2 ∧ q.2.near) → PyData.showableAll (ps.map fun q => q.2.data) = true ∧ wtAll (ps.map fun q => q.2.data) ≤ 8002 * ps.length ∧ PyData.depthAll (ps.map fun q => q.2.data) ≤ 1
  | [], _ => ⟨by simp only [List.map_nil, PyData.showableAll], by simp only [List.map_nil, wtAll]; exact Nat.zero_le _, by simp only [List.map_nil, PyData.depthAll]; exact Nat.zero_le _⟩
  | q :: ps, h => by
    obtain ⟨h1, h2⟩ := h q (List.mem_cons_self ..)
    obtain ⟨a, b, c⟩ := shows_ams mok (ps := ps) fun r hr => h r (List.mem_cons_of_mem _ hr)
    obtain ⟨d, e⟩ := Am.shows mok h1 h2
    refine ⟨by simp only [List.map_cons, PyData.showableAll]; rw [d, a]; rfl, ?_, ?_⟩
    · simp only [List.map_cons, wtAll, List.length_cons]
      omega
    · simp only [List.map_cons, PyData.depthAll]
      exact Nat.max_le.mpr ⟨q.2.dep, c⟩
end Gl

namespace Gl
open PySem PySem.Spec PyProof.Rows L2
abbrev sIsWgt : Stmt := clsS 8
abbrev sIsAmt : Stmt := clsS 9
theorem scIsWgt : FnScope ["self", "value", "one"] ["self", "value"] (defScope sIsWgt) := ⟨rfl, rfl, rfl, by decide +kernel, rfl, by decide +kernel, by decide +kernel⟩
theorem scIsAmt : FnScope ["self", "value"] ["self", "value"] (defScope sIsAmt) := ⟨rfl, rfl, rfl, by decide +kernel, rfl, by decide +kernel, by decide +kernel⟩
/-- a property that the class has -/
structure Dp1 (P : Program) (w : World) (K : PySem.W.Frag) (mg : Str → Option Value) (base : Heap) (C : Addr) (k : Nat) (m : Str) (sp : Sp) where
  p : Addr
  f : Addr
  fd : FuncData
  G : FnOk P w K mg base CX0 k f fd ["self"] sp
  at_ : PropOf K C m p f
  b : Binds K fd ["self"] []
theorem SclAt.no {H : Hp} {a C : Addr} {m : Ms} (sa : SclAt H a C m) {x : Str} (h1 : x ≠ ("_word" : Str)) (h2 : x ≠ ("_size" : Str)) : ∃ dx fs, H a = some (.ins C dx fs) ∧ fs.lookup x = none :=
  let ⟨dx, fs, h, _, _, hn⟩ := sa; ⟨dx, fs, h, hn x h1 h2⟩
/-- the answers -/
def amtB : Ms → PyData → Bool
  | .sums, d => wholeB d
  | .odds, d => lowB d
  | .classes k, d => wholesB d k
def topOf : PyData → Int × Int
  | .tuple [.int a, .int b] => (a, b)
  | _ => (0, 0)
def posB : PyData → Bool
  | .int i => decide (0 < i)
  | _ => false
def zeroOf (n : Nat) : List PyData := List.replicate n (.int 0)
def partsB (n : Nat) : PyData → Bool
  | .tuple ds => ds.all partB && !PyData.eqvAll ds (zeroOf n)
  | _ => false
def wgtB : Ms → PyData → Bool
  | .sums, d => partB d && posB d
  | .odds, d => lowB d && oddsB (topOf d).1 (topOf d).2
  | .classes k, d => wholesB d k && partsB k d
section
variable {P : Program} {w : World} {K : PySem.W.Frag} {mg : Str → Option Value} {base : Heap} {C : Addr}
def spIsAmt (K : PySem.W.Frag) (C : Addr) : Sp := fun vs H Q _ => ∃ (a : Addr) (m : Ms) (v : V) (d : PyData), vs = [.ref a, v] ∧ SclAt H a C m ∧ m.ok ∧ Od K H v d ∧ Short d ∧ ∀ H', Ex H H' → Q (.bl (amtB m d)) H'
theorem ok_isAmt {f : Addr} {fd : FuncData} (F : Fun K "is_amount" "Scale.is_amount" sIsAmt f fd) (Z : ClsK K C) (Wh : Df P w K mg base 1 "is_whole" ["value"] (spWhole K)) (Ws : Df P w K mg base 2 "are_whole" ["value", "many"] (spWholes K)) (Lw : Df P w K mg base 3 "_is_lowest" ["value"] (spLowest K)) : FnOk P w K mg base CX0 4 f fd ["self", "value"] (spIsAmt K C) := by
  refine F.ok scIsAmt (fun vs H Q E h => ?_) (fun cdv A outer s H vs Q E hr h => ?_)
  · obtain ⟨a, m, v, d, rfl, _⟩ := h
    rfl
  · obtain ⟨a, m, v, d, rfl, ⟨dx, fs, ha, hw, hs, hn⟩, mok, hd, sh, q⟩ := h
    refine ⟨_, pss_cons (ps_if (pt_cmpR op_eq (pe_fld (pv 0) (by rfl)) pe_str (nomark _)) (pss_one (ps_ret (pe_call Wh.G (hr.mono (by decide)) (by rfl) Wh.g Wh.kp Wh.b .nil pass0 (pa_cons (pv 1) pa_nil)))) pss_nil)
      (pss_cons (ps_if (pt_cmpR op_eq (pe_fld (pv 0) (by rfl)) pe_str (nomark _)) (pss_one (ps_ret (pe_call Lw.G hr (by rfl) Lw.g Lw.kp Lw.b .nil pass0 (pa_cons (pv 1) pa_nil)))) pss_nil)
      (pss_one (ps_ret (pe_call Ws.G (hr.mono (by decide)) (by rfl) Ws.g Ws.kp Ws.b .nil pass0 (pa_cons (pv 1) (pa_cons (pe_fld (pv 0) (by rfl)) pa_nil)))))), ?_⟩
    refine ⟨_, rfl, a, C, dx, fs, _, rfl, ha, Z.cls, Z.nw, hw, rfl, _, rfl, ?_⟩
    rw [word_sums]
    cases m with
    | sums => exact ⟨_, rfl, _, d, rfl, hd, q H (Ex.refl H)⟩
    | classes k =>
      refine ⟨_, rfl, a, C, dx, fs, _, rfl, ha, Z.cls, Z.nw, hw, rfl, _, rfl, ?_⟩
      rw [word_odds]
      exact ⟨_, rfl, _, rfl, a, C, dx, fs, _, rfl, ha, Z.cls, Z.ns, hs, _, d, _, rfl, hd, sh, fun H1 e1 => q H1 e1⟩
    | odds =>
      refine ⟨_, rfl, a, C, dx, fs, _, rfl, ha, Z.cls, Z.nw, hw, rfl, _, rfl, ?_⟩
      rw [word_odds]
      exact ⟨_, rfl, _, d, rfl, hd, sh, fun H1 e1 => q H1 e1⟩
theorem low_two {d : PyData} (h : lowB d = true) : ∃ a b, d = .tuple [.int a, .int b] := by
  unfold lowB at h
  split at h
  · exact ⟨_, _, rfl⟩
  · cases h
theorem part_int {d : PyData} (h : partB d = true) : ∃ i, d = .int i := by
  cases d <;> first | cases h; done | skip
  exact ⟨_, rfl⟩
theorem whole_ints : ∀ {ds : List PyData}, ds.all wholeB = true → ∃ ns : List Int, ds = ns.map PyData.int
  | [], _ => ⟨[], rfl⟩
  | d :: ds, h => by
    rw [List.all_cons, Bool.and_eq_true] at h
    obtain ⟨ns, e⟩ := whole_ints h.2
    have h1 := h.1
    cases d <;> first | cases h1; done | skip
    exact ⟨_ :: ns, by rw [e]; rfl⟩
theorem dxs_ints {H : Hp} : ∀ {ns : List Int} {xs : List V}, DxAll K H xs (ns.map PyData.int) → xs = ns.map V.int
  | [], _, .nil => rfl
  | n :: ns, _, .cons h t => by
    cases h
    rw [dxs_ints t]
    rfl
theorem zero_data (k : Nat) : (List.replicate k (0 : Int)).map PyData.int = zeroOf k := by
  unfold zeroOf
  rw [List.map_replicate]
def spIsWgt (K : PySem.W.Frag) (C : Addr) : Sp := fun vs H Q _ => ∃ (a : Addr) (m : Ms) (v : V) (d : PyData), vs = [.ref a, v] ∧ SclAt H a C m ∧ m.ok ∧ Od K H v d ∧ Short d ∧ ∀ H', Ex H H' → Q (.bl (wgtB m d)) H'
theorem ok_isWgt {f : Addr} {fd : FuncData} (F : Fun K "is_weight" "Scale.is_weight" sIsWgt f fd) (Z : ClsK K C) (T : Blt mg) (Pa : Df P w K mg base 2 "_is_part" ["value"] (spPart K)) (Ao : Df P w K mg base 1 "_are_odds" ["right", "wrong"] spAreOdds) (Ws : Df P w K mg base 2 "are_whole" ["value", "many"] (spWholes K)) (Lw : Df P w K mg base 3 "_is_lowest" ["value"] (spLowest K)) (Ze : Dp1 P w K mg base C 1 "zero" (spZero C)) : FnOk P w K mg base CX0 4 f fd ["self", "value"] (spIsWgt K C) := by
  refine F.ok scIsWgt (fun vs H Q E h => ?_) (fun cdv A outer s H vs Q E hr h => ?_)
  · obtain ⟨a, m, v, d, rfl, _⟩ := h
    rfl
  · obtain ⟨a, m, v, d, rfl, sa, mok, hd, sh, q⟩ := h
    have nd := scIsWgt.nd
    have r1 := hr.mono (show 1 ≤ 3 by decide)
    have r2 := hr.mono (show 2 ≤ 3 by decide)
    have hu : (A.deeper (envOfC "Scale.is_weight" (defScope sIsWgt) s.heap.objs.size f cdv)).units + 64 < cLine := by have := hr.un; omega
    refine ⟨_, pss_cons (ps_if (pt_cmpR op_eq (pe_fld (pv 0) (by rfl)) pe_str (nomark _)) (pss_one (ps_ret (pe_and (pe_call Pa.G r2 (by rfl) Pa.g Pa.kp Pa.b .nil pass0 (pa_cons (pv 1) pa_nil)) (pe_one (pe_cmpR op_gt (pv 1) pe_int (nomark _)))))) pss_nil)
      (pss_cons (ps_if (pt_cmpR op_eq (pe_fld (pv 0) (by rfl)) pe_str (nomark _)) (pss_one (ps_ret (pe_and (pe_call Lw.G hr (by rfl) Lw.g Lw.kp Lw.b .nil pass0 (pa_cons (pv 1) pa_nil)) (pe_one (pe_call Ao.G r1 (by rfl) Ao.g Ao.kp Ao.b .nil pass0 (pa_cons (pe_ix ix_tup (pv 1) pe_int (fun _ _ => rfl)) (pa_cons (pe_ix ix_tup (pv 1) pe_int (fun _ _ => rfl)) pa_nil))))))) pss_nil)
      (pss_one (ps_ret (pe_and (pe_call Ws.G r2 (by rfl) Ws.g Ws.kp Ws.b .nil pass0 (pa_cons (pv 1) (pa_cons (pe_fld (pv 0) (by rfl)) pa_nil)))
        (pe_and (pe_callB (cr_all rfl) (by rfl) T.all (by decide +kernel) (pa_cons (pe_lc (own := [("one", 2)]) (g := gName 2) (tt := tYes) rfl nd (pi_tup (pv 1)) (blkOk_by (N := ["self", "value", "one"]) (sc := defScope sIsWgt) (by decide +kernel)) (fun _ _ _ _ _ => pg_name (i := 2) nd rfl (.inl rfl)) (fun _ _ _ _ _ => pts_nil)
          (fun _ _ _ _ _ => pe_call Pa.G r2 (by rfl) Pa.g Pa.kp Pa.b .nil pass0 (pa_cons (pv 2) pa_nil))) pa_nil))
        (pe_one (pe_cmpR (op_neD hu) (pv 1) (pe_prop (pv 0) Z.cls Ze.at_ Ze.G r2 Ze.b .nil pass0 rfl) (nomark _)))))))), ?_⟩
    obtain ⟨dx, fs, ha, hw, hs, hn⟩ := id sa
    refine ⟨_, rfl, a, C, dx, fs, _, rfl, ha, Z.cls, Z.nw, hw, rfl, _, rfl, ?_⟩
    rw [word_sums]
    cases m with
    | sums =>
      refine ⟨_, rfl, _, d, rfl, hd, _, rfl, ?_⟩
      have q : Q (.bl (partB d && posB d)) H := q H (Ex.refl H)
      cases hp : partB d with
      | false => rw [hp] at q; exact q
      | true =>
        rw [hp, Bool.true_and] at q
        obtain ⟨i, rfl⟩ := part_int hp
        rcases hd with hd | _
        cases hd
        exact ⟨_, rfl, _, _, rfl, rfl, q⟩
    | odds =>
      refine ⟨_, rfl, a, C, dx, fs, _, rfl, ha, Z.cls, Z.nw, hw, rfl, _, rfl, ?_⟩
      rw [word_odds]
      refine ⟨_, rfl, _, d, rfl, hd, sh, fun H1 e1 => ⟨_, rfl, ?_⟩⟩
      have q : Q (.bl (lowB d && oddsB (topOf d).1 (topOf d).2)) H1 := q H1 e1
      cases hp : lowB d with
      | false => rw [hp] at q; exact q
      | true =>
        rw [hp, Bool.true_and] at q
        obtain ⟨x, y, rfl⟩ := low_two hp
        rcases hd with hd | _
        cases hd with
        | @tup p xs _ hp ha =>
          cases ha with
          | cons h1 ha =>
          cases ha with
          | cons h2 ha =>
          cases ha
          cases h1
          cases h2
          have hp1 : SqT K H1 p [.int x, .int y] := .inl (e1.rd hp)
          exact ⟨_, rfl, p, _, 0, _, rfl, rfl, hp1, rfl, _, rfl, p, _, 1, _, rfl, rfl, hp1, rfl, x, y, rfl, q⟩
    | classes k =>
      refine ⟨_, rfl, a, C, dx, fs, _, rfl, ha, Z.cls, Z.nw, hw, rfl, _, rfl, ?_⟩
      rw [word_odds]
      refine ⟨_, rfl, _, rfl, a, C, dx, fs, _, rfl, ha, Z.cls, Z.ns, hs, _, d, _, rfl, hd, sh, fun H1 e1 => ⟨_, rfl, ?_⟩⟩
      have q : ∀ H', Ex H H' → Q (.bl (wholesB d (k : Nat) && partsB k d)) H' := q
      show if wholesB d ((k : Nat) : Int) = true then _ else _
      cases hp : wholesB d (k : Nat) with
      | false =>
        have q := q H1 e1
        rw [hp] at q
        exact iteF q
      | true =>
        rw [hp] at q
        refine iteT ?_
        cases d with
        | tuple ds =>
          simp only [wholesB, Bool.and_eq_true, decide_eq_true_eq] at hp
          obtain ⟨ns, rfl⟩ := whole_ints hp.2
          have ln : ns.length = k := by have := hp.1; rw [List.length_map] at this; omega
          have q : ∀ H', Ex H H' → Q (.bl ((ns.map PyData.int).all partB && !PyData.eqvAll (ns.map PyData.int) (zeroOf k))) H' := q
          rcases hd with hd | _
          cases hd with
          | @tup p xs _ hp ha' =>
            obtain rfl := dxs_ints ha'
            have k4 := mok.2
            refine ⟨_, rfl, p, rfl, ⟨_, .inl (e1.rd hp)⟩, fun D nD => lc_tup (xs := ns.map V.int) (fun i H' => Ex H1 H' ∧ H' D = some (.lst ((((ns.map PyData.int).take i).map partB).map V.bl)))
              ⟨Ex.new nD, upd_same⟩ (fun i H' _ h => .inl (h.1.rd (e1.rd hp))) (fun i x H' hx h => ?_) (fun H' h => ?_)⟩
            · obtain ⟨ex, eD⟩ := h
              have hx' := hx
              rw [List.getElem?_map] at hx'
              obtain ⟨n, hn, rfl⟩ := Option.map_eq_some_iff.mp hx'
              have hd1 : (ns.map PyData.int)[i]? = some (.int n) := by rw [List.getElem?_map, hn]; rfl
              refine ⟨rfl, _, rfl, _, .int n, rfl, .dx (.int n), _, eD, ?_, ex.mut nD, ?_⟩
              · rw [List.length_map, List.length_map, List.length_take, List.length_map]
                exact room1000 (by omega)
              · rw [upd_same, take_all hd1, List.map_append]
                rfl
            · obtain ⟨ex, eD⟩ := h
              have ex2 := e1.trans ex
              rw [List.length_map, ← List.length_map (f := PyData.int), List.take_length] at eD
              refine ⟨D, _, rfl, .inl (.inl eD), ?_⟩
              rw [all_id]
              cases hall : (ns.map PyData.int).all partB with
              | false =>
                have := q H' ex2
                rw [hall] at this
                exact ⟨_, rfl, this⟩
              | true =>
                have sa' := ex2.scl sa
                obtain ⟨dx', fs', ha2, n2⟩ := sa'.no (x := "zero") (by decide +kernel) (by decide +kernel)
                refine ⟨_, rfl, _, rfl, _, rfl, a, dx', fs', rfl, ha2, a, .classes k, rfl, sa', mok, fun z H2 e2 hz => ?_⟩
                have e3 := ex2.trans e2
                have vp : AmV H2 (.ref p) (.c ns) := ⟨p, rfl, e3.rd hp⟩
                refine ⟨_, _, dp_am vp, dp_am hz, Am.shaped _, Am.shaped _, ?_⟩
                have := q H2 e3
                rw [hall] at this
                have eq : PyData.eqv (Am.c ns).data (Ms.zero (.classes k)).data = PyData.eqvAll (ns.map PyData.int) (zeroOf k) := by
                  rw [← zero_data]
                  simp only [Am.data, Ms.zero, PyData.eqv]
                rw [eq]
                exact this
        | _ => cases hp
end
end Gl

namespace Gl
open PySem PySem.Spec PyProof.Rows L2
abbrev sWord : Stmt := clsS 4
abbrev sSize : Stmt := clsS 5
abbrev sOne : Stmt := clsS 7
abbrev sHas : Stmt := clsS 10
abbrev sEqM : Stmt := clsS 21
abbrev sStrM : Stmt := clsS 22
theorem scWord : FnScope ["self"] ["self"] (defScope sWord) := ⟨rfl, rfl, rfl, by decide +kernel, rfl, by decide +kernel, by decide +kernel⟩
theorem scSize : FnScope ["self"] ["self"] (defScope sSize) := ⟨rfl, rfl, rfl, by decide +kernel, rfl, by decide +kernel, by decide +kernel⟩
theorem scOne : FnScope ["self"] ["self"] (defScope sOne) := ⟨rfl, rfl, rfl, by decide +kernel, rfl, by decide +kernel, by decide +kernel⟩
theorem scHas : FnScope ["self", "x"] ["self", "x"] (defScope sHas) := ⟨rfl, rfl, rfl, by decide +kernel, rfl, by decide +kernel, by decide +kernel⟩
theorem scEqM : FnScope ["self", "other"] ["self", "other"] (defScope sEqM) := ⟨rfl, rfl, rfl, by decide +kernel, rfl, by decide +kernel, by decide +kernel⟩
theorem scStrM : FnScope ["self"] ["self"] (defScope sStrM) := ⟨rfl, rfl, rfl, by decide +kernel, rfl, by decide +kernel, by decide +kernel⟩
def Ms.one : Ms → Am
  | .sums => .n 1
  | .classes k => .c (1 :: List.replicate (k - 1) 0)
  | .odds => .o ⟨(2, 1), by first | decide | constructor <;> decide⟩
section
variable {P : Program} {w : World} {K : PySem.W.Frag} {mg : Str → Option Value} {base : Heap} {C : Addr}
def spWord (C : Addr) : Sp := fun vs H Q _ => ∃ (a : Addr) (m : Ms), vs = [.ref a] ∧ SclAt H a C m ∧ Q (.str m.word) H
theorem ok_word {f : Addr} {fd : FuncData} (F : Fun K "word" "Scale.word" sWord f fd) (Z : ClsK K C) : FnOk P w K mg base CX0 1 f fd ["self"] (spWord C) := by
  refine F.ok scWord (fun vs H Q E h => ?_) (fun cdv A outer s H vs Q E hr h => ?_)
  · obtain ⟨a, m, rfl, _⟩ := h
    rfl
  · obtain ⟨a, m, rfl, ⟨dx, fs, ha, hw, hs, hn⟩, q⟩ := h
    exact ⟨_, pss_one (ps_ret (pe_fld (pv 0) (by rfl))), _, rfl, a, C, dx, fs, _, rfl, ha, Z.cls, Z.nw, hw, q⟩
def spSize (C : Addr) : Sp := fun vs H Q _ => ∃ (a : Addr) (m : Ms), vs = [.ref a] ∧ SclAt H a C m ∧ Q (.int (m.size : Nat)) H
theorem ok_size {f : Addr} {fd : FuncData} (F : Fun K "size" "Scale.size" sSize f fd) (Z : ClsK K C) : FnOk P w K mg base CX0 1 f fd ["self"] (spSize C) := by
  refine F.ok scSize (fun vs H Q E h => ?_) (fun cdv A outer s H vs Q E hr h => ?_)
  · obtain ⟨a, m, rfl, _⟩ := h
    rfl
  · obtain ⟨a, m, rfl, ⟨dx, fs, ha, hw, hs, hn⟩, q⟩ := h
    exact ⟨_, pss_one (ps_ret (pe_fld (pv 0) (by rfl))), _, rfl, a, C, dx, fs, _, rfl, ha, Z.cls, Z.ns, hs, q⟩
def spOne (C : Addr) : Sp := fun vs H Q _ => ∃ (a : Addr) (m : Ms), vs = [.ref a] ∧ SclAt H a C m ∧ m.ok ∧ ∀ v H', Ex H H' → AmV H' v m.one → Q v H'
theorem ok_one {f : Addr} {fd : FuncData} (F : Fun K "one" "Scale.one" sOne f fd) (Z : ClsK K C) : FnOk P w K mg base CX0 1 f fd ["self"] (spOne C) := by
  refine F.ok scOne (fun vs H Q E h => ?_) (fun cdv A outer s H vs Q E hr h => ?_)
  · obtain ⟨a, m, rfl, _⟩ := h
    rfl
  · obtain ⟨a, m, rfl, ⟨dx, fs, ha, hw, hs, hn⟩, mok, q⟩ := h
    refine ⟨_, pss_cons (ps_if (pt_cmpR op_eq (pe_fld (pv 0) (by rfl)) pe_str (nomark _)) (pss_one (ps_ret pe_int)) pss_nil)
      (pss_cons (ps_if (pt_cmpR op_eq (pe_fld (pv 0) (by rfl)) pe_str (nomark _)) (pss_one (ps_ret (pe_tup (pa_cons pe_int (pa_cons pe_int pa_nil))))) pss_nil)
      (pss_one (ps_ret (pe_op op_catT (pe_tup (pa_cons pe_int pa_nil)) (pe_op (op_repT0.or (op_repT1.or op_repT)) (pe_tup (pa_cons pe_int pa_nil)) (pe_op op_sub (pe_fld (pv 0) (by rfl)) pe_int)))))), ?_⟩
    refine ⟨_, rfl, a, C, dx, fs, _, rfl, ha, Z.cls, Z.nw, hw, rfl, _, rfl, ?_⟩
    rw [word_sums]
    cases m with
    | sums => exact q _ H (Ex.refl H) rfl
    | odds =>
      refine ⟨_, rfl, a, C, dx, fs, _, rfl, ha, Z.cls, Z.nw, hw, rfl, _, rfl, ?_⟩
      rw [word_odds]
      exact ⟨by show 2 ≤ sizeLine; decide, fun t nt => q _ _ (Ex.new nt) ⟨t, rfl, .inl upd_same⟩⟩
    | classes k =>
      refine ⟨_, rfl, a, C, dx, fs, _, rfl, ha, Z.cls, Z.nw, hw, rfl, _, rfl, ?_⟩
      rw [word_odds]
      have k1 := mok.1
      have k4 := mok.2
      refine ⟨by show 1 ≤ sizeLine; decide, fun t nt => ⟨by show 1 ≤ sizeLine; decide, fun u nu => ?_⟩⟩
      have xt := Ex.new (o := .tup [.int 1]) nt
      have xu := Ex.new (o := .tup [.int 0]) nu
      have ht : upd (upd H t (.tup [.int 1])) u (.tup [.int 0]) t = some (.tup [.int 1]) := xu t _ upd_same
      refine ⟨_, rfl, a, C, dx, fs, _, rfl, xu a _ (xt a _ ha), Z.cls, Z.ns, hs, _, _, rfl, rfl, ?_⟩
      have hu : upd (upd H t (.tup [.int 1])) u (.tup [.int 0]) u = some (.tup [.int 0]) := upd_same
      have k' : k = 1 ∨ k = 2 ∨ k = 3 ∨ k = 4 := by omega
      rcases k' with rfl | rfl | rfl | rfl
      · refine .inl ⟨u, [.int 0], rfl, rfl, .inl (.inl hu), by simp, fun z nz => ?_⟩
        have xz := Ex.new (o := .tup []) nz
        refine ⟨t, z, [.int 1], [], rfl, rfl, .inl (.inl (xz t _ ht)), .inl (.inl upd_same), by simp, by decide, fun _ => ?_, fun h => absurd rfl h⟩
        exact q _ _ ((xt.trans xu).trans xz) ⟨t, rfl, .inl (xz t _ ht)⟩
      · refine .inr (.inl ⟨u, [.int 0], rfl, rfl, .inl (.inl hu), ?_⟩)
        refine ⟨t, u, [.int 1], [.int 0], rfl, rfl, .inl (.inl ht), .inl (.inl hu), by simp, by decide, (fun h => by simp at h), fun _ z nz => ?_⟩
        exact q _ _ ((xt.trans xu).trans (Ex.new nz)) ⟨z, rfl, .inl upd_same⟩
      · refine .inr (.inr ⟨u, 2, [.int 0], rfl, rfl, .inl (.inl hu), by simp, by decide, by decide, by decide, fun z nz => ?_⟩)
        have xz := Ex.new (o := .tup (List.replicate (2 : Int).toNat [V.int 0]).flatten) nz
        refine ⟨t, z, [.int 1], _, rfl, rfl, .inl (.inl (xz t _ ht)), .inl (.inl upd_same), by simp, by decide, (fun h => absurd h (by simp)), fun _ z' nz' => ?_⟩
        exact q _ _ (((xt.trans xu).trans xz).trans (Ex.new nz')) ⟨z', rfl, .inl upd_same⟩
      · refine .inr (.inr ⟨u, 3, [.int 0], rfl, rfl, .inl (.inl hu), by simp, by decide, by decide, by decide, fun z nz => ?_⟩)
        have xz := Ex.new (o := .tup (List.replicate (3 : Int).toNat [V.int 0]).flatten) nz
        refine ⟨t, z, [.int 1], _, rfl, rfl, .inl (.inl (xz t _ ht)), .inl (.inl upd_same), by simp, by decide, (fun h => absurd h (by simp)), fun _ z' nz' => ?_⟩
        exact q _ _ (((xt.trans xu).trans xz).trans (Ex.new nz')) ⟨z', rfl, .inl upd_same⟩
/-- x in scale -/
def spHas (K : PySem.W.Frag) (C : Addr) : Sp := fun vs H Q _ => ∃ (a : Addr) (m : Ms) (v : V) (d : PyData), vs = [.ref a, v] ∧ SclAt H a C m ∧ m.ok ∧ Od K H v d ∧ Short d ∧ ∀ H', Ex H H' → Q (.bl (amtB m d)) H'
theorem ok_has {f : Addr} {fd : FuncData} (F : Fun K "__contains__" "Scale.__contains__" sHas f fd) (Z : ClsK K C) (Am : Dm P w K mg base C 4 "is_amount" ["self", "value"] (spIsAmt K C)) : FnOk P w K mg base CX0 5 f fd ["self", "x"] (spHas K C) := by
  refine F.ok scHas (fun vs H Q E h => ?_) (fun cdv A outer s H vs Q E hr h => ?_)
  · obtain ⟨a, m, v, d, rfl, _⟩ := h
    rfl
  · obtain ⟨a, m, v, d, rfl, sa, mok, hd, sh, q⟩ := h
    obtain ⟨dx, fs, ha, n1⟩ := sa.no (x := "is_amount") (by decide +kernel) (by decide +kernel)
    refine ⟨_, pss_one (ps_ret (pe_meth (pv 0) Z.cls Am.at_ Am.G hr Am.b .nil pass0 (pa_cons (pv 1) pa_nil))), ?_⟩
    exact ⟨_, rfl, a, dx, fs, rfl, ha, n1, _, rfl, a, m, v, d, rfl, sa, mok, hd, sh, q⟩
/-- scale == other -/
def spEqM (K : PySem.W.Frag) (C : Addr) : Sp := fun vs H Q _ => (∃ (a b : Addr) (m n : Ms), vs = [.ref a, .ref b] ∧ SclAt H a C m ∧ SclAt H b C n ∧ Q (.bl (decide (m = n))) H) ∨ (∃ (a : Addr) (m : Ms) (v : V) (d : PyData), vs = [.ref a, v] ∧ SclAt H a C m ∧ Dx K H v d ∧ Q (.bl false) H)
theorem ms_eq (m n : Ms) : decide (m = n) = (decide (V.str m.word = V.str n.word) && decide (V.int ((m.size : Nat) : Int) = V.int ((n.size : Nat) : Int))) := by
  have sc : decide (V.str Ms.sums.word = V.str (Ms.classes 0).word) = false := by decide +kernel
  have so : decide (V.str Ms.sums.word = V.str Ms.odds.word) = false := by decide +kernel
  have co : decide (V.str (Ms.classes 0).word = V.str Ms.odds.word) = false := by decide +kernel
  have cs : decide (V.str (Ms.classes 0).word = V.str Ms.sums.word) = false := by decide +kernel
  have os : decide (V.str Ms.odds.word = V.str Ms.sums.word) = false := by decide +kernel
  have oc : decide (V.str Ms.odds.word = V.str (Ms.classes 0).word) = false := by decide +kernel
  have ts : decide (V.str Ms.sums.word = V.str Ms.sums.word) = true := decide_eq_true rfl
  have tc : decide (V.str (Ms.classes 0).word = V.str (Ms.classes 0).word) = true := decide_eq_true rfl
  have to : decide (V.str Ms.odds.word = V.str Ms.odds.word) = true := decide_eq_true rfl
  cases m with
  | sums =>
    cases n with
    | sums => rw [ts, decide_eq_true rfl, decide_eq_true rfl]; rfl
    | classes l => rw [decide_eq_false (fun z => nomatch z)]; exact (by rw [show decide (V.str Ms.sums.word = V.str (Ms.classes l).word) = false from sc, Bool.false_and])
    | odds => rw [decide_eq_false (fun z => nomatch z), so, Bool.false_and]
  | classes k =>
    cases n with
    | sums => rw [decide_eq_false (fun z => nomatch z), show decide (V.str (Ms.classes k).word = V.str Ms.sums.word) = false from cs, Bool.false_and]
    | classes l =>
      rw [show decide (V.str (Ms.classes k).word = V.str (Ms.classes l).word) = true from tc, Bool.true_and]
      exact decide_eq_decide.mpr ⟨fun z => by cases z; rfl, fun z => by injection z with z; exact congrArg Ms.classes (Int.natCast_inj.mp z)⟩
    | odds => rw [decide_eq_false (fun z => nomatch z), show decide (V.str (Ms.classes k).word = V.str Ms.odds.word) = false from co, Bool.false_and]
  | odds =>
    cases n with
    | sums => rw [decide_eq_false (fun z => nomatch z), os, Bool.false_and]
    | classes l => rw [decide_eq_false (fun z => nomatch z), show decide (V.str Ms.odds.word = V.str (Ms.classes l).word) = false from oc, Bool.false_and]
    | odds => rw [to, decide_eq_true rfl, decide_eq_true rfl]; rfl
theorem ok_eqM {f : Addr} {fd : FuncData} (F : Fun K "__eq__" "Scale.__eq__" sEqM f fd) (Z : ClsK K C) (T : Blt mg) (Zt : ClsT K C) (gC : mg "Scale" = some (.ref C)) (kc : PySem.W.kitOne K (.ref C) (.ref C) = some true) (kn : ∀ t ∈ tys, PySem.W.kitOne K (.type t) (.ref C) = some false) : FnOk P w K mg base CX0 1 f fd ["self", "other"] (spEqM K C) := by
  refine F.ok scEqM (fun vs H Q E h => ?_) (fun cdv A outer s H vs Q E hr h => ?_)
  · rcases h with ⟨a, b, m, n, rfl, _⟩ | ⟨a, m, v, d, rfl, _⟩ <;> rfl
  · refine ⟨_, pss_one (ps_ret (pe_and (pe_callB call_isi (by rfl) T.isinstance (by decide +kernel) (pa_cons (pv 1) (pa_cons (pe_glob (v := .ref C) (by rfl) gC rfl) pa_nil)))
      (pe_and (pe_cmpR op_eq (pe_fld (pv 0) (by rfl)) (pe_fld (pv 1) (by rfl)) (nomark _)) (pe_one (pe_cmpR op_eq (pe_fld (pv 0) (by rfl)) (pe_fld (pv 1) (by rfl)) (nomark _)))))), ?_⟩
    rcases h with ⟨a, b, m, n, rfl, ⟨dx, fs, ha, hw, hs, hn⟩, ⟨dy, gs, hb, hw', hs', hn'⟩, q⟩ | ⟨a, m, v, d, rfl, sa, hd, q⟩
    · refine ⟨_, rfl, _, _, _, _, _, rfl, .own C, .base (.ins hb Zt.c Zt.t1 Zt.t2 Zt.t3 Zt.t4), kc, true, rfl, ?_⟩
      refine ⟨_, rfl, a, C, dx, fs, _, rfl, ha, Z.cls, Z.nw, hw, _, rfl, b, C, dy, gs, _, rfl, hb, Z.cls, Z.nw, hw', rfl, _, rfl, ?_⟩
      rw [ms_eq] at q
      by_cases z : V.str m.word = V.str n.word
      · rw [decide_eq_true z] at q ⊢
        rw [Bool.true_and] at q
        exact ⟨_, rfl, a, C, dx, fs, _, rfl, ha, Z.cls, Z.ns, hs, _, rfl, b, C, dy, gs, _, rfl, hb, Z.cls, Z.ns, hs', rfl, q⟩
      · rw [decide_eq_false z] at q ⊢
        exact q
    · exact ⟨_, rfl, _, _, _, _, _, rfl, .own C, tyx hd, kn _ (tyName_in d), false, rfl, q⟩
/-- str(scale) -/
def Ms.text : Ms → Str
  | .sums => "sums"
  | .classes 1 => "classes of 1"
  | .classes 2 => "classes of 2"
  | .classes 3 => "classes of 3"
  | .classes _ => "classes of 4"
  | .odds => "odds"
def spStrM (C : Addr) : Sp := fun vs H Q _ => ∃ (a : Addr) (m : Ms), vs = [.ref a] ∧ SclAt H a C m ∧ m.ok ∧ Q (.str m.text) H
theorem ok_strM {f : Addr} {fd : FuncData} (F : Fun K "__str__" "Scale.__str__" sStrM f fd) (Z : ClsK K C) (T : Blt mg) (ts : mg "str" = none) : FnOk P w K mg base CX0 1 f fd ["self"] (spStrM C) := by
  refine F.ok scStrM (fun vs H Q E h => ?_) (fun cdv A outer s H vs Q E hr h => ?_)
  · obtain ⟨a, m, rfl, _⟩ := h
    rfl
  · obtain ⟨a, m, rfl, ⟨dx, fs, ha, hw, hs, hn⟩, mok, q⟩ := h
    refine ⟨_, pss_cons (ps_if (pt_cmpR op_eq (pe_fld (pv 0) (by rfl)) pe_str (nomark _)) (pss_one (ps_ret (pe_joined (.cons pe_str (.cons (pe_fmt (pe_fld (pv 0) (by rfl))) .nil))))) pss_nil)
      (pss_one (ps_ret (pe_callTy SkE.call_str_str (by rfl) ts (by decide +kernel) (pa_cons (pe_fld (pv 0) (by rfl)) pa_nil)))), ?_⟩
    refine ⟨_, rfl, a, C, dx, fs, _, rfl, ha, Z.cls, Z.nw, hw, rfl, _, rfl, ?_⟩
    rw [word_classes]
    cases m with
    | sums => exact ⟨_, rfl, a, C, dx, fs, _, rfl, ha, Z.cls, Z.nw, hw, _, rfl, q⟩
    | odds => exact ⟨_, rfl, a, C, dx, fs, _, rfl, ha, Z.cls, Z.nw, hw, _, rfl, q⟩
    | classes k =>
      have k1 := mok.1
      have k4 := mok.2
      have k' : k = 1 ∨ k = 2 ∨ k = 3 ∨ k = 4 := by omega
      rcases k' with rfl | rfl | rfl | rfl
      all_goals
        refine ⟨_, rfl, by decide +kernel, _, rfl, a, C, dx, fs, _, rfl, ha, Z.cls, Z.ns, hs, .inr ⟨_, rfl, by decide +kernel, _, rfl, by decide +kernel, ?_⟩⟩
        refine cast (congrArg (fun z => Q (V.str z) H) ?_) q
        decide +kernel
end
end Gl

namespace Gl
open PySem PySem.Spec PyProof.Rows L2
abbrev sWhlL : Stmt := topS 24
abbrev sAmtDue : Stmt := topS 25
abbrev sWgtDue : Stmt := topS 26
theorem scWhlL : FnScope ["_law_value"] ["_law_value"] (defScope sWhlL) := ⟨rfl, rfl, rfl, by decide +kernel, rfl, by decide +kernel, by decide +kernel⟩
theorem scAmtDue : FnScope ["_law_measure", "_law_value", "_law_one"] ["_law_measure", "_law_value"] (defScope sAmtDue) := ⟨rfl, rfl, rfl, by decide +kernel, rfl, by decide +kernel, by decide +kernel⟩
theorem scWgtDue : FnScope ["_law_measure", "_law_value", "_law_one"] ["_law_measure", "_law_value"] (defScope sWgtDue) := ⟨rfl, rfl, rfl, by decide +kernel, rfl, by decide +kernel, by decide +kernel⟩
/-- ints that a division takes -/
def NearD : PyData → Prop
  | .tuple ds => ∀ i, PyData.int i ∈ ds → i.natAbs < 2 ^ 190
  | _ => True
theorem amt_no {m : Ms} {d : PyData} (h : m ≠ .sums) (z : ∀ ds, d = .tuple ds → ds.all wholeB = false) : amtB m d = false := by
  have w : ∀ n, wholesB d n = false := fun n => by
    unfold wholesB
    split
    · rename_i ds
      rw [z ds rfl, Bool.and_false]
    · rfl
  cases m with
  | sums => exact absurd rfl h
  | classes k => exact w k
  | odds => exact low_not (w 2)
section
variable {P : Program} {w : World} {K : PySem.W.Frag} {mg : Str → Option Value} {base : Heap}
def spWholeL (K : PySem.W.Frag) : Sp := fun vs H Q _ => ∃ v d, vs = [v] ∧ Dx K H v d ∧ Q (.bl (wholeB d)) H
theorem ok_wholeL {f : Addr} {fd : FuncData} (F : Fun K "_law_whole" "_law_whole" sWhlL f fd) (T : Blt mg) : FnOk P w K mg base CX0 1 f fd ["_law_value"] (spWholeL K) := by
  refine F.ok scWhlL (fun vs H Q E h => ?_) (fun cdv A outer s H vs Q E hr h => ?_)
  · obtain ⟨v, d, rfl, _⟩ := h
    rfl
  · obtain ⟨v, d, rfl, hd, q⟩ := h
    refine ⟨_, pss_one (ps_ret (pe_and (pe_callB call_isi (by rfl) T.isinstance (by decide +kernel) (pa_cons (pv 0) (pa_cons (pe_bltn (v := .ty "int") (by rfl) T.int (by decide +kernel) rfl) pa_nil)))
      (pe_one (pe_not (pe_callB call_isi (by rfl) T.isinstance (by decide +kernel) (pa_cons (pv 0) (pa_cons (pe_bltn (v := .ty "bool") (by rfl) T.bool (by decide +kernel) rfl) pa_nil))))))), ?_⟩
    refine ⟨_, rfl, _, _, _, _, _, rfl, .ty _, tyx hd, kit_ty (isInt d), _, rfl, ?_⟩
    cases d with
    | bool b => exact ⟨_, rfl, _, _, _, _, _, rfl, .ty _, tyx hd, kit_ty (isBool _), true, rfl, q⟩
    | int i => exact ⟨_, rfl, _, _, _, _, _, rfl, .ty _, tyx hd, kit_ty (isBool _), false, rfl, q⟩
    | none => exact q
    | str x => exact q
    | list xs => exact q
    | tuple xs => exact q
    | dict xs => exact q
def spAmtDue (K : PySem.W.Frag) : Sp := fun vs H Q _ => ∃ (p : Addr) (m : Ms) (v : V) (d : PyData), vs = [.ref p, v] ∧ MsV H p m ∧ m.ok ∧ Dx K H v d ∧ Short d ∧ NearD d ∧ ∀ H', Ex H H' → Q (.bl (amtB m d)) H'
theorem ok_amtDue {f : Addr} {fd : FuncData} (F : Fun K "_law_amount_due" "_law_amount_due" sAmtDue f fd) (T : Blt mg) (Wl : Df P w K mg base 1 "_law_whole" ["_law_value"] (spWholeL K)) (Lo : DfG P w K mg base 1 "_law_lowest" ["_law_top", "_law_bottom"] spLowL) : FnG P w K mg base CX0 2 f fd ["_law_measure", "_law_value"] (spAmtDue K) := by
  refine okG F scAmtDue (fun vs H Q E h => ?_) (fun cdv A outer s H vs Q E hr h => ?_)
  · obtain ⟨p, m, v, d, rfl, _⟩ := h
    rfl
  · obtain ⟨p, m, v, d, rfl, hm, mok, hd, sh, nr, q⟩ := h
    have nd := scAmtDue.nd
    have hu : (A.deeper (envOfC "_law_amount_due" (defScope sAmtDue) s.heap.objs.size f cdv)).units < cLine := by have := hr.rm.un; omega
    have hu64 : (A.deeper (envOfC "_law_amount_due" (defScope sAmtDue) s.heap.objs.size f cdv)).units + 64 < cLine := by have := hr.rm.un; omega
    refine ⟨_, pss_cons (ps_if (pt_cmpR op_eq (pe_ix ix_tup (pv 0) pe_int (fun _ _ => rfl)) pe_str (nomark _)) (pss_one (ps_ret (pe_call Wl.G hr.rm (by rfl) Wl.g Wl.kp Wl.b .nil pass0 (pa_cons (pv 1) pa_nil)))) pss_nil)
      (pss_cons (ps_if (pw_or (pt_not (pt_val (pe_callB call_isi (by rfl) T.isinstance (by decide +kernel) (pa_cons (pv 1) (pa_cons (pe_bltn (v := .ty "tuple") (by rfl) T.tuple (by decide +kernel) rfl) pa_nil)))))
          (pw_or1 (pt_cmpR (op_neNil hu) (pe_lc (own := [("_law_one", 2)]) (g := gName 2) rfl nd (pi_tup (pv 1)) (blkOk_by (N := ["_law_measure", "_law_value", "_law_one"]) (sc := defScope sAmtDue) (by decide +kernel)) (fun _ _ _ _ _ => pg_name (i := 2) nd rfl (.inl rfl))
            (fun _ _ _ _ _ => pts_one (pt_not (pt_val (pe_call Wl.G hr.rm (by rfl) Wl.g Wl.kp Wl.b .nil pass0 (pa_cons (pv 2) pa_nil))))) (fun _ _ _ _ _ => pv 2)) (pe_lst pa_nil) (nomark _)))).pt (pss_one (ps_ret pe_bl)) pss_nil)
      (pss_cons (ps_if (pt_cmpR op_eq (pe_ix ix_tup (pv 0) pe_int (fun _ _ => rfl)) pe_str (nomark _)) (pss_one (ps_ret (pe_cmpR op_eq (pe_callB call_len_seq (by rfl) T.len PySem.boot_len (pa_cons (pv 1) pa_nil)) (pe_ix ix_tup (pv 0) pe_int (fun _ _ => rfl)) (nomark _)))) pss_nil)
      (pss_cons (ps_if (pw_or (pt_cmpR op_ne (pe_callB call_len_seq (by rfl) T.len PySem.boot_len (pa_cons (pv 1) pa_nil)) pe_int (nomark _)) (pw_or (pt_cmpR op_lt (pe_ix ix_tup (pv 1) pe_int (fun _ _ => rfl)) pe_int (nomark _)) (pw_or1 (pt_cmpR op_lt (pe_ix ix_tup (pv 1) pe_int (fun _ _ => rfl)) pe_int (nomark _))))).pt (pss_one (ps_ret pe_bl)) pss_nil)
      (pss_one (ps_ret (pe_cmpR (op_eqD hu64) (pe_callG Lo.G hr (by rfl) Lo.g Lo.kp Lo.b .nil pass0 (pa_cons (pe_ix ix_tup (pv 1) pe_int (fun _ _ => rfl)) (pa_cons (pe_ix ix_tup (pv 1) pe_int (fun _ _ => rfl)) pa_nil))) (pv 1) (nomark _))))))), ?_⟩
    refine ⟨_, rfl, p, _, 0, _, rfl, rfl, .inl hm, rfl, rfl, _, rfl, ?_⟩
    rw [word_sums]
    by_cases ms : m = .sums
    · subst ms
      exact ⟨_, rfl, v, d, rfl, hd, q H (Ex.refl H)⟩
    rw [decide_eq_false ms]
    have no : ∀ H', Ex H H' → (∀ ds, d = .tuple ds → ds.all wholeB = false) → Q (.bl false) H' := fun H' e z => by
      have := q H' e
      rwa [amt_no ms z] at this
    refine ⟨_, rfl, _, _, _, _, _, rfl, .ty _, tyx hd, kit_ty (isTup d), _, rfl, ?_⟩
    cases hd with
    | non => exact no _ (Ex.refl H) (fun _ z => nomatch z)
    | bl b => exact no _ (Ex.refl H) (fun _ z => nomatch z)
    | int i => exact no _ (Ex.refl H) (fun _ z => nomatch z)
    | lst _ _ => exact no _ (Ex.refl H) (fun _ z => nomatch z)
    | str _ => exact no _ (Ex.refl H) (fun _ z => nomatch z)
    | dk _ _ => exact no _ (Ex.refl H) (fun _ z => nomatch z)
    | @tup t xs ds hp ha =>
      have ln := ha.length
      refine ⟨_, rfl, t, rfl, ⟨_, .inl hp⟩, fun D nD => lc_tup (xs := xs) (fun i H' => ∃ ks : List V, Ex H H' ∧ H' D = some (.lst ks) ∧ (ks = [] ↔ (ds.take i).all wholeB = true) ∧ ks.length ≤ i)
        ⟨[], Ex.new nD, upd_same, by simp, Nat.le_refl _⟩ (fun i H' _ h => ?_) (fun i x H' hx h => ?_) (fun H1 h => ?_)⟩
      · obtain ⟨_, ex, _⟩ := h
        exact .inl (ex.rd hp)
      · obtain ⟨ks, ex, eD, iff, lk⟩ := h
        obtain ⟨d1, hd1, hx1⟩ := ha.get hx
        have tk : (ds.take (i + 1)).all wholeB = ((ds.take i).all wholeB && wholeB d1) := by
          rw [List.take_add_one, hd1, List.all_append]
          simp
        have il := (List.getElem?_eq_some_iff.mp hd1).1
        have l1000 := sh.1
        refine ⟨rfl, _, rfl, _, d1, rfl, hx1.ex ex, _, rfl, ?_⟩
        cases hw : wholeB d1 with
        | false =>
          refine ⟨_, rfl, ks, eD, room1000 (by omega), ks ++ [x], ex.mut nD, upd_same, ?_, by rw [List.length_append]; exact Nat.succ_le_succ lk⟩
          rw [tk, hw, Bool.and_false]
          constructor
          · intro z
            have := congrArg List.length z
            rw [List.length_append] at this
            exact nomatch this
          · intro z; exact absurd z Bool.false_ne_true
        | true =>
          refine ⟨ks, ex, eD, ?_, by omega⟩
          rw [tk, hw, Bool.and_true]
          exact iff
      · obtain ⟨ks, ex, eD, iff, lk⟩ := h
        rw [ln, List.take_length] at iff
        refine ⟨Nat.zero_le _, fun e ne => ⟨D, e, _, rfl, rfl, .inl (.inl (Ex.new ne D _ eD)), upd_same, ?_⟩⟩
        have x2 := ex.trans (Ex.new (o := .lst []) ne)
        rw [if_neg Bool.false_ne_true]
        refine ⟨_, rfl, ?_⟩
        cases hall : ds.all wholeB with
        | false =>
          rw [hall] at iff
          rw [decide_eq_false (fun z => absurd (iff.mp z) Bool.false_ne_true)]
          exact no _ x2 (fun _ z => by cases z; exact hall)
        | true =>
          rw [hall] at iff
          rw [decide_eq_true (iff.mpr rfl)]
          obtain ⟨ns, rfl⟩ := whole_ints hall
          obtain rfl := dxs_ints ha
          have hm2 := x2.rd hm
          have hp2 := x2.rd hp
          refine ⟨_, rfl, p, _, 0, _, rfl, rfl, .inl hm2, rfl, rfl, _, rfl, ?_⟩
          rw [word_classes]
          cases m with
          | sums => exact absurd rfl ms
          | classes k =>
            refine ⟨_, rfl, t, _, rfl, .inr (.inl hp2), _, rfl, p, _, 1, _, rfl, rfl, .inl hm2, rfl, rfl, ?_⟩
            have q : Q (.bl (decide (((ns.map PyData.int).length : Int) = ((k : Nat) : Int)) && (ns.map PyData.int).all wholeB)) _ := q _ x2
            rw [hall, Bool.and_true] at q
            have e : decide (V.int (((ns.map V.int).length : Nat) : Int) = V.int (((Ms.classes k).size : Nat) : Int)) = decide (((ns.map PyData.int).length : Int) = ((k : Nat) : Int)) :=
              decide_eq_decide.mpr ⟨fun z => by injection z with z; rw [List.length_map] at z ⊢; exact z, fun z => by rw [List.length_map] at z ⊢; rw [z]; rfl⟩
            rw [e]
            exact q
          | odds =>
            have q0 : ∀ H', Ex H H' → Q (.bl (lowB (.tuple (ns.map PyData.int)))) H' := q
            have q := q0 _ x2
            refine ⟨_, rfl, t, _, rfl, .inr (.inl hp2), rfl, _, rfl, ?_⟩
            have q' := fun H' e => q0 H' e
            match ns, q with
            | [], q => exact q
            | [_], q => exact q
            | a :: b :: c :: l, q =>
              rw [decide_eq_false (fun z => by injection z with z; simp only [List.map_cons, List.length_cons] at z; omega)]
              exact q
            | [x, y], q =>
              have q : Q (.bl (decide (0 < x) && (decide (0 < y) && decide (Nat.gcd x.natAbs y.natAbs = 1)))) _ := q
              refine ⟨_, rfl, t, _, 0, _, rfl, rfl, .inl hp2, rfl, _, _, rfl, rfl, _, rfl, ?_⟩
              by_cases zx : x < 1
              · rw [decide_eq_true zx]
                rw [decide_eq_false (show ¬ 0 < x by omega)] at q
                exact q
              rw [decide_eq_false zx]
              rw [decide_eq_true (show 0 < x by omega), Bool.true_and] at q
              refine ⟨_, rfl, t, _, 1, _, rfl, rfl, .inl hp2, rfl, _, _, rfl, rfl, _, rfl, ?_⟩
              by_cases zy : y < 1
              · rw [decide_eq_true zy]
                rw [decide_eq_false (show ¬ 0 < y by omega)] at q
                exact q
              rw [decide_eq_false zy]
              rw [decide_eq_true (show 0 < y by omega), Bool.true_and] at q
              obtain ⟨a, rfl⟩ : ∃ a : Nat, x = a := ⟨x.toNat, by omega⟩
              obtain ⟨b, rfl⟩ : ∃ b : Nat, y = b := ⟨y.toNat, by omega⟩
              have la : a < 2 ^ 190 := nr a (by simp)
              have lb : b < 2 ^ 190 := nr b (by simp)
              refine ⟨_, rfl, t, _, 0, _, rfl, rfl, .inl hp2, rfl, _, rfl, t, _, 1, _, rfl, rfl, .inl hp2, rfl, a, b, rfl, by omega, by omega, la, lb, fun z H3 lw e3 nz hz => ?_⟩
              have hp3 := e3.rd hp2
              refine ⟨_, rfl, ?_⟩
              have v1 : AmV H3 (.ref z) (.c [((a / Nat.gcd a b : Nat) : Int), ((b / Nat.gcd a b : Nat) : Int)]) := ⟨z, rfl, hz⟩
              have v2 : AmV H3 (.ref t) (.c [(a : Int), (b : Int)]) := ⟨t, rfl, hp3⟩
              refine ⟨_, _, dp_am v1, dp_am v2, Am.shaped _, Am.shaped _, ?_⟩
              have q3 := q' H3 (x2.trans e3)
              have eq : PyData.eqv (Am.c [((a / Nat.gcd a b : Nat) : Int), ((b / Nat.gcd a b : Nat) : Int)]).data (Am.c [(a : Int), (b : Int)]).data = lowB (.tuple [.int (a : Int), .int (b : Int)]) := by
                have e1 : PyData.eqv (Am.c [((a / Nat.gcd a b : Nat) : Int), ((b / Nat.gcd a b : Nat) : Int)]).data (Am.c [(a : Int), (b : Int)]).data = PyData.eqvAll ([((a / Nat.gcd a b : Nat) : Int), ((b / Nat.gcd a b : Nat) : Int)].map PyData.int) ([(a : Int), (b : Int)].map PyData.int) := by
                  simp only [Am.data, PyData.eqv]
                rw [e1, eqv_ints]
                have e2 : lowB (.tuple [.int (a : Int), .int (b : Int)]) = decide (Nat.gcd a b = 1) := by
                  show (decide ((0 : Int) < (a : Int)) && (decide ((0 : Int) < (b : Int)) && decide (Nat.gcd (a : Int).natAbs (b : Int).natAbs = 1))) = _
                  rw [decide_eq_true (show (0 : Int) < a by omega), decide_eq_true (show (0 : Int) < b by omega), Int.natAbs_natCast, Int.natAbs_natCast]
                  rfl
                rw [e2]
                refine decide_eq_decide.mpr ⟨fun h => ?_, fun h => ?_⟩
                · injection h with h _
                  have h := Int.natCast_inj.mp h
                  have a0 : 0 < a := by omega
                  have g0 : 0 < Nat.gcd a b := Nat.gcd_pos_of_pos_left b a0
                  by_cases g1 : Nat.gcd a b = 1
                  · exact g1
                  · have := Nat.div_lt_self a0 (show 1 < Nat.gcd a b by omega)
                    omega
                · rw [h, Nat.div_one, Nat.div_one]
              rw [eq]
              exact q3
end
end Gl

namespace Gl
open PySem PySem.Spec PyProof.Rows L2
theorem wgt_amt {m : Ms} {d : PyData} (h : amtB m d = false) : wgtB m d = false := by
  cases m with
  | sums =>
    cases d <;> first | rfl | cases h
  | classes k =>
    show (wholesB d k && partsB k d) = false
    rw [show wholesB d k = false from h, Bool.false_and]
  | odds =>
    show (lowB d && oddsB (topOf d).1 (topOf d).2) = false
    rw [show lowB d = false from h, Bool.false_and]
theorem parts_pos {ns : List Int} (h : (ns.map PyData.int).all partB = true) : (!PyData.eqvAll (ns.map PyData.int) (zeroOf ns.length)) = !(ns.all fun n => !decide (0 < n)) := by
  rw [← zero_data, eqv_ints]
  congr 1
  by_cases z : (ns.all fun n => !decide (0 < n)) = true
  · rw [z]
    refine decide_eq_true ?_
    rw [List.all_eq_true] at z h
    refine List.eq_replicate_iff.mpr ⟨rfl, fun n hn => ?_⟩
    have a := z n hn
    have b := h _ (List.mem_map_of_mem hn)
    simp only [partB, Bool.and_eq_true, decide_eq_true_eq] at b
    simp only [Bool.not_eq_true', decide_eq_false_iff_not] at a
    omega
  · rw [Bool.eq_false_iff.mpr z]
    refine decide_eq_false fun e => z ?_
    rw [e, List.all_eq_true]
    intro n hn
    rw [(List.mem_replicate.mp hn).2]
    rfl
section
variable {P : Program} {w : World} {K : PySem.W.Frag} {mg : Str → Option Value} {base : Heap}
def spWgtDue (K : PySem.W.Frag) : Sp := fun vs H Q _ => ∃ (p : Addr) (m : Ms) (v : V) (d : PyData), vs = [.ref p, v] ∧ MsV H p m ∧ m.ok ∧ Dx K H v d ∧ Short d ∧ NearD d ∧ ∀ H', Ex H H' → Q (.bl (wgtB m d)) H'
theorem ok_wgtDue {f : Addr} {fd : FuncData} (F : Fun K "_law_weight_due" "_law_weight_due" sWgtDue f fd) (T : Blt mg) (Ad : DfG P w K mg base 2 "_law_amount_due" ["_law_measure", "_law_value"] (spAmtDue K)) : FnG P w K mg base CX0 3 f fd ["_law_measure", "_law_value"] (spWgtDue K) := by
  refine okG F scWgtDue (fun vs H Q E h => ?_) (fun cdv A outer s H vs Q E hr h => ?_)
  · obtain ⟨p, m, v, d, rfl, _⟩ := h
    rfl
  · obtain ⟨p, m, v, d, rfl, hm, mok, hd, sh, nr, q⟩ := h
    have nd := scWgtDue.nd
    have hu : (A.deeper (envOfC "_law_weight_due" (defScope sWgtDue) s.heap.objs.size f cdv)).units < cLine := by have := hr.rm.un; omega
    refine ⟨_, pss_cons (ps_if (pt_not (pt_val (pe_callG Ad.G hr (by rfl) Ad.g Ad.kp Ad.b .nil pass0 (pa_cons (pv 0) (pa_cons (pv 1) pa_nil))))) (pss_one (ps_ret pe_bl)) pss_nil)
      (pss_cons (ps_if (pt_cmpR op_eq (pe_ix ix_tup (pv 0) pe_int (fun _ _ => rfl)) pe_str (nomark _)) (pss_one (ps_ret (pe_chain op_lt op_lt pe_int (pv 1) (pe_op op_powW pe_int pe_int)))) pss_nil)
      (pss_cons (ps_if (pt_cmpR op_eq (pe_ix ix_tup (pv 0) pe_int (fun _ _ => rfl)) pe_str (nomark _)) (pss_one (ps_ret (pe_and
          (pe_cmpR (op_eqNil hu) (pe_lc (own := [("_law_one", 2)]) (g := gName 2) rfl nd (pi_tup (pv 1)) (blkOk_by (N := ["_law_measure", "_law_value", "_law_one"]) (sc := defScope sWgtDue) (by decide +kernel)) (fun _ _ _ _ _ => pg_name (i := 2) nd rfl (.inl rfl))
            (fun _ _ _ _ _ => pts_one (pt_not (pt_chain op_le op_lt pe_int (pv 2) (pe_op op_powW pe_int pe_int)))) (fun _ _ _ _ _ => pv 2)) (pe_lst pa_nil) (nomark _))
          (pe_one (pe_cmpR (op_neNil hu) (pe_lc (own := [("_law_one", 2)]) (g := gName 2) rfl nd (pi_tup (pv 1)) (blkOk_by (N := ["_law_measure", "_law_value", "_law_one"]) (sc := defScope sWgtDue) (by decide +kernel)) (fun _ _ _ _ _ => pg_name (i := 2) nd rfl (.inl rfl))
            (fun _ _ _ _ _ => pts_one (pt_cmpR op_gt (pv 2) pe_int (nomark _))) (fun _ _ _ _ _ => pv 2)) (pe_lst pa_nil) (nomark _)))))) pss_nil)
      (pss_one (ps_ret (pe_chain3 op_le op_lt op_le pe_int (pe_ix ix_tup (pv 1) pe_int (fun _ _ => rfl)) (pe_ix ix_tup (pv 1) pe_int (fun _ _ => rfl)) pe_int))))), ?_⟩
    refine ⟨_, rfl, _, rfl, p, m, v, d, rfl, hm, mok, hd, sh, nr, fun H1 e1 => ⟨_, rfl, ?_⟩⟩
    have hm1 := e1.rd hm
    cases hb : amtB m d with
    | false =>
      have q1 := q H1 e1
      rw [wgt_amt hb] at q1
      exact q1
    | true =>
    refine ⟨_, rfl, p, _, 0, _, rfl, rfl, .inl hm1, rfl, rfl, _, rfl, ?_⟩
    rw [word_sums]
    cases m with
    | sums =>
      have hb : wholeB d = true := hb
      have q : ∀ H', Ex H H' → Q (.bl (partB d && posB d)) H' := q
      obtain ⟨i, rfl⟩ : ∃ i, d = .int i := by cases d <;> first | (cases hb; done) | exact ⟨_, rfl⟩
      cases hd
      refine ⟨_, rfl, _, _, rfl, rfl, _, rfl, ?_⟩
      have q1 : Q (.bl ((decide (0 ≤ i) && decide (i < big40)) && decide (0 < i))) H1 := q H1 e1
      by_cases z : 0 < i
      · rw [decide_eq_true z]
        rw [decide_eq_true z, decide_eq_true (show 0 ≤ i by omega), Bool.true_and, Bool.and_true] at q1
        exact ⟨_, _, rfl, rfl, cpw40, _, _, rfl, rfl, q1⟩
      · rw [decide_eq_false z]
        rw [decide_eq_false z, Bool.and_false] at q1
        exact q1
    | odds =>
      refine ⟨_, rfl, p, _, 0, _, rfl, rfl, .inl hm1, rfl, rfl, _, rfl, ?_⟩
      rw [word_classes]
      have hb : lowB d = true := hb
      obtain ⟨x, y, rfl⟩ := low_two hb
      have q1 : Q (.bl (lowB (.tuple [.int x, .int y]) && (decide (x ≤ 1000000) && decide (y < x)))) H1 := q H1 e1
      rw [hb, Bool.true_and] at q1
      simp only [lowB, Bool.and_eq_true, decide_eq_true_eq] at hb
      cases hd with
      | @tup t xs _ hp ha =>
        cases ha with
        | cons h1 ha =>
        cases ha with
        | cons h2 ha =>
        cases ha
        cases h1
        cases h2
        have hp1 : SqT K H1 t [.int x, .int y] := .inl (e1.rd hp)
        refine ⟨_, rfl, t, _, 1, _, rfl, rfl, hp1, rfl, _, _, rfl, rfl, _, rfl, ?_⟩
        rw [decide_eq_true (show (1 : Int) ≤ y by omega)]
        refine ⟨_, rfl, t, _, 0, _, rfl, rfl, hp1, rfl, _, _, rfl, rfl, _, rfl, ?_⟩
        by_cases z : y < x
        · rw [decide_eq_true z]
          rw [decide_eq_true z, Bool.and_true] at q1
          exact ⟨_, _, rfl, rfl, q1⟩
        · rw [decide_eq_false z]
          rw [decide_eq_false z, Bool.and_false] at q1
          exact q1
    | classes k =>
      refine ⟨_, rfl, p, _, 0, _, rfl, rfl, .inl hm1, rfl, rfl, _, rfl, ?_⟩
      rw [word_classes]
      have hb : wholesB d ((k : Nat) : Int) = true := hb
      have q : ∀ H', Ex H H' → Q (.bl (wholesB d ((k : Nat) : Int) && partsB k d)) H' := q
      rw [hb, Bool.true_and] at q
      cases d with
      | tuple ds =>
        simp only [wholesB, Bool.and_eq_true, decide_eq_true_eq] at hb
        obtain ⟨ns, rfl⟩ := whole_ints hb.2
        have ln : ns.length = k := by have := hb.1; rw [List.length_map] at this; omega
        subst ln
        have q : ∀ H', Ex H H' → Q (.bl ((ns.map PyData.int).all partB && !PyData.eqvAll (ns.map PyData.int) (zeroOf ns.length))) H' := q
        have k4 := mok.2
        cases hd with
        | @tup t xs _ hp ha =>
          obtain rfl := dxs_ints ha
          have hp1 := e1.rd hp
          refine ⟨_, rfl, t, rfl, ⟨_, .inl hp1⟩, fun D nD => lc_tup (xs := ns.map V.int) (fun i H' => ∃ ks : List V, Ex H1 H' ∧ H' D = some (.lst ks) ∧ (ks = [] ↔ ((ns.map PyData.int).take i).all partB = true) ∧ ks.length ≤ i)
            ⟨[], Ex.new nD, upd_same, by simp, Nat.le_refl _⟩ (fun i H' _ h => ?_) (fun i x H' hx h => ?_) (fun H2 h => ?_)⟩
          · obtain ⟨_, ex, _⟩ := h
            exact .inl (ex.rd hp1)
          · obtain ⟨ks, ex, eD, iff, lk⟩ := h
            rw [List.getElem?_map] at hx
            obtain ⟨n, hn, rfl⟩ := Option.map_eq_some_iff.mp hx
            have hd1 : (ns.map PyData.int)[i]? = some (.int n) := by rw [List.getElem?_map, hn]; rfl
            have il := (List.getElem?_eq_some_iff.mp hn).1
            have tk : ((ns.map PyData.int).take (i + 1)).all partB = (((ns.map PyData.int).take i).all partB && (decide (0 ≤ n) && decide (n < big40))) := by
              rw [List.take_add_one, hd1, List.all_append]
              simp [partB]
            have put : (decide (0 ≤ n) && decide (n < big40)) = false → ∃ ks' : List V, Ex H1 (upd H' D (.lst (ks ++ [.int n]))) ∧ (upd H' D (.lst (ks ++ [.int n]))) D = some (.lst ks') ∧ (ks' = [] ↔ ((ns.map PyData.int).take (i + 1)).all partB = true) ∧ ks'.length ≤ i + 1 := by
              intro y
              refine ⟨ks ++ [.int n], ex.mut nD, upd_same, ?_, by rw [List.length_append]; exact Nat.succ_le_succ lk⟩
              rw [tk, y, Bool.and_false]
              constructor
              · intro z
                have := congrArg List.length z
                rw [List.length_append] at this
                exact nomatch this
              · intro z; exact absurd z Bool.false_ne_true
            refine ⟨rfl, _, rfl, _, _, rfl, rfl, _, rfl, ?_⟩
            by_cases z0 : 0 ≤ n
            · rw [decide_eq_true z0]
              rw [decide_eq_true z0, Bool.true_and] at put tk
              refine ⟨_, _, rfl, rfl, cpw40, _, _, rfl, rfl, _, rfl, ?_⟩
              show if (!decide (n < big40)) = true then _ else _
              by_cases z1 : n < big40
              · rw [decide_eq_true z1] at tk ⊢
                refine iteF ⟨ks, ex, eD, ?_, by omega⟩
                rw [tk, Bool.and_true]
                exact iff
              · rw [decide_eq_false z1] at put ⊢
                exact iteT ⟨_, rfl, ks, eD, room1000 (by omega), put rfl⟩
            · rw [decide_eq_false z0]
              rw [decide_eq_false z0, Bool.false_and] at put
              exact ⟨_, rfl, _, rfl, ks, eD, room1000 (by omega), put rfl⟩
          · obtain ⟨ks, ex, eD, iff, lk⟩ := h
            rw [List.length_map, ← List.length_map (f := PyData.int), List.take_length] at iff
            refine ⟨Nat.zero_le _, fun e ne => ⟨D, e, _, rfl, rfl, .inl (.inl (Ex.new ne D _ eD)), upd_same, ?_⟩⟩
            rw [if_pos rfl]
            have x2 := e1.trans (ex.trans (Ex.new (o := .lst []) ne))
            refine ⟨_, rfl, ?_⟩
            cases hall : (ns.map PyData.int).all partB with
            | false =>
              rw [hall] at iff
              rw [decide_eq_false (fun z => absurd (iff.mp z) Bool.false_ne_true)]
              have q1 := q _ x2
              rw [hall, Bool.false_and] at q1
              exact q1
            | true =>
              rw [hall] at iff
              rw [decide_eq_true (iff.mpr rfl)]
              have hp2 := x2.rd hp
              refine ⟨_, rfl, t, rfl, ⟨_, .inl hp2⟩, fun D2 nD2 => lc_tup (xs := ns.map V.int) (fun i H' => ∃ ks : List V, Ex (upd H2 e (.lst [])) H' ∧ H' D2 = some (.lst ks) ∧ (ks = [] ↔ ((ns.take i).all fun n => !decide (0 < n)) = true) ∧ ks.length ≤ i)
                ⟨[], Ex.new nD2, upd_same, by simp, Nat.le_refl _⟩ (fun i H' _ h => ?_) (fun i x H' hx h => ?_) (fun H3 h => ?_)⟩
              · obtain ⟨_, ex3, _⟩ := h
                exact .inl (ex3.rd hp2)
              · obtain ⟨ks3, ex3, eD3, iff3, lk3⟩ := h
                rw [List.getElem?_map] at hx
                obtain ⟨n, hn, rfl⟩ := Option.map_eq_some_iff.mp hx
                have il := (List.getElem?_eq_some_iff.mp hn).1
                have tk : ((ns.take (i + 1)).all fun n => !decide (0 < n)) = (((ns.take i).all fun n => !decide (0 < n)) && !decide (0 < n)) := by
                  rw [List.take_add_one, hn, List.all_append]
                  simp
                refine ⟨rfl, _, rfl, _, _, rfl, rfl, _, rfl, ?_⟩
                by_cases z0 : 0 < n
                · rw [decide_eq_true z0] at tk ⊢
                  refine ⟨_, rfl, ks3, eD3, room1000 (by omega), ks3 ++ [.int n], ex3.mut nD2, upd_same, ?_, by rw [List.length_append]; exact Nat.succ_le_succ lk3⟩
                  rw [tk, Bool.not_true, Bool.and_false]
                  constructor
                  · intro z
                    have := congrArg List.length z
                    rw [List.length_append] at this
                    exact nomatch this
                  · intro z; exact absurd z Bool.false_ne_true
                · rw [decide_eq_false z0] at tk ⊢
                  refine ⟨ks3, ex3, eD3, ?_, by omega⟩
                  rw [tk, Bool.not_false, Bool.and_true]
                  exact iff3
              · obtain ⟨ks3, ex3, eD3, iff3, lk3⟩ := h
                rw [List.length_map, List.take_length] at iff3
                refine ⟨Nat.zero_le _, fun e' ne' => ⟨D2, e', _, rfl, rfl, .inl (.inl (Ex.new ne' D2 _ eD3)), upd_same, ?_⟩⟩
                rw [if_neg Bool.false_ne_true]
                have q1 := q _ (x2.trans (ex3.trans (Ex.new (o := .lst []) ne')))
                rw [hall, Bool.true_and, parts_pos hall] at q1
                have : decide (ks3 = []) = (ns.all fun n => !decide (0 < n)) := by
                  by_cases y : (ns.all fun n => !decide (0 < n)) = true
                  · rw [y]; exact decide_eq_true (iff3.mpr y)
                  · rw [Bool.eq_false_iff.mpr y]; exact decide_eq_false fun z => y (iff3.mp z)
                rw [this]
                exact q1
      | _ => cases hb
end
end Gl

namespace Gl
open PySem PySem.Spec PyProof.Rows L2 ClX
/-- a staticmethod that the class has -/
structure Sm (P : Program) (w : World) (K : PySem.W.Frag) (mg : Str → Option Value) (base : Heap) (C : Addr) (mc : Value) (k : Nat) (m : Str) (ps : List Str) (sp : Sp) where
  p : Addr
  f : Addr
  fd : FuncData
  G : FnOk P w K mg base CX0 k f fd ps sp
  at_ : SMet K C mc m p f
  b : Binds K fd ps []
section
variable {P : Program} {w : World} {K : PySem.W.Frag} {mg : Str → Option Value} {base : Heap} {C : Addr} {mc : Value}
def spMadeL (C : Addr) : Sp := fun vs H Q _ => ∃ (p : Addr) (m : Ms), vs = [.ref p] ∧ MsV H p m ∧ m.ok ∧ ∀ a H', Ex H H' → H a = none → SclAt H' a C m → Q (.ref a) H'
theorem ok_madeL {f : Addr} {fd : FuncData} (F : Fun K "_law_made" "_law_made" sMadeL f fd) (gC : mg "Scale" = some (.ref C)) (rd : CRead K C mc) (Cs : Sm P w K mg base C mc 3 "classes" ["size"] (spClasses C)) (Ss : Sm P w K mg base C mc 3 "sums" [] (spNew C .sums)) (Os : Sm P w K mg base C mc 3 "odds" [] (spNew C .odds)) : FnG P w K mg base CX0 4 f fd ["_law_measure"] (spMadeL C) := by
  refine okG F scMadeL (fun vs H Q E h => ?_) (fun cdv A outer s H vs Q E hr h => ?_)
  · obtain ⟨p, m, rfl, _⟩ := h
    rfl
  · obtain ⟨p, m, rfl, hm, mok, q⟩ := h
    refine ⟨_, pss_cons (ps_if (pt_cmpR op_eq (pe_ix ix_tup (pv 0) pe_int (fun _ _ => rfl)) pe_str (nomark _)) (pss_one (ps_ret (pe_smeth (pe_glob (v := .ref C) (by rfl) gC rfl) rd Cs.at_ Cs.G hr.rm Cs.b .nil pass0 (pa_cons (pe_ix ix_tup (pv 0) pe_int (fun _ _ => rfl)) pa_nil)))) pss_nil)
      (pss_one (ps_ret (pe_ifExp (pt_cmpR op_eq (pe_ix ix_tup (pv 0) pe_int (fun _ _ => rfl)) pe_str (nomark _)) (pe_smeth0 (pe_glob (v := .ref C) (by rfl) gC rfl) rd Ss.at_ Ss.G hr.rm Ss.b .nil pass0) (pe_smeth0 (pe_glob (v := .ref C) (by rfl) gC rfl) rd Os.at_ Os.G hr.rm Os.b .nil pass0)))), ?_⟩
    refine ⟨_, rfl, p, _, 0, _, rfl, rfl, .inl hm, rfl, rfl, _, rfl, ?_⟩
    rw [word_classes]
    cases m with
    | sums =>
      refine ⟨_, rfl, p, _, 0, _, rfl, rfl, .inl hm, rfl, rfl, _, rfl, ?_⟩
      rw [word_sums]
      exact ⟨rfl, rfl, fun a H' e n s => q a H' e n s⟩
    | classes k =>
      exact ⟨rfl, _, rfl, p, _, 1, _, rfl, rfl, .inl hm, rfl, k, rfl, mok.1, mok.2, fun a H' e n s => q a H' e n s⟩
    | odds =>
      refine ⟨_, rfl, p, _, 0, _, rfl, rfl, .inl hm, rfl, rfl, _, rfl, ?_⟩
      rw [word_sums]
      exact ⟨rfl, rfl, fun a H' e n s => q a H' e n s⟩
end
/-! ### data off the dice -/
mutual
inductive DxN (n : Addr) (K : PySem.W.Frag) (H : Hp) : V → PyData → Prop
  | non : DxN n K H .non .none
  | bl (b : Bool) : DxN n K H (.bl b) (.bool b)
  | int (i : Int) : DxN n K H (.int i) (.int i)
  | str (x : Str) : DxN n K H (.str x) (.str x)
  | lst {a : Addr} {xs : List V} {ds : List PyData} : a ≠ n → H a = some (.lst xs) → DxNs n K H xs ds → DxN n K H (.ref a) (.list ds)
  | tup {a : Addr} {xs : List V} {ds : List PyData} : Rd H a (.tup xs) → DxNs n K H xs ds → DxN n K H (.ref a) (.tuple ds)
  | dk {a : Addr} (ps : List (Str × Int)) : H a = some (.dK (ps.map fun p => (.inr p.1, .int p.2))) → DxN n K H (.ref a) (.dict (ps.map fun p => (.str p.1, .int p.2)))
inductive DxNs (n : Addr) (K : PySem.W.Frag) (H : Hp) : List V → List PyData → Prop
  | nil : DxNs n K H [] []
  | cons {v : V} {vs : List V} {d : PyData} {ds : List PyData} : DxN n K H v d → DxNs n K H vs ds → DxNs n K H (v :: vs) (d :: ds)
end
section
variable {n : Addr} {K : PySem.W.Frag} {H H' : Hp}
mutual
theorem DxN.dx : ∀ {v : V} {d : PyData}, DxN n K H v d → Dx K H v d
  | _, _, .non => .non
  | _, _, .bl b => .bl b
  | _, _, .int i => .int i
  | _, _, .str x => .str x
  | _, _, .lst _ h t => .lst h (DxNs.dx t)
  | _, _, .tup h t => .tup h (DxNs.dx t)
  | _, _, .dk ps h => .dk ps h
theorem DxNs.dx : ∀ {v : List V} {d : List PyData}, DxNs n K H v d → DxAll K H v d
  | _, _, .nil => .nil
  | _, _, .cons h t => .cons (DxN.dx h) (DxNs.dx t)
end
mutual
theorem DxN.ex (e : Ex H H') : ∀ {v : V} {d : PyData}, DxN n K H v d → DxN n K H' v d
  | _, _, .non => .non
  | _, _, .bl b => .bl b
  | _, _, .int i => .int i
  | _, _, .str x => .str x
  | _, _, .lst q h t => .lst q (e _ _ h) (DxNs.ex e t)
  | _, _, .tup h t => .tup (e.rd h) (DxNs.ex e t)
  | _, _, .dk ps h => .dk ps (e _ _ h)
theorem DxNs.ex (e : Ex H H') : ∀ {v : List V} {d : List PyData}, DxNs n K H v d → DxNs n K H' v d
  | _, _, .nil => .nil
  | _, _, .cons h t => .cons (DxN.ex e h) (DxNs.ex e t)
end
mutual
theorem DxN.gro (g : Gro n H H') (di : Dice H n) : ∀ {v : V} {d : PyData}, DxN n K H v d → DxN n K H' v d
  | _, _, .non => .non
  | _, _, .bl b => .bl b
  | _, _, .int i => .int i
  | _, _, .str x => .str x
  | _, _, .lst q h t => .lst q (g.st _ _ q h) (DxNs.gro g di t)
  | _, _, .tup h t => .tup (g.rd di h) (DxNs.gro g di t)
  | _, _, .dk ps h => .dk ps (g.st _ _ (fun e => by obtain ⟨i, j, k, z⟩ := di; rw [e, z] at h; exact nomatch h) h)
theorem DxNs.gro (g : Gro n H H') (di : Dice H n) : ∀ {v : List V} {d : List PyData}, DxNs n K H v d → DxNs n K H' v d
  | _, _, .nil => .nil
  | _, _, .cons h t => .cons (DxN.gro g di h) (DxNs.gro g di t)
end
end
/-- shown without trouble, and short -/
structure Fine (d : PyData) : Prop where
  sh : Short d
  sw : d.showable = true
  dp : d.depth ≤ 10
  wt : wt d ≤ 100000
  dl : d.hasDict = false ∨ noList d = true
theorem Fine.ok {d : PyData} (h : Fine d) : (d.hasDict = false ∨ noList d = true) ∧ d.showable = true ∧ d.depth ≤ 100 ∧ d.shown.length ≤ sizeLine :=
  ⟨h.dl, h.sw, Nat.le_trans h.dp (by decide), Nat.le_trans (Nat.le_trans (shown_le d h.sw) h.wt) (by decide)⟩
def ShortS (d : PyData) : Prop := ∀ x, d = .str x → x.length ≤ 1000
structure Bit (d : PyData) : Prop where
  ss : ShortS d
  sw : d.showable = true
  dp : d.depth ≤ 5
  wt : wt d ≤ 4000
theorem bits_all : ∀ {ds : List PyData}, (∀ d ∈ ds, Bit d) → PyData.showableAll ds = true ∧ PyData.depthAll ds ≤ 5 ∧ wtAll ds ≤ 4002 * ds.length
  | [], _ => ⟨by simp only [PyData.showableAll], by simp only [PyData.depthAll]; exact Nat.zero_le _, by simp only [wtAll]; exact Nat.zero_le _⟩
  | d :: ds, h => by
    have b := h d (List.mem_cons_self ..)
    obtain ⟨h1, h2, h3⟩ := bits_all (ds := ds) fun x hx => h x (List.mem_cons_of_mem _ hx)
    refine ⟨?_, ?_, ?_⟩
    · simp only [PyData.showableAll]
      rw [b.sw, h1]
      rfl
    · simp only [PyData.depthAll]
      have := b.dp
      omega
    · simp only [wtAll, List.length_cons]
      have := b.wt
      omega
theorem noDict_all : ∀ {ds : List PyData}, (∀ d ∈ ds, d.hasDict = false) → PyData.hasDictAll ds = false
  | [], _ => by simp only [PyData.hasDictAll]
  | d :: ds, h => by
    simp only [PyData.hasDictAll]
    rw [h d (List.mem_cons_self ..), noDict_all fun x hx => h x (List.mem_cons_of_mem _ hx)]
    rfl
theorem noList_all : ∀ {ds : List PyData}, (∀ d ∈ ds, noList d = true) → noLists ds = true
  | [], _ => by simp only [noLists]
  | d :: ds, h => by
    simp only [noLists]
    rw [h d (List.mem_cons_self ..), noList_all fun x hx => h x (List.mem_cons_of_mem _ hx)]
    rfl
theorem fine_tup {ds : List PyData} (h : ∀ d ∈ ds, Bit d) (l : ds.length ≤ 20) (k : (∀ d ∈ ds, d.hasDict = false) ∨ (∀ d ∈ ds, noList d = true)) : Fine (.tuple ds) := by
  obtain ⟨h1, h2, h3⟩ := bits_all h
  refine ⟨⟨by omega, trivial⟩, by simp only [PyData.showable, h1], by simp only [PyData.depth]; omega, by simp only [wt]; omega, ?_⟩
  rcases k with k | k
  · exact .inl (by simp only [PyData.hasDict, noDict_all k])
  · exact .inr (by simp only [noList, noList_all k])
theorem fine_lst {ds : List PyData} (h : ∀ d ∈ ds, Bit d) (l : ds.length ≤ 20) (k : ∀ d ∈ ds, d.hasDict = false) : Fine (.list ds) := by
  obtain ⟨h1, h2, h3⟩ := bits_all h
  exact ⟨trivial, by simp only [PyData.showable, h1], by simp only [PyData.depth]; omega, by simp only [wt]; omega, .inl (by simp only [PyData.hasDict, noDict_all k])⟩
theorem dxn_app {n : Addr} {K : PySem.W.Frag} {H : Hp} : ∀ {xs ys : List V} {ds es : List PyData}, DxNs n K H xs ds → DxNs n K H ys es → DxNs n K H (xs ++ ys) (ds ++ es)
  | _, _, _, _, .nil, h => h
  | _, _, _, _, .cons a b, h => .cons a (dxn_app b h)

theorem dxn_ints {n : Addr} {K : PySem.W.Frag} {H : Hp} : ∀ ns : List Int, DxNs n K H (ns.map V.int) (ns.map PyData.int)
  | [] => .nil
  | c :: cs => .cons (.int c) (dxn_ints cs)
theorem ints_plain (ns : List Int) : ∀ d ∈ ns.map PyData.int, d.hasDict = false := by
  intro d hd
  obtain ⟨c, _, rfl⟩ := List.mem_map.mp hd
  simp only [PyData.hasDict]
end Gl

namespace Gl
open PySem PySem.Spec PyProof.Rows L2
abbrev sBent : Stmt := topS 27
theorem scBent : FnScope ["_law_dice_here", "_law_value", "_law_at", "_law_one", "_law_found", "_law_more"] ["_law_dice_here", "_law_value"] (defScope sBent) := ⟨rfl, rfl, rfl, by decide +kernel, rfl, by decide +kernel, by decide +kernel⟩
/-- an int or a tuple of one to four ints, near ones -/
def PlainV (H : Hp) (v : V) : Prop := (∃ i : Int, v = .int i ∧ i.natAbs < 2 ^ 190) ∨ ∃ (t : Addr) (ns : List Int), v = .ref t ∧ Rd H t (.tup (ns.map V.int)) ∧ 1 ≤ ns.length ∧ ns.length ≤ 4 ∧ ∀ n ∈ ns, n.natAbs < 2 ^ 190
structure Good (d : PyData) : Prop where
  s : Short d
  n : NearD d
  f : Fine d
theorem bit_int {i : Int} (h : i.natAbs < 2 ^ 190) : Bit (.int i) := ⟨fun _ e => (nomatch e), show_int (few190 h), by simp only [PyData.depth]; omega, by simp only [wt]; omega⟩
theorem fine_of {d : PyData} (b : Bit d) (s : Short d) (nd : d.hasDict = false) : Fine d := ⟨s, b.sw, by have := b.dp; omega, by have := b.wt; omega, .inl nd⟩
theorem bits_ints {ns : List Int} (h : ∀ n ∈ ns, n.natAbs < 2 ^ 190) : ∀ d ∈ ns.map PyData.int, Bit d := by
  intro d hd
  obtain ⟨c, hc, rfl⟩ := List.mem_map.mp hd
  exact bit_int (h c hc)
theorem near_ints {ns : List Int} (h : ∀ n ∈ ns, n.natAbs < 2 ^ 190) : NearD (.tuple (ns.map PyData.int)) := by
  intro i hi
  obtain ⟨c, hc, e⟩ := List.mem_map.mp hi
  cases e
  exact h _ hc
theorem good_ints {ns : List Int} (h : ∀ n ∈ ns, n.natAbs < 2 ^ 190) (l : ns.length ≤ 10) : Good (.tuple (ns.map PyData.int)) :=
  ⟨⟨by rw [List.length_map]; omega, trivial⟩, near_ints h, fine_tup (bits_ints h) (by rw [List.length_map]; omega) (.inl (ints_plain ns))⟩
theorem good_int {i : Int} (h : i.natAbs < 2 ^ 190) : Good (.int i) := ⟨trivial, trivial, fine_of (bit_int h) trivial (by simp only [PyData.hasDict])⟩
theorem good_text {i : Int} (h : i.natAbs < 2 ^ 190) : Good (.str (Str.ofString (toString i))) := by
  have l : i.natAbs.log2 < 1920 := Nat.lt_trans (PySem.Flt.log2_lt_of (by decide) (few190 h)) (by decide)
  exact ⟨trivial, trivial, ⟨trivial, by simp only [PyData.showable], by simp only [PyData.depth]; omega, Nat.le_trans (text_wt l) (by decide), .inl (by simp only [PyData.hasDict])⟩⟩
theorem good_list {ns : List Int} (h : ∀ n ∈ ns, n.natAbs < 2 ^ 190) (l : ns.length ≤ 10) : Good (.list (ns.map PyData.int)) :=
  ⟨trivial, trivial, fine_lst (bits_ints h) (by rw [List.length_map]; omega) (ints_plain ns)⟩
theorem good_bool {b : Bool} : Good (.bool b) := ⟨trivial, trivial, ⟨trivial, by simp only [PyData.showable], by simp only [PyData.depth]; omega, by simp only [wt]; omega, .inl (by simp only [PyData.hasDict])⟩⟩
theorem good_none : Good .none := ⟨trivial, trivial, ⟨trivial, by simp only [PyData.showable], by simp only [PyData.depth]; omega, by simp only [wt]; omega, .inl (by simp only [PyData.hasDict])⟩⟩
theorem good_nest {ns : List Int} (h : ∀ n ∈ ns, n.natAbs < 2 ^ 190) (l : ns.length ≤ 10) : Good (.tuple [.tuple (ns.map PyData.int)]) := by
  have g := good_ints h l
  refine ⟨⟨by simp, trivial⟩, ?_, ⟨⟨by simp, trivial⟩, by simp only [PyData.showable, PyData.showableAll]; rw [show PyData.showableAll (ns.map PyData.int) = true from by have := g.f.sw; simpa only [PyData.showable] using this]; rfl, ?_, ?_, .inl ?_⟩⟩
  · intro i hi
    simp at hi
  · have := g.f.dp
    simp only [PyData.depth, PyData.depthAll] at this ⊢
    rw [dep_ints]
    decide
  · simp only [wt, wtAll]
    rw [wt_ints]
    omega
  · simp only [PyData.hasDict, PyData.hasDictAll]
    rw [noDict_all (ints_plain ns)]
    rfl
theorem cutV_whole {xs : List V} {lo hi : Option Int} (h : HT.sIx xs.length 0 lo = 0 ∧ HT.sIx xs.length xs.length hi = xs.length) : cutV xs lo hi = xs := by
  unfold cutV
  rw [h.1, h.2, List.drop_zero, Nat.sub_zero, List.take_length]
section
variable {K : PySem.W.Frag} {H : Hp} {t a b : Addr} {xs ys : List V} {lo hi : Option Int} {Q : VK}
theorem slA_any (h : Rd H t (.tup xs)) (q : ∀ p H', Ex H H' → Rd H' p (.tup (cutV xs lo hi)) → Q (.ref p) H') : rSlA K (.ref t) lo hi H Q :=
  ⟨t, xs, rfl, .inl h, fun wh => q t H (Ex.refl H) (by rw [cutV_whole wh]; exact h), fun _ p np => q p _ (Ex.new np) (.inl upd_same)⟩
theorem catA_any (h1 : Rd H a (.tup xs)) (h2 : Rd H b (.tup ys)) (l : xs.length + ys.length ≤ sizeLine) (q : ∀ p H', Ex H H' → Rd H' p (.tup (xs ++ ys)) → Q (.ref p) H') : rCatA K (.ref a) (.ref b) H Q :=
  ⟨a, b, xs, ys, rfl, rfl, .inl h1, .inl h2, l, fun e => q b H (Ex.refl H) (by subst e; exact h2), fun _ e => q a H (Ex.refl H) (by rw [e, List.append_nil]; exact h1), fun _ _ p np => q p _ (Ex.new np) (.inl upd_same)⟩
end
theorem cut_to' (xs : List V) (k : Nat) : cutV xs none (some (k : Int)) = xs.take k := by
  unfold cutV
  rw [HT.sIx_none, HT.sIx_nat]
  simp
theorem cut_from' (xs : List V) (k : Nat) (h : k ≤ xs.length) : cutV xs (some (k : Int)) none = xs.drop k := by
  unfold cutV
  rw [HT.sIx_none, HT.sIx_nat, Nat.min_eq_left h]
  exact List.take_of_length_le (by rw [List.length_drop]; omega)
theorem cpw6 : CPw 10 6 := ⟨by decide, by decide +kernel⟩
/-- what may stand in a bent tuple -/
structure Part (d : PyData) : Prop where
  b : Bit d
  h : d.hasDict = false
  n : ∀ i, d = .int i → i.natAbs < 2 ^ 190
theorem part_of {i : Int} (h : i.natAbs < 2 ^ 190) : Part (.int i) := ⟨bit_int h, by simp only [PyData.hasDict], fun j e => by cases e; exact h⟩
theorem good_parts {ds : List PyData} (h : ∀ d ∈ ds, Part d) (l : ds.length ≤ 10) : Good (.tuple ds) :=
  ⟨⟨by omega, trivial⟩, fun i hi => (h _ hi).n i rfl, fine_tup (fun d hd => (h d hd).b) (by omega) (.inl fun d hd => (h d hd).h)⟩
section
variable {P : Program} {w : World} {K : PySem.W.Frag} {mg : Str → Option Value} {base : Heap}
def spBent (K : PySem.W.Frag) : Sp := fun vs H Q _ => ∃ (a : Addr) (v : V), vs = [.ref a, v] ∧ Dice H a ∧ PlainV H v ∧ ∀ v' d H', Gro a H H' → DxN a K H' v' d → Good d → Q v' H'
theorem ok_bent {f : Addr} {fd : FuncData} (F : Fun K "_law_bent" "_law_bent" sBent f fd) (T : Blt mg) (D : Dc P w K mg base) (Pk : DfG P w K mg base 2 "_law_pick" ["_law_dice_here", "_law_items"] spPick) : FnG P w K mg base CX0 3 f fd ["_law_dice_here", "_law_value"] (spBent K) := by
  refine okG F scBent (fun vs H Q E h => ?_) (fun cdv A outer s H vs Q E hr h => ?_)
  · obtain ⟨a, v, rfl, _⟩ := h
    rfl
  · obtain ⟨a, v, rfl, hd, pv0, q⟩ := h
    have nd := scBent.nd
    have r1 := hr.mono (show 1 ≤ 2 by decide)
    refine ⟨_, pss_cons (ps_if (pt_not (pt_val (pe_callB call_isi (by rfl) T.isinstance (by decide +kernel) (pa_cons (pv 1) (pa_cons (pe_bltn (v := .ty "tuple") (by rfl) T.tuple (by decide +kernel) rfl) pa_nil))))) (pss_one (ps_ret (pe_callG Pk.G hr (by rfl) Pk.g Pk.kp Pk.b .nil pass0 (pa_cons (pv 0) (pa_cons (pe_lst (pa_cons (pv 1) (pa_cons (pe_op op_sub pe_int (pv 1)) (pa_cons (pe_tup (pa_cons (pv 1) pa_nil)) (pa_cons (pe_callTy call_str_int (by rfl) T.str (by decide +kernel) (pa_cons (pv 1) pa_nil)) (pa_cons (pe_lst (pa_cons (pv 1) pa_nil)) (pa_cons pe_bl (pa_cons pe_non (pa_cons pe_int pa_nil))))))))) pa_nil))))) pss_nil)
      (pss_cons (ps_set (i := 2) nd rfl (.inl rfl) (pe_callG D.G r1 (by rfl) D.g D.kp D.b .nil pass0 (pa_cons (pv 0) (pa_cons (pe_callB call_len_seq (by rfl) T.len PySem.boot_len (pa_cons (pv 1) pa_nil)) pa_nil))))
      (pss_cons (ps_set (i := 3) nd rfl (.inl rfl) (pe_callG Pk.G hr (by rfl) Pk.g Pk.kp Pk.b .nil pass0 (pa_cons (pv 0) (pa_cons (pe_lst (pa_cons pe_int (pa_cons (pe_un un_neg pe_int) (pa_cons pe_int (pa_cons pe_int (pa_cons pe_int (pa_cons pe_int (pa_cons (pe_op op_powW pe_int pe_int) (pa_cons (pe_op op_add (pe_op op_powW pe_int pe_int) pe_int) (pa_cons pe_bl (pa_cons pe_non (pa_cons pe_str (pa_cons (pe_tup (pa_cons pe_int pa_nil)) (pa_cons (pe_op op_sub pe_int (pe_ix ix_tup (pv 1) (pv 2) (fun _ _ => rfl))) pa_nil)))))))))))))) pa_nil))))
      (pss_cons (ps_set (i := 4) nd rfl (.inl rfl) (pe_op op_catA (pe_op op_catA (pe_slice sl_tupA (pv 1) po_none (po_some (pv 2))) (pe_tup (pa_cons (pv 3) pa_nil))) (pe_slice sl_tupA (pv 1) (po_some (pe_op op_add (pv 2) pe_int)) po_none)))
      (pss_cons (ps_set (i := 5) nd rfl (.inl rfl) (pe_lst (pa_cons (pe_op op_catA (pv 1) (pe_tup (pa_cons pe_int pa_nil))) (pa_cons (pe_slice sl_tupA (pv 1) (po_some pe_int) po_none) (pa_cons (pe_callTy call_list_of (by rfl) T.list (by decide +kernel) (pa_cons (pv 1) pa_nil)) (pa_cons (pe_tup (pa_cons (pv 1) pa_nil)) (pa_cons (pe_revT (pv 1)) (pa_cons (pe_tup pa_nil) pa_nil))))))))
      (pss_one (ps_ret (pe_callG Pk.G hr (by rfl) Pk.g Pk.kp Pk.b .nil pass0 (pa_cons (pv 0) (pa_cons (pe_op op_cat (pe_lst (pa_cons (pv 4) (pa_cons (pv 4) (pa_cons (pv 4) (pa_cons (pv 4) pa_nil))))) (pv 5)) pa_nil))))))))), ?_⟩
    have s1 : 1 ≤ sizeLine := by decide
    rcases pv0 with ⟨i, rfl, hi⟩ | ⟨t, ns, rfl, ht, l1, l4, near⟩
    · have l : i.natAbs.log2 < 1920 := Nat.lt_trans (PySem.Flt.log2_lt_of (by decide) (few190 hi)) (by decide)
      refine ⟨_, rfl, _, _, _, _, false, rfl, .ty _, .base (.int i), kit_ty (by decide +kernel), _, rfl, ?_⟩
      refine ⟨_, rfl, _, rfl, _, rfl, _, _, rfl, rfl, _, rfl, s1, fun t1 n1 => ⟨_, rfl, i, rfl, l, _, rfl, s1, fun l2 n2 => ⟨by show 8 ≤ sizeLine; decide, fun L nL => ?_⟩⟩⟩
      have x1 := Ex.new (o := .tup [.int i]) n1
      have x2 := Ex.new (o := .lst [.int i]) n2
      have xL := Ex.new (o := .lst [.int i, .int (0 - i), .ref t1, .str (toString i), .ref l2, .bl true, .non, .int 0]) nL
      have all := (x1.trans x2).trans xL
      have l2a := (x1.dice hd).ne n2
      have La := ((x1.trans x2).dice hd).ne nL
      refine ⟨a, L, _, rfl, upd_same, La, by simp, by show 8 ≤ 1000; decide, all.dice hd, fun v H2 hv g => ?_⟩
      have fin : ∀ d, DxN a K _ v d → Good d → Q v H2 := fun d hx gd => q v d H2 ((Gro.of all hd).trans g) (hx.gro g (all.dice hd)) gd
      simp only [List.mem_cons, List.not_mem_nil, or_false] at hv
      rcases hv with rfl | rfl | rfl | rfl | rfl | rfl | rfl | rfl
      · exact fin _ (.int _) (good_int hi)
      · exact fin _ (.int _) (good_int (by omega))
      · exact fin _ (.tup (.inl ((x2.trans xL) t1 _ upd_same)) (.cons (.int i) .nil)) (good_ints (ns := [i]) (fun n hn => by rw [List.mem_singleton.mp hn]; exact hi) (by simp))
      · exact fin _ (.str _) (good_text hi)
      · exact fin _ (.lst l2a (xL l2 _ upd_same) (.cons (.int i) .nil)) (good_list (ns := [i]) (fun n hn => by rw [List.mem_singleton.mp hn]; exact hi) (by simp))
      · exact fin _ (.bl _) good_bool
      · exact fin _ .non good_none
      · exact fin _ (.int _) (good_int (by decide))
    · refine ⟨_, rfl, _, _, _, _, true, rfl, .ty _, tyx (.tup ht (DxNs.dx (n := a) (dxn_ints ns))), kit_ty (show kitB "tuple" "tuple" = some true by decide +kernel), _, rfl, ?_⟩
      refine ⟨_, rfl, _, rfl, t, _, rfl, .inr (.inl ht), a, _, rfl, by rw [List.length_map]; omega, by rw [List.length_map]; exact Nat.lt_of_le_of_lt (show ((ns.length : Int)).natAbs ≤ 4 by omega) (by decide), hd, fun j H1 j0 j1 g1 => ?_⟩
      rw [List.length_map] at j1
      obtain ⟨k, rfl⟩ : ∃ k : Nat, j = k := ⟨j.toNat, by omega⟩
      have kl : k < ns.length := by omega
      have ht1 := g1.rd hd ht
      have hd1 := g1.di
      have hat : atI (ns.map V.int) (k : Nat) = some (.int ns[k]) := atI_nat (by rw [List.getElem?_map, List.getElem?_eq_getElem kl]; rfl)
      refine ⟨_, rfl, _, rfl, _, _, rfl, rfl, cpw6, _, _, rfl, rfl, cpw6, _, _, rfl, rfl, s1, fun t1 n1 => ⟨_, rfl, _, rfl, t, _, (k : Nat), _, rfl, rfl, .inl ((Ex.new n1).rd ht1), hat, _, _, rfl, rfl, by show 13 ≤ sizeLine; decide, fun L nL => ?_⟩⟩
      have x1 := Ex.new (o := .tup [.int 1]) n1
      have xL := Ex.new (o := .lst [.int 0, .int (-1), .int 1, .int 2, .int 4, .int 6, .int ((10 : Int) ^ (6 : Int).toNat), .int ((10 : Int) ^ (6 : Int).toNat + 1), .bl true, .non, .str "1", .ref t1, .int (0 - ns[k])]) nL
      have all1 := x1.trans xL
      refine ⟨a, L, _, rfl, upd_same, (x1.dice hd1).ne nL, by simp, by show 13 ≤ 1000; decide, all1.dice hd1, fun v3 H3 hv3 g3 => ?_⟩
      have nk := near _ (List.getElem_mem kl)
      have one : ∃ d3, DxN a K H3 v3 d3 ∧ Part d3 := by
        have fin : ∀ d, DxN a K _ v3 d → Part d → ∃ d3, DxN a K H3 v3 d3 ∧ Part d3 := fun d hx p => ⟨d, hx.gro g3 (all1.dice hd1), p⟩
        simp only [List.mem_cons, List.not_mem_nil, or_false] at hv3
        rcases hv3 with rfl | rfl | rfl | rfl | rfl | rfl | rfl | rfl | rfl | rfl | rfl | rfl | rfl
        · exact fin _ (.int _) (part_of (by decide))
        · exact fin _ (.int _) (part_of (by decide))
        · exact fin _ (.int _) (part_of (by decide))
        · exact fin _ (.int _) (part_of (by decide))
        · exact fin _ (.int _) (part_of (by decide))
        · exact fin _ (.int _) (part_of (by decide))
        · exact fin _ (.int _) (part_of (by decide))
        · exact fin _ (.int _) (part_of (by decide))
        · exact fin _ (.bl _) ⟨⟨fun _ e => (nomatch e), by simp only [PyData.showable], by simp only [PyData.depth]; omega, by simp only [wt]; omega⟩, by simp only [PyData.hasDict], fun _ e => (nomatch e)⟩
        · exact fin _ .non ⟨⟨fun _ e => (nomatch e), by simp only [PyData.showable], by simp only [PyData.depth]; omega, by simp only [wt]; omega⟩, by simp only [PyData.hasDict], fun _ e => (nomatch e)⟩
        · exact fin _ (.str _) ⟨⟨fun x e => by cases e; decide, by simp only [PyData.showable], by simp only [PyData.depth]; omega, by simp only [wt]; decide +kernel⟩, by simp only [PyData.hasDict], fun _ e => (nomatch e)⟩
        · exact fin _ (.tup (.inl (xL t1 _ upd_same)) (.cons (.int 1) .nil)) ⟨⟨fun _ e => (nomatch e), by decide +kernel, by decide +kernel, by decide +kernel⟩, by decide +kernel, fun _ e => (nomatch e)⟩
        · exact fin _ (.int _) (part_of (by omega))
      obtain ⟨d3, dx3, p3⟩ := one
      have ht3 := g3.rd (all1.dice hd1) (all1.rd ht1)
      have hd3 := g3.di
      have G3 : Gro a H H3 := g1.trans ((Gro.of all1 hd1).trans g3)
      have sz : ∀ {m : Nat}, m ≤ 1000 → m ≤ sizeLine := fun h => Nat.le_trans h (by decide)
      refine ⟨_, rfl, _, rfl, _, rfl, slA_any ht3 fun p4 H4 e4 h4 => ⟨_, rfl, s1, fun t5 n5 => catA_any ((Ex.new n5).rd h4) (.inl upd_same) ?_ fun p6 H6 e6 h6 => ⟨_, rfl, _, rfl, _, _, rfl, rfl, _, rfl, ?_⟩⟩⟩
      · rw [cut_to']
        exact sz (by rw [List.length_take, List.length_map]; show _ + 1 ≤ 1000; omega)
      have e36 := e4.trans ((Ex.new (o := .tup [v3]) n5).trans e6)
      have ht6 := e36.rd ht3
      dsimp only [tNoPart]
      refine slA_any ht6 fun p7 H7 e7 h7 => catA_any (e7.rd h6) h7 ?_ fun p8 H8 e8 h8 => ?_
      · have c1 := cutV_length (ns.map V.int) none (some ((k : Nat) : Int))
        have c2 := cutV_length (ns.map V.int) (some (((k : Nat) : Int) + 1)) none
        rw [List.length_map] at c1 c2
        rw [List.length_append]
        exact sz (by show _ + 1 + _ ≤ 1000; omega)
      have e38 := e36.trans (e7.trans e8)
      have ht8 := e38.rd ht3
      refine ⟨_, rfl, s1, fun t9 n9 => catA_any ((Ex.new n9).rd ht8) (.inl upd_same) ?_ fun pa Ha ea ha => ⟨_, rfl, _, rfl, ?_⟩⟩
      · exact sz (by rw [List.length_map]; show _ + 1 ≤ 1000; omega)
      have eA := (Ex.new (o := .tup [.int 1]) n9).trans ea
      have htA := eA.rd ht8
      dsimp only [tNoPart]
      refine slA_any htA fun pb Hb eb hb => ?_
      have htB := eb.rd htA
      refine ⟨_, rfl, t, _, rfl, .inr (.inl htB), fun lc nc => ⟨_, rfl, s1, fun td nD => ⟨_, rfl, t, ns.map V.int, rfl, ?_, fun te ne => ⟨Nat.zero_le _, fun tf nf => ⟨by show 6 ≤ sizeLine; decide, fun M nM => ?_⟩⟩⟩⟩⟩
      · exact .inl ((Ex.new nD).rd ((Ex.new nc).rd htB))
      have xc := Ex.new (o := .lst (ns.map V.int)) nc
      have xd := Ex.new (o := .tup [.ref t]) nD
      have xe := Ex.new (o := .tup (ns.map V.int).reverse) ne
      have xf := Ex.new (o := .tup []) nf
      have xM := Ex.new (o := .lst [.ref pa, .ref pb, .ref lc, .ref td, .ref te, .ref tf]) nM
      have EB := (e38.trans eA).trans eb
      have dB := EB.dice hd3
      have lca := dB.ne nc
      have dM := (((xc.trans xd).trans xe).trans xf).dice dB
      refine ⟨_, rfl, _, rfl, _, rfl, _, rfl, _, rfl, by show 4 ≤ sizeLine; decide, fun L4 n4 => ⟨_, rfl, L4, M, [.ref p8, .ref p8, .ref p8, .ref p8], [.ref pa, .ref pb, .ref lc, .ref td, .ref te, .ref tf], rfl, rfl, upd_same, ?_, by show 10 ≤ sizeLine; decide, fun pL nL' => ?_⟩⟩
      · exact (Ex.new n4) M _ upd_same
      have x4 := Ex.new (o := .lst [.ref p8, .ref p8, .ref p8, .ref p8]) n4
      have xP := Ex.new (o := .lst ([V.ref p8, .ref p8, .ref p8, .ref p8] ++ [V.ref pa, .ref pb, .ref lc, .ref td, .ref te, .ref tf])) nL'
      have T4 := xM.trans (x4.trans xP)
      have Tf := xf.trans T4
      have Te := xe.trans Tf
      have Td := xd.trans Te
      have Tc := xc.trans Td
      have TB := eb.trans Tc
      have TA := eA.trans TB
      have T8 := e38.trans TA
      have dP := (xM.trans x4).dice dM
      refine ⟨a, pL, _, rfl, upd_same, dP.ne nL', by simp, by show 10 ≤ 1000; decide, xP.dice dP, fun v' H' hv g => ?_⟩
      have fin : ∀ d, DxN a K _ v' d → Good d → Q v' H' := fun d hx gd => q v' d H' ((G3.trans (Gro.of T8 hd3)).trans g) (hx.gro g (T8.dice hd3)) gd
      have tup : ∀ (p : Addr) (Hx : Hp) (ms : List Int), Ex Hx _ → Rd Hx p (.tup (ms.map V.int)) → (∀ m ∈ ms, m.natAbs < 2 ^ 190) → ms.length ≤ 10 → v' = .ref p → Q v' H' := fun p Hx ms ex hp nr lm e => by
        subst e
        exact fin _ (.tup (ex.rd hp) (dxn_ints ms)) (good_ints nr lm)
      simp only [List.cons_append, List.nil_append, List.mem_cons, List.not_mem_nil, or_false] at hv
      have found : v' = .ref p8 → Q v' H' := fun e => by
        have h9 := h8
        rw [cut_to', show (((k : Nat) : Int) + 1) = ((k + 1 : Nat) : Int) from rfl, cut_from' _ (k + 1) (by rw [List.length_map]; omega), ← List.map_take, ← List.map_drop] at h9
        subst e
        refine fin _ (.tup (TA.rd h9) (dxn_app (dxn_app (dxn_ints (ns.take k)) (.cons (dx3.ex T8) .nil)) (dxn_ints (ns.drop (k + 1))))) (good_parts (fun d hd => ?_) ?_)
        · rcases List.mem_append.mp hd with z | z
          · rcases List.mem_append.mp z with z | z
            · obtain ⟨c, hc, rfl⟩ := List.mem_map.mp z
              exact part_of (near c (List.take_subset k ns hc))
            · rw [List.mem_singleton.mp z]; exact p3
          · obtain ⟨c, hc, rfl⟩ := List.mem_map.mp z
            exact part_of (near c (List.drop_subset (k + 1) ns hc))
        · rw [List.length_append, List.length_append, List.length_map, List.length_map, List.length_take, List.length_drop]
          show _ + 1 + _ ≤ 10
          omega
      rcases hv with e | e | e | e | e | e | e | e | e | e
      · exact found e
      · exact found e
      · exact found e
      · exact found e
      · exact tup pa Ha (ns ++ [1]) TB (by rw [List.map_append]; exact ha) (fun m hm => by
          rcases List.mem_append.mp hm with z | z
          · exact near m z
          · rw [List.mem_singleton.mp z]; decide) (by rw [List.length_append]; show _ + 1 ≤ 10; omega) e
      · have hb' : Rd Hb pb (.tup ((ns.drop 1).map V.int)) := by
          have := hb
          rw [show (some (1 : Int)) = some ((1 : Nat) : Int) from rfl, cut_from' _ 1 (by rw [List.length_map]; exact l1), ← List.map_drop] at this
          exact this
        exact tup pb Hb (ns.drop 1) Tc hb' (fun m hm => near m (List.drop_subset 1 ns hm)) (by rw [List.length_drop]; omega) e
      · subst e
        exact fin _ (.lst lca (Td lc _ upd_same) (dxn_ints ns)) (good_list near (by omega))
      · subst e
        exact fin _ (.tup (.inl (Te td _ upd_same)) (.cons (.tup ((eb.trans Tc).rd htA) (dxn_ints ns)) .nil)) (good_nest near (by omega))
      · exact tup te _ ns.reverse Tf (by rw [List.map_reverse]; exact .inl upd_same) (fun m hm => near m (List.mem_reverse.mp hm)) (by rw [List.length_reverse]; omega) e
      · subst e
        exact fin _ (.tup (.inl (T4 tf _ upd_same)) .nil) (good_ints (ns := []) (fun _ z => (nomatch z)) (by simp))
end
end Gl

namespace Gl
open PySem PySem.Spec PyProof.Rows L2 ClX
abbrev sVals : Stmt := topS 28
theorem scVals : FnScope ["_law_dice_here", "_law_measure", "_law_meter", "_law_turn", "_law_value", "_law_kept", "_law_due", "_law_told", "_law_odd"] ["_law_dice_here", "_law_measure"] (defScope sVals) := ⟨rfl, rfl, rfl, by decide +kernel, rfl, by decide +kernel, by decide +kernel⟩
theorem Gro.scl {a g C : Addr} {m : Ms} {H H' : Hp} (gr : Gro a H H') (di : Dice H a) (h : SclAt H g C m) : SclAt H' g C m := by
  obtain ⟨dx, fs, h1, h2⟩ := h
  obtain ⟨i, j, l, hd⟩ := di
  exact ⟨dx, fs, gr.st _ _ (fun e => by rw [e, hd] at h1; exact nomatch h1) h1, h2⟩
theorem am_plain {H : Hp} {v : V} {m : Ms} : ∀ {x : Am}, m.ok → m.has x → x.near → AmV H v x → PlainV H v
  | .n i, _, _, nx, h => .inl ⟨i, h, nx⟩
  | .c ns, mok, hx, nx, ⟨p, e, h⟩ => by
    cases m with
    | classes k =>
      have l : ns.length = k := hx
      have := mok.1
      have := mok.2
      exact .inr ⟨p, ns, e, h, by omega, by omega, nx⟩
    | sums => exact hx.elim
    | odds => exact hx.elim
  | .o x, _, _, nx, ⟨p, e, h⟩ => .inr ⟨p, [((x.1.1 : Nat) : Int), ((x.1.2 : Nat) : Int)], e, h, by show 1 ≤ 2; decide, by show 2 ≤ 4; decide, fun n hn => by
      rcases List.mem_cons.mp hn with rfl | hn
      · rw [Int.natAbs_natCast]; exact nx.1
      · rw [List.mem_singleton.mp hn, Int.natAbs_natCast]; exact nx.2⟩
theorem am_dxn {n : Addr} {K : PySem.W.Frag} {H : Hp} {v : V} : ∀ {x : Am}, AmV H v x → DxN n K H v x.data
  | .n i, h => by obtain rfl := h; exact .int i
  | .c ns, ⟨p, e, h⟩ => by subst e; exact .tup h (dxn_ints ns)
  | .o x, ⟨p, e, h⟩ => by subst e; exact .tup h (.cons (.int _) (.cons (.int _) .nil))
theorem am_good {m : Ms} : ∀ {x : Am}, m.ok → m.has x → x.near → Good x.data
  | .n i, _, _, nx => good_int nx
  | .c ns, mok, hx, nx => by
    refine good_ints nx ?_
    cases m with
    | classes k =>
      have l : ns.length = k := hx
      have := mok.2
      omega
    | sums => exact hx.elim
    | odds => exact hx.elim
  | .o x, _, _, nx => good_ints (ns := [((x.1.1 : Nat) : Int), ((x.1.2 : Nat) : Int)]) (fun n hn => by
      rcases List.mem_cons.mp hn with rfl | hn
      · rw [Int.natAbs_natCast]; exact nx.1
      · rw [List.mem_singleton.mp hn, Int.natAbs_natCast]; exact nx.2) (by show 2 ≤ 10; decide)
theorem PlainV.gro {a : Addr} {H H' : Hp} {v : V} (g : Gro a H H') (di : Dice H a) (h : PlainV H v) : PlainV H' v := by
  rcases h with ⟨i, e, b⟩ | ⟨t, ns, e, ht, l⟩
  · exact .inl ⟨i, e, b⟩
  · exact .inr ⟨t, ns, e, g.rd di ht, l⟩
theorem odd_no {m : Ms} (mok : m.ok) {d : PyData} (h1 : wholeB d = false) (h2 : lowB d = false) (h3 : ∀ k : Nat, 1 ≤ k → k ≤ 4 → wholesB d k = false) (h4 : partB d = false) : amtB m d = false ∧ wgtB m d = false := by
  cases m with
  | sums => exact ⟨h1, by show (partB d && posB d) = false; rw [h4]; rfl⟩
  | odds => exact ⟨h2, by show (lowB d && _) = false; rw [h2]; rfl⟩
  | classes k => exact ⟨h3 k mok.1 mok.2, by show (wholesB d k && _) = false; rw [h3 k mok.1 mok.2]; rfl⟩
/-- three answers, shown -/
def three (x y z : Bool) : PyData := .list [.bool x, .bool y, .bool z]
theorem three_ok (x y z : Bool) : ((three x y z).hasDict = false ∨ noList (three x y z) = true) ∧ (three x y z).showable = true ∧ (three x y z).depth ≤ 100 ∧ (three x y z).shown.length ≤ sizeLine := by
  have h : Fine (three x y z) := by
    refine fine_lst (fun d hd => ?_) (by show 3 ≤ 20; decide) (fun d hd => ?_)
    · simp only [List.mem_cons, List.not_mem_nil, or_false] at hd
      rcases hd with rfl | rfl | rfl <;> exact ⟨fun _ e => (nomatch e), by simp only [PyData.showable], by simp only [PyData.depth]; omega, by simp only [wt]; omega⟩
    · simp only [List.mem_cons, List.not_mem_nil, or_false] at hd
      rcases hd with rfl | rfl | rfl <;> simp only [PyData.hasDict]
  exact h.ok
theorem three_at {K : PySem.W.Frag} {H : Hp} {p : Addr} {x y z : Bool} (h : H p = some (.lst [.bl x, .bl y, .bl z])) : Dx K H (.ref p) (three x y z) :=
  .lst h (.cons (.bl x) (.cons (.bl y) (.cons (.bl z) .nil)))
/-- an own def under a special name of the class -/
structure Do1 (P : Program) (w : World) (K : PySem.W.Frag) (mg : Str → Option Value) (base : Heap) (C : Addr) (k : Nat) (m : Str) (ps : List Str) (sp : Sp) where
  f : Addr
  fd : FuncData
  G : FnOk P w K mg base CX0 k f fd ps sp
  o : OwnAt K C f m
  b : Binds K fd ps []
section
variable {P : Program} {w : World} {K : PySem.W.Frag} {mg : Str → Option Value} {base : Heap} {C : Addr}
def spVals : Sp := fun vs H Q _ => ∃ (a p : Addr) (m : Ms), vs = [.ref a, .ref p] ∧ Dice H a ∧ MsV H p m ∧ m.ok ∧ ∀ H', Gro a H H' → Q (.bl true) H'
theorem ok_vals {f : Addr} {fd : FuncData} (F : Fun K "_law_values_right" "_law_values_right" sVals f fd) (T : Blt mg) (Z : ClsK K C) (Zt : ClsT K C) (D : Dc P w K mg base) (Pk : DfG P w K mg base 2 "_law_pick" ["_law_dice_here", "_law_items"] spPick)
    (Md : DfG P w K mg base 4 "_law_made" ["_law_measure"] (spMadeL C)) (Wq : DfG P w K mg base 2 "_law_weight" ["_law_dice_here", "_law_measure"] spAmtL) (Aq : DfG P w K mg base 2 "_law_amount" ["_law_dice_here", "_law_measure"] spAmtL) (Be : DfG P w K mg base 3 "_law_bent" ["_law_dice_here", "_law_value"] (spBent K))
    (Wd : DfG P w K mg base 3 "_law_weight_due" ["_law_measure", "_law_value"] (spWgtDue K)) (Ad : DfG P w K mg base 2 "_law_amount_due" ["_law_measure", "_law_value"] (spAmtDue K))
    (Iw : Dm P w K mg base C 4 "is_weight" ["self", "value"] (spIsWgt K C)) (Ia : Dm P w K mg base C 4 "is_amount" ["self", "value"] (spIsAmt K C)) (Hs : Do1 P w K mg base C 5 "__contains__" ["self", "x"] (spHas K C)) : FnG P w K mg base CX0 6 f fd ["_law_dice_here", "_law_measure"] spVals := by
  refine okG F scVals (fun vs H Q E h => ?_) (fun cdv A outer s H vs Q E hr h => ?_)
  · obtain ⟨a, p, m, rfl, _⟩ := h
    rfl
  · obtain ⟨a, p, m, rfl, hd, hm, mok, q⟩ := h
    have nd := scVals.nd
    have r1 := hr.mono (show 1 ≤ 5 by decide)
    have r2 := hr.mono (show 2 ≤ 5 by decide)
    have r3 := hr.mono (show 3 ≤ 5 by decide)
    have r4 := hr.mono (show 4 ≤ 5 by decide)
    have r5 := hr
    have hu : (A.deeper (envOfC "_law_values_right" (defScope sVals) s.heap.objs.size f cdv)).units + 64 < cLine := by have := hr.rm.un; omega
    refine ⟨_, pss_cons (ps_set (i := 2) nd rfl (.inl rfl) (pe_callG Md.G r4 (by rfl) Md.g Md.kp Md.b .nil pass0 (pa_cons (pv 1) pa_nil)))
      (pss_cons (ps_for PassesOwn.never rfl (pi_range1 rfl T.range (pa_cons pe_int pa_nil)) (pg_name (i := 3) nd rfl (.inl rfl))
        (pss_cons (ps_set (i := 4) nd rfl (.inl rfl) (pe_ifExp (pt_cmpR op_eq (pe_callG D.G r1 (by rfl) D.g D.kp D.b .nil pass0 (pa_cons (pv 0) (pa_cons pe_int pa_nil))) pe_int (nomark _)) (pe_callG Wq.G r2 (by rfl) Wq.g Wq.kp Wq.b .nil pass0 (pa_cons (pv 0) (pa_cons (pv 1) pa_nil))) (pe_callG Aq.G r2 (by rfl) Aq.g Aq.kp Aq.b .nil pass0 (pa_cons (pv 0) (pa_cons (pv 1) pa_nil)))))
        (pss_cons (ps_if (pt_cmpR op_gt (pe_callG D.G r1 (by rfl) D.g D.kp D.b .nil pass0 (pa_cons (pv 0) (pa_cons pe_int pa_nil))) pe_int (nomark _)) (pss_one (ps_set (i := 4) nd rfl (.inl rfl) (pe_callG Be.G r3 (by rfl) Be.g Be.kp Be.b .nil pass0 (pa_cons (pv 0) (pa_cons (pv 4) pa_nil))))) pss_nil)
        (pss_cons (ps_par (i := 5) (j := 6) rfl nd rfl rfl (by decide) rfl rfl (pa_cons (pe_callB (call_reprX hr) (by rfl) T.repr (by decide +kernel) (pa_cons (pv 4) pa_nil)) (pa_cons (pe_op op_cat (pe_lst (pa_cons (pe_callG Wd.G r3 (by rfl) Wd.g Wd.kp Wd.b .nil pass0 (pa_cons (pv 1) (pa_cons (pv 4) pa_nil))) pa_nil)) (pe_op op_rep (pe_lst (pa_cons (pe_callG Ad.G r2 (by rfl) Ad.g Ad.kp Ad.b .nil pass0 (pa_cons (pv 1) (pa_cons (pv 4) pa_nil))) pa_nil)) pe_int)) pa_nil)) (by rfl))
        (pss_cons (ps_set (i := 7) nd rfl (.inl rfl) (pe_lst (pa_cons (pe_meth (pv 2) Z.cls Iw.at_ Iw.G r4.rm Iw.b .nil pass0 (pa_cons (pv 4) pa_nil)) (pa_cons (pe_meth (pv 2) Z.cls Ia.at_ Ia.G r4.rm Ia.b .nil pass0 (pa_cons (pv 4) pa_nil)) (pa_cons (pe_cmpR (op_inO Hs.G Hs.o Hs.b pass0 r5.rm) (pv 4) (pv 2) rfl) pa_nil)))))
        (pss_one (ps_if (PW.pt (pw_or (pt_cmpR op_ne (pe_callB (call_reprX hr) (by rfl) T.repr (by decide +kernel) (pa_cons (pv 7) pa_nil)) (pe_callB (call_reprX hr) (by rfl) T.repr (by decide +kernel) (pa_cons (pv 6) pa_nil)) (nomark _)) (pw_or1 (pt_cmpR op_ne (pe_callB (call_reprX hr) (by rfl) T.repr (by decide +kernel) (pa_cons (pv 4) pa_nil)) (pv 5) (nomark _))))) pss_never pss_nil)))))))
      (pss_cons (ps_set (i := 8) nd rfl (.inl rfl) (pe_lst (pa_cons pe_non (pa_cons pe_bl (pa_cons pe_bl (pa_cons pe_str (pa_cons pe_str (pa_cons (pe_lst pa_nil) (pa_cons (pe_lst (pa_cons pe_int (pa_cons pe_int pa_nil))) (pa_cons pe_dnewK (pa_cons (pe_tup pa_nil) (pa_cons (pe_tup (pa_cons pe_non pa_nil)) (pa_cons (pe_tup (pa_cons (pe_tup (pa_cons pe_int (pa_cons pe_int pa_nil))) pa_nil)) (pa_cons (pe_disp (pps_cons pe_str pe_int pps_nil) rfl rfl (by simp) (by decide)) (pa_cons (pe_tup (pa_cons pe_int (pa_cons pe_int (pa_cons pe_int (pa_cons pe_int (pa_cons pe_int pa_nil)))))) pa_nil)))))))))))))))
      (pss_cons (ps_set (i := 8) nd rfl (.inl rfl) (pe_callG Pk.G r2 (by rfl) Pk.g Pk.kp Pk.b .nil pass0 (pa_cons (pv 0) (pa_cons (pe_op op_cat (pv 8) (pe_lst (pa_cons (pv 2) pa_nil))) pa_nil))))
      (pss_one (ps_ret (pe_cmpR (op_eqD hu) (pe_lst (pa_cons (pe_meth (pv 2) Z.cls Iw.at_ Iw.G r4.rm Iw.b .nil pass0 (pa_cons (pv 8) pa_nil)) (pa_cons (pe_meth (pv 2) Z.cls Ia.at_ Ia.G r4.rm Ia.b .nil pass0 (pa_cons (pv 8) pa_nil)) (pa_cons (pe_cmpR (op_inO Hs.G Hs.o Hs.b pass0 r5.rm) (pv 8) (pv 2) rfl) pa_nil)))) (pe_op op_rep (pe_lst (pa_cons pe_bl pa_nil)) pe_int) (nomark _))))))), ?_⟩
    refine ⟨_, rfl, p, m, rfl, hm, mok, fun g H0 e0 ng sa => ?_⟩
    have hd0 := e0.dice hd
    refine ⟨12, rfl, by decide, by decide, ?_⟩
    refine for_range (n := 12) (fun i σ H' => ∃ y3 y4 y5 y6 y7 : Option V, σ = [some (.ref a), some (.ref p), some (.ref g), y3, y4, y5, y6, y7, none] ∧ Gro a H0 H') ⟨none, none, none, none, none, rfl, Gro.refl hd0⟩ (fun i σ H1 hi h => ?_) (fun σ H1 h => ?_)
    · obtain ⟨y3, y4, y5, y6, y7, rfl, g1⟩ := h
      refine ⟨_, rfl, a, 2, rfl, by decide, by decide, g1.di, fun j H2 j0 j1 g2 => ⟨rfl, _, rfl, ite2 (fun _ => ?_) (fun _ => ?_)⟩⟩
      all_goals
        have G2 := g1.trans g2
        refine ⟨_, rfl, _, rfl, a, p, m, rfl, G2.di, G2.msV hd0 (e0.rd hm), mok, fun v x H3 g3 hx nx vx => ?_⟩
        have G3 := G2.trans g3
        refine ⟨_, rfl, a, 3, rfl, by decide, by decide, G3.di, fun j H4 j0 j1 g4 => ⟨_, _, rfl, rfl, _, rfl, ite2 (fun _ => ?_) (fun _ => ?_)⟩⟩
        rotate_left
        · have dx := (am_dxn (n := a) (K := K) vx).gro g4 G3.di
          have gd := am_good mok hx nx
          have G := G3.trans g4
          generalize x.data = d at dx gd
          obtain ⟨f1, f2, f3, f4⟩ := gd.f.ok
          have hm4 := G.msV hd0 (e0.rd hm)
          have sa4 := G.scl hd0 sa
          have d4 := G.di
          refine ⟨_, rfl, _, d, rfl, dx.dx, f1, f2, f3, f4, ?_⟩
          refine ⟨_, rfl, _, rfl, p, m, v, d, rfl, hm4, mok, dx.dx, gd.s, gd.n, fun H5 e5 => ⟨by show 1 ≤ sizeLine; decide, fun L1 n1 => ?_⟩⟩
          have x1 := Ex.new (o := .lst [.bl (wgtB m d)]) n1
          have E1 := e5.trans x1
          refine ⟨_, rfl, _, rfl, p, m, v, d, rfl, E1.rd hm4, mok, (dx.ex E1).dx, gd.s, gd.n, fun H6 e6 => ⟨by show 1 ≤ sizeLine; decide, fun L2 n2 => ?_⟩⟩
          have x2 := Ex.new (o := .lst [.bl (amtB m d)]) n2
          refine ⟨L2, 2, _, rfl, rfl, upd_same, by decide, by decide, by show 2 ≤ sizeLine; decide, fun L3 n3 => ?_⟩
          have x3 := Ex.new (o := .lst (List.replicate (2 : Int).toNat [V.bl (amtB m d)]).flatten) n3
          refine ⟨L1, L3, _, _, rfl, rfl, (e6.trans (x2.trans x3)) L1 _ upd_same, upd_same, by show 3 ≤ sizeLine; decide, fun L4 n4 => ⟨_, _, rfl, ?_⟩⟩
          have x4 := Ex.new (o := .lst ([V.bl (wgtB m d)] ++ (List.replicate (2 : Int).toNat [V.bl (amtB m d)]).flatten)) n4
          have E4 := E1.trans (e6.trans (x2.trans (x3.trans x4)))
          obtain ⟨dg, fs, hg, hn⟩ := (E4.scl sa4).no (x := "is_weight") (by decide +kernel) (by decide +kernel)
          refine ⟨_, rfl, g, dg, fs, rfl, hg, hn, _, rfl, g, m, v, d, rfl, E4.scl sa4, mok, .dx (dx.ex E4).dx, gd.s, fun H7 e7 => ?_⟩
          have E7 := E4.trans e7
          obtain ⟨dg, fs, hg, hn⟩ := (E7.scl sa4).no (x := "is_amount") (by decide +kernel) (by decide +kernel)
          refine ⟨_, rfl, g, dg, fs, rfl, hg, hn, _, rfl, g, m, v, d, rfl, E7.scl sa4, mok, .dx (dx.ex E7).dx, gd.s, fun H8 e8 => ?_⟩
          have E8 := E7.trans e8
          obtain ⟨dg, fs, hg, hn⟩ := (E8.scl sa4).no (x := "is_amount") (by decide +kernel) (by decide +kernel)
          refine ⟨_, rfl, _, rfl, g, dg, fs, rfl, hg, g, m, v, d, rfl, E8.scl sa4, mok, .dx (dx.ex E8).dx, gd.s, fun H9 e9 => ⟨_, rfl, by show 3 ≤ sizeLine; decide, fun L5 n5 => ?_⟩⟩
          have E9 := E8.trans e9
          have x5 := Ex.new (o := .lst [.bl (wgtB m d), .bl (amtB m d), .bl (xor false (amtB m d))]) n5
          have E10 := E9.trans x5
          obtain ⟨t1, t2, t3, t4⟩ := three_ok (wgtB m d) (amtB m d) (amtB m d)
          refine ⟨_, rfl, _, three (wgtB m d) (amtB m d) (amtB m d), rfl, three_at (by rw [Bool.false_xor]; exact upd_same), t1, t2, t3, t4, ?_⟩
          refine ⟨_, rfl, _, three (wgtB m d) (amtB m d) (amtB m d), rfl, three_at ((e7.trans (e8.trans (e9.trans x5))) L4 _ upd_same), t1, t2, t3, t4, ?_⟩
          generalize (three (wgtB m d) (amtB m d) (amtB m d)).shown = tx
          refine ⟨rfl, ?_⟩
          rw [decide_eq_true rfl]
          refine ⟨_, rfl, ?_⟩
          refine ⟨_, rfl, _, d, rfl, (dx.ex E10).dx, f1, f2, f3, f4, ?_⟩
          refine ⟨_, rfl, rfl, ?_⟩
          rw [decide_eq_true rfl]
          exact ⟨_, rfl, _, _, _, _, _, rfl, G.ex E10⟩
        · refine ⟨_, rfl, _, rfl, a, v, rfl, (G3.trans g4).di, PlainV.gro g4 G3.di (am_plain mok hx nx vx), fun v d H4 g5 dx gd => ?_⟩
          have G := (G3.trans g4).trans g5
          obtain ⟨f1, f2, f3, f4⟩ := gd.f.ok
          have hm4 := G.msV hd0 (e0.rd hm)
          have sa4 := G.scl hd0 sa
          have d4 := G.di
          refine ⟨_, rfl, _, d, rfl, dx.dx, f1, f2, f3, f4, ?_⟩
          refine ⟨_, rfl, _, rfl, p, m, v, d, rfl, hm4, mok, dx.dx, gd.s, gd.n, fun H5 e5 => ⟨by show 1 ≤ sizeLine; decide, fun L1 n1 => ?_⟩⟩
          have x1 := Ex.new (o := .lst [.bl (wgtB m d)]) n1
          have E1 := e5.trans x1
          refine ⟨_, rfl, _, rfl, p, m, v, d, rfl, E1.rd hm4, mok, (dx.ex E1).dx, gd.s, gd.n, fun H6 e6 => ⟨by show 1 ≤ sizeLine; decide, fun L2 n2 => ?_⟩⟩
          have x2 := Ex.new (o := .lst [.bl (amtB m d)]) n2
          refine ⟨L2, 2, _, rfl, rfl, upd_same, by decide, by decide, by show 2 ≤ sizeLine; decide, fun L3 n3 => ?_⟩
          have x3 := Ex.new (o := .lst (List.replicate (2 : Int).toNat [V.bl (amtB m d)]).flatten) n3
          refine ⟨L1, L3, _, _, rfl, rfl, (e6.trans (x2.trans x3)) L1 _ upd_same, upd_same, by show 3 ≤ sizeLine; decide, fun L4 n4 => ⟨_, _, rfl, ?_⟩⟩
          have x4 := Ex.new (o := .lst ([V.bl (wgtB m d)] ++ (List.replicate (2 : Int).toNat [V.bl (amtB m d)]).flatten)) n4
          have E4 := E1.trans (e6.trans (x2.trans (x3.trans x4)))
          obtain ⟨dg, fs, hg, hn⟩ := (E4.scl sa4).no (x := "is_weight") (by decide +kernel) (by decide +kernel)
          refine ⟨_, rfl, g, dg, fs, rfl, hg, hn, _, rfl, g, m, v, d, rfl, E4.scl sa4, mok, .dx (dx.ex E4).dx, gd.s, fun H7 e7 => ?_⟩
          have E7 := E4.trans e7
          obtain ⟨dg, fs, hg, hn⟩ := (E7.scl sa4).no (x := "is_amount") (by decide +kernel) (by decide +kernel)
          refine ⟨_, rfl, g, dg, fs, rfl, hg, hn, _, rfl, g, m, v, d, rfl, E7.scl sa4, mok, .dx (dx.ex E7).dx, gd.s, fun H8 e8 => ?_⟩
          have E8 := E7.trans e8
          obtain ⟨dg, fs, hg, hn⟩ := (E8.scl sa4).no (x := "is_amount") (by decide +kernel) (by decide +kernel)
          refine ⟨_, rfl, _, rfl, g, dg, fs, rfl, hg, g, m, v, d, rfl, E8.scl sa4, mok, .dx (dx.ex E8).dx, gd.s, fun H9 e9 => ⟨_, rfl, by show 3 ≤ sizeLine; decide, fun L5 n5 => ?_⟩⟩
          have E9 := E8.trans e9
          have x5 := Ex.new (o := .lst [.bl (wgtB m d), .bl (amtB m d), .bl (xor false (amtB m d))]) n5
          have E10 := E9.trans x5
          obtain ⟨t1, t2, t3, t4⟩ := three_ok (wgtB m d) (amtB m d) (amtB m d)
          refine ⟨_, rfl, _, three (wgtB m d) (amtB m d) (amtB m d), rfl, three_at (by rw [Bool.false_xor]; exact upd_same), t1, t2, t3, t4, ?_⟩
          refine ⟨_, rfl, _, three (wgtB m d) (amtB m d) (amtB m d), rfl, three_at ((e7.trans (e8.trans (e9.trans x5))) L4 _ upd_same), t1, t2, t3, t4, ?_⟩
          generalize (three (wgtB m d) (amtB m d) (amtB m d)).shown = tx
          refine ⟨rfl, ?_⟩
          rw [decide_eq_true rfl]
          refine ⟨_, rfl, ?_⟩
          refine ⟨_, rfl, _, d, rfl, (dx.ex E10).dx, f1, f2, f3, f4, ?_⟩
          refine ⟨_, rfl, rfl, ?_⟩
          rw [decide_eq_true rfl]
          exact ⟨_, rfl, _, _, _, _, _, rfl, G.ex E10⟩
    · obtain ⟨y3, y4, y5, y6, y7, rfl, G⟩ := h
      have d1 := G.di
      have sa1 := G.scl hd0 sa
      have s1 : 1 ≤ sizeLine := by decide
      have s2 : 2 ≤ sizeLine := by decide
      refine ⟨Nat.zero_le _, fun l1 n1 => ⟨s2, fun l2 n2 => fun d3 n3 => ⟨Nat.zero_le _, fun t4 n4 => ⟨s1, fun t5 n5 => ⟨s2, fun t6 n6 => ⟨s1, fun t7 n7 => fun d8 n8 => ⟨upd_same, [(.inr "a", .int 1)], rfl, by decide, ⟨by show 5 ≤ sizeLine; decide, fun t9 n9 => ⟨by show 13 ≤ sizeLine; decide, fun L nL => ?_⟩⟩⟩⟩⟩⟩⟩⟩⟩
      have x1 := Ex.new (o := .lst []) n1
      have x2 := Ex.new (o := .lst [.int 1, .int 2]) n2
      have x3 := Ex.new (o := .dK []) n3
      have x4 := Ex.new (o := .tup []) n4
      have x5 := Ex.new (o := .tup [.non]) n5
      have x6 := Ex.new (o := .tup [.int 1, .int 2]) n6
      have x7 := Ex.new (o := .tup [.ref t6]) n7
      have x8 := (Ex.new (o := .dK []) n8).mut (o := .dK (mergeK [] [(.inr "a", .int 1)])) n8
      have x9 := Ex.new (o := .tup [.int 1, .int 2, .int 3, .int 4, .int 5]) n9
      have xL := Ex.new (o := .lst [.non, .bl true, .bl false, .str "", .str "1", .ref l1, .ref l2, .ref d3, .ref t4, .ref t5, .ref t7, .ref d8, .ref t9]) nL
      refine ⟨_, rfl, _, rfl, _, rfl, s1, fun M nM => ⟨L, M, _, _, rfl, rfl, (Ex.new nM) L _ upd_same, upd_same, by show 14 ≤ sizeLine; decide, fun R nR => ?_⟩⟩
      have xM := Ex.new (o := .lst [.ref g]) nM
      have xR := Ex.new (o := .lst ([V.non, .bl true, .bl false, .str "", .str "1", .ref l1, .ref l2, .ref d3, .ref t4, .ref t5, .ref t7, .ref d8, .ref t9] ++ [V.ref g])) nR
      have eR := xM.trans xR
      have eL := xL.trans eR
      have e9 := x9.trans eL
      have e8 := x8.trans e9
      have e7 := x7.trans e8
      have e6 := x6.trans e7
      have e5 := x5.trans e6
      have e4 := x4.trans e5
      have e3 := x3.trans e4
      have e2 := x2.trans e3
      have e1 := x1.trans e2
      have dR := e1.dice d1
      have m1 := d1.ne n1
      have m2 := (x1.dice d1).ne n2
      have sR := e1.scl sa1
      have mR : R ≠ a := ((x1.trans (x2.trans (x3.trans (x4.trans (x5.trans (x6.trans (x7.trans (x8.trans (x9.trans (xL.trans xM)))))))))).dice d1).ne nR
      refine ⟨a, R, _, rfl, upd_same, mR, by simp, by show 14 ≤ 1000; decide, dR, fun v H2 hv g2 => ?_⟩
      have sa2 := g2.scl dR sR
      obtain ⟨d, od, sh, b1, b2⟩ : ∃ d, Od K H2 v d ∧ Short d ∧ amtB m d = false ∧ wgtB m d = false := by
        have fin : ∀ d, DxN a K _ v d → Short d → amtB m d = false ∧ wgtB m d = false → ∃ d, Od K H2 v d ∧ Short d ∧ amtB m d = false ∧ wgtB m d = false := fun d hx sh b => ⟨d, .dx (hx.gro g2 dR).dx, sh, b.1, b.2⟩
        simp only [List.cons_append, List.nil_append, List.mem_cons, List.not_mem_nil, or_false] at hv
        rcases hv with rfl | rfl | rfl | rfl | rfl | rfl | rfl | rfl | rfl | rfl | rfl | rfl | rfl | rfl
        · exact fin _ .non trivial (odd_no mok rfl rfl (fun _ _ _ => rfl) rfl)
        · exact fin _ (.bl _) trivial (odd_no mok rfl rfl (fun _ _ _ => rfl) rfl)
        · exact fin _ (.bl _) trivial (odd_no mok rfl rfl (fun _ _ _ => rfl) rfl)
        · exact fin _ (.str _) trivial (odd_no mok rfl rfl (fun _ _ _ => rfl) rfl)
        · exact fin _ (.str _) trivial (odd_no mok rfl rfl (fun _ _ _ => rfl) rfl)
        · exact fin _ (.lst m1 (e2 l1 _ upd_same) .nil) trivial (odd_no mok rfl rfl (fun _ _ _ => rfl) rfl)
        · exact fin _ (.lst m2 (e3 l2 _ upd_same) (.cons (.int 1) (.cons (.int 2) .nil))) trivial (odd_no mok rfl rfl (fun _ _ _ => rfl) rfl)
        · exact fin _ (.dk [] (e4 d3 _ upd_same)) trivial (odd_no mok rfl rfl (fun _ _ _ => rfl) rfl)
        · exact fin _ (.tup (.inl (e5 t4 _ upd_same)) .nil) ⟨Nat.zero_le _, trivial⟩ (odd_no mok rfl rfl (fun k k1 _ => by simp [wholesB]; omega) rfl)
        · exact fin _ (.tup (.inl (e6 t5 _ upd_same)) (.cons .non .nil)) ⟨by show 1 ≤ 1000; decide, trivial⟩ (odd_no mok rfl rfl (fun k k1 _ => by simp [wholesB, wholeB]) rfl)
        · exact fin _ (.tup (.inl (e8 t7 _ upd_same)) (.cons (.tup (.inl (e7 t6 _ upd_same)) (.cons (.int 1) (.cons (.int 2) .nil))) .nil)) ⟨by show 1 ≤ 1000; decide, trivial⟩ (odd_no mok rfl rfl (fun k k1 _ => by simp [wholesB, wholeB]) rfl)
        · exact fin _ (.dk [("a", 1)] (e9 d8 _ upd_same)) trivial (odd_no mok rfl rfl (fun _ _ _ => rfl) rfl)
        · exact fin _ (.tup (.inl (eL t9 _ upd_same)) (.cons (.int 1) (.cons (.int 2) (.cons (.int 3) (.cons (.int 4) (.cons (.int 5) .nil)))))) ⟨by show 5 ≤ 1000; decide, trivial⟩ (odd_no mok rfl rfl (fun k _ k4 => by simp [wholesB]; intro h; omega) rfl)
        · obtain ⟨dg, fs, hg, _⟩ := sa2
          exact ⟨.none, .ins hg Zt, trivial, odd_no mok rfl rfl (fun _ _ _ => rfl) rfl⟩
      have E0 := Ex.refl H2
      obtain ⟨dg, fs, hg, hn⟩ := sa2.no (x := "is_weight") (by decide +kernel) (by decide +kernel)
      refine ⟨_, rfl, g, dg, fs, rfl, hg, hn, _, rfl, g, m, v, d, rfl, sa2, mok, od, sh, fun H3 f3 => ?_⟩
      obtain ⟨dg, fs, hg, hn⟩ := (f3.scl sa2).no (x := "is_amount") (by decide +kernel) (by decide +kernel)
      refine ⟨_, rfl, g, dg, fs, rfl, hg, hn, _, rfl, g, m, v, d, rfl, f3.scl sa2, mok, od.ex f3, sh, fun H4 f4 => ?_⟩
      have f34 := f3.trans f4
      obtain ⟨dg, fs, hg, hn⟩ := (f34.scl sa2).no (x := "is_amount") (by decide +kernel) (by decide +kernel)
      refine ⟨_, rfl, _, rfl, g, dg, fs, rfl, hg, g, m, v, d, rfl, f34.scl sa2, mok, od.ex f34, sh, fun H5 f5 => ⟨_, rfl, by show 3 ≤ sizeLine; decide, fun L5 n5 => ?_⟩⟩
      rw [b1, b2] at *
      have y5 := Ex.new (o := .lst [.bl false, .bl false, .bl (xor false false)]) n5
      refine ⟨s1, fun L6 n6 => ?_⟩
      have y6 := Ex.new (o := .lst [.bl false]) n6
      refine ⟨L6, 3, _, rfl, rfl, upd_same, by decide, by decide, by show 3 ≤ sizeLine; decide, fun L7 n7 => ?_⟩
      have y7 := Ex.new (o := .lst (List.replicate (3 : Int).toNat [V.bl false]).flatten) n7
      refine ⟨three false false false, three false false false, .lst (.inl (.inl ((y6.trans y7) L5 _ upd_same))) (.cons (.bl _) (.cons (.bl _) (.cons (.bl _) .nil))), .lst (.inl (.inl upd_same)) (.cons (.bl _) (.cons (.bl _) (.cons (.bl _) .nil))), by decide +kernel, by decide +kernel, ?_⟩
      rw [show PyData.eqv (three false false false) (three false false false) = true by decide +kernel]
      exact q _ (((((((Gro.of e0 hd).trans G).ex e1).trans g2).ex (f34.trans f5)).ex y5).ex (y6.trans y7))
end
end Gl

namespace Gl
open PySem PySem.Spec PyProof.Rows L2 ClX
abbrev sScls : Stmt := topS 29
theorem scScls : FnScope ["_law_six", "_law_texts", "_law_zeros", "_law_ones", "_law_at", "_law_pair", "_law_meter", "_law_told", "_law_size", "_law_other"] [] (defScope sScls) := ⟨rfl, rfl, rfl, by decide +kernel, rfl, by decide +kernel, by decide +kernel⟩
theorem rd_upd {H : Hp} {p D : Addr} {xs acc : List V} {o : HO} (h : Rd H p (.tup xs)) (e : H D = some (.lst acc)) : Rd (upd H D o) p (.tup xs) := by
  have n : p ≠ D := fun z => by
    subst z
    rcases h with h | ⟨_, h⟩
    · rw [h] at e; cases e
    · rw [h] at e; cases e
  rcases h with h | ⟨ob, h⟩
  · exact .inl (by rw [upd_ne n]; exact h)
  · exact .inr ⟨ob, by rw [upd_ne n]; exact h⟩
/-- the six scales, and what the law says of them -/
def sixM : List Ms := [.sums, .odds, .classes 1, .classes 2, .classes 3, .classes 4]
structure Row6 (H : Hp) (m : Ms) (p : V) (t z o : V) : Prop where
  p : ∃ a, p = .ref a ∧ MsV H a m
  t : t = .str m.text
  z : AmV H z m.zero
  o : AmV H o m.one
structure Six (H : Hp) (S T Z O : Addr) (ps ts zs os : List V) : Prop where
  eS : H S = some (.lst ps)
  eT : H T = some (.lst ts)
  eZ : H Z = some (.lst zs)
  eO : H O = some (.lst os)
  lp : ps.length = 6
  at_ : ∀ (i : Nat) (m : Ms), sixM[i]? = some m → ∃ p t z o : V, ps[i]? = some p ∧ ts[i]? = some t ∧ zs[i]? = some z ∧ os[i]? = some o ∧ Row6 H m p t z o
theorem Row6.ex {H H' : Hp} {m : Ms} {p t z o : V} (e : Ex H H') (h : Row6 H m p t z o) : Row6 H' m p t z o :=
  ⟨let ⟨a, q, k⟩ := h.p; ⟨a, q, e.rd k⟩, h.t, h.z.ex e, h.o.ex e⟩
theorem Six.ex {H H' : Hp} {S T Z O : Addr} {ps ts zs os : List V} (e : Ex H H') (h : Six H S T Z O ps ts zs os) : Six H' S T Z O ps ts zs os :=
  ⟨e _ _ h.eS, e _ _ h.eT, e _ _ h.eZ, e _ _ h.eO, h.lp, fun i m q => let ⟨p, t, z, o, a, b, c, d, r⟩ := h.at_ i m q; ⟨p, t, z, o, a, b, c, d, r.ex e⟩⟩
theorem six_eq : ∀ i < 6, ∀ j < 6, decide (sixM[i]? = sixM[j]?) = decide (i = j) := by decide
theorem six_ok {i : Nat} {m : Ms} (h : sixM[i]? = some m) : m.ok ∧ i < 6 := by
  match i with
  | 0 => cases h; exact ⟨trivial, by decide⟩
  | 1 => cases h; exact ⟨trivial, by decide⟩
  | 2 => cases h; exact ⟨⟨by decide, by decide⟩, by decide⟩
  | 3 => cases h; exact ⟨⟨by decide, by decide⟩, by decide⟩
  | 4 => cases h; exact ⟨⟨by decide, by decide⟩, by decide⟩
  | 5 => cases h; exact ⟨⟨by decide, by decide⟩, by decide⟩
  | _ + 6 => simp [sixM] at h
/-- what is told of a scale -/
def d4 (m : Ms) : PyData := .list [.str m.word, .int (m.size : Nat), m.zero.data, m.one.data]
def d1 (m : Ms) : PyData := .list [.tuple [.str m.word, .int (m.size : Nat)]]
theorem d4_ok : ∀ m ∈ sixM, (d4 m).hasDict = false ∧ (d4 m).showable = true ∧ (d4 m).depth ≤ 100 ∧ (d4 m).shown.length ≤ sizeLine := by decide +kernel
theorem d1_ok : ∀ m ∈ sixM, SeqAt.shaped (d1 m) = true ∧ PyData.eqv (d1 m) (d1 m) = true := by decide +kernel
theorem six_told : ∀ m ∈ sixM, amtB m m.zero.data = true ∧ wgtB m m.one.data = true ∧ wgtB m m.zero.data = false := by decide +kernel
theorem zero_short {m : Ms} (mok : m.ok) : Short m.zero.data := by
  cases m with
  | sums => trivial
  | odds => exact ⟨by decide, trivial⟩
  | classes k => exact ⟨by rw [List.length_map, List.length_replicate]; have := mok.2; omega, trivial⟩
theorem one_short {m : Ms} (mok : m.ok) : Short m.one.data := by
  cases m with
  | sums => trivial
  | odds => exact ⟨by decide, trivial⟩
  | classes k => exact ⟨by rw [List.length_map, List.length_cons, List.length_replicate]; have := mok.2; omega, trivial⟩
theorem six_mem {i : Nat} {m : Ms} (h : sixM[i]? = some m) : m ∈ sixM := List.mem_of_getElem? h
theorem six_inj {i j : Nat} {m n : Ms} (hi : sixM[i]? = some m) (hj : sixM[j]? = some n) : decide (m = n) = decide (i = j) := by
  have := six_eq i (six_ok hi).2 j (six_ok hj).2
  rw [hi, hj] at this
  rw [← this]
  by_cases h : m = n
  · subst h; simp
  · rw [decide_eq_false h, decide_eq_false (fun z => h (Option.some.inj z))]
theorem six_has {i : Nat} (h : i < 6) : ∃ m, sixM[i]? = some m := ⟨_, List.getElem?_eq_getElem h⟩
section
variable {P : Program} {w : World} {K : PySem.W.Frag} {mg : Str → Option Value} {base : Heap} {C : Addr}
def spScls : Sp := fun vs H Q _ => vs = [] ∧ ∀ H', Ex H H' → Q (.bl true) H'
theorem ok_scls {f : Addr} {fd : FuncData} (F : Fun K "_law_scales_right" "_law_scales_right" sScls f fd) (T : Blt mg) (te : mg "enumerate" = none) (Z : ClsK K C) (Zt : ClsT K C) {t4 t6 : Nat} (ms : mg "MAX_SIZE" = some (.int 4 t4)) (mo : mg "MAX_ODDS" = some (.int 1000000 t6))
    (hne : PySem.W.findIn K (.ref C) "__ne__" = some (some (.builtin "object.__ne__"))) (ho : PySem.W.subIn K (.ref C) (.type "object") = some true) (nf : ∀ tb : Value, tb = .ref C ∨ tb ∈ [Value.type "NoneType", .type "int", .type "str", .type "tuple"] → PySem.W.notFirst K C tb = true)
    (Md : DfG P w K mg base 4 "_law_made" ["_law_measure"] (spMadeL C)) (Wp : Dp1 P w K mg base C 1 "word" (spWord C)) (Zp : Dp1 P w K mg base C 1 "size" (spSize C)) (Ze : Dp1 P w K mg base C 1 "zero" (spZero C)) (Oe : Dp1 P w K mg base C 1 "one" (spOne C))
    (Iw : Dm P w K mg base C 4 "is_weight" ["self", "value"] (spIsWgt K C)) (Hs : Do1 P w K mg base C 5 "__contains__" ["self", "x"] (spHas K C)) (Eq : Do1 P w K mg base C 1 "__eq__" ["self", "other"] (spEqM K C)) (St : Do1 P w K mg base C 1 "__str__" ["self"] (spStrM C)) : FnG P w K mg base CX0 6 f fd [] spScls := by
  refine okG F scScls (fun vs H Q E h => ?_) (fun cdv A outer s H vs Q E hr h => ?_)
  · obtain ⟨rfl, _⟩ := h
    rfl
  · obtain ⟨rfl, q⟩ := h
    have nd := scScls.nd
    have r1 := hr.mono (show 1 ≤ 5 by decide)
    have r2 := hr.mono (show 2 ≤ 5 by decide)
    have r3 := hr.mono (show 3 ≤ 5 by decide)
    have r4 := hr.mono (show 4 ≤ 5 by decide)
    have r5 := hr
    have hu : (A.deeper (envOfC "_law_scales_right" (defScope sScls) s.heap.objs.size f cdv)).units + 64 < cLine := by have := hr.rm.un; omega
    have hu0 : (A.deeper (envOfC "_law_scales_right" (defScope sScls) s.heap.objs.size f cdv)).units < cLine := by omega
    refine ⟨_, pss_cons (ps_set (i := 0) nd rfl (.inl rfl) (pe_op op_cat (pe_lst (pa_cons (pe_tup (pa_cons pe_str (pa_cons pe_int pa_nil))) (pa_cons (pe_tup (pa_cons pe_str (pa_cons pe_int pa_nil))) pa_nil))) (pe_lc (own := [("_law_size", 8)]) (g := gName 8) (tt := tYes) rfl nd (pi_range2 rfl T.range (pa_cons pe_int (pa_cons pe_int pa_nil))) (blkOk_by (N := ["_law_six", "_law_texts", "_law_zeros", "_law_ones", "_law_at", "_law_pair", "_law_meter", "_law_told", "_law_size", "_law_other"]) (sc := defScope sScls) (by decide +kernel)) (fun _ _ _ _ _ => pg_name (i := 8) nd rfl (.inl rfl)) (fun _ _ _ _ _ => pts_nil)
          (fun _ _ _ _ _ => pe_tup (pa_cons pe_str (pa_cons (pv 8) pa_nil))))))
      (pss_cons (ps_set (i := 1) nd rfl (.inl rfl) (pe_lst (pa_cons pe_str (pa_cons pe_str (pa_cons pe_str (pa_cons pe_str (pa_cons pe_str (pa_cons pe_str pa_nil))))))))
      (pss_cons (ps_set (i := 2) nd rfl (.inl rfl) (pe_lst (pa_cons pe_int (pa_cons (pe_tup (pa_cons pe_int (pa_cons pe_int pa_nil))) (pa_cons (pe_tup (pa_cons pe_int pa_nil)) (pa_cons (pe_tup (pa_cons pe_int (pa_cons pe_int pa_nil))) (pa_cons (pe_tup (pa_cons pe_int (pa_cons pe_int (pa_cons pe_int pa_nil)))) (pa_cons (pe_tup (pa_cons pe_int (pa_cons pe_int (pa_cons pe_int (pa_cons pe_int pa_nil))))) pa_nil))))))))
      (pss_cons (ps_set (i := 3) nd rfl (.inl rfl) (pe_lst (pa_cons pe_int (pa_cons (pe_tup (pa_cons pe_int (pa_cons pe_int pa_nil))) (pa_cons (pe_tup (pa_cons pe_int pa_nil)) (pa_cons (pe_tup (pa_cons pe_int (pa_cons pe_int pa_nil))) (pa_cons (pe_tup (pa_cons pe_int (pa_cons pe_int (pa_cons pe_int pa_nil)))) (pa_cons (pe_tup (pa_cons pe_int (pa_cons pe_int (pa_cons pe_int (pa_cons pe_int pa_nil))))) pa_nil))))))))
      (pss_cons (ps_for PassesOwn.never rfl (pi_enum (by rfl) te (pa_cons (pv 0) pa_nil)) (pg_tup rfl (pgs_cons (pg_name (i := 4) nd rfl (.inl rfl)) (pgs_cons (pg_name (i := 5) nd rfl (.inl rfl)) pgs_nil)))
        (pss_cons (ps_set (i := 6) nd rfl (.inr rfl) (pe_callG Md.G r4 (by rfl) Md.g Md.kp Md.b .nil pass0 (pa_cons (pv 5) pa_nil)))
        (pss_cons (ps_set (i := 7) nd rfl (.inl rfl) (pe_lst (pa_cons (pe_prop (pv 6) Z.cls Wp.at_ Wp.G r2.rm Wp.b .nil pass0 rfl) (pa_cons (pe_prop (pv 6) Z.cls Zp.at_ Zp.G r2.rm Zp.b .nil pass0 rfl) (pa_cons (pe_prop (pv 6) Z.cls Ze.at_ Ze.G r2.rm Ze.b .nil pass0 rfl) (pa_cons (pe_prop (pv 6) Z.cls Oe.at_ Oe.G r2.rm Oe.b .nil pass0 rfl) pa_nil))))))
        (pss_cons (ps_if (pt_cmpR op_ne (pe_callB (call_reprX hr) (by rfl) T.repr (by decide +kernel) (pa_cons (pv 7) pa_nil)) (pe_callB (call_reprX hr) (by rfl) T.repr (by decide +kernel) (pa_cons (pe_lst (pa_cons (pe_ix ix_tup (pv 5) pe_int (fun _ _ => rfl)) (pa_cons (pe_ix ix_tup (pv 5) pe_int (fun _ _ => rfl)) (pa_cons (pe_ix ix_list (pv 2) (pv 4) (fun _ _ => rfl)) (pa_cons (pe_ix ix_list (pv 3) (pv 4) (fun _ _ => rfl)) pa_nil))))) pa_nil)) (nomark _)) pss_never pss_nil)
        (pss_cons (ps_if (PW.pt (pw_or (pt_cmpR op_ne (pe_callTy (cr_strO St.G St.o St.b pass0 r3.rm) (by rfl) T.str (by decide +kernel) (pa_cons (pv 6) pa_nil)) (pe_ix ix_list (pv 1) (pv 4) (fun _ _ => rfl)) (nomark _)) (pw_or (pt_cmpR (op_notinO Hs.G Hs.o Hs.b pass0 r5.rm) (pe_prop (pv 6) Z.cls Ze.at_ Ze.G r2.rm Ze.b .nil pass0 rfl) (pv 6) rfl) (pw_or1 (pt_not (pt_val (pe_meth (pv 6) Z.cls Iw.at_ Iw.G r4.rm Iw.b .nil pass0 (pa_cons (pe_prop (pv 6) Z.cls Oe.at_ Oe.G r2.rm Oe.b .nil pass0 rfl) pa_nil)))))))) pss_never pss_nil)
        (pss_cons (ps_if (pt_val (pe_meth (pv 6) Z.cls Iw.at_ Iw.G r4.rm Iw.b .nil pass0 (pa_cons (pe_prop (pv 6) Z.cls Ze.at_ Ze.G r2.rm Ze.b .nil pass0 rfl) pa_nil))) pss_never pss_nil)
        (pss_cons (ps_if (pt_cmpR (op_neD hu) (pe_lc (own := [("_law_other", 9)]) (g := gName 9) rfl nd (pi_list (pv 0)) (blkOk_by (N := ["_law_six", "_law_texts", "_law_zeros", "_law_ones", "_law_at", "_law_pair", "_law_meter", "_law_told", "_law_size", "_law_other"]) (sc := defScope sScls) (by decide +kernel)) (fun _ _ _ _ _ => pg_name (i := 9) nd rfl (.inl rfl)) (fun _ _ _ _ _ => pts_one (pt_cmpR (r := rEqK K C (spEqM K C) E0 false) (op_eqK Eq.G Eq.o Eq.b pass0 r1.rm) (pv 6) (pe_callG Md.G r4 (by rfl) Md.g Md.kp Md.b .nil pass0 (pa_cons (pv 9) pa_nil)) (nomark _)))
          (fun _ _ _ _ _ => pv 9)) (pe_lst (pa_cons (pv 5) pa_nil)) (nomark _)) pss_never pss_nil)
        (pss_cons (ps_if (pt_cmpR (op_neNil hu0) (pe_lc (own := [("_law_other", 9)]) (g := gName 9) rfl nd (pi_tup (pe_tup (pa_cons pe_non (pa_cons (pe_ix ix_tup (pv 5) pe_int (fun _ _ => rfl)) (pa_cons (pv 5) (pa_cons pe_int (pa_cons (pe_prop (pv 6) Z.cls Ze.at_ Ze.G r2.rm Ze.b .nil pass0 rfl) (pa_cons (pe_callTy (cr_strO St.G St.o St.b pass0 r3.rm) (by rfl) T.str (by decide +kernel) (pa_cons (pv 6) pa_nil)) pa_nil)))))))) (blkOk_by (N := ["_law_six", "_law_texts", "_law_zeros", "_law_ones", "_law_at", "_law_pair", "_law_meter", "_law_told", "_law_size", "_law_other"]) (sc := defScope sScls) (by decide +kernel)) (fun _ _ _ _ _ => pg_name (i := 9) nd rfl (.inl rfl)) (fun _ _ _ _ _ => pts_one (pt_cmpR (r := rEqK K C (spEqM K C) E0 false) (op_eqK Eq.G Eq.o Eq.b pass0 r1.rm) (pv 6) (pv 9) (nomark _)))
          (fun _ _ _ _ _ => pe_int)) (pe_lst pa_nil) (nomark _)) pss_never pss_nil)
        (pss_one (ps_if (pt_cmpR op_ne (pe_callB call_len_seq (by rfl) T.len PySem.boot_len (pa_cons (pe_lc (own := [("_law_other", 9)]) (g := gName 9) rfl nd (pi_list (pv 0)) (blkOk_by (N := ["_law_six", "_law_texts", "_law_zeros", "_law_ones", "_law_at", "_law_pair", "_law_meter", "_law_told", "_law_size", "_law_other"]) (sc := defScope sScls) (by decide +kernel)) (fun _ _ _ _ _ => pg_name (i := 9) nd rfl (.inl rfl)) (fun _ _ _ _ _ => pts_one (pt_cmpR (r := rEqK K C (spEqM K C) E0 true) (op_neK Eq.G Eq.o hne ho Eq.b pass0 r2.rm) (pv 6) (pe_callG Md.G r4 (by rfl) Md.g Md.kp Md.b .nil pass0 (pa_cons (pv 9) pa_nil)) (nomark _)))
          (fun _ _ _ _ _ => pv 9)) pa_nil)) pe_int (nomark _)) pss_never pss_nil))))))))))
      (pss_one (ps_ret (pe_cmpR (op_eqD hu) (pe_lst (pa_cons (pe_glob (v := .int 4) rfl ms ⟨_, rfl⟩) (pa_cons (pe_glob (v := .int 1000000) rfl mo ⟨_, rfl⟩) pa_nil))) (pe_lst (pa_cons pe_int (pa_cons pe_int pa_nil))) (nomark _)))))))), ?_⟩
    have s1 : 1 ≤ sizeLine := by decide
    have s2 : 2 ≤ sizeLine := by decide
    have s3 : 3 ≤ sizeLine := by decide
    have s4 : 4 ≤ sizeLine := by decide
    have s6 : 6 ≤ sizeLine := by decide
    refine ⟨s2, fun t0 n0 => ⟨s2, fun t1 n1 => ⟨s2, fun L0 m0 => ⟨1, 5, rfl, by decide, fun D nD => ?_⟩⟩⟩⟩
    have x0 := Ex.new (o := .tup [.str "sums", .int 1]) n0
    have x1 := Ex.new (o := .tup [.str "odds", .int 1]) n1
    have xL := Ex.new (o := .lst [.ref t0, .ref t1]) m0
    refine lc_range (lo := 1) (n := 4) (fun i H' => ∃ ps : List Addr, Ex (upd (upd (upd H t0 (.tup [.str "sums", .int 1])) t1 (.tup [.str "odds", .int 1])) L0 (.lst [.ref t0, .ref t1])) H' ∧ H' D = some (.lst (ps.map V.ref)) ∧ ps.length = i ∧ ∀ j p, ps[j]? = some p → MsV H' p (.classes (1 + j)))
      ⟨[], Ex.new nD, upd_same, rfl, fun _ _ z => by simp at z⟩ (fun i H1 hi h => ?_) (fun H1 h => ?_)
    · obtain ⟨ps, ex, eD, len, ms'⟩ := h
      refine ⟨rfl, _, rfl, s2, fun t nt => ?_⟩
      have xt := Ex.new (o := .tup [.str "classes", .int (1 + (i : Int))]) nt
      have eD1 := xt D _ eD
      refine ⟨_, eD1, by rw [List.length_map, len]; exact Nat.lt_of_lt_of_le (show i < 5 by omega) (by decide), ps ++ [t], (ex.trans xt).mut nD, by rw [upd_same, List.map_append]; rfl, by rw [List.length_append, len]; rfl, fun j p hj => ?_⟩
      have up : ∀ j p, ps[j]? = some p → MsV (upd (upd H1 t (.tup [.str "classes", .int (1 + (i : Int))])) D (.lst (ps.map V.ref ++ [V.ref t]))) p (.classes (1 + j)) := fun j p h => rd_upd (xt.rd (ms' j p h)) eD1
      by_cases jl : j < ps.length
      · rw [List.getElem?_append_left jl] at hj
        exact up j p hj
      · rw [List.getElem?_append_right (by omega)] at hj
        have j0 : j = ps.length := by
          rcases Nat.lt_or_ge (j - ps.length) 1 with z | z
          · omega
          · rw [List.getElem?_eq_none (by simpa using z)] at hj; cases hj
        subst j0
        rw [Nat.sub_self] at hj
        cases hj
        rw [len]
        exact rd_upd (.inl upd_same) eD1
    · obtain ⟨ps, ex, eD, len, ms'⟩ := h
      match ps, len with
      | [a2, a3, a4, a5], _ =>
      refine ⟨L0, D, _, _, rfl, rfl, ex L0 _ upd_same, eD, s6, fun S nS => ?_⟩
      refine ⟨s6, fun Tx nT => ?_⟩
      refine ⟨s2, fun z1 k1 => ⟨s1, fun z2 k2 => ⟨s2, fun z3 k3 => ⟨s3, fun z4 k4 => ⟨s4, fun z5 k5 => ⟨s6, fun Zs nZ => ?_⟩⟩⟩⟩⟩⟩
      refine ⟨s2, fun o1 l1 => ⟨s1, fun o2 l2 => ⟨s2, fun o3 l3 => ⟨s3, fun o4 l4 => ⟨s4, fun o5 l5 => ⟨s6, fun Os nO => ?_⟩⟩⟩⟩⟩⟩
      have xS := Ex.new (o := .lst ([V.ref t0, .ref t1] ++ [V.ref a2, .ref a3, .ref a4, .ref a5])) nS
      have xT := Ex.new (o := .lst [.str "sums", .str "odds", .str "classes of 1", .str "classes of 2", .str "classes of 3", .str "classes of 4"]) nT
      have c1 := Ex.new (o := .tup [.int 1, .int 1]) k1
      have c2 := Ex.new (o := .tup [.int 0]) k2
      have c3 := Ex.new (o := .tup [.int 0, .int 0]) k3
      have c4 := Ex.new (o := .tup [.int 0, .int 0, .int 0]) k4
      have c5 := Ex.new (o := .tup [.int 0, .int 0, .int 0, .int 0]) k5
      have cZ := Ex.new (o := .lst [.int 0, .ref z1, .ref z2, .ref z3, .ref z4, .ref z5]) nZ
      have b1 := Ex.new (o := .tup [.int 2, .int 1]) l1
      have b2 := Ex.new (o := .tup [.int 1]) l2
      have b3 := Ex.new (o := .tup [.int 1, .int 0]) l3
      have b4 := Ex.new (o := .tup [.int 1, .int 0, .int 0]) l4
      have b5 := Ex.new (o := .tup [.int 1, .int 0, .int 0, .int 0]) l5
      have bO := Ex.new (o := .lst [.int 1, .ref o1, .ref o2, .ref o3, .ref o4, .ref o5]) nO
      have f5 := b5.trans bO
      have f4 := b4.trans f5
      have f3 := b3.trans f4
      have f2 := b2.trans f3
      have f1 := b1.trans f2
      have fZ := cZ.trans f1
      have h5 := c5.trans fZ
      have h4 := c4.trans h5
      have h3 := c3.trans h4
      have h2 := c2.trans h3
      have h1 := c1.trans h2
      have hT := xT.trans h1
      have hS := xS.trans hT
      have eA := ((x0.trans (x1.trans xL)).trans ex).trans hS
      have six := Six.mk (hT S (.lst [.ref t0, .ref t1, .ref a2, .ref a3, .ref a4, .ref a5]) upd_same) (h1 Tx (.lst [.str "sums", .str "odds", .str "classes of 1", .str "classes of 2", .str "classes of 3", .str "classes of 4"]) upd_same) (f1 Zs (.lst [.int 0, .ref z1, .ref z2, .ref z3, .ref z4, .ref z5]) upd_same) (O := Os) (os := [.int 1, .ref o1, .ref o2, .ref o3, .ref o4, .ref o5]) upd_same rfl (fun i m hm => by
        have w0 : Rd _ t0 _ := (((x1.trans xL).trans ex).trans hS).rd (.inl upd_same)
        have w1 : Rd _ t1 _ := ((xL.trans ex).trans hS).rd (.inl upd_same)
        match i, hm with
        | 0, rfl => exact ⟨_, _, _, _, rfl, rfl, rfl, rfl, ⟨t0, rfl, w0⟩, rfl, rfl, rfl⟩
        | 1, rfl => exact ⟨_, _, _, _, rfl, rfl, rfl, rfl, ⟨t1, rfl, w1⟩, rfl, ⟨z1, rfl, .inl (h2 z1 _ upd_same)⟩, ⟨o1, rfl, .inl (f2 o1 _ upd_same)⟩⟩
        | 2, rfl => exact ⟨_, _, _, _, rfl, rfl, rfl, rfl, ⟨a2, rfl, hS.rd (ms' 0 a2 rfl)⟩, rfl, ⟨z2, rfl, .inl (h3 z2 _ upd_same)⟩, ⟨o2, rfl, .inl (f3 o2 _ upd_same)⟩⟩
        | 3, rfl => exact ⟨_, _, _, _, rfl, rfl, rfl, rfl, ⟨a3, rfl, hS.rd (ms' 1 a3 rfl)⟩, rfl, ⟨z3, rfl, .inl (h4 z3 _ upd_same)⟩, ⟨o3, rfl, .inl (f4 o3 _ upd_same)⟩⟩
        | 4, rfl => exact ⟨_, _, _, _, rfl, rfl, rfl, rfl, ⟨a4, rfl, hS.rd (ms' 2 a4 rfl)⟩, rfl, ⟨z4, rfl, .inl (h5 z4 _ upd_same)⟩, ⟨o4, rfl, .inl (f5 o4 _ upd_same)⟩⟩
        | 5, rfl => exact ⟨_, _, _, _, rfl, rfl, rfl, rfl, ⟨a5, rfl, hS.rd (ms' 3 a5 rfl)⟩, rfl, ⟨z5, rfl, .inl (fZ z5 _ upd_same)⟩, ⟨o5, rfl, .inl (bO o5 _ upd_same)⟩⟩)
      have six' := (⟨_, _, _, _, six⟩ : ∃ ps ts zs os, Six _ S Tx Zs Os ps ts zs os)
      obtain ⟨ps6, ts6, zs6, os6, six6⟩ := six'
      refine ⟨_, rfl, S, _, rfl, .inl (.inl six6.eS), ?_⟩
      refine for_enumL (xs := ps6) (fun i σ H' => ∃ y4 y5 y6 y7 : Option V, σ = [some (.ref S), some (.ref Tx), some (.ref Zs), some (.ref Os), y4, y5, y6, y7, none, none] ∧ Ex H H' ∧ Six H' S Tx Zs Os ps6 ts6 zs6 os6) ⟨none, none, none, none, rfl, eA, six6⟩ (fun i σ H1 _ h => ?_) (fun i x σ H1 t hx h nt => ?_) (fun σ H1 h => ?_)
      · obtain ⟨y4, y5, y6, y7, rfl, e1, six1⟩ := h
        exact .inl (.inl six1.eS)
      · obtain ⟨y4, y5, y6, y7, rfl, e1, six1⟩ := h
        obtain ⟨m, hm⟩ := six_has (i := i) (by have := (List.getElem?_eq_some_iff.mp hx).1; rw [six1.lp] at this; exact this)
        obtain ⟨mok, i6⟩ := six_ok hm
        have xt := Ex.new (o := .tup [.int (i : Nat), x]) nt
        obtain ⟨p, tv, z, o, hp, ht, hz, hoo, row⟩ := six1.at_ i m hm
        obtain rfl : p = x := Option.some.inj (hp.symm.trans hx)
        obtain ⟨⟨a, rfl, ha⟩, rfl, rz, ro⟩ := row
        refine ⟨t, _, rfl, .inl (.inl upd_same), rfl, _, _, rfl, _, _, rfl, rfl, ?_⟩
        -- meter
        refine ⟨_, rfl, a, m, rfl, xt.rd ha, mok, fun g H2 f2 ng sa => ?_⟩
        have E2 := xt.trans f2
        have six2 := six1.ex E2
        have told := six_told m (six_mem hm)
        obtain ⟨q1, q2, q3, q4⟩ := d4_ok m (six_mem hm)
        obtain ⟨dg, fs, hg, _⟩ := id sa
        refine ⟨_, rfl, g, dg, fs, rfl, hg, g, m, rfl, sa, _, rfl, g, dg, fs, rfl, hg, g, m, rfl, sa, _, rfl, g, dg, fs, rfl, hg, g, m, rfl, sa, mok, fun z3 H3 f3 az => ?_⟩
        obtain ⟨dg, fs, hg, _⟩ := f3.scl sa
        refine ⟨_, rfl, g, dg, fs, rfl, hg, g, m, rfl, f3.scl sa, mok, fun o4 H4 f4 ao => ⟨s4, fun L5 n5 => ?_⟩⟩
        have x5 := Ex.new (o := .lst [.str m.word, .int (m.size : Nat), z3, o4]) n5
        have E5 := f3.trans (f4.trans x5)
        have six5 := six2.ex E5
        have ha5 := (E2.trans E5).rd ha
        refine ⟨_, rfl, _, d4 m, rfl, .lst upd_same (.cons (.str _) (.cons (.int _) (.cons ((am_dxn (n := g) az).dx.ex (f4.trans x5)) (.cons ((am_dxn (n := g) ao).dx.ex x5) .nil)))), .inl q1, q2, q3, q4, ?_⟩
        refine ⟨_, rfl, a, _, 0, _, rfl, rfl, .inl ha5, rfl, _, rfl, a, _, 1, _, rfl, rfl, .inl ha5, rfl, ?_⟩
        refine ⟨_, rfl, _, rfl, Zs, _, i, z, rfl, rfl, .inl (.inl six5.eZ), atI_nat hz, ?_⟩
        refine ⟨_, rfl, _, rfl, Os, _, i, o, rfl, rfl, .inl (.inl six5.eO), atI_nat hoo, s4, fun L6 n6 => ?_⟩
        have x6 := Ex.new (o := .lst [.str m.word, .int (m.size : Nat), z, o]) n6
        have E6 := (E2.trans E5).trans x6
        refine ⟨_, d4 m, rfl, .lst upd_same (.cons (.str _) (.cons (.int _) (.cons ((am_dxn (n := g) (rz.ex E6)).dx) (.cons ((am_dxn (n := g) (ro.ex E6)).dx) .nil)))), .inl q1, q2, q3, q4, ?_⟩
        generalize (d4 m).shown = tx
        refine ⟨rfl, ?_⟩
        rw [decide_eq_true rfl]
        refine ⟨_, rfl, ?_⟩
        have sa6 := (E5.trans x6).scl sa
        have six6' := six5.ex x6
        obtain ⟨dg, fs, hg, _⟩ := id sa6
        refine ⟨_, rfl, g, dg, fs, rfl, hg, g, m, rfl, sa6, mok, _, rfl, ?_⟩
        refine ⟨_, rfl, _, rfl, Tx, _, i, _, rfl, rfl, .inl (.inl six6'.eT), atI_nat ht, rfl, ?_⟩
        rw [decide_eq_true rfl]
        refine ⟨_, rfl, ?_⟩
        -- zero in meter
        refine ⟨_, rfl, g, dg, fs, rfl, hg, g, m, rfl, sa6, mok, fun z7 H7 f7 az7 => ?_⟩
        have sa7 := f7.scl sa6
        obtain ⟨dg, fs, hg, _⟩ := id sa7
        refine ⟨_, rfl, g, dg, fs, rfl, hg, g, m, z7, _, rfl, sa7, mok, .dx (am_dxn (n := g) az7).dx, zero_short mok, fun H8 f8 => ⟨_, rfl, ?_⟩⟩
        rw [told.1]
        refine ⟨_, rfl, ?_⟩
        -- one is a weight
        have sa8 := f8.scl sa7
        obtain ⟨dg, fs, hg, hn⟩ := sa8.no (x := "is_weight") (by decide +kernel) (by decide +kernel)
        refine ⟨_, rfl, g, dg, fs, rfl, hg, hn, _, rfl, g, dg, fs, rfl, hg, g, m, rfl, sa8, mok, fun o9 H9 f9 ao9 => ?_⟩
        refine ⟨g, m, o9, _, rfl, f9.scl sa8, mok, .dx (am_dxn (n := g) ao9).dx, one_short mok, fun H10 f10 => ⟨_, rfl, ?_⟩⟩
        rw [told.2.1]
        -- zero is none
        have sa10 := (f9.trans f10).scl sa8
        obtain ⟨dg, fs, hg, hn⟩ := sa10.no (x := "is_weight") (by decide +kernel) (by decide +kernel)
        refine ⟨_, rfl, g, dg, fs, rfl, hg, hn, _, rfl, g, dg, fs, rfl, hg, g, m, rfl, sa10, mok, fun z11 H11 f11 az11 => ?_⟩
        refine ⟨g, m, z11, _, rfl, f11.scl sa10, mok, .dx (am_dxn (n := g) az11).dx, zero_short mok, fun H12 f12 => ⟨_, rfl, ?_⟩⟩
        rw [told.2.2]
        have E12 := f7.trans (f8.trans (f9.trans (f10.trans (f11.trans f12))))
        have six12 := six6'.ex E12
        have sa12 := E12.scl sa6
        refine ⟨_, rfl, S, rfl, ⟨_, .inl (.inl six12.eS)⟩, fun D nD => lc_list (xs := ps6) (fun j H' => Ex H12 H' ∧ H' D = some (.lst (if i < j then [V.ref a] else []))) ⟨Ex.new nD, by rw [if_neg (Nat.not_lt_zero i)]; exact upd_same⟩ (fun j H' _ h => .inl (.inl (six12.ex h.1).eS)) (fun j x H' hx h => ?_) (fun H13 h => ?_)⟩
        · obtain ⟨ex, eD⟩ := h
          obtain ⟨n, hn'⟩ := six_has (i := j) (by have := (List.getElem?_eq_some_iff.mp hx).1; rw [six1.lp] at this; exact this)
          obtain ⟨nok, j6⟩ := six_ok hn'
          obtain ⟨p', t', z', o', hp', _, _, _, row'⟩ := (six12.ex ex).at_ j n hn'
          obtain rfl : p' = x := Option.some.inj (hp'.symm.trans hx)
          obtain ⟨⟨b, rfl, hb⟩, _, _, _⟩ := row'
          refine ⟨rfl, _, rfl, _, rfl, b, n, rfl, hb, nok, fun g' H14 f14 ng' sb => ?_⟩
          have sa14 := (ex.trans f14).scl sa12
          obtain ⟨dg, fs, hg, _⟩ := id sa14
          obtain ⟨dg', fs', hg', _⟩ := id sb
          refine ⟨g, dg, fs, .ref C, rfl, hg, .ins hg', nf _ (.inl rfl), .inl ⟨g, g', m, n, rfl, sa14, sb, _, rfl, ?_⟩⟩
          rw [six_inj hm hn', Bool.false_xor]
          refine ⟨_, rfl, ite2 (fun e => ?_) (fun e => ?_)⟩
          · obtain rfl := of_decide_eq_true e
            rw [if_neg (Nat.lt_irrefl i)] at eD
            obtain rfl : a = b := V.ref.inj (Option.some.inj (hp.symm.trans hp'))
            exact ⟨_, rfl, _, f14 D _ eD, by decide, (ex.trans f14).mut nD, by rw [if_pos (Nat.lt_succ_self i)]; exact upd_same⟩
          · have ne : i ≠ j := fun z => e (decide_eq_true z)
            refine ⟨ex.trans f14, ?_⟩
            rw [show (if i < j + 1 then [V.ref a] else []) = (if i < j then [V.ref a] else []) from by
              by_cases l : i < j
              · rw [if_pos l, if_pos (by omega)]
              · rw [if_neg l, if_neg (by omega)]]
            exact f14 D _ eD
        · obtain ⟨ex, eD⟩ := h
          rw [six1.lp, if_pos i6] at eD
          have sh := d1_ok m (six_mem hm)
          have ha13 := ((E2.trans E5).trans (x6.trans (E12.trans ex))).rd ha
          refine ⟨_, rfl, s1, fun L14 n14 => ⟨d1 m, d1 m, .lst (.inl (.inl ((Ex.new n14) D _ eD))) (.cons (.tup (.inl ((Ex.new n14).rd ha13)) (.cons (.str _) (.cons (.int _) .nil))) .nil), .lst (.inl (.inl upd_same)) (.cons (.tup (.inl ((Ex.new n14).rd ha13)) (.cons (.str _) (.cons (.int _) .nil))) .nil), sh.1, sh.1, ?_⟩⟩
          rw [sh.2]
          refine ⟨_, rfl, ?_⟩
          have x14 := Ex.new (o := .lst [.ref a]) n14
          have E14 := ex.trans x14
          have sa14 := E14.scl sa12
          have ha14 := x14.rd ha13
          have six14 := six12.ex E14
          obtain ⟨dg, fs, hg, _⟩ := id sa14
          refine ⟨_, rfl, a, _, 0, _, rfl, rfl, .inl ha14, rfl, _, rfl, _, rfl, g, dg, fs, rfl, hg, g, m, rfl, sa14, mok, fun z15 H15 f15 az15 => ?_⟩
          have sa15 := f15.scl sa14
          obtain ⟨dg, fs, hg, _⟩ := id sa15
          refine ⟨_, rfl, g, dg, fs, rfl, hg, g, m, rfl, sa15, mok, _, rfl, s6, fun T16 n16 => ?_⟩
          have x16 := Ex.new (o := .tup [.non, .str m.word, .ref a, .int 1, z15, .str m.text]) n16
          have E16 := f15.trans x16
          have sa16 := x16.scl sa15
          have six16 := six14.ex E16
          refine ⟨T16, rfl, ⟨_, .inl (.inl upd_same)⟩, fun D2 nD2 => lc_tup (xs := [.non, .str m.word, .ref a, .int 1, z15, .str m.text]) (fun j H' => Ex (upd H15 T16 (.tup [.non, .str m.word, .ref a, .int 1, z15, .str m.text])) H' ∧ H' D2 = some (.lst [])) ⟨Ex.new nD2, upd_same⟩ (fun j H' _ h => .inl (h.1.rd (.inl upd_same))) (fun j x H' hx h => ?_) (fun H17 h => ?_)⟩
          · obtain ⟨ex2, eD2⟩ := h
            have sa17 := ex2.scl sa16
            obtain ⟨dg, fs, hg, _⟩ := id sa17
            have all := E16.trans ex2
            obtain ⟨tb, d, ty, tin, dx⟩ : ∃ tb d, TyK K H' x tb ∧ tb ∈ [Value.type "NoneType", .type "int", .type "str", .type "tuple"] ∧ Dx K H' x d := by
              have mem := List.mem_of_getElem? hx
              simp only [List.mem_cons, List.not_mem_nil, or_false] at mem
              rcases mem with rfl | rfl | rfl | rfl | rfl | rfl
              · exact ⟨_, _, .non, by simp, .non⟩
              · exact ⟨_, _, .str _, by simp, .str _⟩
              · exact ⟨_, _, .tup (.inl (all.rd ha14)), by simp, .tup (all.rd ha14) (.cons (.str _) (.cons (.int _) .nil))⟩
              · exact ⟨_, _, .int _, by simp, .int _⟩
              · have az := (az15.ex x16).ex ex2
                cases hmz : m.zero with
                | n k =>
                  rw [hmz] at az
                  obtain rfl := az
                  exact ⟨_, _, .int _, by simp, .int _⟩
                | c ns =>
                  rw [hmz] at az
                  obtain ⟨p, rfl, hp⟩ := az
                  exact ⟨_, _, .tup (.inl hp), by simp, .tup hp (dxn_ints (n := g) ns).dx⟩
                | o y =>
                  rw [hmz] at az
                  obtain ⟨p, rfl, hp⟩ := az
                  exact ⟨_, _, .tup (.inl hp), by simp, .tup hp (.cons (.int _) (.cons (.int _) .nil))⟩
              · exact ⟨_, _, .str _, by simp, .str _⟩
            refine ⟨rfl, _, rfl, _, rfl, g, dg, fs, tb, rfl, hg, ty, nf _ (.inr tin), .inr ⟨g, m, x, d, rfl, sa17, dx, _, rfl, ?_⟩⟩
            exact ⟨_, rfl, ex2, eD2⟩
          · obtain ⟨ex2, eD2⟩ := h
            have sa17 := ex2.scl sa16
            have six17 := six16.ex ex2
            refine ⟨Nat.zero_le _, fun L18 n18 => ⟨D2, L18, [], rfl, rfl, .inl (.inl ((Ex.new n18) D2 _ eD2)), upd_same, ?_⟩⟩
            have x18 := Ex.new (o := .lst []) n18
            refine ⟨_, rfl, ?_⟩
            have sa18 := x18.scl sa17
            have six18 := six17.ex x18
            refine ⟨_, rfl, S, rfl, ⟨_, .inl (.inl six18.eS)⟩, fun D3 nD3 => lc_list (xs := ps6) (fun j H' => Ex (upd H17 L18 (.lst [])) H' ∧ ∃ acc : List V, H' D3 = some (.lst acc) ∧ acc.length = if i < j then j - 1 else j) ⟨Ex.new nD3, [], upd_same, by rw [if_neg (Nat.not_lt_zero i)]; rfl⟩ (fun j H' _ h => .inl (.inl (six18.ex h.1).eS)) (fun j x H' hx h => ?_) (fun H19 h => ?_)⟩
            · obtain ⟨ex3, acc, eD3, len⟩ := h
              obtain ⟨n, hn'⟩ := six_has (i := j) (by have := (List.getElem?_eq_some_iff.mp hx).1; rw [six1.lp] at this; exact this)
              obtain ⟨nok, j6⟩ := six_ok hn'
              obtain ⟨p', t', z', o', hp', _, _, _, row'⟩ := (six18.ex ex3).at_ j n hn'
              obtain rfl : p' = x := Option.some.inj (hp'.symm.trans hx)
              obtain ⟨⟨b, rfl, hb⟩, _, _, _⟩ := row'
              refine ⟨rfl, _, rfl, _, rfl, b, n, rfl, hb, nok, fun g' H20 f20 ng' sb => ?_⟩
              have sa20 := (ex3.trans f20).scl sa18
              obtain ⟨dg, fs, hg, _⟩ := id sa20
              obtain ⟨dg', fs', hg', _⟩ := id sb
              refine ⟨g, dg, fs, .ref C, rfl, hg, .ins hg', nf _ (.inl rfl), .inl ⟨g, g', m, n, rfl, sa20, sb, _, rfl, ?_⟩⟩
              rw [six_inj hm hn', Bool.true_xor]
              have eD4 := f20 D3 _ eD3
              refine ⟨_, rfl, ?_⟩
              by_cases e : i = j
              · rw [decide_eq_true e]
                refine iteF ⟨ex3.trans f20, acc, eD4, ?_⟩
                rw [len, if_neg (by omega), if_pos (by omega)]
                omega
              · rw [decide_eq_false e]
                refine iteT ⟨_, rfl, acc, eD4, ?_, (ex3.trans f20).mut nD3, _, upd_same, ?_⟩
                · rw [len]
                  refine Nat.lt_of_le_of_lt (show _ ≤ 6 from ?_) (by decide)
                  split <;> omega
                · rw [List.length_append, len, List.length_singleton]
                  by_cases l : i < j
                  · rw [if_pos l, if_pos (by omega)]; omega
                  · rw [if_neg l, if_neg (by omega)]
            · obtain ⟨ex3, acc, eD3, len⟩ := h
              rw [six1.lp, if_pos i6] at len
              refine ⟨D3, acc, rfl, .inl (.inl (.inl eD3)), rfl, ?_⟩
              rw [len]
              exact ⟨_, rfl, _, _, _, _, rfl, e1.trans (E2.trans (E5.trans (x6.trans (E12.trans (E14.trans (E16.trans (ex2.trans (x18.trans ex3)))))))), six18.ex ex3⟩
      · obtain ⟨y4, y5, y6, y7, rfl, e1, six1⟩ := h
        refine ⟨s2, fun L n => ⟨s2, fun M nM => ⟨.list [.int 4, .int 1000000], .list [.int 4, .int 1000000], .lst (.inl (.inl ((Ex.new nM) L _ upd_same))) (.cons (.int _) (.cons (.int _) .nil)), .lst (.inl (.inl upd_same)) (.cons (.int _) (.cons (.int _) .nil)), by decide +kernel, by decide +kernel, ?_⟩⟩⟩
        rw [show PyData.eqv (.list [.int 4, .int 1000000]) (.list [.int 4, .int 1000000]) = true by decide +kernel]
        exact q _ (e1.trans ((Ex.new n).trans (Ex.new nM)))
end
end Gl

set_option exponentiation.threshold 10000
namespace Gl
open PySem PySem.Spec PyProof.Rows L2 ClX
abbrev sLaw : Stmt := topS 30
theorem scLaw : FnScope ["_law_script", "_law_at", "_law_dice_here", "_law_turn", "_law_odds", "_law_told", "_law_sums", "_law_two"] ["_law_script"] (defScope sLaw) := ⟨rfl, rfl, rfl, by decide +kernel, rfl, by decide +kernel, by decide +kernel⟩
theorem Gro.toEx {p : Addr} {H H1 H2 : Hp} (e : Ex H H1) (n : H p = none) (g : Gro p H1 H2) : Ex H H2 := fun b o h => g.st b o (ne_of_none h n) (e b o h)
theorem scl_upd {H : Hp} {g C D : Addr} {m : Ms} {acc : List V} {o : HO} (h : SclAt H g C m) (e : H D = some (.lst acc)) : SclAt (upd H D o) g C m := by
  obtain ⟨dx, fs, h1, h2⟩ := h
  refine ⟨dx, fs, ?_, h2⟩
  rw [upd_ne (fun z => by subst z; rw [h1] at e; cases e)]
  exact h1
theorem cpw5 : CPw ((10 : Int) ^ (60 : Int).toNat) 5 := ⟨by decide, by decide +kernel⟩
theorem new_at {H : Hp} {p : Addr} {o : HO} (_ : Ex H (upd H p o)) : upd H p o p = some o := upd_same
section
variable {P : Program} {w : World} {K : PySem.W.Frag} {mg : Str → Option Value} {base : Heap} {C : Addr} {mc : Value}
def spLaw (K : PySem.W.Frag) : Sp := fun vs H Q _ => ∃ (a : Addr) (ns : List Int), vs = [.ref a] ∧ SqL K H a (ns.map V.int) ∧ ns.length ≤ 63 ∧ ∀ H', Q (.bl true) H'
theorem ok_law {f : Addr} {fd : FuncData} (F : Fun K "law" "law" sLaw f fd) (T : Blt mg) (Z : ClsK K C) (gC : mg "Scale" = some (.ref C)) (rd : CRead K C mc) (Di : DfG P w K mg base 1 "_law_dice" ["_law_script", "_law_at"] (spDice K)) (Sc : DfG P w K mg base 2 "_law_scale" ["_law_dice_here"] spScaleL)
    (Vr : DfG P w K mg base 6 "_law_values_right" ["_law_dice_here", "_law_measure"] spVals) (Sr : DfG P w K mg base 6 "_law_scales_right" [] spScls)
    (Cs : Sm P w K mg base C mc 3 "classes" ["size"] (spClasses C)) (Ss : Sm P w K mg base C mc 3 "sums" [] (spNew C .sums)) (Os : Sm P w K mg base C mc 3 "odds" [] (spNew C .odds))
    (Iw : Dm P w K mg base C 4 "is_weight" ["self", "value"] (spIsWgt K C)) (Ia : Dm P w K mg base C 4 "is_amount" ["self", "value"] (spIsAmt K C)) (Hs : Do1 P w K mg base C 5 "__contains__" ["self", "x"] (spHas K C)) : FnG P w K mg base CX0 7 f fd ["_law_script"] (spLaw K) := by
  refine okG F scLaw (fun vs H Q E h => ?_) (fun cdv A0 outer s H vs Q E hr h => ?_)
  · obtain ⟨a, ns, rfl, _⟩ := h
    rfl
  · obtain ⟨a, ns, rfl, hS, hl, k⟩ := h
    have nd := scLaw.nd
    have hu : (A0.deeper (envOfC "law" (defScope sLaw) s.heap.objs.size f cdv)).units + 64 < cLine := by have := hr.rm.un; omega
    have r1 := hr.mono (show 1 ≤ 6 by decide)
    have r2 := hr.mono (show 2 ≤ 6 by decide)
    have r3 := hr.mono (show 3 ≤ 6 by decide)
    have r4 := hr.mono (show 4 ≤ 6 by decide)
    have r5 := hr.mono (show 5 ≤ 6 by decide)
    refine ⟨_, pss_cons (ps_for PassesOwn.never rfl (pi_range1 rfl T.range (pa_cons (pe_callB (call_max2 rfl) (by rfl) T.max (by decide +kernel) (pa_cons pe_int (pa_cons (pe_callB (call_min2 rfl) (by rfl) T.min (by decide +kernel) (pa_cons pe_int (pa_cons (pe_callB call_len_seq (by rfl) T.len PySem.boot_len (pa_cons (pv 0) pa_nil)) pa_nil))) pa_nil))) pa_nil)) (pg_name (i := 1) nd rfl (.inl rfl))
        (pss_cons (ps_set (i := 2) nd rfl (.inl rfl) (pe_callG Di.G r1 (by rfl) Di.g Di.kp Di.b .nil pass0 (pa_cons (pv 0) (pa_cons (pv 1) pa_nil))))
        (pss_one (ps_for PassesOwn.never rfl (pi_range1 rfl T.range (pa_cons pe_int pa_nil)) (pg_name (i := 3) nd rfl (.inl rfl))
          (pss_one (ps_if (pt_not (pt_val (pe_callG Vr.G hr (by rfl) Vr.g Vr.kp Vr.b .nil pass0 (pa_cons (pv 2) (pa_cons (pe_callG Sc.G r2 (by rfl) Sc.g Sc.kp Sc.b .nil pass0 (pa_cons (pv 2) pa_nil)) pa_nil))))) pss_never pss_nil))))))
      (pss_cons (ps_set (i := 4) nd rfl (.inl rfl) (pe_smeth0 (pe_glob (v := .ref C) (by rfl) gC rfl) rd Os.at_ Os.G r3.rm Os.b .nil pass0))
      (pss_cons (ps_set (i := 5) nd rfl (.inl rfl) (pe_lst (pa_cons (pe_meth (pv 4) Z.cls Iw.at_ Iw.G r4.rm Iw.b .nil pass0 (pa_cons (pe_tup (pa_cons pe_int (pa_cons pe_int pa_nil))) pa_nil)) (pa_cons (pe_meth (pv 4) Z.cls Iw.at_ Iw.G r4.rm Iw.b .nil pass0 (pa_cons (pe_tup (pa_cons pe_int (pa_cons pe_int pa_nil))) pa_nil)) (pa_cons (pe_meth (pv 4) Z.cls Iw.at_ Iw.G r4.rm Iw.b .nil pass0 (pa_cons (pe_tup (pa_cons pe_int (pa_cons pe_int pa_nil))) pa_nil)) pa_nil)))))
      (pss_cons (ps_set (i := 5) nd rfl (.inl rfl) (pe_op op_cat (pv 5) (pe_lst (pa_cons (pe_meth (pv 4) Z.cls Ia.at_ Ia.G r4.rm Ia.b .nil pass0 (pa_cons (pe_tup (pa_cons pe_int (pa_cons pe_int pa_nil))) pa_nil)) (pa_cons (pe_meth (pv 4) Z.cls Iw.at_ Iw.G r4.rm Iw.b .nil pass0 (pa_cons (pe_tup (pa_cons pe_int (pa_cons pe_int pa_nil))) pa_nil)) (pa_cons (pe_cmpR (op_inO Hs.G Hs.o Hs.b pass0 r5.rm) (pe_tup (pa_cons pe_int (pa_cons pe_int pa_nil))) (pv 4) rfl) (pa_cons (pe_cmpR (op_inO Hs.G Hs.o Hs.b pass0 r5.rm) (pe_tup (pa_cons pe_int (pa_cons pe_int pa_nil))) (pv 4) rfl) pa_nil)))))))
      (pss_cons (ps_expr (pe_bm PySem.F.plainAttrs_list PySem.F.slot_list_append PySem.F.type_list_append mt_append (pv 5) (pa_cons (pe_meth (pv 4) Z.cls Ia.at_ Ia.G r4.rm Ia.b .nil pass0 (pa_cons (pe_tup (pa_cons (pe_op op_powW (pe_op op_powW pe_int pe_int) pe_int) (pa_cons pe_int pa_nil))) pa_nil)) pa_nil)))
      (pss_cons (ps_if (pt_cmpR (op_neD hu) (pv 5) (pe_lst (pa_cons pe_bl (pa_cons pe_bl (pa_cons pe_bl (pa_cons pe_bl (pa_cons pe_bl (pa_cons pe_bl (pa_cons pe_bl (pa_cons pe_bl pa_nil))))))))) (nomark _)) pss_never pss_nil)
      (pss_cons (ps_par (i := 6) (j := 7) rfl nd rfl rfl (by decide) rfl rfl (pa_cons (pe_smeth0 (pe_glob (v := .ref C) (by rfl) gC rfl) rd Ss.at_ Ss.G r3.rm Ss.b .nil pass0) (pa_cons (pe_smeth (pe_glob (v := .ref C) (by rfl) gC rfl) rd Cs.at_ Cs.G r3.rm Cs.b .nil pass0 (pa_cons pe_int pa_nil)) pa_nil)) (by rfl))
      (pss_cons (ps_set (i := 5) nd rfl (.inl rfl) (pe_lst (pa_cons (pe_meth (pv 6) Z.cls Iw.at_ Iw.G r4.rm Iw.b .nil pass0 (pa_cons (pe_op op_sub (pe_op op_powW pe_int pe_int) pe_int) pa_nil)) (pa_cons (pe_meth (pv 6) Z.cls Iw.at_ Iw.G r4.rm Iw.b .nil pass0 (pa_cons (pe_op op_powW pe_int pe_int) pa_nil)) (pa_cons (pe_meth (pv 6) Z.cls Ia.at_ Ia.G r4.rm Ia.b .nil pass0 (pa_cons (pe_op op_powW pe_int pe_int) pa_nil)) pa_nil)))))
      (pss_cons (ps_set (i := 5) nd rfl (.inl rfl) (pe_op op_cat (pv 5) (pe_lst (pa_cons (pe_meth (pv 7) Z.cls Iw.at_ Iw.G r4.rm Iw.b .nil pass0 (pa_cons (pe_tup (pa_cons pe_int (pa_cons (pe_op op_sub (pe_op op_powW pe_int pe_int) pe_int) pa_nil))) pa_nil)) (pa_cons (pe_meth (pv 7) Z.cls Iw.at_ Iw.G r4.rm Iw.b .nil pass0 (pa_cons (pe_tup (pa_cons pe_int (pa_cons (pe_op op_powW pe_int pe_int) pa_nil))) pa_nil)) (pa_cons (pe_meth (pv 7) Z.cls Ia.at_ Ia.G r4.rm Ia.b .nil pass0 (pa_cons (pe_tup (pa_cons (pe_op op_powW pe_int pe_int) (pa_cons (pe_un un_neg pe_int) pa_nil))) pa_nil)) pa_nil))))))
      (pss_one (ps_ret (pe_and (pe_cmpR (op_eqD hu) (pv 5) (pe_op op_rep (pe_lst (pa_cons pe_bl (pa_cons pe_bl (pa_cons pe_bl pa_nil)))) pe_int) (nomark _)) (pe_one (pe_callG0 Sr.G hr (by rfl) Sr.g Sr.kp Sr.b .nil pass0))))))))))))), ?_⟩
    refine ⟨_, rfl, a, _, rfl, .inl hS, _, _, rfl, _, _, rfl, _, rfl, ?_, ?_, ?_⟩
    · split <;> split <;> omega
    · split <;> split <;> (try rw [List.length_map] at *) <;> omega
    refine for_range (fun i σ H' => ∃ y1 y2 y3 : Option V, σ = [some (.ref a), y1, y2, y3, none, none, none, none] ∧ Ex H H') ⟨none, none, none, rfl, Ex.refl H⟩ (fun i σ H1 hi h => ?_) (fun σ H1 h => ?_)
    · obtain ⟨y1, y2, y3, rfl, e1⟩ := h
      refine ⟨_, rfl, _, rfl, a, ns, i, by rw [Int.zero_add]; rfl, e1.sqL hS, hl, fun H2 p e2 np dp => ?_⟩
      refine ⟨3, rfl, by decide, by decide, ?_⟩
      refine for_range (n := 3) (fun j σ H' => ∃ y3 : Option V, σ = [some (.ref a), some (.int (0 + (i : Int))), some (.ref p), y3, none, none, none, none] ∧ Ex H1 H' ∧ Dice H' p) ⟨y3, rfl, e2, dp⟩ (fun j σ H3 hj h => ?_) (fun σ H3 h => ?_)
      · obtain ⟨y3, rfl, e3, d3⟩ := h
        refine ⟨_, rfl, _, rfl, p, rfl, d3, fun m b H4 mok g4 hm => ?_⟩
        refine ⟨p, b, m, rfl, g4.di, hm, mok, fun H5 g5 => ⟨true, rfl, ?_⟩⟩
        refine ⟨_, rfl, Gro.toEx e3 np (g4.trans g5), g5.di⟩
      · obtain ⟨y3, rfl, e3, d3⟩ := h
        exact ⟨_, _, _, rfl, e1.trans e3⟩
    · obtain ⟨y1, y2, y3, rfl, e1⟩ := h
      have s3 : 3 ≤ sizeLine := by decide
      have s8 : 8 ≤ sizeLine := by decide
      refine ⟨rfl, rfl, fun g J0 ex0 ng sa0 => ?_⟩
      obtain ⟨dg1, fs1, hg1, hn1⟩ := sa0.no (x := "is_weight") (by decide +kernel) (by decide +kernel)
      refine ⟨_, rfl, g, dg1, fs1, rfl, hg1, hn1, by show 2 ≤ sizeLine; decide, fun t1 n1 => ?_⟩
      have x1 := Ex.new (o := .tup [.int (1000000), .int (999999)]) n1
      have sa2 := (x1).scl sa0
      refine ⟨g, .odds, .ref t1, .tuple [.int (1000000), .int (999999)], rfl, sa2, trivial, .dx (.tup (.inl upd_same) (.cons (.int _) (.cons (.int _) .nil))), ⟨by show 2 ≤ 1000; decide, trivial⟩, fun H1 f1 => ?_⟩
      have sa3 := (f1).scl sa2
      obtain ⟨dg4, fs4, hg4, hn4⟩ := sa3.no (x := "is_weight") (by decide +kernel) (by decide +kernel)
      refine ⟨_, rfl, g, dg4, fs4, rfl, hg4, hn4, by show 2 ≤ sizeLine; decide, fun t4 n4 => ?_⟩
      have x4 := Ex.new (o := .tup [.int (1000001), .int (1)]) n4
      have sa5 := (x4).scl sa3
      refine ⟨g, .odds, .ref t4, .tuple [.int (1000001), .int (1)], rfl, sa5, trivial, .dx (.tup (.inl upd_same) (.cons (.int _) (.cons (.int _) .nil))), ⟨by show 2 ≤ 1000; decide, trivial⟩, fun H4 f4 => ?_⟩
      have sa6 := (f4).scl sa5
      obtain ⟨dg7, fs7, hg7, hn7⟩ := sa6.no (x := "is_weight") (by decide +kernel) (by decide +kernel)
      refine ⟨_, rfl, g, dg7, fs7, rfl, hg7, hn7, by show 2 ≤ sizeLine; decide, fun t7 n7 => ?_⟩
      have x7 := Ex.new (o := .tup [.int (1), .int (1)]) n7
      have sa8 := (x7).scl sa6
      refine ⟨g, .odds, .ref t7, .tuple [.int (1), .int (1)], rfl, sa8, trivial, .dx (.tup (.inl upd_same) (.cons (.int _) (.cons (.int _) .nil))), ⟨by show 2 ≤ 1000; decide, trivial⟩, fun H7 f7 => ?_⟩
      have sa9 := (f7).scl sa8
      refine ⟨s3, fun L nL => ?_⟩
      have xL := Ex.new (o := .lst [.bl (wgtB (.odds) (.tuple [.int (1000000), .int (999999)])), .bl (wgtB (.odds) (.tuple [.int (1000001), .int (1)])), .bl (wgtB (.odds) (.tuple [.int (1), .int (1)]))]) nL
      have sa11 := (xL).scl sa9
      have eL0 := new_at xL
      obtain ⟨dg12, fs12, hg12, hn12⟩ := sa11.no (x := "is_amount") (by decide +kernel) (by decide +kernel)
      refine ⟨_, rfl, _, rfl, g, dg12, fs12, rfl, hg12, hn12, by show 2 ≤ sizeLine; decide, fun t12 n12 => ?_⟩
      have x12 := Ex.new (o := .tup [.int (1), .int (7)]) n12
      have sa13 := (x12).scl sa11
      have eL14 := (x12) _ _ eL0
      refine ⟨g, .odds, .ref t12, .tuple [.int (1), .int (7)], rfl, sa13, trivial, .dx (.tup (.inl upd_same) (.cons (.int _) (.cons (.int _) .nil))), ⟨by show 2 ≤ 1000; decide, trivial⟩, fun H12 f12 => ?_⟩
      have sa15 := (f12).scl sa13
      have eL16 := (f12) _ _ eL14
      obtain ⟨dg17, fs17, hg17, hn17⟩ := sa15.no (x := "is_weight") (by decide +kernel) (by decide +kernel)
      refine ⟨_, rfl, g, dg17, fs17, rfl, hg17, hn17, by show 2 ≤ sizeLine; decide, fun t17 n17 => ?_⟩
      have x17 := Ex.new (o := .tup [.int (1), .int (7)]) n17
      have sa18 := (x17).scl sa15
      have eL19 := (x17) _ _ eL16
      refine ⟨g, .odds, .ref t17, .tuple [.int (1), .int (7)], rfl, sa18, trivial, .dx (.tup (.inl upd_same) (.cons (.int _) (.cons (.int _) .nil))), ⟨by show 2 ≤ 1000; decide, trivial⟩, fun H17 f17 => ?_⟩
      have sa20 := (f17).scl sa18
      have eL21 := (f17) _ _ eL19
      obtain ⟨dg22, fs22, hg22, hn22⟩ := sa20.no (x := "is_amount") (by decide +kernel) (by decide +kernel)
      refine ⟨by show 2 ≤ sizeLine; decide, fun t22 n22 => ?_⟩
      have x22 := Ex.new (o := .tup [.int (0), .int (1)]) n22
      have sa23 := (x22).scl sa20
      have eL24 := (x22) _ _ eL21
      refine ⟨_, rfl, g, dg22, fs22, rfl, (x22 _ _ hg22), g, .odds, .ref t22, .tuple [.int (0), .int (1)], rfl, sa23, trivial, .dx (.tup (.inl upd_same) (.cons (.int _) (.cons (.int _) .nil))), ⟨by show 2 ≤ 1000; decide, trivial⟩, fun H22 f22 => ⟨_, rfl, ?_⟩⟩
      have sa25 := (f22).scl sa23
      have eL26 := (f22) _ _ eL24
      obtain ⟨dg27, fs27, hg27, hn27⟩ := sa25.no (x := "is_amount") (by decide +kernel) (by decide +kernel)
      refine ⟨by show 2 ≤ sizeLine; decide, fun t27 n27 => ?_⟩
      have x27 := Ex.new (o := .tup [.int (4), .int (2)]) n27
      have sa28 := (x27).scl sa25
      have eL29 := (x27) _ _ eL26
      refine ⟨_, rfl, g, dg27, fs27, rfl, (x27 _ _ hg27), g, .odds, .ref t27, .tuple [.int (4), .int (2)], rfl, sa28, trivial, .dx (.tup (.inl upd_same) (.cons (.int _) (.cons (.int _) .nil))), ⟨by show 2 ≤ 1000; decide, trivial⟩, fun H27 f27 => ⟨_, rfl, ?_⟩⟩
      have sa30 := (f27).scl sa28
      have eL31 := (f27) _ _ eL29
      refine ⟨by show 4 ≤ sizeLine; decide, fun M nM => ?_⟩
      have xM := Ex.new (o := .lst [.bl (amtB (.odds) (.tuple [.int (1), .int (7)])), .bl (wgtB (.odds) (.tuple [.int (1), .int (7)])), .bl (xor false (amtB (.odds) (.tuple [.int (0), .int (1)]))), .bl (xor false (amtB (.odds) (.tuple [.int (4), .int (2)])))]) nM
      have sa32 := (xM).scl sa30
      have eL33 := (xM) _ _ eL31
      refine ⟨L, M, _, _, rfl, rfl, eL33, upd_same, by show 7 ≤ sizeLine; decide, fun R nR => ?_⟩
      have xR := Ex.new (o := .lst ([V.bl (wgtB (.odds) (.tuple [.int (1000000), .int (999999)])), V.bl (wgtB (.odds) (.tuple [.int (1000001), .int (1)])), V.bl (wgtB (.odds) (.tuple [.int (1), .int (1)]))] ++ [.bl (amtB (.odds) (.tuple [.int (1), .int (7)])), .bl (wgtB (.odds) (.tuple [.int (1), .int (7)])), .bl (xor false (amtB (.odds) (.tuple [.int (0), .int (1)]))), .bl (xor false (amtB (.odds) (.tuple [.int (4), .int (2)])))])) nR
      have sa34 := (xR).scl sa32
      have eL35 := (xR) _ _ eL33
      have eR := new_at xR
      refine ⟨_, rfl, .inl ⟨rfl, _, .inl (.inl eR)⟩, ?_⟩
      obtain ⟨dg37, fs37, hg37, hn37⟩ := sa34.no (x := "is_amount") (by decide +kernel) (by decide +kernel)
      refine ⟨_, rfl, g, dg37, fs37, rfl, hg37, hn37, 10, 60, rfl, rfl, cpw60, _, _, rfl, rfl, cpw5, by show 2 ≤ sizeLine; decide, fun t37 n37 => ?_⟩
      have x37 := Ex.new (o := .tup [.int (((10 : Int) ^ (60 : Int).toNat) ^ (5 : Int).toNat), .int (1)]) n37
      have sa38 := (x37).scl sa34
      have eL39 := (x37) _ _ eR
      refine ⟨g, .odds, .ref t37, .tuple [.int (((10 : Int) ^ (60 : Int).toNat) ^ (5 : Int).toNat), .int (1)], rfl, sa38, trivial, .dx (.tup (.inl upd_same) (.cons (.int _) (.cons (.int _) .nil))), ⟨by show 2 ≤ 1000; decide, trivial⟩, fun H37 f37 => ?_⟩
      have sa40 := (f37).scl sa38
      have eL41 := (f37) _ _ eL39
      refine ⟨R, _, _, rfl, rfl, eL41, by decide, ?_⟩
      have sb := scl_upd (o := .lst (([V.bl (wgtB (.odds) (.tuple [.int (1000000), .int (999999)])), V.bl (wgtB (.odds) (.tuple [.int (1000001), .int (1)])), V.bl (wgtB (.odds) (.tuple [.int (1), .int (1)]))] ++ [.bl (amtB (.odds) (.tuple [.int (1), .int (7)])), .bl (wgtB (.odds) (.tuple [.int (1), .int (7)])), .bl (xor false (amtB (.odds) (.tuple [.int (0), .int (1)]))), .bl (xor false (amtB (.odds) (.tuple [.int (4), .int (2)])))]) ++ [.bl (amtB (.odds) (.tuple [.int (((10 : Int) ^ (60 : Int).toNat) ^ (5 : Int).toNat), .int (1)]))])) sa40 eL41
      refine ⟨_, rfl, s8, fun N nN => ?_⟩
      have xN := Ex.new (o := .lst [.bl true, .bl false, .bl false, .bl true, .bl false, .bl false, .bl false, .bl true]) nN
      have sa43 := (xN).scl sb
      refine ⟨.list [.bool (wgtB (.odds) (.tuple [.int (1000000), .int (999999)])), .bool (wgtB (.odds) (.tuple [.int (1000001), .int (1)])), .bool (wgtB (.odds) (.tuple [.int (1), .int (1)])), .bool (amtB (.odds) (.tuple [.int (1), .int (7)])), .bool (wgtB (.odds) (.tuple [.int (1), .int (7)])), .bool (xor false (amtB (.odds) (.tuple [.int (0), .int (1)]))), .bool (xor false (amtB (.odds) (.tuple [.int (4), .int (2)]))), .bool (amtB (.odds) (.tuple [.int (((10 : Int) ^ (60 : Int).toNat) ^ (5 : Int).toNat), .int (1)]))], .list [.bool true, .bool false, .bool false, .bool true, .bool false, .bool false, .bool false, .bool true], .lst (.inl (.inl (xN R _ upd_same))) (.cons (.bl _) (.cons (.bl _) (.cons (.bl _) (.cons (.bl _) (.cons (.bl _) (.cons (.bl _) (.cons (.bl _) (.cons (.bl _) .nil)))))))), .lst (.inl (.inl upd_same)) (.cons (.bl _) (.cons (.bl _) (.cons (.bl _) (.cons (.bl _) (.cons (.bl _) (.cons (.bl _) (.cons (.bl _) (.cons (.bl _) .nil)))))))), by decide +kernel, by decide +kernel, ?_⟩
      rw [show PyData.eqv (.list [.bool (wgtB (.odds) (.tuple [.int (1000000), .int (999999)])), .bool (wgtB (.odds) (.tuple [.int (1000001), .int (1)])), .bool (wgtB (.odds) (.tuple [.int (1), .int (1)])), .bool (amtB (.odds) (.tuple [.int (1), .int (7)])), .bool (wgtB (.odds) (.tuple [.int (1), .int (7)])), .bool (xor false (amtB (.odds) (.tuple [.int (0), .int (1)]))), .bool (xor false (amtB (.odds) (.tuple [.int (4), .int (2)]))), .bool (amtB (.odds) (.tuple [.int (((10 : Int) ^ (60 : Int).toNat) ^ (5 : Int).toNat), .int (1)]))]) (.list [.bool true, .bool false, .bool false, .bool true, .bool false, .bool false, .bool false, .bool true]) = true by decide +kernel]
      refine ⟨_, rfl, ?_⟩
      refine ⟨rfl, rfl, fun gs J6 ex6 ng6 ss0 => ?_⟩
      refine ⟨rfl, 2, rfl, by decide, by decide, fun gt J7 ex7 ng7 st0 => ⟨_, _, rfl, ?_⟩⟩
      have c2 : (Ms.classes 2).ok := ⟨by decide, by decide⟩
      have sa44 := (ex7).scl ss0
      obtain ⟨dg45, fs45, hg45, hn45⟩ := sa44.no (x := "is_weight") (by decide +kernel) (by decide +kernel)
      refine ⟨_, rfl, gs, dg45, fs45, rfl, hg45, hn45, 10, 40, rfl, rfl, cpw40, _, _, rfl, rfl, gs, .sums, .int ((10 : Int) ^ (40 : Int).toNat - 1), .int ((10 : Int) ^ (40 : Int).toNat - 1), rfl, sa44, trivial, .dx (.int _), trivial, fun H45 f45 => ?_⟩
      have sa46 := (f45).scl sa44
      have sa47 := (f45).scl st0
      obtain ⟨dg48, fs48, hg48, hn48⟩ := sa46.no (x := "is_weight") (by decide +kernel) (by decide +kernel)
      refine ⟨_, rfl, gs, dg48, fs48, rfl, hg48, hn48, 10, 40, rfl, rfl, cpw40, gs, .sums, .int ((10 : Int) ^ (40 : Int).toNat), .int ((10 : Int) ^ (40 : Int).toNat), rfl, sa46, trivial, .dx (.int _), trivial, fun H48 f48 => ?_⟩
      have sa49 := (f48).scl sa46
      have sa50 := (f48).scl sa47
      obtain ⟨dg51, fs51, hg51, hn51⟩ := sa49.no (x := "is_amount") (by decide +kernel) (by decide +kernel)
      refine ⟨_, rfl, gs, dg51, fs51, rfl, hg51, hn51, 10, 40, rfl, rfl, cpw40, gs, .sums, .int ((10 : Int) ^ (40 : Int).toNat), .int ((10 : Int) ^ (40 : Int).toNat), rfl, sa49, trivial, .dx (.int _), trivial, fun H51 f51 => ?_⟩
      have sa52 := (f51).scl sa49
      have sa53 := (f51).scl sa50
      refine ⟨s3, fun L2 nL2 => ?_⟩
      have xL2 := Ex.new (o := .lst [.bl (wgtB (.sums) (.int ((10 : Int) ^ (40 : Int).toNat - 1))), .bl (wgtB (.sums) (.int ((10 : Int) ^ (40 : Int).toNat))), .bl (amtB (.sums) (.int ((10 : Int) ^ (40 : Int).toNat)))]) nL2
      have sa54 := (xL2).scl sa52
      have sa55 := (xL2).scl sa53
      have eL2 := new_at xL2
      obtain ⟨dg56, fs56, hg56, hn56⟩ := sa55.no (x := "is_weight") (by decide +kernel) (by decide +kernel)
      refine ⟨_, rfl, _, rfl, gt, dg56, fs56, rfl, hg56, hn56, 10, 40, rfl, rfl, cpw40, _, _, rfl, rfl, by show 2 ≤ sizeLine; decide, fun t56 n56 => ?_⟩
      have x56 := Ex.new (o := .tup [.int (0), .int ((10 : Int) ^ (40 : Int).toNat - 1)]) n56
      have sa57 := (x56).scl sa54
      have sa58 := (x56).scl sa55
      have eL59 := (x56) _ _ eL2
      refine ⟨gt, .classes 2, .ref t56, .tuple [.int (0), .int ((10 : Int) ^ (40 : Int).toNat - 1)], rfl, sa58, c2, .dx (.tup (.inl upd_same) (.cons (.int _) (.cons (.int _) .nil))), ⟨by show 2 ≤ 1000; decide, trivial⟩, fun H56 f56 => ?_⟩
      have sa60 := (f56).scl sa57
      have sa61 := (f56).scl sa58
      have eL62 := (f56) _ _ eL59
      obtain ⟨dg63, fs63, hg63, hn63⟩ := sa61.no (x := "is_weight") (by decide +kernel) (by decide +kernel)
      refine ⟨_, rfl, gt, dg63, fs63, rfl, hg63, hn63, 10, 40, rfl, rfl, cpw40, by show 2 ≤ sizeLine; decide, fun t63 n63 => ?_⟩
      have x63 := Ex.new (o := .tup [.int (1), .int ((10 : Int) ^ (40 : Int).toNat)]) n63
      have sa64 := (x63).scl sa60
      have sa65 := (x63).scl sa61
      have eL66 := (x63) _ _ eL62
      refine ⟨gt, .classes 2, .ref t63, .tuple [.int (1), .int ((10 : Int) ^ (40 : Int).toNat)], rfl, sa65, c2, .dx (.tup (.inl upd_same) (.cons (.int _) (.cons (.int _) .nil))), ⟨by show 2 ≤ 1000; decide, trivial⟩, fun H63 f63 => ?_⟩
      have sa67 := (f63).scl sa64
      have sa68 := (f63).scl sa65
      have eL69 := (f63) _ _ eL66
      obtain ⟨dg70, fs70, hg70, hn70⟩ := sa68.no (x := "is_amount") (by decide +kernel) (by decide +kernel)
      refine ⟨_, rfl, gt, dg70, fs70, rfl, hg70, hn70, 10, 40, rfl, rfl, cpw40, _, rfl, by show 2 ≤ sizeLine; decide, fun t70 n70 => ?_⟩
      have x70 := Ex.new (o := .tup [.int ((10 : Int) ^ (40 : Int).toNat), .int (-1)]) n70
      have sa71 := (x70).scl sa67
      have sa72 := (x70).scl sa68
      have eL73 := (x70) _ _ eL69
      refine ⟨gt, .classes 2, .ref t70, .tuple [.int ((10 : Int) ^ (40 : Int).toNat), .int (-1)], rfl, sa72, c2, .dx (.tup (.inl upd_same) (.cons (.int _) (.cons (.int _) .nil))), ⟨by show 2 ≤ 1000; decide, trivial⟩, fun H70 f70 => ?_⟩
      have sa74 := (f70).scl sa71
      have sa75 := (f70).scl sa72
      have eL76 := (f70) _ _ eL73
      refine ⟨s3, fun M2 nM2 => ?_⟩
      have xM2 := Ex.new (o := .lst [.bl (wgtB (.classes 2) (.tuple [.int (0), .int ((10 : Int) ^ (40 : Int).toNat - 1)])), .bl (wgtB (.classes 2) (.tuple [.int (1), .int ((10 : Int) ^ (40 : Int).toNat)])), .bl (amtB (.classes 2) (.tuple [.int ((10 : Int) ^ (40 : Int).toNat), .int (-1)]))]) nM2
      have sa77 := (xM2).scl sa74
      have sa78 := (xM2).scl sa75
      have eL79 := (xM2) _ _ eL76
      refine ⟨L2, M2, _, _, rfl, rfl, eL79, upd_same, by show 6 ≤ sizeLine; decide, fun R2 nR2 => ?_⟩
      have xR2 := Ex.new (o := .lst ([V.bl (wgtB (.sums) (.int ((10 : Int) ^ (40 : Int).toNat - 1))), V.bl (wgtB (.sums) (.int ((10 : Int) ^ (40 : Int).toNat))), V.bl (amtB (.sums) (.int ((10 : Int) ^ (40 : Int).toNat)))] ++ [.bl (wgtB (.classes 2) (.tuple [.int (0), .int ((10 : Int) ^ (40 : Int).toNat - 1)])), .bl (wgtB (.classes 2) (.tuple [.int (1), .int ((10 : Int) ^ (40 : Int).toNat)])), .bl (amtB (.classes 2) (.tuple [.int ((10 : Int) ^ (40 : Int).toNat), .int (-1)]))])) nR2
      refine ⟨_, rfl, s3, fun L4 n4 => ⟨L4, 2, _, rfl, rfl, upd_same, by decide, by decide, by show 6 ≤ sizeLine; decide, fun L5 n5 => ?_⟩⟩
      have x4 := Ex.new (o := .lst [.bl true, .bl false, .bl true]) n4
      have x5 := Ex.new (o := .lst (List.replicate (2 : Int).toNat [V.bl true, .bl false, .bl true]).flatten) n5
      refine ⟨.list [.bool (wgtB (.sums) (.int ((10 : Int) ^ (40 : Int).toNat - 1))), .bool (wgtB (.sums) (.int ((10 : Int) ^ (40 : Int).toNat))), .bool (amtB (.sums) (.int ((10 : Int) ^ (40 : Int).toNat))), .bool (wgtB (.classes 2) (.tuple [.int (0), .int ((10 : Int) ^ (40 : Int).toNat - 1)])), .bool (wgtB (.classes 2) (.tuple [.int (1), .int ((10 : Int) ^ (40 : Int).toNat)])), .bool (amtB (.classes 2) (.tuple [.int ((10 : Int) ^ (40 : Int).toNat), .int (-1)]))], .list [.bool true, .bool false, .bool true, .bool true, .bool false, .bool true], .lst (.inl (.inl ((x4.trans x5) R2 _ upd_same))) (.cons (.bl _) (.cons (.bl _) (.cons (.bl _) (.cons (.bl _) (.cons (.bl _) (.cons (.bl _) .nil)))))), .lst (.inl (.inl upd_same)) (.cons (.bl _) (.cons (.bl _) (.cons (.bl _) (.cons (.bl _) (.cons (.bl _) (.cons (.bl _) .nil)))))), by decide +kernel, by decide +kernel, ?_⟩
      rw [show PyData.eqv (.list [.bool (wgtB (.sums) (.int ((10 : Int) ^ (40 : Int).toNat - 1))), .bool (wgtB (.sums) (.int ((10 : Int) ^ (40 : Int).toNat))), .bool (amtB (.sums) (.int ((10 : Int) ^ (40 : Int).toNat))), .bool (wgtB (.classes 2) (.tuple [.int (0), .int ((10 : Int) ^ (40 : Int).toNat - 1)])), .bool (wgtB (.classes 2) (.tuple [.int (1), .int ((10 : Int) ^ (40 : Int).toNat)])), .bool (amtB (.classes 2) (.tuple [.int ((10 : Int) ^ (40 : Int).toNat), .int (-1)]))]) (.list [.bool true, .bool false, .bool true, .bool true, .bool false, .bool true]) = true by decide +kernel]
      exact ⟨_, rfl, rfl, fun H9 _ => k H9⟩
end
end Gl

namespace Gl
open PySem PySem.Spec PyProof.Rows L2 ClX
section
/-- a def of the text, by what the top has left -/
structure Has (K : PySem.W.Frag) (x : Str) (st : Stmt) (f : Addr) : Prop where
  at_ : PySem.W.nsIn K mainGlobals x = some (some (.ref f))
  fn : ∃ fd : FuncData, Fun K x x st f fd
theorem Has.mk' {K : PySem.W.Frag} {x : Str} {st : Stmt} {f : Addr} {oc kV doc pm cdv ct : Value} {od an : Option Addr} {sl : Array (Option Value)}
    (a : PySem.W.nsIn K mainGlobals x = some (some (.ref f)))
    (l : K.lookup f = some ⟨oc, od, .func (PySem.W.fnOf x x (defArgs st) (defBody st) (defScope st) .none kV doc pm an cdv ct), sl⟩)
    (c : PySem.W.codeIn K cdv x = true) (k : PySem.W.keepIn K (.ref f) = true) : Has K x st f := ⟨a, _, fun_mk l c k⟩
/-- a method -/
structure HasM (K : PySem.W.Frag) (C : Addr) (x y : Str) (st : Stmt) (f : Addr) : Prop where
  at_ : PySem.W.findIn K (.ref C) x = some (some (.ref f))
  isf : PySem.W.isFn K (.ref f) = true
  fn : ∃ fd : FuncData, Fun K x y st f fd
theorem HasM.mk' {K : PySem.W.Frag} {C : Addr} {x y : Str} {st : Stmt} {f : Addr} {oc kV doc pm cdv ct : Value} {od an : Option Addr} {sl : Array (Option Value)}
    (a : PySem.W.findIn K (.ref C) x = some (some (.ref f))) (i : PySem.W.isFn K (.ref f) = true)
    (l : K.lookup f = some ⟨oc, od, .func (PySem.W.fnOf x y (defArgs st) (defBody st) (defScope st) .none kV doc pm an cdv ct), sl⟩)
    (c : PySem.W.codeIn K cdv y = true) (k : PySem.W.keepIn K (.ref f) = true) : HasM K C x y st f := ⟨a, i, _, fun_mk l c k⟩
/-- a staticmethod -/
structure HasS (K : PySem.W.Frag) (C : Addr) (mc : Value) (x y : Str) (st : Stmt) (p f : Addr) : Prop where
  sm : SMet K C mc x p f
  fn : ∃ fd : FuncData, Fun K x y st f fd
theorem HasS.mk' {K : PySem.W.Frag} {C : Addr} {mc : Value} {x y : Str} {st : Stmt} {p f : Addr} {oc kV doc pm cdv ct : Value} {od an : Option Addr} {sl : Array (Option Value)} {rest : List Value}
    (a : PySem.W.findCls K (.ref C) mc x = some (.get (.builtin "staticmethod.__get__") (.ref p) .none (.ref C))) (r : PySem.W.recIn K p "staticmethod" = some (.ref f :: rest))
    (l : K.lookup f = some ⟨oc, od, .func (PySem.W.fnOf x y (defArgs st) (defBody st) (defScope st) .none kV doc pm an cdv ct), sl⟩)
    (c : PySem.W.codeIn K cdv y = true) (k : PySem.W.keepIn K (.ref f) = true) : HasS K C mc x y st p f := ⟨⟨a, ⟨rest, r⟩, k⟩, _, fun_mk l c k⟩
/-- a property -/
structure HasP (K : PySem.W.Frag) (C : Addr) (x y : Str) (st : Stmt) (p f : Addr) : Prop where
  pr : PropOf K C x p f
  fn : ∃ fd : FuncData, Fun K x y st f fd
theorem HasP.mk' {K : PySem.W.Frag} {C : Addr} {x y : Str} {st : Stmt} {p f : Addr} {oc kV doc pm cdv ct : Value} {od an : Option Addr} {sl : Array (Option Value)} {rest : List Value}
    (a : PySem.W.findIn K (.ref C) x = some (some (.ref p))) (g : PySem.W.specialIn K (.ref p) "__get__" = some (some (.builtin "property.__get__"))) (t : PySem.W.takesIn K (.ref p) = some true) (r : PySem.W.recIn K p "property" = some (.ref f :: rest))
    (l : K.lookup f = some ⟨oc, od, .func (PySem.W.fnOf x y (defArgs st) (defBody st) (defScope st) .none kV doc pm an cdv ct), sl⟩)
    (c : PySem.W.codeIn K cdv y = true) (k : PySem.W.keepIn K (.ref f) = true) : HasP K C x y st p f := ⟨⟨a, g, t, ⟨rest, r⟩⟩, _, fun_mk l c k⟩
/-- what the law rests on -/
structure Facts (K : PySem.W.Frag) (C : Addr) : Prop where
  aC : PySem.W.nsIn K mainGlobals "Scale" = some (some (.ref C))
  d0 : ∃ f, Has K "is_whole" sWhole f
  d1 : ∃ f, Has K "are_whole" sWholes f
  d2 : ∃ f, Has K "is_index" sIndex f
  d3 : ∃ f, Has K "_is_part" sPart f
  d4 : ∃ f, Has K "_is_lowest" sLowest f
  d5 : ∃ f, Has K "_are_odds" sAreOdds f
  d6 : ∃ f, Has K "_law_dice" sDice f
  d7 : ∃ f, Has K "_law_pull" sPull f
  d8 : ∃ f, Has K "_law_pick" sPick f
  d9 : ∃ f, Has K "_law_scale" sScaleL f
  d10 : ∃ f, Has K "_law_lowest" sLowL f
  d11 : ∃ f, Has K "_law_weight" sWgtL f
  d12 : ∃ f, Has K "_law_made" sMadeL f
  d13 : ∃ f, Has K "_law_amount" sAmtL f
  d14 : ∃ f, Has K "_law_whole" sWhlL f
  d15 : ∃ f, Has K "_law_amount_due" sAmtDue f
  d16 : ∃ f, Has K "_law_weight_due" sWgtDue f
  d17 : ∃ f, Has K "_law_bent" sBent f
  d18 : ∃ f, Has K "_law_values_right" sVals f
  d19 : ∃ f, Has K "_law_scales_right" sScls f
  d20 : ∃ f, Has K "law" sLaw f
  m0 : ∃ f, HasM K C "__init__" "Scale.__init__" sInit f
  m1 : ∃ f, HasM K C "is_weight" "Scale.is_weight" sIsWgt f
  m2 : ∃ f, HasM K C "is_amount" "Scale.is_amount" sIsAmt f
  m3 : ∃ f, HasM K C "__contains__" "Scale.__contains__" sHas f
  m4 : ∃ f, HasM K C "__eq__" "Scale.__eq__" sEqM f
  m5 : ∃ f, HasM K C "__str__" "Scale.__str__" sStrM f
  s0 : ∃ p f, HasS K C (.type "type") "sums" "Scale.sums" sSums p f
  s1 : ∃ p f, HasS K C (.type "type") "classes" "Scale.classes" sClasses p f
  s2 : ∃ p f, HasS K C (.type "type") "odds" "Scale.odds" sOddsM p f
  p0 : ∃ p f, HasP K C "word" "Scale.word" sWord p f
  p1 : ∃ p f, HasP K C "size" "Scale.size" sSize p f
  p2 : ∃ p f, HasP K C "zero" "Scale.zero" sZero p f
  p3 : ∃ p f, HasP K C "one" "Scale.one" sOne p f
  b_len : PySem.W.nsIn K mainGlobals "len" = some none
  b_int : PySem.W.nsIn K mainGlobals "int" = some none
  b_abs : PySem.W.nsIn K mainGlobals "abs" = some none
  b_max : PySem.W.nsIn K mainGlobals "max" = some none
  b_min : PySem.W.nsIn K mainGlobals "min" = some none
  b_range : PySem.W.nsIn K mainGlobals "range" = some none
  b_tuple : PySem.W.nsIn K mainGlobals "tuple" = some none
  b_list : PySem.W.nsIn K mainGlobals "list" = some none
  b_repr : PySem.W.nsIn K mainGlobals "repr" = some none
  b_zip : PySem.W.nsIn K mainGlobals "zip" = some none
  b_isinstance : PySem.W.nsIn K mainGlobals "isinstance" = some none
  b_all : PySem.W.nsIn K mainGlobals "all" = some none
  b_str : PySem.W.nsIn K mainGlobals "str" = some none
  b_bool : PySem.W.nsIn K mainGlobals "bool" = some none
  b_enumerate : PySem.W.nsIn K mainGlobals "enumerate" = some none
  c_gcd : PySem.W.nsIn K mainGlobals "gcd" = some (some (.builtin "math.gcd"))
  c_max : ∃ t, PySem.W.nsIn K mainGlobals "MAX_SIZE" = some (some (.int 4 t))
  c_odd : ∃ t, PySem.W.nsIn K mainGlobals "MAX_ODDS" = some (some (.int 1000000 t))
  pg : PySem.W.plainGet K C Str.empty = true
  hd : PySem.W.hasDictIn K C = true
  po : PySem.W.plainOver K C = true
  sa : PySem.W.findIn K (.ref C) "__setattr__" = some (some (.builtin "object.__setattr__"))
  nw : PySem.W.findIn K (.ref C) "_word" = some none
  nz : PySem.W.findIn K (.ref C) "_size" = some none
  mk_ : PySem.W.makesIn K C = true
  kc : PySem.W.keepIn K (.ref C) = true
  rdm : PySem.W.readsIn K C (.type "type") = true
  ga : PySem.W.specialIn K (.ref C) "__getattribute__" = some (some (.builtin "type.__getattribute__"))
  t1 : PySem.W.findIn K (.ref C) "__class__" = some (some (.builtin "object.__class__"))
  t2 : PySem.W.specialIn K (.builtin "object.__class__") "__get__" = some (some (.builtin "getset_descriptor.__get__"))
  t3 : PySem.W.takesIn K (.builtin "object.__class__") = some true
  t4 : PySem.W.mroIn K C (.type "object") = some true
  ki : PySem.W.kitOne K (.ref C) (.type "int") = some false
  kt : PySem.W.kitOne K (.ref C) (.type "tuple") = some false
  kcc : PySem.W.kitOne K (.ref C) (.ref C) = some true
  kn_NoneType : PySem.W.kitOne K (.type "NoneType") (.ref C) = some false
  kn_bool : PySem.W.kitOne K (.type "bool") (.ref C) = some false
  kn_int : PySem.W.kitOne K (.type "int") (.ref C) = some false
  kn_str : PySem.W.kitOne K (.type "str") (.ref C) = some false
  kn_list : PySem.W.kitOne K (.type "list") (.ref C) = some false
  kn_tuple : PySem.W.kitOne K (.type "tuple") (.ref C) = some false
  kn_dict : PySem.W.kitOne K (.type "dict") (.ref C) = some false
  hne : PySem.W.findIn K (.ref C) "__ne__" = some (some (.builtin "object.__ne__"))
  ho : PySem.W.subIn K (.ref C) (.type "object") = some true
  nf_NoneType : PySem.W.subIn K (.type "NoneType") (.ref C) = some false
  nf_int : PySem.W.subIn K (.type "int") (.ref C) = some false
  nf_str : PySem.W.subIn K (.type "str") (.ref C) = some false
  nf_tuple : PySem.W.subIn K (.type "tuple") (.ref C) = some false
variable {w : World} {K : PySem.W.Frag} {mg : Str → Option Value} {h : Heap} {fa : Addr}
theorem all_law (P : Program) {C : Addr} (Y : Facts K C) (X : K.In h) (G : h.Ns mainGlobals mg) (hfa : mg "law" = some (.ref fa)) :
    ∃ fd : FuncData, (∀ (s : Shared) (v : Value), BindsTo s fd ⟨[v], []⟩ [("_law_script", v)]) ∧
      ∀ base : Heap, K.In base → base.Ns mainGlobals mg → FnG P w K mg base CX0 7 fa fd ["_law_script"] (spLaw K) := by
  obtain ⟨f0, h0⟩ := Y.d0
  obtain ⟨e0, F0⟩ := h0.fn
  have g0 := PySem.W.mg_of X G h0.at_
  obtain ⟨f1, h1⟩ := Y.d1
  obtain ⟨e1, F1⟩ := h1.fn
  have g1 := PySem.W.mg_of X G h1.at_
  obtain ⟨f2, h2⟩ := Y.d2
  obtain ⟨e2, F2⟩ := h2.fn
  have g2 := PySem.W.mg_of X G h2.at_
  obtain ⟨f3, h3⟩ := Y.d3
  obtain ⟨e3, F3⟩ := h3.fn
  have g3 := PySem.W.mg_of X G h3.at_
  obtain ⟨f4, h4⟩ := Y.d4
  obtain ⟨e4, F4⟩ := h4.fn
  have g4 := PySem.W.mg_of X G h4.at_
  obtain ⟨f5, h5⟩ := Y.d5
  obtain ⟨e5, F5⟩ := h5.fn
  have g5 := PySem.W.mg_of X G h5.at_
  obtain ⟨f6, h6⟩ := Y.d6
  obtain ⟨e6, F6⟩ := h6.fn
  have g6 := PySem.W.mg_of X G h6.at_
  obtain ⟨f7, h7⟩ := Y.d7
  obtain ⟨e7, F7⟩ := h7.fn
  have g7 := PySem.W.mg_of X G h7.at_
  obtain ⟨f8, h8⟩ := Y.d8
  obtain ⟨e8, F8⟩ := h8.fn
  have g8 := PySem.W.mg_of X G h8.at_
  obtain ⟨f9, h9⟩ := Y.d9
  obtain ⟨e9, F9⟩ := h9.fn
  have g9 := PySem.W.mg_of X G h9.at_
  obtain ⟨f10, h10⟩ := Y.d10
  obtain ⟨e10, F10⟩ := h10.fn
  have g10 := PySem.W.mg_of X G h10.at_
  obtain ⟨f11, h11⟩ := Y.d11
  obtain ⟨e11, F11⟩ := h11.fn
  have g11 := PySem.W.mg_of X G h11.at_
  obtain ⟨f12, h12⟩ := Y.d12
  obtain ⟨e12, F12⟩ := h12.fn
  have g12 := PySem.W.mg_of X G h12.at_
  obtain ⟨f13, h13⟩ := Y.d13
  obtain ⟨e13, F13⟩ := h13.fn
  have g13 := PySem.W.mg_of X G h13.at_
  obtain ⟨f14, h14⟩ := Y.d14
  obtain ⟨e14, F14⟩ := h14.fn
  have g14 := PySem.W.mg_of X G h14.at_
  obtain ⟨f15, h15⟩ := Y.d15
  obtain ⟨e15, F15⟩ := h15.fn
  have g15 := PySem.W.mg_of X G h15.at_
  obtain ⟨f16, h16⟩ := Y.d16
  obtain ⟨e16, F16⟩ := h16.fn
  have g16 := PySem.W.mg_of X G h16.at_
  obtain ⟨f17, h17⟩ := Y.d17
  obtain ⟨e17, F17⟩ := h17.fn
  have g17 := PySem.W.mg_of X G h17.at_
  obtain ⟨f18, h18⟩ := Y.d18
  obtain ⟨e18, F18⟩ := h18.fn
  have g18 := PySem.W.mg_of X G h18.at_
  obtain ⟨f19, h19⟩ := Y.d19
  obtain ⟨e19, F19⟩ := h19.fn
  have g19 := PySem.W.mg_of X G h19.at_
  obtain ⟨f20, h20⟩ := Y.d20
  obtain ⟨e20, F20⟩ := h20.fn
  have g20 := PySem.W.mg_of X G h20.at_
  obtain ⟨mf0, mh0⟩ := Y.m0
  obtain ⟨me0, MF0⟩ := mh0.fn
  obtain ⟨mf1, mh1⟩ := Y.m1
  obtain ⟨me1, MF1⟩ := mh1.fn
  obtain ⟨mf2, mh2⟩ := Y.m2
  obtain ⟨me2, MF2⟩ := mh2.fn
  obtain ⟨mf3, mh3⟩ := Y.m3
  obtain ⟨me3, MF3⟩ := mh3.fn
  obtain ⟨mf4, mh4⟩ := Y.m4
  obtain ⟨me4, MF4⟩ := mh4.fn
  obtain ⟨mf5, mh5⟩ := Y.m5
  obtain ⟨me5, MF5⟩ := mh5.fn
  obtain ⟨sp0, sf0, sh0⟩ := Y.s0
  obtain ⟨se0, SF0⟩ := sh0.fn
  obtain ⟨sp1, sf1, sh1⟩ := Y.s1
  obtain ⟨se1, SF1⟩ := sh1.fn
  obtain ⟨sp2, sf2, sh2⟩ := Y.s2
  obtain ⟨se2, SF2⟩ := sh2.fn
  obtain ⟨pp0, pf0, ph0⟩ := Y.p0
  obtain ⟨pe0, PF0⟩ := ph0.fn
  obtain ⟨pp1, pf1, ph1⟩ := Y.p1
  obtain ⟨pe1, PF1⟩ := ph1.fn
  obtain ⟨pp2, pf2, ph2⟩ := Y.p2
  obtain ⟨pe2, PF2⟩ := ph2.fn
  obtain ⟨pp3, pf3, ph3⟩ := Y.p3
  obtain ⟨pe3, PF3⟩ := ph3.fn
  have T : Blt mg := { len := PySem.W.mg_none_of X G Y.b_len, int := PySem.W.mg_none_of X G Y.b_int, abs := PySem.W.mg_none_of X G Y.b_abs, max := PySem.W.mg_none_of X G Y.b_max, min := PySem.W.mg_none_of X G Y.b_min, range := PySem.W.mg_none_of X G Y.b_range, tuple := PySem.W.mg_none_of X G Y.b_tuple, list := PySem.W.mg_none_of X G Y.b_list, repr := PySem.W.mg_none_of X G Y.b_repr, zip := PySem.W.mg_none_of X G Y.b_zip, isinstance := PySem.W.mg_none_of X G Y.b_isinstance, all := PySem.W.mg_none_of X G Y.b_all, str := PySem.W.mg_none_of X G Y.b_str, bool := PySem.W.mg_none_of X G Y.b_bool }
  have te := PySem.W.mg_none_of X G Y.b_enumerate
  have hg := PySem.W.mg_of X G Y.c_gcd
  obtain ⟨tm, km⟩ := Y.c_max
  have ms0 := PySem.W.mg_of X G km
  have ms : ∃ t, mg "MAX_SIZE" = some (.int 4 t) := ⟨_, ms0⟩
  obtain ⟨to, ko⟩ := Y.c_odd
  have mo0 := PySem.W.mg_of X G ko
  have mo : ∃ t, mg "MAX_ODDS" = some (.int 1000000 t) := ⟨_, mo0⟩
  have gC := PySem.W.mg_of X G Y.aC
  have Zk : ClsK K C := ⟨⟨Y.pg, Y.hd, Y.po, Y.sa⟩, Y.nw, Y.nz⟩
  have Zt : ClsT K C := ⟨⟨Y.pg, Y.hd, Y.po, Y.sa⟩, Y.t1, Y.t2, Y.t3, Y.t4, Y.ki, Y.kt⟩
  have kn : ∀ t ∈ tys, PySem.W.kitOne K (.type t) (.ref C) = some false := by
    intro t ht
    simp only [tys, List.mem_cons, List.not_mem_nil, or_false] at ht
    rcases ht with rfl | rfl | rfl | rfl | rfl | rfl | rfl
    · exact Y.kn_NoneType
    · exact Y.kn_bool
    · exact Y.kn_int
    · exact Y.kn_str
    · exact Y.kn_list
    · exact Y.kn_tuple
    · exact Y.kn_dict
  have nf : ∀ tb : Value, tb = .ref C ∨ tb ∈ [Value.type "NoneType", .type "int", .type "str", .type "tuple"] → PySem.W.notFirst K C tb = true := by
    intro tb ht
    simp only [List.mem_cons, List.not_mem_nil, or_false] at ht
    unfold PySem.W.notFirst
    rcases ht with rfl | rfl | rfl | rfl | rfl
    · simp
    · rw [Y.nf_NoneType]; simp
    · rw [Y.nf_int]; simp
    · rw [Y.nf_str]; simp
    · rw [Y.nf_tuple]; simp
  have rd : CRead K C (.type "type") := ⟨Y.rdm, Y.ga⟩
  have b0 := F0.binds (ps := ["value"]) fun _ _ _ _ _ _ us hl => match us, hl with | [_], _ => rfl
  have b1 := F1.binds (ps := ["value", "many"]) fun _ _ _ _ _ _ us hl => match us, hl with | [_, _], _ => rfl
  have b2 := F2.binds (ps := ["value", "many"]) fun _ _ _ _ _ _ us hl => match us, hl with | [_, _], _ => rfl
  have b3 := F3.binds (ps := ["value"]) fun _ _ _ _ _ _ us hl => match us, hl with | [_], _ => rfl
  have b4 := F4.binds (ps := ["value"]) fun _ _ _ _ _ _ us hl => match us, hl with | [_], _ => rfl
  have b5 := F5.binds (ps := ["right", "wrong"]) fun _ _ _ _ _ _ us hl => match us, hl with | [_, _], _ => rfl
  have b6 := F6.binds (ps := ["_law_script", "_law_at"]) fun _ _ _ _ _ _ us hl => match us, hl with | [_, _], _ => rfl
  have b7 := F7.binds (ps := ["_law_dice_here", "_law_total"]) fun _ _ _ _ _ _ us hl => match us, hl with | [_, _], _ => rfl
  have b8 := F8.binds (ps := ["_law_dice_here", "_law_items"]) fun _ _ _ _ _ _ us hl => match us, hl with | [_, _], _ => rfl
  have b9 := F9.binds (ps := ["_law_dice_here"]) fun _ _ _ _ _ _ us hl => match us, hl with | [_], _ => rfl
  have b10 := F10.binds (ps := ["_law_top", "_law_bottom"]) fun _ _ _ _ _ _ us hl => match us, hl with | [_, _], _ => rfl
  have b11 := F11.binds (ps := ["_law_dice_here", "_law_measure"]) fun _ _ _ _ _ _ us hl => match us, hl with | [_, _], _ => rfl
  have b12 := F12.binds (ps := ["_law_measure"]) fun _ _ _ _ _ _ us hl => match us, hl with | [_], _ => rfl
  have b13 := F13.binds (ps := ["_law_dice_here", "_law_measure"]) fun _ _ _ _ _ _ us hl => match us, hl with | [_, _], _ => rfl
  have b14 := F14.binds (ps := ["_law_value"]) fun _ _ _ _ _ _ us hl => match us, hl with | [_], _ => rfl
  have b15 := F15.binds (ps := ["_law_measure", "_law_value"]) fun _ _ _ _ _ _ us hl => match us, hl with | [_, _], _ => rfl
  have b16 := F16.binds (ps := ["_law_measure", "_law_value"]) fun _ _ _ _ _ _ us hl => match us, hl with | [_, _], _ => rfl
  have b17 := F17.binds (ps := ["_law_dice_here", "_law_value"]) fun _ _ _ _ _ _ us hl => match us, hl with | [_, _], _ => rfl
  have b18 := F18.binds (ps := ["_law_dice_here", "_law_measure"]) fun _ _ _ _ _ _ us hl => match us, hl with | [_, _], _ => rfl
  have b19 := F19.binds (ps := []) fun _ _ _ _ _ _ us hl => match us, hl with | [], _ => rfl
  have mb0 := MF0.binds (ps := ["self", "word", "size"]) fun _ _ _ _ _ _ us hl => match us, hl with | [_, _, _], _ => rfl
  have mb1 := MF1.binds (ps := ["self", "value"]) fun _ _ _ _ _ _ us hl => match us, hl with | [_, _], _ => rfl
  have mb2 := MF2.binds (ps := ["self", "value"]) fun _ _ _ _ _ _ us hl => match us, hl with | [_, _], _ => rfl
  have mb3 := MF3.binds (ps := ["self", "x"]) fun _ _ _ _ _ _ us hl => match us, hl with | [_, _], _ => rfl
  have mb4 := MF4.binds (ps := ["self", "other"]) fun _ _ _ _ _ _ us hl => match us, hl with | [_, _], _ => rfl
  have mb5 := MF5.binds (ps := ["self"]) fun _ _ _ _ _ _ us hl => match us, hl with | [_], _ => rfl
  have sb0 := SF0.binds (ps := []) fun _ _ _ _ _ _ us hl => match us, hl with | [], _ => rfl
  have sb1 := SF1.binds (ps := ["size"]) fun _ _ _ _ _ _ us hl => match us, hl with | [_], _ => rfl
  have sb2 := SF2.binds (ps := []) fun _ _ _ _ _ _ us hl => match us, hl with | [], _ => rfl
  have pb0 := PF0.binds (ps := ["self"]) fun _ _ _ _ _ _ us hl => match us, hl with | [_], _ => rfl
  have pb1 := PF1.binds (ps := ["self"]) fun _ _ _ _ _ _ us hl => match us, hl with | [_], _ => rfl
  have pb2 := PF2.binds (ps := ["self"]) fun _ _ _ _ _ _ us hl => match us, hl with | [_], _ => rfl
  have pb3 := PF3.binds (ps := ["self"]) fun _ _ _ _ _ _ us hl => match us, hl with | [_], _ => rfl
  obtain rfl : f20 = fa := Value.ref.inj (Option.some.inj (g20.symm.trans hfa))
  refine ⟨e20, fun s v => ?_, fun base KB NB => ?_⟩
  · obtain ⟨_, _, _, _, _, _, _, _, _, rfl, _, _⟩ := F20.ex
    exact .of_eq rfl
  let Wh : Df P w K mg base 1 "is_whole" ["value"] (spWhole K) := ⟨f0, e0, ok_whole F0 T, g0, F0.kp, b0⟩
  let Ws : Df P w K mg base 2 "are_whole" ["value", "many"] (spWholes K) := ⟨f1, e1, ok_wholes F1 T Wh, g1, F1.kp, b1⟩
  let In : Df P w K mg base 2 "is_index" ["value", "many"] spIndex := ⟨f2, e2, ok_index F2 T Wh, g2, F2.kp, b2⟩
  let Pa : Df P w K mg base 2 "_is_part" ["value"] (spPart K) := ⟨f3, e3, ok_part F3 Wh, g3, F3.kp, b3⟩
  let Lw : Df P w K mg base 3 "_is_lowest" ["value"] (spLowest K) := ⟨f4, e4, ok_lowest F4 hg Ws, g4, F4.kp, b4⟩
  let Ao : Df P w K mg base 1 "_are_odds" ["right", "wrong"] spAreOdds := ⟨f5, e5, ok_areOdds F5 mo, g5, F5.kp, b5⟩
  let ScD : SclD P w K mg base C := ⟨Zk, mf0, me0, ok_init MF0 Zk, ⟨Y.mk_, mh0.at_, mh0.isf, Y.kc⟩, gC, mb0⟩
  let Wp : Dp1 P w K mg base C 1 "word" (spWord C) := ⟨pp0, pf0, pe0, ok_word PF0 Zk, ph0.pr, pb0⟩
  let Zp : Dp1 P w K mg base C 1 "size" (spSize C) := ⟨pp1, pf1, pe1, ok_size PF1 Zk, ph1.pr, pb1⟩
  let Ze : Dp1 P w K mg base C 1 "zero" (spZero C) := ⟨pp2, pf2, pe2, ok_zero PF2 Zk, ph2.pr, pb2⟩
  let Oe : Dp1 P w K mg base C 1 "one" (spOne C) := ⟨pp3, pf3, pe3, ok_one PF3 Zk, ph3.pr, pb3⟩
  let Ia : Dm P w K mg base C 4 "is_amount" ["self", "value"] (spIsAmt K C) := ⟨mf2, me2, ok_isAmt MF2 Zk Wh Ws Lw, ⟨mh2.at_, mh2.isf, MF2.kp⟩, mb2⟩
  let Iw : Dm P w K mg base C 4 "is_weight" ["self", "value"] (spIsWgt K C) := ⟨mf1, me1, ok_isWgt MF1 Zk T Pa Ao Ws Lw Ze, ⟨mh1.at_, mh1.isf, MF1.kp⟩, mb1⟩
  let Hs : Do1 P w K mg base C 5 "__contains__" ["self", "x"] (spHas K C) := ⟨mf3, me3, ok_has MF3 Zk Ia, ⟨mh3.at_, mh3.isf⟩, mb3⟩
  let Eq : Do1 P w K mg base C 1 "__eq__" ["self", "other"] (spEqM K C) := ⟨mf4, me4, ok_eqM MF4 Zk T Zt gC Y.kcc kn, ⟨mh4.at_, mh4.isf⟩, mb4⟩
  let St : Do1 P w K mg base C 1 "__str__" ["self"] (spStrM C) := ⟨mf5, me5, ok_strM MF5 Zk T T.str, ⟨mh5.at_, mh5.isf⟩, mb5⟩
  let Ss : Sm P w K mg base C (.type "type") 3 "sums" [] (spNew C .sums) := ⟨sp0, sf0, se0, ok_sums SF0 ScD, sh0.sm, sb0⟩
  let Cs : Sm P w K mg base C (.type "type") 3 "classes" ["size"] (spClasses C) := ⟨sp1, sf1, se1, ok_classes SF1 ScD In ms, sh1.sm, sb1⟩
  let Os : Sm P w K mg base C (.type "type") 3 "odds" [] (spNew C .odds) := ⟨sp2, sf2, se2, ok_oddsM SF2 ScD, sh2.sm, sb2⟩
  let Dd : Dc P w K mg base := ⟨f7, e7, ok_pull F7 T, g7, F7.kp, b7⟩
  let Di : DfG P w K mg base 1 "_law_dice" ["_law_script", "_law_at"] (spDice K) := ⟨f6, e6, ok_dice F6 T, g6, F6.kp, b6⟩
  let Pk : DfG P w K mg base 2 "_law_pick" ["_law_dice_here", "_law_items"] spPick := ⟨f8, e8, ok_pick F8 T Dd, g8, F8.kp, b8⟩
  let Sc : DfG P w K mg base 2 "_law_scale" ["_law_dice_here"] spScaleL := ⟨f9, e9, ok_scaleL F9 Dd, g9, F9.kp, b9⟩
  let Lo : DfG P w K mg base 1 "_law_lowest" ["_law_top", "_law_bottom"] spLowL := ⟨f10, e10, ok_lowL F10 T, g10, F10.kp, b10⟩
  let Wq : DfG P w K mg base 2 "_law_weight" ["_law_dice_here", "_law_measure"] spAmtL := ⟨f11, e11, ok_wgtL F11 T Dd Lo, g11, F11.kp, b11⟩
  let Md : DfG P w K mg base 4 "_law_made" ["_law_measure"] (spMadeL C) := ⟨f12, e12, ok_madeL F12 gC rd Cs Ss Os, g12, F12.kp, b12⟩
  let Aq : DfG P w K mg base 2 "_law_amount" ["_law_dice_here", "_law_measure"] spAmtL := ⟨f13, e13, ok_amtL F13 T Dd Lo, g13, F13.kp, b13⟩
  let Wl : Df P w K mg base 1 "_law_whole" ["_law_value"] (spWholeL K) := ⟨f14, e14, ok_wholeL F14 T, g14, F14.kp, b14⟩
  let Ad : DfG P w K mg base 2 "_law_amount_due" ["_law_measure", "_law_value"] (spAmtDue K) := ⟨f15, e15, ok_amtDue F15 T Wl Lo, g15, F15.kp, b15⟩
  let Wd : DfG P w K mg base 3 "_law_weight_due" ["_law_measure", "_law_value"] (spWgtDue K) := ⟨f16, e16, ok_wgtDue F16 T Ad, g16, F16.kp, b16⟩
  let Be : DfG P w K mg base 3 "_law_bent" ["_law_dice_here", "_law_value"] (spBent K) := ⟨f17, e17, ok_bent F17 T Dd Pk, g17, F17.kp, b17⟩
  let Vr : DfG P w K mg base 6 "_law_values_right" ["_law_dice_here", "_law_measure"] spVals := ⟨f18, e18, ok_vals F18 T Zk Zt Dd Pk Md Wq Aq Be Wd Ad Iw Ia Hs, g18, F18.kp, b18⟩
  let Sr : DfG P w K mg base 6 "_law_scales_right" [] spScls := ⟨f19, e19, ok_scls F19 T te Zk Zt ms0 mo0 Y.hne Y.ho nf Md Wp Zp Ze Oe Iw Hs Eq St, g19, F19.kp, b19⟩
  exact ok_law F20 T Zk gC rd Di Sc Vr Sr Cs Ss Os Iw Ia Hs
end
end Gl

open PySem PySem.W PyProof.Rows
set_option maxHeartbeats 0 in
theorem PySem.Challenge.cw_mostkept_k06_weights_and_amounts_holds : PySem.Challenge.rw_mostkept_k06_weights_and_amounts.Holds := by
  w_on; o_law; k_head; (case hw => w_witness2)
  k_fill
  refine Gl.walkG (l := PySem.Challenge.rw_mostkept_k06_weights_and_amounts) (n := 63) (k := 7) (x := "_law_script") (sp := Gl.spLaw) rfl (by decide) rfl ⟨rfl, by decide, by decide⟩ (fun w h Y => PySem.W.kIn_of Y) ?F (fun _ _ a ns hl _ hS => ⟨a, ns, rfl, hS, hl, fun _ => rfl⟩)
  case F =>
    intro w mg fa h KX G hmg
    refine' Gl.all_law _ ?Z KX G hmg
    case Z =>
      constructor
      · k_is
      · refine' ⟨_, Gl.Has.mk' ?a ?l ?c ?k⟩
        (case a => k_is); (case l => k_is); (case c => k_is); (case k => k_is)
      · refine' ⟨_, Gl.Has.mk' ?a ?l ?c ?k⟩
        (case a => k_is); (case l => k_is); (case c => k_is); (case k => k_is)
      · refine' ⟨_, Gl.Has.mk' ?a ?l ?c ?k⟩
        (case a => k_is); (case l => k_is); (case c => k_is); (case k => k_is)
      · refine' ⟨_, Gl.Has.mk' ?a ?l ?c ?k⟩
        (case a => k_is); (case l => k_is); (case c => k_is); (case k => k_is)
      · refine' ⟨_, Gl.Has.mk' ?a ?l ?c ?k⟩
        (case a => k_is); (case l => k_is); (case c => k_is); (case k => k_is)
      · refine' ⟨_, Gl.Has.mk' ?a ?l ?c ?k⟩
        (case a => k_is); (case l => k_is); (case c => k_is); (case k => k_is)
      · refine' ⟨_, Gl.Has.mk' ?a ?l ?c ?k⟩
        (case a => k_is); (case l => k_is); (case c => k_is); (case k => k_is)
      · refine' ⟨_, Gl.Has.mk' ?a ?l ?c ?k⟩
        (case a => k_is); (case l => k_is); (case c => k_is); (case k => k_is)
      · refine' ⟨_, Gl.Has.mk' ?a ?l ?c ?k⟩
        (case a => k_is); (case l => k_is); (case c => k_is); (case k => k_is)
      · refine' ⟨_, Gl.Has.mk' ?a ?l ?c ?k⟩
        (case a => k_is); (case l => k_is); (case c => k_is); (case k => k_is)
      · refine' ⟨_, Gl.Has.mk' ?a ?l ?c ?k⟩
        (case a => k_is); (case l => k_is); (case c => k_is); (case k => k_is)
      · refine' ⟨_, Gl.Has.mk' ?a ?l ?c ?k⟩
        (case a => k_is); (case l => k_is); (case c => k_is); (case k => k_is)
      · refine' ⟨_, Gl.Has.mk' ?a ?l ?c ?k⟩
        (case a => k_is); (case l => k_is); (case c => k_is); (case k => k_is)
      · refine' ⟨_, Gl.Has.mk' ?a ?l ?c ?k⟩
        (case a => k_is); (case l => k_is); (case c => k_is); (case k => k_is)
      · refine' ⟨_, Gl.Has.mk' ?a ?l ?c ?k⟩
        (case a => k_is); (case l => k_is); (case c => k_is); (case k => k_is)
      · refine' ⟨_, Gl.Has.mk' ?a ?l ?c ?k⟩
        (case a => k_is); (case l => k_is); (case c => k_is); (case k => k_is)
      · refine' ⟨_, Gl.Has.mk' ?a ?l ?c ?k⟩
        (case a => k_is); (case l => k_is); (case c => k_is); (case k => k_is)
      · refine' ⟨_, Gl.Has.mk' ?a ?l ?c ?k⟩
        (case a => k_is); (case l => k_is); (case c => k_is); (case k => k_is)
      · refine' ⟨_, Gl.Has.mk' ?a ?l ?c ?k⟩
        (case a => k_is); (case l => k_is); (case c => k_is); (case k => k_is)
      · refine' ⟨_, Gl.Has.mk' ?a ?l ?c ?k⟩
        (case a => k_is); (case l => k_is); (case c => k_is); (case k => k_is)
      · refine' ⟨_, Gl.Has.mk' ?a ?l ?c ?k⟩
        (case a => k_is); (case l => k_is); (case c => k_is); (case k => k_is)
      · refine' ⟨_, Gl.HasM.mk' ?a ?i ?l ?c ?k⟩
        (case a => k_is); (case i => k_is); (case l => k_is); (case c => k_is); (case k => k_is)
      · refine' ⟨_, Gl.HasM.mk' ?a ?i ?l ?c ?k⟩
        (case a => k_is); (case i => k_is); (case l => k_is); (case c => k_is); (case k => k_is)
      · refine' ⟨_, Gl.HasM.mk' ?a ?i ?l ?c ?k⟩
        (case a => k_is); (case i => k_is); (case l => k_is); (case c => k_is); (case k => k_is)
      · refine' ⟨_, Gl.HasM.mk' ?a ?i ?l ?c ?k⟩
        (case a => k_is); (case i => k_is); (case l => k_is); (case c => k_is); (case k => k_is)
      · refine' ⟨_, Gl.HasM.mk' ?a ?i ?l ?c ?k⟩
        (case a => k_is); (case i => k_is); (case l => k_is); (case c => k_is); (case k => k_is)
      · refine' ⟨_, Gl.HasM.mk' ?a ?i ?l ?c ?k⟩
        (case a => k_is); (case i => k_is); (case l => k_is); (case c => k_is); (case k => k_is)
      · refine' ⟨_, _, Gl.HasS.mk' ?a ?r ?l ?c ?k⟩
        (case a => k_is); (case r => k_is); (case l => k_is); (case c => k_is); (case k => k_is)
      · refine' ⟨_, _, Gl.HasS.mk' ?a ?r ?l ?c ?k⟩
        (case a => k_is); (case r => k_is); (case l => k_is); (case c => k_is); (case k => k_is)
      · refine' ⟨_, _, Gl.HasS.mk' ?a ?r ?l ?c ?k⟩
        (case a => k_is); (case r => k_is); (case l => k_is); (case c => k_is); (case k => k_is)
      · refine' ⟨_, _, Gl.HasP.mk' ?a ?g ?t ?r ?l ?c ?k⟩
        (case a => k_is); (case g => k_is); (case t => k_is); (case r => k_is); (case l => k_is); (case c => k_is); (case k => k_is)
      · refine' ⟨_, _, Gl.HasP.mk' ?a ?g ?t ?r ?l ?c ?k⟩
        (case a => k_is); (case g => k_is); (case t => k_is); (case r => k_is); (case l => k_is); (case c => k_is); (case k => k_is)
      · refine' ⟨_, _, Gl.HasP.mk' ?a ?g ?t ?r ?l ?c ?k⟩
        (case a => k_is); (case g => k_is); (case t => k_is); (case r => k_is); (case l => k_is); (case c => k_is); (case k => k_is)
      · refine' ⟨_, _, Gl.HasP.mk' ?a ?g ?t ?r ?l ?c ?k⟩
        (case a => k_is); (case g => k_is); (case t => k_is); (case r => k_is); (case l => k_is); (case c => k_is); (case k => k_is)
      · k_is
      · k_is
      · k_is
      · k_is
      · k_is
      · k_is
      · k_is
      · k_is
      · k_is
      · k_is
      · k_is
      · k_is
      · k_is
      · k_is
      · k_is
      · k_is
      · exact ⟨_, by k_is⟩
      · exact ⟨_, by k_is⟩
      · k_is
      · k_is
      · k_is
      · k_is
      · k_is
      · k_is
      · k_is
      · k_is
      · k_is
      · k_is
      · k_is
      · k_is
      · k_is
      · k_is
      · kit_is
      · kit_is
      · kit_is
      · kit_is
      · kit_is
      · kit_is
      · kit_is
      · kit_is
      · kit_is
      · kit_is
      · k_is
      · k_is
      · k_is
      · k_is
      · k_is
      · k_is
