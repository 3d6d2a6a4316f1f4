import PyProof.Rows.All
import Wide.All
import OpenK.AllK
import Wide.FinOn
import HandS.ForMost
import HandS.Wide
import HandS.Zip
import PyProof.ReprRoads
import HandS.ClsMeth
import HandS.TupMul
import HandS.IsInst
import HandS.Walk
import HandS.Strs
import HandS.Defaults
import PyProof.NeData
import PyProof.EqAt
import HandS.List
import HandS.Gcd
import HandS.Star
import HandS.Property
import PyProof.StrLawsRepr
import KE.KTupSum
import HandS.NoneIn
import PySem.Challenge.RW_mostkept_k07_sums_and_differences
set_option Elab.async false
set_option linter.all false
set_option maxRecDepth 100000
set_option maxHeartbeats 4000000
/-! Defs called while no repr is under way: the promise FnG of a def, and the rules that go with it. -/
namespace Gl
open PySem PySem.Spec PyProof.Rows L2

/-- there is room for k calls, and the stack holds no repr -/
structure RmG (k : Nat) (A : Around) : Prop where
  rm : Room k A
  gd : A.guards = some []
theorem RmG.mono {j k : Nat} {A : Around} (r : RmG k A) (h : j ≤ k) : RmG j A := ⟨r.rm.mono h, r.gd⟩
theorem RmG.deeper {k : Nat} {A : Around} (r : RmG (k + 1) A) (v : Env) : RmG k (A.deeper v) := ⟨r.rm.deeper v, r.gd⟩

structure FnG (P : Program) (w : World) (K : PySem.W.Frag)
    (mg : Str → Option Value) (base : Heap) (CX : CXT) (k : Nat)
    (f : Addr) (fd : FuncData) (ps : List Str) (sp : Sp) : Prop where
  len : ∀ vs H Q E, sp vs H Q E → vs.length = ps.length
  go : ∀ (A : Around) (o : List Env) (s : Shared) (H : Hp)
    (ar : Args) (us : List Value) (vs : List V) (Q : VK) (E : XK),
    RmG k A → Env0 P w K mg base A o s H → BindsTo s fd ar (ps.zip us) →
    Vals vs us → sp vs H Q E →
    codeAny (model P w) A (.call (.ref f) ar) (CR CX o P w H s Q E) s

section
variable {P : Program} {w : World} {K : PySem.W.Frag} {mg : Str → Option Value} {base : Heap} {CX : CXT} {k : Nat} {f : Addr} {fd : FuncData} {ps : List Str} {sp : Sp}
theorem FnG.mono {j : Nat} (F : FnG P w K mg base CX j f fd ps sp) (h : j ≤ k) : FnG P w K mg base CX k f fd ps sp :=
  ⟨F.len, fun A o s H ar us vs Q E r => F.go A o s H ar us vs Q E (r.mono h)⟩
/-- a promise of the layer's own -/
theorem FnG.of (F : FnOk P w K mg base CX k f fd ps sp) : FnG P w K mg base CX k f fd ps sp :=
  ⟨F.len, fun A o s H ar us vs Q E r => F.run A o s H ar us vs Q E r.rm⟩
theorem FnG.imp {sp' : Sp} (F : FnG P w K mg base CX k f fd ps sp) (h : ∀ vs H Q E, sp' vs H Q E → sp vs H Q E) : FnG P w K mg base CX k f fd ps sp' :=
  ⟨fun vs H Q E q => F.len vs H Q E (h _ _ _ _ q), fun A o s H ar us vs Q E r e b v q => F.go A o s H ar us vs Q E r e b v (h _ _ _ _ q)⟩
end

section
variable {X : Cx} {CX : CXT} {k : Nat} {f : Addr} {fd : FuncData} {ps : List Str} {sp : Sp} {dvs : List V} {ds : List Value} {E : XK} {x : Str} {p pos : Pos} {e : Expr} {es : List Expr} {t : TA}
theorem runG {pins : List (Addr × Obj)} {σ : L2.St} {H : Hp} {s : Shared} {Q : VK} {us : List Value} {vs : List V}
    (F : FnG X.prog X.w X.K X.mg X.base CX k f fd ps sp) (r : RmG k X.A)
    (hb : Binds X.K fd ps ds) (hd : Vals dvs ds) (hx : Passes CX X E) (I : Inv X pins σ H s)
    (hv : Vals vs us) (q : sp (vs ++ dvs) H Q E) : wpAny (model X.prog X.w) X.A (call (.ref f) us) (EP X pins σ Q) X.xe s := by
  have hv2 : Vals (vs ++ dvs) (us ++ ds) := hv.append hd
  have n1 : (us ++ ds).length = ps.length := hv2.length.symm.trans (F.len _ _ _ _ q)
  have c := F.go X.A X.stack s H ⟨us, []⟩ (us ++ ds) (vs ++ dvs) Q E r I.env0 (hb s us I.kIn n1) hv2 q
  apply wpAny_call
  apply codeAny_mono c
  intro y s2 z
  match y, z with
  | .error a, z => exact hx pins σ H s a s2 I z
  | .ok (.ret u), z => exact I.after z
  | .ok .next, z => exact z.elim
  | .ok .brk, z => exact z.elim
  | .ok .cont, z => exact z.elim

/-- f(e, ..), a def of the text -/
theorem pe_callG (F : FnG X.prog X.w X.K X.mg X.base CX k f fd ps sp) (r : RmG k X.A)
    (hg : Gl X x) (hm : X.mg x = some (.ref f)) (hk : PySem.W.keepIn X.K (.ref f) = true)
    (hb : Binds X.K fd ps ds) (hd : Vals dvs ds) (hx : Passes CX X E) (ha : PA X (e :: es) t)
    (h1 : (x == ("__debug__" : Str)) = false := by decide)
    (h2 : starEach (e :: es) X.env = (false, eval e X.env) :: starEach es X.env := by rfl)
    (h3 : (backTo pos (starEach es X.env)).any (·.1) = false := by rfl) :
    PE X (.Call (.Name x p) (e :: es) [] pos) (tCall sp dvs E t) := .mk fun pins s σ H Q I q => by
  apply wpAny_Call_Name_kw
  apply ld_glob I hg hm _ h1
  apply PySem.W.callWith_K (h₀ := X.base) I.ok.mod.kin hk _ h2 h3
  apply thn (ha.run pos pins s σ H _ I q)
  rintro us s2 ⟨vs, H2, I2, v2, q2⟩
  exact ⟨I2.kIn, runG F r hb hd hx I2 v2 q2⟩
/-- f() -/
theorem pe_callG0 (F : FnG X.prog X.w X.K X.mg X.base CX k f fd ps sp) (r : RmG k X.A)
    (hg : Gl X x) (hm : X.mg x = some (.ref f)) (hk : PySem.W.keepIn X.K (.ref f) = true)
    (hb : Binds X.K fd ps ds) (hd : Vals dvs ds) (hx : Passes CX X E)
    (h1 : (x == ("__debug__" : Str)) = false := by decide) :
    PE X (.Call (.Name x p) [] [] pos) (tCall sp dvs E tNil) := .mk fun pins s σ H Q I q => by
  apply wpAny_Call_Name_kw
  apply ld_glob I hg hm _ h1
  exact PySem.W.callWith_K0 I.kIn hk (runG (us := []) F r hb hd hx I .nil q)
end

/-! ### a def's body -/
section
variable {P : Program} {w : World} {K : PySem.W.Frag} {mg : Str → Option Value} {base : Heap}
theorem okG_of {CX : CXT} {k : Nat} {f : Addr} {nm qual : Str} {pr : Arguments} {body : List Stmt} {sc : Scope} {dV kV doc pm cdv ct oc : Value} {an od : Option Addr}
    {sl : Array (Option Value)} {N ps : List Str} {sp : Sp}
    (lk : K.lookup f = some ⟨oc, od, .func (PySem.W.fnOf nm qual pr body sc dV kV doc pm an cdv ct), sl⟩)
    (hc : PySem.W.codeIn K cdv qual = true) (S : FnScope N ps sc)
    (len : ∀ vs H Q E, sp vs H Q E → vs.length = ps.length)
    (bd : ∀ (A : Around) (o : List Env) (s : Shared) (H : Hp) (vs : List V) (Q : VK) (E : XK),
      RmG k (A.deeper (envOfC qual sc s.heap.objs.size f cdv)) → sp vs H Q E →
      ∃ t, PSs (cxOf CX P w K mg base N qual sc f cdv A o s H E) body t ∧ t { nx := fun _ H' => Q .non H', rt := Q } (start N vs) H) :
    FnG P w K mg base CX (k + 1) f (PySem.W.fnOf nm qual pr body sc dV kV doc pm an cdv ct) ps sp where
  len := len
  go := by
    intro A o s H ar us vs Q E r e0 hb hv q
    have n1 := len _ _ _ _ q
    have up : ∀ b u, base.get? b = some u → s.heap.get? b = some u := fun b u z => (e0.bs b u z).1
    have KX : K.In s.heap := e0.mod.kin.keeps up
    have par : ∀ y ∈ ps.zip us, sc.names.lookup y.1 = some .local ∨
        (sc.names.lookup y.1 = some .cell ∧ ((cellsFrom (s.heap.objs.size + 1) sc.names []).lookup y.1).isSome = true) := by
      rintro ⟨a, v⟩ hy
      have := S.par a (List.of_mem_zip hy).1
      exact this.imp id fun z => ⟨z, PySem.W.cellsFrom_some _ _ _ (.inl z)⟩
    apply codeAny_call_function r.rm.depth (KX _ _ lk) rfl S.co S.gen rfl (PySem.W.codeRec_of KX hc)
    apply hb
    apply wpAny_newFunctionEnv_cells S.kind par
    rintro env rfl s1 ic
    refine ⟨(e0.mod.nolimit.keeps up).keeps ic.toInCall.keep, codeAny_func ?_⟩
    obtain ⟨t, d, z⟩ := bd A o s H vs Q E (r.deeper _) q
    have I := inv_start (CX := CX) (E := E) S r.rm.hd e0 n1 hv ic
    refine wpAny_mono (d.run [] s1 (start N vs) H _ I z) ?_ fun _ _ z => z
    rintro fl s2 y
    match fl, y with
    | .ret u, ⟨v, σ', H', J, rv, q⟩ => exact ⟨v, H', J.os, J.bare, J.base, J.hok, rv, q⟩
    | .next, ⟨σ', H', J, q⟩ => exact ⟨.non, H', J.os, J.bare, J.base, J.hok, rfl, q⟩
    | .brk, ⟨_, _, _, q⟩ => exact q.elim
    | .cont, ⟨_, _, _, q⟩ => exact q.elim
theorem okG {x qual : Str} {st : Stmt} {f : Addr} {fd : FuncData} {N ps : List Str} {k : Nat} {sp : Sp}
    (F : Fun K x qual st f fd) (S : FnScope N ps (defScope st)) (len : ∀ vs H Q E, sp vs H Q E → vs.length = ps.length)
    (bd : ∀ (cdv : Value) (A : Around) (o : List Env) (s : Shared) (H : Hp) (vs : List V) (Q : VK) (E : XK),
      RmG k (A.deeper (envOfC qual (defScope st) s.heap.objs.size f cdv)) → sp vs H Q E →
      ∃ t, PSs (cxOf CX0 P w K mg base N qual (defScope st) f cdv A o s H E).nox (defBody st) t ∧
        t { nx := fun _ H' => Q .non H', rt := Q } (start N vs) H) : FnG P w K mg base CX0 (k + 1) f fd ps sp := by
  obtain ⟨_, _, _, _, _, _, _, _, _, rfl, lk, hc⟩ := F.ex
  apply okG_of lk hc S len
  intro A o s H vs Q E r q
  obtain ⟨t, d, z⟩ := bd _ A o s H vs Q E r q
  exact ⟨t, d.nox, z⟩
end
end Gl

/-! repr of data as a whole. -/
namespace Gl
open PySem PySem.Spec PyProof.Rows L2

mutual
theorem Dp.noDict {K : PySem.W.Frag} {H : Hp} : ∀ {v : V} {d : PyData}, Dp K H v d → d.hasDict = false
  | _, _, .non => by simp only [PyData.hasDict]
  | _, _, .bl b => by simp only [PyData.hasDict]
  | _, _, .int i => by simp only [PyData.hasDict]
  | _, _, .str x => by simp only [PyData.hasDict]
  | _, _, .lst _ h => by simp only [PyData.hasDict]; exact DpAll.noDict h
  | _, _, .tup _ h => by simp only [PyData.hasDict]; exact DpAll.noDict h
theorem DpAll.noDict {K : PySem.W.Frag} {H : Hp} : ∀ {v : List V} {d : List PyData}, DpAll K H v d → PyData.hasDictAll d = false
  | _, _, .nil => by simp only [PyData.hasDictAll]
  | _, _, .cons a b => by simp only [PyData.hasDictAll]; rw [Dp.noDict a, DpAll.noDict b]; rfl
end
/-- repr(x), x data of any shape without dicts -/
def rRepr (K : PySem.W.Frag) : List V → Hp → VK → Prop := fun xs H Q => ∃ x d, xs = [x] ∧ Dp K H x d ∧ d.showable = true ∧ d.depth ≤ 100 ∧ d.shown.length ≤ sizeLine ∧ Q (.str d.shown) H
section
variable {X : Cx}
theorem repr_core {pins : List (Addr × Obj)} {s : Shared} {σ : L2.St} {H : Hp} {Q : VK} {k : Nat} (r : RmG k X.A) (I : Inv X pins σ H s) : ∀ {x : V} {d : PyData} {u : Value}, Dp X.K H x d → RelV x u → d.showable = true → d.depth ≤ 100 → d.shown.length ≤ sizeLine → Q (.str d.shown) H →
    wpAny (model X.prog X.w) X.A (call (.builtin "repr") [u]) (EP X pins σ Q) X.xe s := by
  intro x d u hd ru hs hp hz q
  have nd := Dp.noDict hd
  obtain ⟨as, R⟩ := Dp.reads I d x u hd ru
  have room := r.rm.un
  have refs : ∀ a, u = .ref a → wpAny (model X.prog X.w) X.A (call (.builtin "repr") [u]) (EP X pins σ Q) X.xe s := by
    rintro a rfl
    refine repr_of_reads' R hs (PyData.noDict_hsm nd) r.gd (by omega) (fun _ _ z => z) (fun h' t tk hk => ?_) hz
    exact ⟨.str _, H, I.kept hk, ⟨_, rfl⟩, q⟩
  cases hd with
  | non =>
    cases ru
    exact PySem.P.repr_of_none ⟨.str _, H, I.tok _, ⟨_, rfl⟩, q⟩
  | bl b =>
    cases ru
    exact PySem.P.repr_of_bool ⟨.str _, H, I.tok _, ⟨_, rfl⟩, q⟩
  | int i =>
    obtain ⟨t, rfl⟩ := ru
    have hs' : i.natAbs.log2 < 1920 := of_decide_eq_true (by simpa only [PyData.showable] using hs)
    exact PySem.P.repr_of_int hs' ⟨.str _, H, I.tok _, ⟨_, rfl⟩, q⟩
  | str y =>
    obtain ⟨t, rfl⟩ := ru
    exact PySem.P.repr_of_str ⟨.str _, H, I.tok _, ⟨_, rfl⟩, q⟩ hz
  | lst _ _ =>
    cases ru
    exact refs _ rfl
  | tup _ _ =>
    cases ru
    exact refs _ rfl
theorem call_reprD {k : Nat} (r : RmG k X.A) : CallR X (.builtin "repr") (rRepr X.K) := by
  intro pins s σ H xs us Q I hv h
  obtain ⟨x, d, rfl, hd, hs, hp, hz, q⟩ := h
  obtain ⟨u, rfl, ru⟩ := vals1 hv
  exact repr_core r I hd ru hs hp hz q
/-- a ** n of written numbers -/
def CPw (i j : Int) : Prop := 0 ≤ j ∧ (Builtin.Int.intBits i : Int) * j ≤ 2 ^ 27
theorem op_powW : OpR X (binaryOp .Pow) (rI CPw fun i j => .int (i ^ j.toNat)) := opI fun _ _ _ _ _ _ _ hc q => pow_int hc.1 hc.2 q
end

/-! ### a bound of a shown text -/
mutual
def wt : PyData → Nat
  | .none => 4
  | .bool _ => 5
  | .int _ => 1930
  | .str x => (reprText x).length
  | .list xs => wtAll xs + 2
  | .tuple xs => wtAll xs + 3
  | .dict kvs => (PyData.dict kvs).shown.length
def wtAll : List PyData → Nat
  | [] => 0
  | x :: xs => wt x + 2 + wtAll xs
end
theorem textFrom_le : ∀ (ts : List Str) (k : Nat) (acc : Str), (textFrom k acc ts).length ≤ acc.length + piled ts
  | [], k, acc => by show acc.length ≤ _; omega
  | t :: ts, k, acc => by
    have h := textFrom_le ts (k + 1) (acc ++ (if k > 0 then ", " else "" : String) ++ t)
    have e : (acc ++ (if k > 0 then ", " else "" : String) ++ t).length ≤ acc.length + 2 + t.length := by
      rw [strLen_append, strLen_append]
      split
      · show _ + 2 + _ ≤ _; omega
      · show _ + 0 + _ ≤ _; omega
    rw [piled_cons]
    show (textFrom (k + 1) _ ts).length ≤ _
    omega
theorem join_le : ∀ ts : List Str, (Str.join ", " ts).length ≤ piled ts
  | [] => Nat.zero_le _
  | t :: ts => by
    have h := join_length_add (t :: ts) (by simp)
    omega
theorem listText_le (ts : List Str) : (listText ts).length ≤ piled ts + 2 := by
  unfold listText
  rw [strLen_append]
  have h := textFrom_le ts 0 "["
  have e1 : (("[" : String) : Str).length = 1 := rfl
  have e2 : (("]" : String) : Str).length = 1 := rfl
  omega
theorem tupleText_le (ts : List Str) : (tupleText ts).length ≤ piled ts + 3 := by
  unfold tupleText
  rw [strLen_append, strLen_append]
  have h := join_le ts
  have e1 : (("(" : Str)).length = 1 := rfl
  split
  · have e2 : ((",)" : String) : Str).length = 2 := rfl
    omega
  · have e2 : ((")" : String) : Str).length = 1 := rfl
    omega
mutual
theorem shown_le : ∀ d : PyData, d.showable = true → d.shown.length ≤ wt d
  | .none, _ => by simp only [PyData.shown, wt]; decide
  | .bool b, _ => by simp only [PyData.shown, wt]; cases b <;> decide
  | .int i, h => by
    simp only [PyData.shown, wt]
    have h' : i.natAbs.log2 < 1920 := of_decide_eq_true (by simpa only [PyData.showable] using h)
    have e := int_text_length_le (k := 1920) (by decide) h'
    have e2 : (Str.ofString (toString i)).length = (toString i).length := PySem.ofString_length _
    show (Str.ofString (toString i)).length ≤ _
    omega
  | .str x, _ => by simp only [PyData.shown, wt]; exact Nat.le_refl _
  | .list xs, h => by
    simp only [PyData.shown, wt]
    have h1 := listText_le (PyData.shownAll xs)
    have h2 := shownAll_le xs (by simpa only [PyData.showable] using h)
    omega
  | .tuple xs, h => by
    simp only [PyData.shown, wt]
    have h1 := tupleText_le (PyData.shownAll xs)
    have h2 := shownAll_le xs (by simpa only [PyData.showable] using h)
    omega
  | .dict kvs, _ => by simp only [wt]; exact Nat.le_refl _
theorem shownAll_le : ∀ xs : List PyData, PyData.showableAll xs = true → piled (PyData.shownAll xs) ≤ wtAll xs
  | [], _ => by simp only [PyData.shownAll, wtAll]; exact Nat.le_refl _
  | x :: xs, h => by
    have h' : (x.showable && PyData.showableAll xs) = true := by simpa only [PyData.showableAll] using h
    have h2 := Bool.and_eq_true_iff.mp h'
    simp only [PyData.shownAll, wtAll]
    rw [piled_cons]
    have a := shown_le x h2.1
    have b := shownAll_le xs h2.2
    omega
end
end Gl

/-! The end of a law over FnG. -/
namespace Gl
open PySem PySem.Spec PyProof.Rows L2
open PySem.W (OpenLaw)

theorem rmCaller {k : Nat} (h : Room k callerA) : RmG k callerA := ⟨h, rfl⟩

section
variable {P : Program} {w : World} {K : PySem.W.Frag} {mg mb : Str → Option Value} {k : Nat} {fa a : Addr} {fd : FuncData} {x : Str} {sp : Sp} {s1 : Shared} {vs : List Value} {ns : List Int}
/-- what stands at the law's entry -/
structure Entry (P : Program) (w : World) (K : PySem.W.Frag) (mg mb : Str → Option Value) (k : Nat) (fa a : Addr) (fd : FuncData) (x : Str) (sp : Sp) (s1 : Shared) (vs : List Value) (ns : List Int) : Prop where
  kin : K.In s1.heap
  ng : s1.heap.Ns mainGlobals mg
  nb : s1.heap.Ns builtinsNs mb
  bb : ∀ y : Str, y ≠ "__name__" → mb y = bootBuiltins y
  lim : s1.heap.NoLimit
  gn : s1.gens = #[]
  at_ : s1.heap.get? a = some { cls := .type "list", data := .seq vs.toArray }
  ia : IntsAre vs ns
  sz : ns.length ≤ sizeLine
  rm : Room k callerA
  F : ∀ base : Heap, K.In base → base.Ns mainGlobals mg → FnG P w K mg base CX0 k fa fd [x] sp
  bind : ∀ (s : Shared) (u : Value), BindsTo s fd ⟨[u], []⟩ [(x, u)]
  sp_ : ∀ H : Hp, Only H → SqL K H a (ns.map V.int) → sp [.ref a] H (fun v _ => v = .bl true) fun _ _ _ => False
abbrev Fin (s1 : Shared) (r : Result) (s' : Shared) : Prop := r = .ok (.ret (.bool true)) ∧ OldK s1.heap s'.heap ∧ s'.os = s1.os ∧ AllBare s'.gens

theorem Entry.from (N : Entry P w K mg mb k fa a fd x sp s1 vs ns) (H : Hp) (only : Only H) (sq : SqL K H a (ns.map V.int)) (ok : HOk P w H s1.heap)
    (just : ∀ b, H b ≠ none → b = a) (own : H a ≠ none → K.lookup a = none) :
    codeAny (model P w) callerA (.call (.ref fa) ⟨[.ref a], []⟩) (Fin s1) s1 := by
  have none_of : ∀ b, (H b ≠ none → False) → H b = none := fun b z => by
    rcases h : H b with _ | u
    · rfl
    · exact (z (by rw [h]; exact fun e => nomatch e)).elim
  have dict_free : ∀ {b : Addr} {o : Obj} {es : Array DictEntry} {ep : Nat}, s1.heap.get? b = some o → o.data = .dict es ep → H b = none := by
    intro b o es ep e d
    apply none_of
    intro z
    obtain rfl := just b z
    rw [N.at_] at e
    obtain rfl := Option.some.inj e
    exact nomatch d
  have keepNs : ∀ {b : Addr} {m : Str → Option Value}, s1.heap.Ns b m → (hidT s1.heap H).Ns b m := by
    rintro b m ⟨o, es, ep, e, d, r⟩
    exact ⟨o, es, ep, hidT_get e (dict_free e d), d, r⟩
  have kb : K.In (hidT s1.heap H) := by
    intro b o e
    apply hidT_get (N.kin b o e)
    apply none_of
    intro z
    obtain rfl := just b z
    rw [own z] at e
    exact nomatch e
  have lim : (hidT s1.heap H).NoLimit := by
    obtain ⟨m, h1, h2⟩ := N.lim
    exact ⟨m, keepNs h1, h2⟩
  have md : Mod K mg (hidT s1.heap H) := ⟨kb, keepNs N.ng, ⟨mb, keepNs N.nb, N.bb⟩, lim⟩
  have e0 : Env0 P w K mg (hidT s1.heap H) callerA [] s1 H :=
    { frames := rfl, mod := md, bs := fun _ _ e => of_hidT e, bsz := Nat.le_of_eq (hidT_size _ _), funs := trivial,
      frf := (fun b z => absurd (show b ∈ ([] : List Addr) from z) (by simp)), hok := ok, bare := .of_eq N.gn }
  have c := (N.F _ kb (keepNs N.ng)).go callerA [] s1 H ⟨[.ref a], []⟩ [.ref a] [.ref a] _ _ (rmCaller N.rm) e0 (N.bind s1 (.ref a)) (.cons rfl .nil) (N.sp_ H only sq)
  apply codeAny_mono c
  intro r s2 z
  match r, z with
  | .error e, z => exact z.elim
  | .ok .next, z => exact z.elim
  | .ok .brk, z => exact z.elim
  | .ok .cont, z => exact z.elim
  | .ok (.ret u), ⟨v, H2, os, br, un, ok2, rv, q⟩ =>
    obtain rfl : v = .bl true := q
    obtain rfl : u = Value.bool true := rv
    refine ⟨rfl, OldK.of_keep ?_, os, br⟩
    intro b o e
    rcases h : H b with _ | u
    · exact un.keep b o e h (fun z => nomatch z) (fun z => nomatch z)
    · rcases only b with z | ⟨ob, xs, z⟩
      · rw [h] at z
        exact nomatch z
      · have y1 := (ok b _ z).1
        have y2 := (ok2 b _ (un.frzs b ob _ z)).1
        obtain rfl := Option.some.inj (e.symm.trans y1)
        exact y2

theorem Entry.run (N : Entry P w K mg mb k fa a fd x sp s1 vs ns) : codeAny (model P w) callerA (.call (.ref fa) ⟨[.ref a], []⟩) (Fin s1) s1 := by
  have rv := vals_ints N.ia
  rcases hk : K.lookup a with _ | o
  · let ob : Obj := { cls := .type "list", data := .seq vs.toArray }
    let H : Hp := upd (fun _ => none) a (.frz ob (.lst (ns.map V.int)))
    have ha : H a = some (.frz ob (.lst (ns.map V.int))) := upd_same
    have hn : ∀ b, b ≠ a → H b = none := fun b z => upd_ne z
    have just : ∀ b, H b ≠ none → b = a := fun b z => Decidable.byContradiction fun y => z (hn b y)
    refine N.from H ?_ (.inl (.inr ⟨ob, ha⟩)) ?_ just fun _ => hk
    · intro b
      by_cases z : b = a
      · subst z
        exact .inr ⟨ob, ns.map V.int, ha⟩
      · exact .inl (hn b z)
    · intro b o z
      obtain rfl := just b (by rw [z]; exact fun e => nomatch e)
      rw [ha] at z
      obtain rfl := Option.some.inj z
      exact ⟨N.at_, by rw [List.length_map]; exact N.sz, vs, _, rv, N.at_⟩
  · have e := N.kin a o hk
    rw [N.at_] at e
    obtain rfl := Option.some.inj e
    refine N.from (fun _ => none) (fun _ => .inl rfl) (.inr ⟨_, vs.toArray, _, hk, rfl, rfl, rfl, ?_, by simpa using rv⟩) (fun b u z => nomatch (show (none : Option HO) = some u from z)) (fun b z => (z rfl).elim) fun z => (z rfl).elim
    rw [List.size_toArray, N.ia.length]
    exact N.sz
end

theorem walkG {l : OpenLaw} {n k : Nat} {q : Program} {lo : List Str} {XP : (Str → Option Value) → Heap → Prop} {YP : World → Heap → Prop} {d : DefRec} {K : Params → PySem.W.Frag} {sp : PySem.W.Frag → Sp} {x : Str}
    (hn : l.most = some n) (n2 : n ≤ sizeLine) (df : d.params.defaults = []) (rm : Room k callerA)
    (kY : ∀ (w : World) (h : Heap), YP w h → (K w.params).In h)
    (F : ∀ (w : World) (mg : Str → Option Value) (fa : Addr) (h : Heap), (K w.params).In h → h.Ns mainGlobals mg → mg d.name = some (.ref fa) →
      ∃ fd : FuncData, (∀ (s : Shared) (u : Value), BindsTo s fd ⟨[u], []⟩ [(x, u)]) ∧
        ∀ base : Heap, (K w.params).In base → base.Ns mainGlobals mg → FnG l.prog w (K w.params) mg base CX0 k fa fd [x] (sp (K w.params)))
    (hs : ∀ (K : PySem.W.Frag) (H : Hp) (a : Addr) (ns : List Int), ns.length ≤ n → Only H → SqL K H a (ns.map V.int) → sp K [.ref a] H (fun v _ => v = .bl true) fun _ _ _ => False) :
    PySem.W.WalkO q lo XP YP l.row.toRowW d [] (fun f vs => PySem.call f vs) := by
  apply Att.attach_call hn df
  intro w s0 s1 mg mb fa o pm cd doc a vs ns G Y ho hd hc hm ha hi hl hg
  obtain ⟨fd, hb, hF⟩ := F w mg fa _ (kY w _ Y) G.T.g hm
  exact Entry.run { kin := kY w _ Y, ng := G.T.g, nb := G.T.b, bb := G.T.builtins, lim := G.T.nolimit, gn := hg, at_ := ha, ia := hi, sz := Nat.le_trans hl n2, rm := rm, F := hF, bind := hb, sp_ := fun H h1 h2 => hs _ H a ns hl h1 h2 }
end Gl

namespace Gl
open PySem PySem.Spec PyProof.Rows L2 ClX
/-- C.m is a staticmethod: its record at p, its def at g -/
structure SMet (K : PySem.W.Frag) (C : Addr) (mc : Value) (m : Str) (p g : Addr) : Prop where
  at_ : PySem.W.findCls K (.ref C) mc m = some (.get (.builtin "staticmethod.__get__") (.ref p) .none (.ref C))
  rc : ∃ rest, PySem.W.recIn K p "staticmethod" = some (.ref g :: rest)
  kp : PySem.W.keepIn K (.ref g) = true
/-- e.m(..), e the class at C, m a staticmethod -/
def tSMeth (C : Addr) (sp : Sp) (dvs : List V) (E : XK) (ta : TE) (t : TA) : TE := fun σ H Q => ta σ H fun x H1 => x = .ref C ∧ t σ H1 fun vs H2 => sp (vs ++ dvs) H2 Q E
section
variable {X : Cx} {pins : List (Addr × Obj)} {σ : L2.St} {H : Hp} {s : Shared} {C p g : Addr} {mc : Value} {m : Str} {A : Around} {E' : Value → Shared → Prop}
theorem getsmet_ok {b : Bool} {Q : Value → Shared → Prop} (I : Inv X pins σ H s) (r : CRead X.K C mc) (k : SMet X.K C mc m p g)
    (h : ∀ s', Inv X pins σ H s' → Q (.ref g) s') : wpAny (model X.prog X.w) A (getAttr (.ref C) m b) Q E' s := by
  obtain ⟨rest, hp⟩ := k.rc
  refine PySem.W.cls_bind I.kIn r.rd k.at_ ?_
  refine wpAny_call (PySem.W.sm_get (s := { s with toks := s.toks + 1 }) I.kIn hp (PySem.W.handed_on rfl ?_))
  exact h _ (I.tok _)
theorem getmethsm_ok {pl : Sem Bool} {Q : Value × List Value → Shared → Prop} (I : Inv X pins σ H s) (r : CRead X.K C mc) (k : SMet X.K C mc m p g)
    (h : ∀ s', Inv X pins σ H s' → Q (.ref g, []) s') : wpAny (model X.prog X.w) A (getMethod (.ref C) m pl) Q E' s :=
  PySem.W.method_cls I.kIn r.ga (getsmet_ok I r k h)
variable {CX : CXT} {k : Nat} {sp : Sp} {E : XK} {fd : FuncData} {ps : List Str} {ds : List Value} {dvs : List V} {o e : Expr} {es : List Expr} {pos apos : Pos} {ta : TE} {t : TA} {pl : Sem Bool}
theorem pe_smeth (he : PE X o ta) (r : CRead X.K C mc) (c : SMet X.K C mc m p g) (F : FnOk X.prog X.w X.K X.mg X.base CX k g fd ps sp) (hr : Room k X.A) (hb : Binds X.K fd ps ds) (hd : Vals dvs ds) (hx : Passes CX X E) (ha : PA X (e :: es) t)
    (hst : starEach (e :: es) X.env = (false, eval e X.env) :: starEach es X.env := by rfl) (hpl : (backTo pos (starEach es X.env)).any (·.1) = false := by rfl)
    (ht : eval (.Call (.Attribute o m apos) (e :: es) [] pos) X.env = (do
      let ov ← eval o X.env
      standAt apos.atName
      let (f, first) ← holding [ov] (getMethod ov m pl)
      callWith pos f first (backTo pos (starEach (e :: es) X.env)) (backToKw pos (keywordEach [] X.env))) := by rfl) :
    PE X (.Call (.Attribute o m apos) (e :: es) [] pos) (tSMeth C sp dvs E ta t) := by
  refine ⟨fun pins s σ H Q I h => ?_⟩
  refine PySem.W.methodCall_KW (pl := pl) (thn (he.run pins s σ H _ I h) fun u s1 ⟨x, H1, I1, rx, ex, q⟩ => ?_) ht
  subst ex
  obtain rfl : u = Value.ref C := rx
  refine getmethsm_ok I1 r c fun s2 I2 => ?_
  refine PySem.W.callWith_K (h₀ := X.base) I2.ok.mod.kin c.kp (thn (ha.run pos pins s2 σ H1 _ I2 q) fun us s3 ⟨vs, H2, I3, rv, q2⟩ => ⟨I3.kIn, ?_⟩) hst hpl
  exact run_fn F hr hb hd hx I3 rv q2
theorem pe_smeth0 (he : PE X o ta) (r : CRead X.K C mc) (c : SMet X.K C mc m p g) (F : FnOk X.prog X.w X.K X.mg X.base CX k g fd ps sp) (hr : Room k X.A) (hb : Binds X.K fd ps ds) (hd : Vals dvs ds) (hx : Passes CX X E)
    (ht : eval (.Call (.Attribute o m apos) [] [] pos) X.env = (do
      let ov ← eval o X.env
      standAt apos.atName
      let (f, first) ← holding [ov] (getMethod ov m pl)
      callWith pos f first (backTo pos (starEach [] X.env)) (backToKw pos (keywordEach [] X.env))) := by rfl) :
    PE X (.Call (.Attribute o m apos) [] [] pos) (tSMeth C sp dvs E ta tNil) := by
  refine ⟨fun pins s σ H Q I h => ?_⟩
  refine PySem.W.methodCall_KW (pl := pl) (thn (he.run pins s σ H _ I h) fun u s1 ⟨x, H1, I1, rx, ex, q⟩ => ?_) ht
  subst ex
  obtain rfl : u = Value.ref C := rx
  refine getmethsm_ok I1 r c fun s2 I2 => ?_
  exact PySem.W.callWith_K0 I2.kIn c.kp (run_fn (us := []) F hr hb hd hx I2 .nil q)
end
end Gl

namespace Gl
open PySem PySem.Spec PyProof.Rows L2
/-- tuple * 1: the tuple itself -/
theorem tuple_mul1 (l : Addr) (items : Array Value) (n : Nat) (dd : Option Addr) (sl : Array (Option Value)) (u : Tok) :
    Meets (Builtin.«tuple.__mul__» ⟨[.ref l, .int 1 u], []⟩) (fun _ R s => s.heap.get? l = some { cls := .type "tuple", dict := dd, data := .seq items n, slots := sl } ∧
      R (.ok (.ret (Value.ref l))) s) :=
  .of_wp fun prog w A R s h => by
    obtain ⟨hp, g, d, tk, os⟩ := s
    obtain ⟨hl, h⟩ := h
    have f1 := AutoSeq1.idx_int
    have c1 : (items.isEmpty || (1 : Int) == 1) = true := by rw [show ((1 : Int) == 1) = true from rfl, Bool.or_true]
    have c0 : (decide ((1 : Int) < -(2 ^ 63)) || decide ((1 : Int) ≥ 2 ^ 63)) = false := by decide
    wp_walk using wpAny_loadPart' hl
    exact ⟨_, rfl, h⟩
def rRepT1 (K : PySem.W.Frag) : R2 := fun x y H Q => ∃ l xs, x = .ref l ∧ y = .int 1 ∧ SqT K H l xs ∧ Q (.ref l) H
section
variable {X : Cx}
theorem op_repT1 : OpR X (binaryOp .Mult) (rRepT1 X.K) := by
  intro pins s σ H x y v u Q I rx ry h
  obtain ⟨l, xs, rfl, rfl, hT, q⟩ := h
  cases rx
  obtain ⟨t, rfl⟩ := ry
  obtain ⟨its, r, ⟨⟨cls, dd, data, sl⟩, ho, hc, n, hd⟩, hs⟩ := I.tuple hT
  simp only at hc hd
  subst hc hd
  refine wpAny_binaryOp_repeat_ref (T := "tuple") (U := "int") (by decide) ⟨_, ho, rfl⟩ (fun s' => typeIs_int s' 1 t) noFill_tuple_mul F.fills_int_mul F.slot_int_rmul repeat_tuple F.slot_int_index.lookup
    (call_meets F.slot_int_rmul (typeIs_int s 1 t) F.entry_int_rmul (F.args_int_rmul_2 _ _) (int_rmul_tuple 1 t l its.toArray n dd sl)
      ⟨ho, rfl, ⟨_, ho, rfl⟩, call_meets F.slot_tuple_mul ⟨_, ho, rfl⟩ F.entry_tuple_mul (F.args_tuple_mul_2 _ _) (tuple_mul1 l its.toArray n dd sl t) ⟨ho, ?_⟩⟩)
  exact ⟨.ref l, H, I, rfl, q⟩
end
end Gl

namespace Gl
open PySem PySem.Spec PyProof.Rows L2
def topS (i : Nat) : Stmt := PySem.Challenge.pw_mostkept_k07_sums_and_differences.main.body.getD i (.Pass ⟨0, 0, 0, 0⟩)
/-- what the dice are: a list of three ints -/
def Dice (H : Hp) (a : Addr) : Prop := ∃ x y z : Int, H a = some (.lst [.int x, .int y, .int z])
/-- all that stands stays -/
def Ex (H H' : Hp) : Prop := ∀ b o, H b = some o → H' b = some o
/-- all that stands stays, but the dice at a -/
structure Gro (a : Addr) (H H' : Hp) : Prop where
  st : ∀ b o, b ≠ a → H b = some o → H' b = some o
  di : Dice H' a
theorem Ex.refl (H : Hp) : Ex H H := fun _ _ e => e
theorem Ex.trans {H H1 H2 : Hp} (a : Ex H H1) (b : Ex H1 H2) : Ex H H2 := fun _ _ e => b _ _ (a _ _ e)
theorem Ex.new {H : Hp} {p : Addr} {o : HO} (h : H p = none) : Ex H (upd H p o) := fun b u e => by rw [upd_ne (ne_of_none e h)]; exact e
/-- an object that was not there may change -/
theorem Ex.mut {H H' : Hp} {p : Addr} {o : HO} (e : Ex H H') (h : H p = none) : Ex H (upd H' p o) := fun b u q => by rw [upd_ne (ne_of_none q h)]; exact e b u q
theorem Ex.sqL {K : PySem.W.Frag} {H H' : Hp} {a : Addr} {xs : List V} (e : Ex H H') (h : SqL K H a xs) : SqL K H' a xs := by
  rcases h with (h | ⟨o, h⟩) | h
  · exact .inl (.inl (e a _ h))
  · exact .inl (.inr ⟨o, e a _ h⟩)
  · exact .inr h
theorem Ex.rd {H H' : Hp} {a : Addr} {u : HO} (e : Ex H H') (h : Rd H a u) : Rd H' a u := by
  rcases h with h | ⟨o, h⟩
  · exact .inl (e a _ h)
  · exact .inr ⟨o, e a _ h⟩
theorem Ex.dice {H H' : Hp} {a : Addr} (e : Ex H H') (h : Dice H a) : Dice H' a := let ⟨x, y, z, q⟩ := h; ⟨x, y, z, e a _ q⟩
theorem Ex.back {H H' : Hp} {p : Addr} (e : Ex H H') (h : H' p = none) : H p = none := by
  rcases q : H p with _ | o
  · rfl
  · rw [e p o q] at h; exact nomatch h
theorem Gro.refl {H : Hp} {a : Addr} (d : Dice H a) : Gro a H H := ⟨fun _ _ _ e => e, d⟩
theorem Gro.trans {a : Addr} {H H1 H2 : Hp} (x : Gro a H H1) (y : Gro a H1 H2) : Gro a H H2 := ⟨fun b o n e => y.st b o n (x.st b o n e), y.di⟩
theorem Gro.ex {a : Addr} {H H1 H2 : Hp} (x : Gro a H H1) (y : Ex H1 H2) : Gro a H H2 := ⟨fun b o n e => y b o (x.st b o n e), y.dice x.di⟩
theorem Gro.of {a : Addr} {H H1 : Hp} (y : Ex H H1) (d : Dice H a) : Gro a H H1 := (Gro.refl d).ex y
theorem Gro.mut {a : Addr} {H H' : Hp} {p : Addr} {o : HO} (x : Gro a H H') (h : H p = none) (n : p ≠ a) : Gro a H (upd H' p o) :=
  ⟨fun b u nb e => by rw [upd_ne (ne_of_none e h)]; exact x.st b u nb e, let ⟨i, j, k, q⟩ := x.di; ⟨i, j, k, by rw [upd_ne n.symm]; exact q⟩⟩
theorem Gro.tup {a p : Addr} {H H' : Hp} {xs : List V} (x : Gro a H H') (d : Dice H a) (h : H p = some (.tup xs)) : H' p = some (.tup xs) :=
  x.st p _ (fun e => by obtain ⟨i, j, k, q⟩ := d; rw [e, q] at h; exact nomatch h) h
theorem Gro.rd {a p : Addr} {H H' : Hp} {xs : List V} (x : Gro a H H') (d : Dice H a) (h : Rd H p (.tup xs)) : Rd H' p (.tup xs) := by
  obtain ⟨i, j, k, q⟩ := d
  rcases h with h | ⟨o, h⟩
  · exact .inl (x.st p _ (fun e => by rw [e, q] at h; exact nomatch h) h)
  · exact .inr ⟨o, x.st p _ (fun e => by rw [e, q] at h; exact nomatch h) h⟩
theorem Gro.frz {a p : Addr} {H H' : Hp} {o : Obj} {u : HO} (x : Gro a H H') (d : Dice H a) (h : H p = some (.frz o u)) : H' p = some (.frz o u) := by
  obtain ⟨i, j, k, q⟩ := d
  exact x.st p _ (fun e => by rw [e, q] at h; exact nomatch h) h
theorem Gro.sqL {K : PySem.W.Frag} {a p : Addr} {H H' : Hp} {xs : List V} (x : Gro a H H') (n : p ≠ a) (h : SqL K H p xs) : SqL K H' p xs := by
  rcases h with (h | ⟨o, h⟩) | h
  · exact .inl (.inl (x.st p _ n h))
  · exact .inl (.inr ⟨o, x.st p _ n h⟩)
  · exact .inr h
theorem Gro.back {a p : Addr} {H H' : Hp} (x : Gro a H H') (d : Dice H a) (h : H' p = none) : H p = none ∧ p ≠ a := by
  have n : p ≠ a := fun e => by obtain ⟨i, j, k, q⟩ := x.di; rw [← e, h] at q; exact nomatch q
  refine ⟨?_, n⟩
  rcases q : H p with _ | o
  · rfl
  · rw [x.st p o n q] at h; exact nomatch h
theorem Dice.ne {H : Hp} {a p : Addr} (d : Dice H a) (h : H p = none) : p ≠ a := fun e => by obtain ⟨i, j, k, q⟩ := d; rw [← e, h] at q; exact nomatch q
/-- names that the module leaves to the built-ins -/
structure Blt (mg : Str → Option Value) : Prop where
  len : mg "len" = none
  int : mg "int" = none
  abs : mg "abs" = none
  max : mg "max" = none
  min : mg "min" = none
  range : mg "range" = none
  tuple : mg "tuple" = none
  list : mg "list" = none
  repr : mg "repr" = none
  zip : mg "zip" = none
  isinstance : mg "isinstance" = none
  all : mg "all" = none
  str : mg "str" = none
  bool : mg "bool" = none
end Gl

namespace Gl
open PySem PySem.Spec PyProof.Rows L2
abbrev sDice : Stmt := topS 17
abbrev sPull : Stmt := topS 18
abbrev sPick : Stmt := topS 19
theorem scDice : FnScope ["_law_script", "_law_at", "_law_cell", "_law_great", "_law_mixed"] ["_law_script", "_law_at"] (defScope sDice) := ⟨rfl, rfl, rfl, by decide +kernel, rfl, by decide +kernel, by decide +kernel⟩
theorem scPull : FnScope ["_law_dice_here", "_law_total_here", "_law_found", "_law_one", "_law_two"] ["_law_dice_here", "_law_total_here"] (defScope sPull) := ⟨rfl, rfl, rfl, by decide +kernel, rfl, by decide +kernel, by decide +kernel⟩
theorem scPick : FnScope ["_law_dice_here", "_law_items"] ["_law_dice_here", "_law_items"] (defScope sPick) := ⟨rfl, rfl, rfl, by decide +kernel, rfl, by decide +kernel, by decide +kernel⟩
section
variable {P : Program} {w : World} {K : PySem.W.Frag} {mg : Str → Option Value} {base : Heap}
def spDice (K : PySem.W.Frag) : Sp := fun vs H Q _ => ∃ (a : Addr) (ns : List Int) (at_ : Nat), vs = [.ref a, .int at_] ∧ SqL K H a (ns.map V.int) ∧ ns.length ≤ 63 ∧
  ∀ H' p, Ex H H' → H p = none → Dice H' p → Q (.ref p) H'
theorem cmul_l {i j : Int} (h1 : -(2 ^ 64) < i) (h2 : i < 2 ^ 64) : CMul i j := .inl ⟨h1, h2⟩
theorem cpw60 : CPw 10 60 := ⟨by decide, by decide +kernel⟩
theorem cpw12 : CPw ((10 : Int) ^ (60 : Int).toNat) 12 := ⟨by decide, by decide +kernel⟩
theorem cpw18 : CPw 10 18 := ⟨by decide, by decide +kernel⟩
theorem pos720 : (0 : Int) < ((10 : Int) ^ (60 : Int).toNat) ^ (12 : Int).toNat := by decide +kernel
theorem ok_dice {f : Addr} {fd : FuncData} {k : Nat} (F : Fun K "_law_dice" "_law_dice" sDice f fd) (T : Blt mg) : FnG P w K mg base CX0 (k + 1) f fd ["_law_script", "_law_at"] (spDice K) := by
  refine okG F scDice (fun vs H Q E h => ?_) (fun cdv A outer s H vs Q E hr h => ?_)
  · obtain ⟨a, ns, i, rfl, _⟩ := h
    rfl
  · obtain ⟨a, ns, i, rfl, hS, hl, q⟩ := h
    have nd := scDice.nd
    refine ⟨_, pss_cons (ps_set (i := 2) nd rfl (.inl rfl) (pe_op op_add (pe_op op_mul pe_int (pv 1)) pe_int))
      (pss_cons (ps_if (pt_cmpR op_lt (pv 1) (pe_callB call_len_seq (by rfl) T.len PySem.boot_len (pa_cons (pv 0) pa_nil)) (nomark _)) (pss_one (ps_set (i := 2) nd rfl (.inl rfl) (pe_ix ix_list (pv 0) (pv 1) (fun _ _ => rfl)))) pss_nil)
      (pss_cons (ps_set (i := 3) nd rfl (.inl rfl) (pe_op op_mod (pe_callTy call_int1 (by rfl) T.int (by decide +kernel) (pa_cons (pe_callB call_abs (by rfl) T.abs (by decide +kernel) (pa_cons (pv 2) pa_nil)) pa_nil)) (pe_op op_powW (pe_op op_powW pe_int pe_int) pe_int)))
      (pss_cons (ps_set (i := 4) nd rfl (.inl rfl) (pe_op op_add (pe_op op_add (pe_op op_add (pe_op op_mul (pe_op op_mod (pe_callTy call_int1 (by rfl) T.int (by decide +kernel) (pa_cons (pv 3) pa_nil)) pe_int) pe_int) (pe_op op_mul pe_int (pv 1))) (pe_op op_mul pe_int (pe_callTy call_int1 (by rfl) T.int (by decide +kernel) (pa_cons (pe_cmpR op_lt (pv 2) pe_int (nomark _)) pa_nil)))) pe_int))
      (pss_one (ps_ret (pe_lst (pa_cons (pe_callB (call_max2 rfl) (by rfl) T.max (by decide +kernel) (pa_cons pe_int (pa_cons (pe_op op_sub (pv 3) (pe_op op_powW pe_int pe_int)) pa_nil))) (pa_cons (pe_op op_mod (pe_callTy call_int1 (by rfl) T.int (by decide +kernel) (pa_cons (pv 4) pa_nil)) pe_int) (pa_cons pe_int pa_nil))))))))), ?_⟩
    -- cell = 13 * at + 6
    refine ⟨_, rfl, 13, i, rfl, rfl, cmul_l (by decide) (by decide), _, _, rfl, rfl, ?_⟩
    -- if at < len(script): cell = script[at]
    refine ⟨_, rfl, .ref a, rfl, a, _, rfl, .inl hS, i, _, rfl, rfl, _, rfl, ?_⟩
    refine ite2 (fun e => ?_) (fun e => ?_)
    have hi : i < ns.length := by
      have := of_decide_eq_true e
      rw [List.length_map] at this
      omega
    refine ⟨_, rfl, _, rfl, a, _, i, .int ns[i], rfl, rfl, hS, atI_nat (j := i) (by rw [List.getElem?_map, List.getElem?_eq_getElem hi]; rfl), ?_⟩
    generalize ns[i] = c
    revert c
    rotate_left
    generalize 13 * (i : Int) + 6 = c
    revert c
    all_goals
      intro c
      refine ⟨_, rfl, _, rfl, .inl ⟨_, rfl, 10, 60, rfl, rfl, cpw60, _, 12, rfl, rfl, cpw12, _, _, rfl, rfl, pos720, ?_⟩⟩
      refine ⟨_, rfl, .inl ⟨_, rfl, _, _, rfl, rfl, (show (0 : Int) < 2147483497 by decide), _, _, rfl, rfl, .inr ⟨by decide, by decide⟩, _, rfl, _, _, rfl, rfl, cmul_l (by decide) (by decide), _, _, rfl, rfl, _, rfl, _, _, rfl, rfl, .inr ⟨_, rfl, _, _, rfl, rfl, cmul_l (by decide) (by decide), _, _, rfl, rfl, _, _, rfl, rfl, ?_⟩⟩⟩
      refine ⟨_, rfl, 10, 18, rfl, rfl, cpw18, _, _, rfl, rfl, _, _, rfl, _, rfl, .inl ⟨_, rfl, _, _, rfl, rfl, (show (0 : Int) < 2147483489 by decide), by show 3 ≤ sizeLine; decide, fun p np => ?_⟩⟩
      exact q _ p (Ex.new np) np ⟨_, _, _, upd_same⟩
def spPull : Sp := fun vs H Q _ => ∃ (a : Addr) (n : Int), vs = [.ref a, .int n] ∧ 0 < n ∧ n.natAbs < 2 ^ 200 ∧ Dice H a ∧
  ∀ (v : Int) H', 0 ≤ v → v < n → Gro a H H' → Q (.int v) H'
theorem ok_pull {f : Addr} {fd : FuncData} {k : Nat} (F : Fun K "_law_pull" "_law_pull" sPull f fd) (T : Blt mg) : FnG P w K mg base CX0 (k + 1) f fd ["_law_dice_here", "_law_total_here"] spPull := by
  refine okG F scPull (fun vs H Q E h => ?_) (fun cdv A outer s H vs Q E hr h => ?_)
  · obtain ⟨a, n, rfl, _⟩ := h
    rfl
  · obtain ⟨a, n, rfl, hn, hn2, ⟨x, y, z, hd⟩, q⟩ := h
    have nd := scPull.nd
    have hu := hu_of hr.rm
    refine ⟨_, pss_cons (ps_if (pt_cmpR op_gt (pe_ix ix_list (pv 0) pe_int (fun _ _ => rfl)) pe_int (nomark _))
        (pss_cons (ps_set (i := 2) nd rfl (.inl rfl) (pe_op op_mod (pe_callTy call_int1 (by rfl) T.int (by decide +kernel) (pa_cons (pe_ix ix_list (pv 0) pe_int (fun _ _ => rfl)) pa_nil)) (pv 1)))
        (pss_cons (ps_asg (pe_op op_fdivW (pe_ix ix_list (pv 0) pe_int (fun _ _ => rfl)) (pv 1)) (pg_sub (pv 0) pe_int set_list))
        (pss_one (ps_ret (pv 2))))) pss_nil)
      (pss_cons (ps_asg (pe_op op_add (pe_ix ix_list (pv 0) pe_int (fun _ _ => rfl)) pe_int) (pg_sub (pv 0) pe_int set_list))
      (pss_cons (ps_set (i := 3) nd rfl (.inl rfl) (pe_op op_mod (pe_callTy call_int1 (by rfl) T.int (by decide +kernel) (pa_cons (pe_op op_add (pe_ix ix_list (pv 0) pe_int (fun _ _ => rfl)) (pe_op op_mul pe_int (pe_ix ix_list (pv 0) pe_int (fun _ _ => rfl)))) pa_nil)) pe_int))
      (pss_cons (ps_set (i := 4) nd rfl (.inl rfl) (pe_op op_mul (pe_op op_mod (pe_callTy call_int1 (by rfl) T.int (by decide +kernel) (pa_cons (pe_op op_mul (pv 3) (pv 3)) pa_nil)) pe_int) (pv 3)))
      (pss_one (ps_ret (pe_op op_mod (pe_callTy call_int1 (by rfl) T.int (by decide +kernel) (pa_cons (pe_op op_fdiv (pe_op op_mod (pe_callTy call_int1 (by rfl) T.int (by decide +kernel) (pa_cons (pe_op op_add (pv 4) (pe_op op_mul pe_int (pe_ix ix_list (pv 0) pe_int (fun _ _ => rfl)))) pa_nil)) pe_int) pe_int) pa_nil)) (pv 1))))))), ?_⟩
    have at0 : atI [V.int x, .int y, .int z] 0 = some (.int x) := rfl
    have hl : SqL K H a [.int x, .int y, .int z] := .inl (.inl hd)
    have hdi : ∀ H', H' a = some (.lst [.int x, .int y, .int z]) → SqL K H' a [.int x, .int y, .int z] := fun _ h => .inl (.inl h)
    have grow : ∀ x' y' z' : Int, Gro a H (upd H a (.lst [.int x', .int y', .int z'])) := fun x' y' z' => ⟨fun b o n e => by rw [upd_ne n]; exact e, x', y', z', upd_same⟩
    refine ⟨_, rfl, a, _, 0, _, rfl, rfl, hl, rfl, _, _, rfl, rfl, _, rfl, ite2 (fun e => ?_) (fun e => ?_)⟩
    · refine ⟨_, rfl, a, _, 0, _, rfl, rfl, hl, rfl, .inl ⟨_, rfl, _, rfl, x, n, rfl, rfl, hn, ?_⟩⟩
      refine ⟨_, rfl, a, _, 0, _, rfl, rfl, hl, rfl, _, rfl, x, n, rfl, rfl, wide_div hn hn2 (by decide) (by decide), ?_⟩
      refine ⟨_, rfl, a, _, 0, 0, rfl, rfl, hd, rfl, ?_⟩
      exact ⟨_, rfl, q (x % n) _ (Int.emod_nonneg _ (by omega)) (Int.emod_lt_of_pos _ hn) (grow _ _ _)⟩
    · refine ⟨_, rfl, a, _, 2, _, rfl, rfl, hl, rfl, z, 1, rfl, rfl, ?_⟩
      refine ⟨_, rfl, a, _, 2, 2, rfl, rfl, hd, rfl, ?_⟩
      have hl2 : SqL K (upd H a (.lst [.int x, .int y, .int (z + 1)])) a [.int x, .int y, .int (z + 1)] := .inl (.inl upd_same)
      refine ⟨_, rfl, a, _, 1, _, rfl, rfl, hl2, rfl, _, rfl, a, _, 2, _, rfl, rfl, hl2, rfl, _, _, rfl, rfl, cmul_l (by decide) (by decide), _, _, rfl, rfl, .inl ⟨_, rfl, _, _, rfl, rfl, (show (0 : Int) < 2305843009213693951 by decide), ?_⟩⟩
      have b1 : ∀ u : Int, 0 ≤ u % 2305843009213693951 ∧ u % 2305843009213693951 < 2305843009213693951 := fun u => ⟨Int.emod_nonneg _ (by decide), Int.emod_lt_of_pos _ (by decide)⟩
      have b2 : ∀ u : Int, 0 ≤ u % 2305843009213693921 ∧ u % 2305843009213693921 < 2305843009213693921 := fun u => ⟨Int.emod_nonneg _ (by decide), Int.emod_lt_of_pos _ (by decide)⟩
      have c1 : ∀ u v : Int, CMul (u % 2305843009213693951) v := fun u v => cmul_l (by have := b1 u; omega) (by have := b1 u; omega)
      have c2 : ∀ u v : Int, CMul (u % 2305843009213693921) v := fun u v => cmul_l (by have := b2 u; omega) (by have := b2 u; omega)
      refine ⟨_, rfl, _, rfl, _, _, rfl, rfl, c1 _ _, .inl ⟨_, rfl, _, _, rfl, rfl, (show (0 : Int) < 2305843009213693921 by decide), _, rfl, _, _, rfl, rfl, c2 _ _, ?_⟩⟩
      refine ⟨_, rfl, _, rfl, a, _, 2, _, rfl, rfl, hl2, rfl, _, _, rfl, rfl, cmul_l (by decide) (by decide), _, _, rfl, rfl, .inl ⟨_, rfl, _, _, rfl, rfl, (show (0 : Int) < 2305843009213693907 by decide), _, _, rfl, rfl, ⟨by decide, by decide⟩, .inl ⟨_, rfl, _, rfl, _, _, rfl, rfl, hn, ?_⟩⟩⟩
      exact q _ _ (Int.emod_nonneg _ (by omega)) (Int.emod_lt_of_pos _ hn) (grow _ _ _)
end
end Gl

namespace Gl
open PySem PySem.Spec PyProof.Rows L2
/-- a tuple that carries no dict of its own: known to the object -/
def TupF (H : Hp) (p : Addr) (xs : List V) : Prop := ∃ o : Obj, o.dict = none ∧ H p = some (.frz o (.tup xs))
theorem TupF.rd {H : Hp} {p : Addr} {xs : List V} (h : TupF H p xs) : Rd H p (.tup xs) := let ⟨o, _, e⟩ := h; .inr ⟨o, e⟩
theorem Ex.tupF {H H' : Hp} {p : Addr} {xs : List V} (e : Ex H H') (h : TupF H p xs) : TupF H' p xs := let ⟨o, d, q⟩ := h; ⟨o, d, e _ _ q⟩
theorem Gro.tupF {a p : Addr} {H H' : Hp} {xs : List V} (x : Gro a H H') (d : Dice H a) (h : TupF H p xs) : TupF H' p xs := let ⟨o, n, q⟩ := h; ⟨o, n, x.frz d q⟩
theorem tupF_new {H : Hp} {p : Addr} {xs : List V} {o : Obj} (d : o.dict = none) : TupF (upd H p (.frz o (.tup xs))) p xs := ⟨o, d, upd_same⟩
section
variable {X : Cx}
/-- tuple(a list): new, without a dict -/
def rTupF (K : PySem.W.Frag) : List V → Hp → VK → Prop := fun xs H Q => ∃ p ys, xs = [.ref p] ∧ SqL K H p ys ∧ ∀ l o, H l = none → o.dict = none → Q (.ref l) (upd H l (.frz o (.tup ys)))
theorem call_tupleF : CallR X (.type "tuple") (rTupF X.K) := by
  rintro pins s σ H xs us Q I rv ⟨p, ys, rfl, hq, q⟩
  obtain ⟨u, rfl, ru⟩ := vals1 rv
  obtain rfl : u = Value.ref p := ru
  obtain ⟨its, ri, pl, hz⟩ := I.list hq
  have n1 := ri.length
  apply call_tuple_list pl.isList _ (by simp only [List.size_toArray]; omega)
  intro h' kp
  have J : Inv X pins σ H { s with heap := h' } := I.kept (t' := s.toks) kp
  let o : Obj := { cls := .type "tuple", data := .seq its.toArray }
  have g : (h'.push o).get? h'.objs.size = some o := Heap.get?_push_size _ rfl
  have ok : ObjOk X.prog X.w (upd H h'.objs.size (.frz o (.tup ys))) (h'.push o) h'.objs.size (.frz o (.tup ys)) :=
    ⟨g, hz, its, ri, o, g, rfl, _, rfl⟩
  exact ⟨.ref h'.objs.size, _, J.laid (t' := s.toks) (fun _ _ e => Heap.get?_push_of_some _ e) (Nat.le_refl _) ok, rfl, q _ o (J.hok.fresh (Nat.le_refl _)) rfl⟩
variable {es : List Expr} {pos : Pos} {t : TA}
/-- (a, b, ..): new, without a dict -/
def tTupF (t : TA) : TE := fun σ H Q => t σ H fun xs H1 => xs.length ≤ sizeLine ∧ ∀ p o, H1 p = none → o.dict = none → Q (.ref p) (upd H1 p (.frz o (.tup xs)))
theorem pe_tupF {n} (h : PA X es t) : PE X (.Tuple es n pos) (tTupF t) := .mk fun pins s σ H Q I hq => by
  apply wpAny_Tuple_spliced
  apply thn (h.run pos pins s σ H _ I hq)
  rintro us s1 ⟨xs, H1, J, r, z, q⟩
  refine ⟨by rw [← r.length]; exact z, ?_⟩
  let o : Obj := { cls := .type "tuple", data := .seq us.toArray }
  have g : (s1.heap.push o).get? s1.heap.objs.size = some o := Heap.get?_push_size _ rfl
  have ok : ObjOk X.prog X.w (upd H1 s1.heap.objs.size (.frz o (.tup xs))) (s1.heap.push o) s1.heap.objs.size (.frz o (.tup xs)) :=
    ⟨g, z, us, r, o, g, rfl, _, rfl⟩
  exact ⟨.ref s1.heap.objs.size, _, J.laid (t' := s1.toks) (fun _ _ e => Heap.get?_push_of_some _ e) (Nat.le_refl _) ok, rfl, q _ o (J.hok.fresh (Nat.le_refl _)) rfl⟩
/-- t.m(e, ..), t a tuple without a dict -/
def tBMT (r : V → List V → Hp → VK → Prop) (to : TE) (t : TA) : TE := fun σ H Q => to σ H fun x H1 => (∃ p xs, x = .ref p ∧ TupF H1 p xs) ∧ t σ H1 fun ys H2 => r x ys H2 Q
theorem pe_bmT {o e : Expr} {name : Str} {apos cpos : Pos} {id : String} {to : TE} {r : V → List V → Hp → VK → Prop} (sl : Slot "tuple" name id) (ty : typeOf (.builtin id) = pure (.type "method_descriptor")) (hm : MtR X id r) (ho : PE X o to) (ha : PA X (e :: es) t)
    (h1 : attributeBase o name X.env (eval o X.env) = eval o X.env := by rfl)
    (h2 : ((backTo cpos (starEach (e :: es) X.env)).all (fun x => !x.1) && (backToKw cpos (keywordEach [] X.env)).all (fun x => x.1.isSome)
        && decide ((e :: es).length + ([] : List Keyword).length + (if ([] : List Keyword).isEmpty then 0 else 1) < 30)) = true := by rfl)
    (h3 : (apos.endLine == cpos.line) = true := by rfl) (h4 : starEach (e :: es) X.env = (false, eval e X.env) :: starEach es X.env := by rfl)
    (h5 : (backTo cpos (starEach es X.env)).any (·.1) = false := by rfl) :
    PE X (.Call (.Attribute o name apos) (e :: es) [] cpos) (tBMT r to t) := .mk fun pins s σ H Q I h => by
  apply wpAny_Call_method_late h1 h2 h3 rfl
  apply thn (ho.run pins s σ H _ I h)
  rintro v s1 ⟨x, H1, J, rx, ⟨p, xs, rfl, ob, hd, hp⟩, q⟩
  obtain rfl : v = Value.ref p := rx
  obtain ⟨g, _, its, ri, o2, g2, c2, _⟩ := J.hok p _ hp
  obtain rfl := Option.some.inj (g.symm.trans g2)
  refine ⟨"tuple", id, PySem.F.plainAttrs_tuple, sl, ty, ⟨ob, g, c2⟩, ?_, ?_⟩
  · rintro a z
    obtain rfl := Value.ref.inj z
    exact ⟨ob, g, hd⟩
  · have A := ha.run cpos pins s1 σ H1 _ J q
    rw [h4] at A ⊢
    have h6 : (backTo cpos ((false, eval e X.env) :: starEach es X.env)).any (·.1) = false := (Bool.false_or _).trans h5
    apply Calls.callWith_builtin h6
    apply Calls.evalArgs_plain
    exact thn A fun us s2 ⟨vs, H2, J2, r2, q2⟩ => hm pins s2 σ H2 _ vs _ us Q J2 (show RelV (V.ref p) (Value.ref p) from rfl) r2 q2
end
end Gl

namespace Gl
open PySem PySem.Spec PyProof.Rows L2
section
variable {P : Program} {w : World} {K : PySem.W.Frag} {mg : Str → Option Value} {base : Heap}
def spPick : Sp := fun vs H Q _ => ∃ (a p : Addr) (xs : List V), vs = [.ref a, .ref p] ∧ H p = some (.lst xs) ∧ p ≠ a ∧ xs ≠ [] ∧ xs.length ≤ 1000 ∧ Dice H a ∧
  ∀ (v : V) H', v ∈ xs → Gro a H H' → Q v H'
/-- the dice's defs -/
structure Dc (P : Program) (w : World) (K : PySem.W.Frag) (mg : Str → Option Value) (base : Heap) where
  f : Addr
  fd : FuncData
  G : FnG P w K mg base CX0 1 f fd ["_law_dice_here", "_law_total_here"] spPull
  g : mg "_law_pull" = some (.ref f)
  kp : PySem.W.keepIn K (.ref f) = true
  b : Binds K fd ["_law_dice_here", "_law_total_here"] []
theorem ok_pick {f : Addr} {fd : FuncData} (F : Fun K "_law_pick" "_law_pick" sPick f fd) (T : Blt mg) (D : Dc P w K mg base) : FnG P w K mg base CX0 2 f fd ["_law_dice_here", "_law_items"] spPick := by
  refine okG F scPick (fun vs H Q E h => ?_) (fun cdv A outer s H vs Q E hr h => ?_)
  · obtain ⟨a, n, xs, rfl, _⟩ := h
    rfl
  · obtain ⟨a, p, xs, rfl, hp, pa, hx, hl, hd, q⟩ := h
    have nd := scPick.nd
    refine ⟨_, pss_one (ps_ret (pe_ix ix_list (pv 1) (pe_callG D.G hr (by rfl) D.g D.kp D.b .nil pass0 (pa_cons (pv 0) (pa_cons (pe_callB call_len_seq (by rfl) T.len PySem.boot_len (pa_cons (pv 1) pa_nil)) pa_nil))) (fun _ _ => rfl))), ?_⟩
    have hl0 : 0 < xs.length := List.length_pos_iff.mpr hx
    refine ⟨_, rfl, _, rfl, _, rfl, p, xs, rfl, .inl (.inl (.inl hp)), a, _, rfl, by omega, Nat.lt_of_le_of_lt (show ((xs.length : Int)).natAbs ≤ 1000 by omega) (by decide), hd, fun v H' h0 h1 gr => ?_⟩
    obtain ⟨m, rfl⟩ : ∃ m : Nat, v = m := ⟨v.toNat, by omega⟩
    have hi : m < xs.length := by omega
    exact ⟨p, xs, m, xs[m], rfl, rfl, .inl (.inl (gr.st p _ pa hp)), atI_nat (List.getElem?_eq_getElem hi), q _ _ (List.getElem_mem hi) gr⟩

end
end Gl

namespace Gl
open PySem PySem.Spec PyProof.Rows L2
abbrev sWhole : Stmt := topS 3
abbrev sWholes : Stmt := topS 4
abbrev sIndex : Stmt := topS 5
theorem scWhole : FnScope ["value"] ["value"] (defScope sWhole) := ⟨rfl, rfl, rfl, by decide +kernel, rfl, by decide +kernel, by decide +kernel⟩
theorem scWholes : FnScope ["value", "many", "one"] ["value", "many"] (defScope sWholes) := ⟨rfl, rfl, rfl, by decide +kernel, rfl, by decide +kernel, by decide +kernel⟩
theorem scIndex : FnScope ["value", "many"] ["value", "many"] (defScope sIndex) := ⟨rfl, rfl, rfl, by decide +kernel, rfl, by decide +kernel, by decide +kernel⟩
section
variable {P : Program} {w : World} {K : PySem.W.Frag} {mg : Str → Option Value} {base : Heap}
/-- a def of the text: where it stands and what it promises -/
structure Df (P : Program) (w : World) (K : PySem.W.Frag) (mg : Str → Option Value) (base : Heap) (k : Nat) (x : Str) (ps : List Str) (sp : Sp) where
  f : Addr
  fd : FuncData
  G : FnOk P w K mg base CX0 k f fd ps sp
  g : mg x = some (.ref f)
  kp : PySem.W.keepIn K (.ref f) = true
  b : Binds K fd ps []

def spWhole : Sp := fun vs H Q _ => ∃ i : Int, vs = [.int i] ∧ Q (.bl true) H
theorem ok_whole {f : Addr} {fd : FuncData} (F : Fun K "is_whole" "is_whole" sWhole f fd) (T : Blt mg) : FnOk P w K mg base CX0 1 f fd ["value"] spWhole := by
  refine F.ok scWhole (fun vs H Q E h => ?_) (fun cdv A outer s H vs Q E hr h => ?_)
  · obtain ⟨i, rfl, _⟩ := h
    rfl
  · obtain ⟨i, rfl, q⟩ := h
    refine ⟨_, pss_one (ps_ret (pe_and (pe_callB call_isi (by rfl) T.isinstance (by decide +kernel) (pa_cons (pv 0) (pa_cons (pe_bltn (v := .ty "int") (by rfl) T.int (by decide +kernel) rfl) pa_nil)))
      (pe_one (pe_not (pe_callB call_isi (by rfl) T.isinstance (by decide +kernel) (pa_cons (pv 0) (pa_cons (pe_bltn (v := .ty "bool") (by rfl) T.bool (by decide +kernel) rfl) pa_nil))))))), ?_⟩
    refine ⟨_, rfl, _, _, _, _, true, rfl, .ty _, .base (.int i), kit_ty (by decide +kernel), true, rfl, ?_⟩
    exact ⟨_, rfl, _, _, _, _, false, rfl, .ty _, .base (.int i), kit_ty (by decide +kernel), false, rfl, q⟩

/-- a tuple of ints, as many as said -/
def spWholes : Sp := fun vs H Q _ => ∃ (p : Addr) (ns : List Int), vs = [.ref p, .int ns.length] ∧ Rd H p (.tup (ns.map V.int)) ∧ ns.length ≤ 1000 ∧ ∀ H', Ex H H' → Q (.bl true) H'
theorem tyRd {H : Hp} {p : Addr} {xs : List V} (h : Rd H p (.tup xs)) : TyX K H (.ref p) (.type "tuple") := by
  rcases h with h | ⟨o, h⟩
  · exact .base (.tup h)
  · exact .fTuple h
theorem ok_wholes {f : Addr} {fd : FuncData} (F : Fun K "are_whole" "are_whole" sWholes f fd) (T : Blt mg) (W : Df P w K mg base 1 "is_whole" ["value"] spWhole) : FnOk P w K mg base CX0 2 f fd ["value", "many"] spWholes := by
  refine F.ok scWholes (fun vs H Q E h => ?_) (fun cdv A outer s H vs Q E hr h => ?_)
  · obtain ⟨p, ns, rfl, _⟩ := h
    rfl
  · obtain ⟨p, ns, rfl, hp, hl, q⟩ := h
    have nd := scWholes.nd
    refine ⟨_, pss_one (ps_ret (pe_and (pe_callB call_isi (by rfl) T.isinstance (by decide +kernel) (pa_cons (pv 0) (pa_cons (pe_bltn (v := .ty "tuple") (by rfl) T.tuple (by decide +kernel) rfl) pa_nil)))
      (pe_and (pe_cmpR op_eq (pe_callB call_len_seq (by rfl) T.len PySem.boot_len (pa_cons (pv 0) pa_nil)) (pv 1) (nomark _))
      (pe_one (pe_callB (cr_all rfl) (by rfl) T.all (by decide +kernel) (pa_cons (pe_lc (own := [("one", 2)]) (g := gName 2) (tt := tYes) rfl nd (pi_tup (pv 0)) (blkOk_by (N := ["value", "many", "one"]) (sc := defScope sWholes) (by decide +kernel)) (fun _ _ _ _ _ => pg_name (i := 2) nd rfl (.inl rfl)) (fun _ _ _ _ _ => pts_nil)
        (fun _ _ _ _ _ => pe_call W.G hr (by rfl) W.g W.kp W.b .nil pass0 (pa_cons (pv 2) pa_nil))) pa_nil)))))), ?_⟩
    refine ⟨_, rfl, _, _, _, _, true, rfl, .ty _, tyRd hp, kit_ty (by decide +kernel), true, rfl, ?_⟩
    refine ⟨_, rfl, p, _, rfl, .inr (.inl hp), _, rfl, rfl, true, ?_, ?_⟩
    · rw [List.length_map, decide_eq_true rfl]
    · refine ⟨_, rfl, p, rfl, ⟨_, .inl hp⟩, fun D nD => lc_tup (xs := ns.map V.int) (fun i H' => Ex H H' ∧ H' D = some (.lst ((List.replicate i true).map V.bl)))
        ⟨Ex.new nD, upd_same⟩ (fun i H' _ h => .inl (h.1.rd hp)) (fun i x H' hx h => ?_) (fun H' h => ?_)⟩
      · obtain ⟨ex, eD⟩ := h
        rw [List.getElem?_map] at hx
        obtain ⟨n, hn, rfl⟩ := Option.map_eq_some_iff.mp hx
        refine ⟨rfl, _, rfl, n, rfl, _, eD, ?_, ex.mut nD, ?_⟩
        · rw [List.length_map, List.length_replicate]
          have := (List.getElem?_eq_some_iff.mp hn).1
          exact Nat.lt_of_lt_of_le (show i < 1001 by omega) (by decide)
        · rw [upd_same, List.replicate_succ', List.map_append]
          rfl
      · obtain ⟨ex, eD⟩ := h
        refine ⟨D, _, rfl, .inl (.inl eD), ?_⟩
        have : (List.replicate (List.map V.int ns).length true).all id = true := by
          rw [List.all_eq_true]
          intro b hb
          exact (List.mem_replicate.mp hb).2
        rw [this]
        exact q _ ex
end
end Gl

namespace Gl
open PySem PySem.Spec PyProof.Rows L2
/-! ### data of any shape, with dicts from texts to ints -/
mutual
inductive Dx (K : PySem.W.Frag) (H : Hp) : V → PyData → Prop
  | non : Dx K H .non .none
  | bl (b : Bool) : Dx K H (.bl b) (.bool b)
  | int (i : Int) : Dx K H (.int i) (.int i)
  | str (x : Str) : Dx K H (.str x) (.str x)
  | lst {a : Addr} {xs : List V} {ds : List PyData} : H a = some (.lst xs) → DxAll K H xs ds → Dx K H (.ref a) (.list ds)
  | tup {a : Addr} {xs : List V} {ds : List PyData} : Rd H a (.tup xs) → DxAll K H xs ds → Dx K H (.ref a) (.tuple ds)
  | dk {a : Addr} (ps : List (Str × Int)) : H a = some (.dK (ps.map fun p => (.inr p.1, .int p.2))) → Dx K H (.ref a) (.dict (ps.map fun p => (.str p.1, .int p.2)))
inductive DxAll (K : PySem.W.Frag) (H : Hp) : List V → List PyData → Prop
  | nil : DxAll K H [] []
  | cons {v : V} {vs : List V} {d : PyData} {ds : List PyData} : Dx K H v d → DxAll K H vs ds → DxAll K H (v :: vs) (d :: ds)
end
mutual
def noList : PyData → Bool
  | .list _ => false
  | .tuple xs => noLists xs
  | _ => true
def noLists : List PyData → Bool
  | [] => true
  | x :: xs => noList x && noLists xs
end
section
variable {X : Cx} {pins : List (Addr × Obj)} {σ : L2.St} {H : Hp} {s : Shared}
theorem dict_key {P : Program} {w : World} {h : Heap} : ∀ (ps : List (Str × Int)) (vs : List (Key × Value)) (l : List DictEntry), KV (ps.map fun p => ((Sum.inr p.1 : Key), V.int p.2)) vs → Pairs (mixKind P w) l vs →
    ReadsAll h (l.map (·.key)) ((ps.map fun p => (PyData.str p.1, PyData.int p.2)).map (·.1)) [] ∧ ReadsAll h (l.map (·.val)) ((ps.map fun p => (PyData.str p.1, PyData.int p.2)).map (·.2)) []
  | [], _, _, .nil, .nil => ⟨.nil, .nil⟩
  | p :: ps, (k, v) :: vs, e :: l, .cons ⟨e1, e2⟩ r, .cons h1 h2 h3 => by
    obtain ⟨r1, r2⟩ := dict_key ps vs l r h3
    have e1 : (Sum.inr p.1 : Key) = k := e1
    subst e1
    obtain ⟨t, rfl⟩ : ∃ t, v = Value.int p.2 t := e2
    have h1 : keyIs (.inr p.1) e.key = true := h1
    have h2 : e.val = Value.int p.2 t := h2
    constructor
    · show ReadsAll h (e.key :: l.map (·.key)) (PyData.str p.1 :: _) ([] ++ [])
      refine .cons ?_ r1
      rcases keyIs_shape h1 with ⟨i, u, e3, _⟩ | ⟨x, u, e3, e4⟩
      · exact nomatch e3
      · rw [e4, Sum.inr.inj e3]; exact .str x u
    · show ReadsAll h (e.val :: l.map (·.val)) (PyData.int p.2 :: _) ([] ++ [])
      rw [h2]
      exact .cons (.int _ _) r2
theorem dict_reads (I : Inv X pins σ H s) {a : Addr} {ps : List (Str × Int)} (h : H a = some (.dK (ps.map fun p => (.inr p.1, .int p.2)))) :
    ∃ as, Reads s.heap (.ref a) (.dict (ps.map fun p => (.str p.1, .int p.2))) as ∧ sysModules ∉ as := by
  obtain ⟨_, hs, vs, kv, o, es, ep, g, hx, hd, _, pr, _⟩ := I.hok a _ h
  obtain ⟨k1, k2⟩ := dict_key (h := s.heap) ps vs es.toList kv pr
  refine ⟨[a], .dict (as := []) (bs := []) g hx.1 hd k1 k2, ?_⟩
  intro z
  rw [List.mem_singleton.mp z] at hs
  simp at hs
mutual
theorem Dx.reads (I : Inv X pins σ H s) : ∀ (d : PyData) (v : V) (u : Value), Dx X.K H v d → RelV v u → ∃ as, Reads s.heap u d as ∧ (noList d = true → sysModules ∉ as)
  | .none, _, _, .non, r => by
    cases r
    exact ⟨_, .none, fun _ z => nomatch z⟩
  | .bool b, _, _, .bl _, r => by
    cases r
    exact ⟨_, .bool b, fun _ z => nomatch z⟩
  | .int i, _, _, .int _, r => by
    obtain ⟨t, rfl⟩ := r
    exact ⟨_, .int i t, fun _ z => nomatch z⟩
  | .str x, _, _, .str _, r => by
    obtain ⟨t, rfl⟩ := r
    exact ⟨_, .str x t, fun _ z => nomatch z⟩
  | .list ds, _, _, .lst ha hd, r => by
    cases r
    obtain ⟨_, its, n, ri, g⟩ := I.hok _ _ ha
    obtain ⟨as, R, _⟩ := DxAll.reads I ds _ its hd ri
    exact ⟨_, .list g rfl rfl (by simpa using R), fun z => by simp [noList] at z⟩
  | .tuple ds, _, _, .tup ha hd, r => by
    cases r
    obtain ⟨_, its, ri, o, g, c, n, dt⟩ := ha.ok I.hok
    obtain ⟨as, R, q⟩ := DxAll.reads I ds _ its hd ri
    exact ⟨_, .tuple g c dt (by simpa using R), fun z => q (by simpa only [noList] using z)⟩
  | .dict _, _, _, .dk ps ha, r => by
    cases r
    obtain ⟨as, R, q⟩ := dict_reads I ha
    exact ⟨as, R, fun _ => q⟩
theorem DxAll.reads (I : Inv X pins σ H s) : ∀ (ds : List PyData) (vs : List V) (us : List Value), DxAll X.K H vs ds → Vals vs us → ∃ as, ReadsAll s.heap us ds as ∧ (noLists ds = true → sysModules ∉ as)
  | [], _, _, .nil, .nil => ⟨_, .nil, fun _ z => nomatch z⟩
  | d :: ds, v :: vs, u :: us, .cons h1 h2, .cons r1 r2 => by
    obtain ⟨as, R, q⟩ := Dx.reads I d v u h1 r1
    obtain ⟨bs, R2, q2⟩ := DxAll.reads I ds vs us h2 r2
    refine ⟨_, .cons R R2, fun z m => ?_⟩
    have z' : (noList d && noLists ds) = true := by simpa only [noLists] using z
    have z2 := Bool.and_eq_true_iff.mp z'
    rcases List.mem_append.mp m with y | y
    · exact q z2.1 y
    · exact q2 z2.2 y
end
/-- repr(x) of such data: dicts only where no list is -/
def rReprX (K : PySem.W.Frag) : List V → Hp → VK → Prop := fun xs H Q => ∃ x d, xs = [x] ∧ Dx K H x d ∧ (d.hasDict = false ∨ noList d = true) ∧ d.showable = true ∧ d.depth ≤ 100 ∧ d.shown.length ≤ sizeLine ∧ Q (.str d.shown) H
theorem call_reprX {k : Nat} (r : RmG k X.A) : CallR X (.builtin "repr") (rReprX X.K) := by
  intro pins s σ H xs us Q I hv h
  obtain ⟨x, d, rfl, hd, hdict, hs, hp, hz, q⟩ := h
  obtain ⟨u, rfl, ru⟩ := vals1 hv
  obtain ⟨as, R, nl⟩ := Dx.reads I d x u hd ru
  have room := r.rm.un
  have hsm : d.hasDict = true → sysModules ∉ as := fun z => by
    rcases hdict with y | y
    · rw [y] at z; exact nomatch z
    · exact nl y
  have refs : ∀ a, u = .ref a → wpAny (model X.prog X.w) X.A (call (.builtin "repr") [u]) (EP X pins σ Q) X.xe s := by
    rintro a rfl
    refine repr_of_reads' R hs hsm r.gd (by omega) (fun _ _ z => z) (fun h' t tk hk => ?_) hz
    exact ⟨.str _, H, I.kept hk, ⟨_, rfl⟩, q⟩
  cases hd with
  | non =>
    cases ru
    exact PySem.P.repr_of_none ⟨.str _, H, I.tok _, ⟨_, rfl⟩, q⟩
  | bl b =>
    cases ru
    exact PySem.P.repr_of_bool ⟨.str _, H, I.tok _, ⟨_, rfl⟩, q⟩
  | int i =>
    obtain ⟨t, rfl⟩ := ru
    have hs' : i.natAbs.log2 < 1920 := of_decide_eq_true (by simpa only [PyData.showable] using hs)
    exact PySem.P.repr_of_int hs' ⟨.str _, H, I.tok _, ⟨_, rfl⟩, q⟩
  | str y =>
    obtain ⟨t, rfl⟩ := ru
    exact PySem.P.repr_of_str ⟨.str _, H, I.tok _, ⟨_, rfl⟩, q⟩ hz
  | lst _ _ =>
    cases ru
    exact refs _ rfl
  | tup _ _ =>
    cases ru
    exact refs _ rfl
  | dk _ _ =>
    cases ru
    exact refs _ rfl
/-- xs == [] and xs != [], whatever the items are -/
def rNil (b : Bool) (K : PySem.W.Frag) : R2 := fun x y H Q => ∃ p q xs, x = .ref p ∧ y = .ref q ∧ SqL K H p xs ∧ H q = some (.lst []) ∧ Q (.bl (if b then decide (xs = []) else !decide (xs = []))) H
theorem nil_core (I : Inv X pins σ H s) {p q : Addr} {xs : List V} (h1 : SqL X.K H p xs) (h2 : H q = some (.lst [])) :
    ∃ its its2 : Array Value, s.heap.IsList p its ∧ s.heap.IsList q its2 ∧ its2.size = 0 ∧ its.size = xs.length := by
  obtain ⟨its, r, pl, _⟩ := I.list h1
  obtain ⟨_, its2, n, r2, g⟩ := I.hok q _ h2
  have := r2.length
  exact ⟨its.toArray, its2.toArray, pl.isList, ⟨_, g, rfl, _, rfl⟩, by simpa using this.symm, by simpa using r.length.symm⟩
theorem op_eqNil (hu : X.A.units < cLine) : OpR X (compareOp .Eq) (rNil true X.K) := by
  rintro pins s σ H x y v u Q I rx ry ⟨p, q, xs, rfl, rfl, h1, h2, k⟩
  obtain rfl : v = Value.ref p := rx
  obtain rfl : u = Value.ref q := ry
  obtain ⟨i1, i2, l1, l2, z, n⟩ := nil_core I h1 h2
  by_cases e : xs = []
  · refine SeqAt.eq_listAt (e := fun _ => true) l1 l2 (by rw [z, n, e]; rfl) hu (fun j j1 j2 => by omega) ⟨.bl true, H, I, ?_, ?_⟩
    · rw [n, e]; rfl
    · rw [if_pos rfl, decide_eq_true e] at k; exact k
  · refine SeqAt.eq_list_lengthsAt l1 l2 ?_ hu ⟨.bl false, H, I, rfl, ?_⟩
    · rw [z, n]
      have : xs.length ≠ 0 := fun z => e (List.length_eq_zero_iff.mp z)
      simpa using this
    · rw [if_pos rfl, decide_eq_false e] at k; exact k
theorem op_neNil (hu : X.A.units < cLine) : OpR X (compareOp .NotEq) (rNil false X.K) := by
  rintro pins s σ H x y v u Q I rx ry ⟨p, q, xs, rfl, rfl, h1, h2, k⟩
  obtain rfl : v = Value.ref p := rx
  obtain rfl : u = Value.ref q := ry
  obtain ⟨i1, i2, l1, l2, z, n⟩ := nil_core I h1 h2
  rw [if_neg Bool.false_ne_true] at k
  by_cases e : xs = []
  · refine SeqAt.RcNeAt.lists (e := fun _ => true) l1 l2 (by rw [z, n, e]; rfl) hu (fun j j1 j2 => by omega) X.prog X.w X.xe _ ⟨.bl false, H, I, ?_, ?_⟩
    · rw [n, e]; rfl
    · rw [decide_eq_true e] at k; exact k
  · refine SeqAt.RcNeAt.lists_lengths l1 l2 ?_ hu X.prog X.w X.xe _ ⟨.bl true, H, I, rfl, ?_⟩
    · rw [z, n]
      have : xs.length ≠ 0 := fun z => e (List.length_eq_zero_iff.mp z)
      simpa using this
    · rw [decide_eq_false e] at k; exact k
end
end Gl

namespace Gl
/-! the order of amounts: greater ones first, equal ones in their order -/
section
variable {α : Type} (lt : α → α → Prop) [DecidableRel lt] [DecidableEq α]
structure Lin : Prop where
  irr : ∀ a, ¬ lt a a
  tr : ∀ a b c, lt a b → lt b c → lt a c
  tot : ∀ a b, lt a b ∨ a = b ∨ lt b a
/-- x stands ahead of y -/
def Bef (k : Nat → α) (x y : Nat) : Prop := lt (k y) (k x) ∨ (k x = k y ∧ x < y)
instance (k : Nat → α) (x y : Nat) : Decidable (Bef lt k x y) := inferInstanceAs (Decidable (_ ∨ _))
variable {lt} {k : Nat → α}
theorem Lin.asym (h : Lin lt) {a b : α} (x : lt a b) : ¬ lt b a := fun y => h.irr _ (h.tr _ _ _ x y)
theorem Lin.befIrr (h : Lin lt) (x : Nat) : ¬ Bef lt k x x := by
  rintro (y | ⟨_, y⟩)
  · exact h.irr _ y
  · omega
theorem Lin.befAsym (h : Lin lt) {x y : Nat} (a : Bef lt k x y) : ¬ Bef lt k y x := by
  rintro (b | ⟨e, b⟩)
  · rcases a with a | ⟨e, a⟩
    · exact h.asym a b
    · rw [e] at b; exact h.irr _ b
  · rcases a with a | ⟨_, a⟩
    · rw [e] at a; exact h.irr _ a
    · omega
/-- the indices below i, in this order -/
structure Ord (k : Nat → α) (i : Nat) (o : List Nat) : Prop where
  pw : o.Pairwise (Bef lt k)
  pm : o.Perm (List.range i)
theorem Ord.nil : Ord (lt := lt) k 0 [] := ⟨List.Pairwise.nil, List.Perm.refl _⟩
theorem Ord.length {i : Nat} {o : List Nat} (h : Ord (lt := lt) k i o) : o.length = i := by
  rw [h.pm.length_eq, List.length_range]
theorem Ord.lt_of {i : Nat} {o : List Nat} (h : Ord (lt := lt) k i o) {x : Nat} (m : x ∈ o) : x < i := List.mem_range.mp (h.pm.mem_iff.mp m)
/-- one more, put in where all behind are less and none ahead is -/
theorem Ord.put (H : Lin lt) {i low : Nat} {o : List Nat} (h : Ord (lt := lt) k i o) (hl : low ≤ o.length)
    (h1 : ∀ p x, p < low → o[p]? = some x → ¬ lt (k x) (k i)) (h2 : ∀ p x, low ≤ p → o[p]? = some x → lt (k x) (k i)) : Ord (lt := lt) k (i + 1) (o.take low ++ i :: o.drop low) := by
  have pw := h.pw
  rw [← List.take_append_drop low o] at pw
  obtain ⟨pa, pb, pc⟩ := List.pairwise_append.mp pw
  refine ⟨List.pairwise_append.mpr ⟨pa, List.pairwise_cons.mpr ⟨fun y hy => ?_, pb⟩, fun x hx y hy => ?_⟩, ?_⟩
  · obtain ⟨p, hp⟩ := List.getElem?_of_mem hy
    rw [List.getElem?_drop] at hp
    exact .inl (h2 _ y (Nat.le_add_right _ _) hp)
  · rcases List.mem_cons.mp hy with rfl | hy
    · obtain ⟨p, hp⟩ := List.getElem?_of_mem hx
      have pl : p < low := by
        have := (List.getElem?_eq_some_iff.mp hp).1
        rw [List.length_take] at this
        omega
      rw [List.getElem?_take_of_lt pl] at hp
      have nx := h1 p x pl hp
      have xi := h.lt_of (List.mem_of_getElem? hp)
      rcases H.tot (k y) (k x) with z | z | z
      · exact .inl z
      · exact .inr ⟨z.symm, xi⟩
      · exact absurd z nx
    · exact pc x hx y hy
  · refine List.perm_middle.trans ?_
    rw [List.take_append_drop, List.range_succ]
    exact (List.Perm.cons i h.pm).trans (List.perm_append_singleton _ _).symm
theorem place_of (H : Lin lt) : ∀ {o : List Nat} {j x : Nat}, o.Pairwise (Bef lt k) → o[j]? = some x → o.countP (fun y => decide (Bef lt k y x)) = j
  | [], j, x, _, e => by simp at e
  | y :: o, 0, x, pw, e => by
    simp at e
    subst e
    rw [List.countP_eq_zero]
    intro z hz
    rcases List.mem_cons.mp hz with rfl | hz
    · simpa using H.befIrr (k := k) z
    · simpa using H.befAsym ((List.pairwise_cons.mp pw).1 z hz)
  | y :: o, j + 1, x, pw, e => by
    have e' : o[j]? = some x := by simpa using e
    have pc := List.pairwise_cons.mp pw
    rw [List.countP_cons, place_of H pc.2 e', if_pos (decide_eq_true (pc.1 x (List.mem_of_getElem? e')))]
/-- the place of x: how many stand ahead of it -/
theorem Ord.place (H : Lin lt) {i j x : Nat} {o : List Nat} (h : Ord (lt := lt) k i o) (e : o[j]? = some x) : (List.range i).countP (fun y => decide (Bef lt k y x)) = j := by
  rw [← h.pm.countP_eq]
  exact place_of H h.pw e
theorem Ord.has {i x : Nat} {o : List Nat} (h : Ord (lt := lt) k i o) (l : x < i) : ∃ j : Nat, o[j]? = some x := List.getElem?_of_mem (h.pm.mem_iff.mpr (List.mem_range.mpr l))
/-- the list that the law fills -/
def filled (o : List Nat) (i : Nat) : List Nat := o.map fun x => if x < i then x else 0
theorem filled_zero (o : List Nat) : filled o 0 = List.replicate o.length 0 := by
  unfold filled
  induction o with
  | nil => rfl
  | cons x o ih => rw [List.map_cons, ih]; rfl
theorem filled_all {i : Nat} {o : List Nat} (h : Ord (lt := lt) k i o) : filled o i = o := by
  have e : o.map (fun x => if x < i then x else 0) = o.map id := List.map_congr_left fun x hx => if_pos (h.lt_of hx)
  unfold filled
  rw [e, List.map_id]
theorem filled_set {n i j : Nat} {o : List Nat} (h : Ord (lt := lt) k n o) (e : o[j]? = some i) : (filled o i).set j i = filled o (i + 1) := by
  have nd : o.Nodup := h.pm.nodup_iff.mpr List.nodup_range
  obtain ⟨jl, ej⟩ := List.getElem?_eq_some_iff.mp e
  unfold filled
  apply List.ext_getElem
  · rw [List.length_set, List.length_map, List.length_map]
  · intro m m1 m2
    rw [List.getElem_set, List.getElem_map, List.getElem_map]
    have ml : m < o.length := by rw [List.length_map] at m2; exact m2
    by_cases q : j = m
    · subst q
      rw [if_pos rfl, ej, if_pos (Nat.lt_succ_self _)]
    · rw [if_neg q]
      have : o[m] ≠ i := fun z => by
        rcases Nat.lt_or_gt_of_ne q with y | y
        · exact List.pairwise_iff_getElem.mp nd j m jl ml y (ej.trans z.symm)
        · exact List.pairwise_iff_getElem.mp nd m j ml jl y (z.trans ej.symm)
      by_cases a : o[m] < i
      · rw [if_pos a, if_pos (by omega)]
      · rw [if_neg a, if_neg (by omega)]
end
end Gl

namespace Gl
open PySem PySem.Spec PyProof.Rows L2
/-- a fraction in lowest terms -/
structure Low (p q : Nat) : Prop where
  p0 : 0 < p
  q0 : 0 < q
  co : Nat.gcd p q = 1
abbrev Odds := { x : Nat × Nat // Low x.1 x.2 }
def oddsLt (a b : Odds) : Prop := a.1.1 * b.1.2 < b.1.1 * a.1.2
instance : DecidableRel oddsLt := fun a b => inferInstanceAs (Decidable (_ < _))
theorem low_eq {p q r s : Nat} (a : Low p q) (b : Low r s) (e : p * s = r * q) : p = r ∧ q = s := by
  have h1 : p ∣ r := (Nat.Coprime.dvd_of_dvd_mul_right (show Nat.Coprime p q from a.co) ⟨s, e.symm⟩)
  have h2 : r ∣ p := (Nat.Coprime.dvd_of_dvd_mul_right (show Nat.Coprime r s from b.co) ⟨q, e⟩)
  have h3 : p = r := Nat.dvd_antisymm h1 h2
  subst h3
  exact ⟨rfl, (Nat.eq_of_mul_eq_mul_left a.p0 e).symm⟩
theorem odds_lin : Lin oddsLt := by
  refine ⟨fun a => Nat.lt_irrefl _, fun a b c h1 h2 => ?_, fun a b => ?_⟩
  · unfold oddsLt at *
    have b0 := b.2.q0
    have x1 : a.1.1 * b.1.2 * c.1.2 < b.1.1 * a.1.2 * c.1.2 := Nat.mul_lt_mul_of_pos_right h1 c.2.q0
    have x2 : b.1.1 * c.1.2 * a.1.2 < c.1.1 * b.1.2 * a.1.2 := Nat.mul_lt_mul_of_pos_right h2 a.2.q0
    have x3 : a.1.1 * c.1.2 * b.1.2 < c.1.1 * a.1.2 * b.1.2 := by
      calc a.1.1 * c.1.2 * b.1.2 = a.1.1 * b.1.2 * c.1.2 := Nat.mul_right_comm ..
        _ < b.1.1 * a.1.2 * c.1.2 := x1
        _ = b.1.1 * c.1.2 * a.1.2 := Nat.mul_right_comm ..
        _ < c.1.1 * b.1.2 * a.1.2 := x2
        _ = c.1.1 * a.1.2 * b.1.2 := Nat.mul_right_comm ..
    exact Nat.lt_of_mul_lt_mul_right x3
  · unfold oddsLt
    rcases Nat.lt_trichotomy (a.1.1 * b.1.2) (b.1.1 * a.1.2) with z | z | z
    · exact .inl z
    · obtain ⟨e1, e2⟩ := low_eq a.2 b.2 z
      exact .inr (.inl (Subtype.ext (Prod.ext e1 e2)))
    · exact .inr (.inr z)
/-- divided by the greatest divisor -/
theorem low_div {p q : Nat} (hp : 0 < p) (hq : 0 < q) : Low (p / Nat.gcd p q) (q / Nat.gcd p q) :=
  have g0 : 0 < Nat.gcd p q := Nat.gcd_pos_of_pos_left _ hp
  ⟨Nat.div_pos (Nat.le_of_dvd hp (Nat.gcd_dvd_left ..)) g0, Nat.div_pos (Nat.le_of_dvd hq (Nat.gcd_dvd_right ..)) g0, by rw [Nat.gcd_div (Nat.gcd_dvd_left ..) (Nat.gcd_dvd_right ..), Nat.div_self g0]⟩
theorem int_lin : Lin (fun a b : Int => a < b) := ⟨fun a => Int.lt_irrefl a, fun a b c h1 h2 => Int.lt_trans h1 h2, fun a b => by omega⟩
theorem lex_irr : ∀ a : List Int, HT.lexLt a a = false
  | [] => rfl
  | x :: xs => by rw [HT.lexLt_cons, if_pos rfl]; exact lex_irr xs
theorem lex_trans : ∀ a b c : List Int, HT.lexLt a b = true → HT.lexLt b c = true → HT.lexLt a c = true
  | [], [], _, h, _ => nomatch h
  | [], _ :: _, [], _, h => nomatch h
  | [], _ :: _, _ :: _, _, _ => rfl
  | _ :: _, [], _, h, _ => nomatch h
  | _ :: _, _ :: _, [], _, h => nomatch h
  | x :: xs, y :: ys, z :: zs, h1, h2 => by
    rw [HT.lexLt_cons] at *
    by_cases e1 : x = y
    · subst e1
      rw [if_pos rfl] at h1
      by_cases e2 : x = z
      · subst e2
        rw [if_pos rfl] at *
        exact lex_trans xs ys zs h1 h2
      · rw [if_neg e2] at *
        exact h2
    · rw [if_neg e1] at h1
      have l1 := of_decide_eq_true h1
      by_cases e2 : y = z
      · subst e2
        rw [if_neg e1]
        exact h1
      · rw [if_neg e2] at h2
        have l2 := of_decide_eq_true h2
        rw [if_neg (by omega)]
        exact decide_eq_true (by omega)
theorem lex_tot : ∀ a b : List Int, HT.lexLt a b = true ∨ a = b ∨ HT.lexLt b a = true
  | [], [] => .inr (.inl rfl)
  | [], _ :: _ => .inl rfl
  | _ :: _, [] => .inr (.inr rfl)
  | x :: xs, y :: ys => by
    rw [HT.lexLt_cons, HT.lexLt_cons]
    by_cases e : x = y
    · subst e
      rw [if_pos rfl, if_pos rfl]
      rcases lex_tot xs ys with h | h | h
      · exact .inl h
      · exact .inr (.inl (by rw [h]))
      · exact .inr (.inr h)
    · rw [if_neg e, if_neg (fun z => e z.symm)]
      by_cases l : x < y
      · exact .inl (decide_eq_true l)
      · exact .inr (.inr (decide_eq_true (by omega)))
theorem lex_lin : Lin (fun a b : List Int => HT.lexLt a b = true) := ⟨fun a => by rw [lex_irr]; exact Bool.false_ne_true, lex_trans, lex_tot⟩
end Gl

namespace Gl
open PySem PySem.Spec PyProof.Rows L2
/-- an amount of any scale -/
inductive Am
  | n (i : Int)
  | c (ns : List Int)
  | o (x : Odds)
deriving DecidableEq
def amLt : Am → Am → Prop
  | .n i, .n j => i < j
  | .c a, .c b => HT.lexLt a b = true
  | .o a, .o b => oddsLt a b
  | .n _, .c _ => True
  | .n _, .o _ => True
  | .c _, .o _ => True
  | _, _ => False
instance : DecidableRel amLt := fun a b => by cases a <;> cases b <;> unfold amLt <;> infer_instance
theorem am_lin : Lin amLt := by
  refine ⟨fun a => ?_, fun a b c h1 h2 => ?_, fun a b => ?_⟩
  · cases a with
    | n i => exact int_lin.irr i
    | c ns => exact lex_lin.irr ns
    | o x => exact odds_lin.irr x
  · cases a <;> cases b <;> cases c <;> first
      | exact int_lin.tr _ _ _ h1 h2
      | exact lex_lin.tr _ _ _ h1 h2
      | exact odds_lin.tr _ _ _ h1 h2
      | trivial
      | exact h1.elim
      | exact h2.elim
  · cases a with
    | n i => cases b with
      | n j => rcases int_lin.tot i j with h | h | h
               · exact .inl h
               · exact .inr (.inl (congrArg Am.n h))
               · exact .inr (.inr h)
      | c _ => exact .inl trivial
      | o _ => exact .inl trivial
    | c i => cases b with
      | n j => exact .inr (.inr trivial)
      | c j => rcases lex_lin.tot i j with h | h | h
               · exact .inl h
               · exact .inr (.inl (congrArg Am.c h))
               · exact .inr (.inr h)
      | o _ => exact .inl trivial
    | o i => cases b with
      | n j => exact .inr (.inr trivial)
      | c _ => exact .inr (.inr trivial)
      | o j => rcases odds_lin.tot i j with h | h | h
               · exact .inl h
               · exact .inr (.inl (congrArg Am.o h))
               · exact .inr (.inr h)
/-- a scale, as the law has it -/
inductive Ms
  | sums
  | classes (n : Nat)
  | odds
deriving DecidableEq
def Ms.word : Ms → Str
  | .sums => "sums"
  | .classes _ => "classes"
  | .odds => "odds"
def Ms.size : Ms → Nat
  | .classes n => n
  | _ => 1
def Ms.ok : Ms → Prop
  | .classes n => 1 ≤ n ∧ n ≤ 4
  | _ => True
/-- an amount of this scale -/
def Ms.has : Ms → Am → Prop
  | .sums, .n _ => True
  | .classes k, .c ns => ns.length = k
  | .odds, .o _ => True
  | _, _ => False
def one1 : Odds := ⟨(1, 1), by decide, by decide, by decide⟩
def Ms.zero : Ms → Am
  | .sums => .n 0
  | .classes k => .c (List.replicate k 0)
  | .odds => .o one1
theorem Ms.zero_has (m : Ms) : m.has m.zero := by
  cases m with
  | sums => trivial
  | classes k => exact List.length_replicate
  | odds => trivial
def Am.data : Am → PyData
  | .n i => .int i
  | .c ns => .tuple (ns.map PyData.int)
  | .o x => .tuple [.int (x.1.1 : Nat), .int (x.1.2 : Nat)]
/-- an amount, in the heap -/
def AmV (H : Hp) (v : V) : Am → Prop
  | .n i => v = .int i
  | .c ns => ∃ p, v = .ref p ∧ Rd H p (.tup (ns.map V.int))
  | .o x => ∃ p, v = .ref p ∧ Rd H p (.tup [.int (x.1.1 : Nat), .int (x.1.2 : Nat)])
end Gl

namespace Gl
open PySem PySem.Spec PyProof.Rows L2
abbrev sLowest : Stmt := topS 13
abbrev sLowL : Stmt := topS 21
theorem scLowest : FnScope ["value"] ["value"] (defScope sLowest) := ⟨rfl, rfl, rfl, by decide +kernel, rfl, by decide +kernel, by decide +kernel⟩
theorem scLowL : FnScope ["_law_top", "_law_bottom", "_law_one", "_law_other"] ["_law_top", "_law_bottom"] (defScope sLowL) := ⟨rfl, rfl, rfl, by decide +kernel, rfl, by decide +kernel, by decide +kernel⟩
section
variable {P : Program} {w : World} {K : PySem.W.Frag} {mg : Str → Option Value} {base : Heap}
theorem iteT {A B : Prop} (h : A) : if true = true then A else B := by rw [if_pos rfl]; exact h
theorem iteF {A B : Prop} (h : B) : if false = true then A else B := by rw [if_neg Bool.false_ne_true]; exact h
def oddV (x : Odds) : List V := [.int (x.1.1 : Nat), .int (x.1.2 : Nat)]
def spLowest : Sp := fun vs H Q _ => ∃ (p : Addr) (x : Odds), vs = [.ref p] ∧ Rd H p (.tup (oddV x)) ∧ ∀ H', Ex H H' → Q (.bl true) H'
theorem ok_lowest {f : Addr} {fd : FuncData} (F : Fun K "_is_lowest" "_is_lowest" sLowest f fd) (hg : mg "gcd" = some (.builtin "math.gcd")) (W : Df P w K mg base 2 "are_whole" ["value", "many"] spWholes) : FnOk P w K mg base CX0 3 f fd ["value"] spLowest := by
  refine F.ok scLowest (fun vs H Q E h => ?_) (fun cdv A outer s H vs Q E hr h => ?_)
  · obtain ⟨p, x, rfl, _⟩ := h
    rfl
  · obtain ⟨p, x, rfl, hp, q⟩ := h
    refine ⟨_, pss_one (ps_ret (pe_and (pe_call W.G hr (by rfl) W.g W.kp W.b .nil pass0 (pa_cons (pv 0) (pa_cons pe_int pa_nil)))
      (pe_and (pe_cmpR op_gt (pe_ix ix_tup (pv 0) pe_int (fun _ _ => rfl)) pe_int (nomark _))
      (pe_and (pe_cmpR op_gt (pe_ix ix_tup (pv 0) pe_int (fun _ _ => rfl)) pe_int (nomark _))
      (pe_one (pe_cmpR op_eq (pe_callBfun cr_gcd (by rfl) hg (pa_cons (pe_ix ix_tup (pv 0) pe_int (fun _ _ => rfl)) (pa_cons (pe_ix ix_tup (pv 0) pe_int (fun _ _ => rfl)) pa_nil))) pe_int (nomark _))))))), ?_⟩
    have p0 := x.2.p0
    have q0 := x.2.q0
    refine ⟨_, rfl, p, [(x.1.1 : Int), (x.1.2 : Int)], rfl, hp, by show 2 ≤ 1000; decide, fun H1 e1 => ⟨true, rfl, ?_⟩⟩
    have hp1 : SqT K H1 p (oddV x) := .inl (e1.rd hp)
    refine ⟨_, rfl, p, _, 0, _, rfl, rfl, hp1, rfl, _, _, rfl, rfl, true, ?_, ?_⟩
    · exact congrArg V.bl (decide_eq_true (show (0 : Int) < (x.1.1 : Nat) by omega))
    refine ⟨_, rfl, p, _, 1, _, rfl, rfl, hp1, rfl, _, _, rfl, rfl, true, ?_, ?_⟩
    · exact congrArg V.bl (decide_eq_true (show (0 : Int) < (x.1.2 : Nat) by omega))
    refine ⟨_, rfl, p, _, 0, _, rfl, rfl, hp1, rfl, _, rfl, p, _, 1, _, rfl, rfl, hp1, rfl, _, _, rfl, rfl, ?_⟩
    have g : decide (V.int ((Nat.gcd ((x.1.1 : Nat) : Int).natAbs ((x.1.2 : Nat) : Int).natAbs : Nat) : Int) = V.int 1) = true := decide_eq_true (by
      rw [Int.natAbs_natCast, Int.natAbs_natCast, x.2.co]
      rfl)
    rw [g]
    exact q _ e1

def spLowW : Sp := fun vs H Q _ => ∃ a b : Nat, vs = [.int a, .int b] ∧ 0 < a ∧ 0 < b ∧ a < 2 ^ 2000 ∧ b < 2 ^ 2000 ∧ ∀ (p : Addr) H' (h : Low (a / Nat.gcd a b) (b / Nat.gcd a b)), Ex H H' → H p = none → Rd H' p (.tup (oddV ⟨(a / Nat.gcd a b, b / Nat.gcd a b), h⟩)) → Q (.ref p) H'
theorem ok_lowW {f : Addr} {fd : FuncData} (F : Fun K "_law_lowest" "_law_lowest" sLowL f fd) (T : Blt mg) : FnG P w K mg base CX0 1 f fd ["_law_top", "_law_bottom"] spLowW := by
  refine okG F scLowL (fun vs H Q E h => ?_) (fun cdv A outer s H vs Q E hr h => ?_)
  · obtain ⟨a, b, rfl, _⟩ := h
    rfl
  · obtain ⟨a, b, rfl, ha, hb, la, lb, q⟩ := h
    have nd := scLowL.nd
    refine ⟨_, pss_cons (ps_par (i := 2) (j := 3) rfl nd rfl rfl (by decide) rfl rfl (pa_cons (pv 0) (pa_cons (pv 1) pa_nil)) (by rfl))
      (pss_cons (ps_while PassesOwn.never (pt_cmpR op_gt (pv 3) pe_int (nomark _)) (pss_one (ps_par (i := 2) (j := 3) rfl nd rfl rfl (by decide) rfl rfl (pa_cons (pv 3) (pa_cons (pe_op op_mod (pe_callTy call_int1 (by rfl) T.int (by decide +kernel) (pa_cons (pv 2) pa_nil)) (pv 3)) pa_nil)) (by rfl))))
      (pss_one (ps_ret (pe_tup (pa_cons (pe_op op_fdivW (pv 0) (pv 2)) (pa_cons (pe_op op_fdivW (pv 1) (pv 2)) pa_nil)))))), ?_⟩
    refine ⟨_, rfl, _, rfl, _, _, rfl, ?_⟩
    refine ⟨fun m σ H' => ∃ u v : Nat, σ = [some (.int a), some (.int b), some (.int u), some (.int v)] ∧ H' = H ∧ v = m ∧ Nat.gcd u v = Nat.gcd a b ∧ 0 < u ∧ u < 2 ^ 2000 ∧ v < 2 ^ 2000, ⟨b, a, b, rfl, rfl, rfl, rfl, ha, la, lb⟩, fun m σ H' h => ?_⟩
    obtain ⟨u, v, rfl, rfl, rfl, g, u0, ul, vl⟩ := h
    refine ⟨_, rfl, _, _, rfl, rfl, _, rfl, ?_⟩
    by_cases z : v = 0
    · subst z
      rw [decide_eq_false (show ¬ (0 : Int) < ((0 : Nat) : Int) by omega)]
      refine iteF ?_
      rw [Nat.gcd_zero_right] at g
      subst g
      refine ⟨_, rfl, _, rfl, _, _, rfl, rfl, wide_div (by omega) (show ((Nat.gcd a b : Nat) : Int).natAbs < 2 ^ 2000 by rw [Int.natAbs_natCast]; exact ul) (by decide) (by decide), _, rfl, _, rfl, _, _, rfl, rfl, wide_div (by omega) (show ((Nat.gcd a b : Nat) : Int).natAbs < 2 ^ 2000 by rw [Int.natAbs_natCast]; exact ul) (by decide) (by decide), by show 2 ≤ sizeLine; decide, fun p np => ?_⟩
      exact q p _ (low_div ha hb) (Ex.new np) np (.inl (by rw [upd_same]; rfl))
    · rw [decide_eq_true (show (0 : Int) < (v : Int) by omega)]
      refine iteT ?_
      refine ⟨fun σ' H'' => σ' = [some (.int a), some (.int b), some (.int v), some (.int (u % v : Nat))] ∧ H'' = H', fun σ' H'' h => ?_, ?_⟩
      · obtain ⟨rfl, rfl⟩ := h
        refine ⟨u % v, Nat.mod_lt _ (by omega), v, u % v, rfl, rfl, rfl, ?_, by omega, by omega, Nat.lt_trans (Nat.mod_lt _ (by omega)) vl⟩
        rw [← g, Nat.gcd_comm u v, Nat.gcd_rec v u, Nat.gcd_comm]
      · refine ⟨_, rfl, _, rfl, .inl ⟨_, rfl, _, rfl, _, _, rfl, rfl, (show (0 : Int) < v by omega), _, _, rfl, rfl, rfl⟩⟩
theorem lt190 {a : Nat} (h : a < 2 ^ 190) : a < 2 ^ 2000 := Nat.lt_of_lt_of_le h (Nat.pow_le_pow_right (by decide) (by decide))
def spLowL : Sp := fun vs H Q _ => ∃ a b : Nat, vs = [.int a, .int b] ∧ 0 < a ∧ 0 < b ∧ a < 2 ^ 190 ∧ b < 2 ^ 190 ∧ ∀ (p : Addr) H' (h : Low (a / Nat.gcd a b) (b / Nat.gcd a b)), Ex H H' → H p = none → Rd H' p (.tup (oddV ⟨(a / Nat.gcd a b, b / Nat.gcd a b), h⟩)) → Q (.ref p) H'
theorem lowL_of {f : Addr} {fd : FuncData} (F : FnG P w K mg base CX0 1 f fd ["_law_top", "_law_bottom"] spLowW) : FnG P w K mg base CX0 1 f fd ["_law_top", "_law_bottom"] spLowL :=
  F.imp fun vs H Q E ⟨a, b, e, h1, h2, h3, h4, q⟩ => ⟨a, b, e, h1, h2, lt190 h3, lt190 h4, q⟩
end
end Gl

namespace Gl
open PySem PySem.Spec PyProof.Rows L2
abbrev sScaleL : Stmt := topS 20
theorem scScaleL : FnScope ["_law_dice_here"] ["_law_dice_here"] (defScope sScaleL) := ⟨rfl, rfl, rfl, by decide +kernel, rfl, by decide +kernel, by decide +kernel⟩
/-- the pair (word, size) -/
def MsV (H : Hp) (p : Addr) (m : Ms) : Prop := Rd H p (.tup [.str m.word, .int (m.size : Nat)])
/-- parts that fit a product -/
def Am.wide : Am → Prop
  | .o x => x.1.1 < 2 ^ 2000 ∧ x.1.2 < 2 ^ 2000
  | _ => True
theorem cmulW {a b : Nat} (h1 : a < 2 ^ 2000) (h2 : b < 2 ^ 2000) : CMulW a b := by
  unfold CMulW
  rw [Int.natAbs_natCast, Int.natAbs_natCast]
  have l : ∀ n : Nat, n < 2 ^ 2000 → n.log2 < 2001 := fun n h => by
    by_cases z : n = 0
    · subst z; decide
    · have := (Nat.log2_lt z).mpr h
      omega
  have := l a h1
  have := l b h2
  omega
theorem word_odds (m : Ms) : decide (V.str m.word = V.str "odds") = decide (m = .odds) := by
  cases m with
  | sums => decide +kernel
  | classes k =>
    rw [decide_eq_false (fun z => nomatch z)]
    exact (show decide (V.str "classes" = V.str "odds") = false by decide +kernel)
  | odds => decide +kernel
section
variable {P : Program} {w : World} {K : PySem.W.Frag} {mg : Str → Option Value} {base : Heap}
def spScaleL : Sp := fun vs H Q _ => ∃ a : Addr, vs = [.ref a] ∧ Dice H a ∧ ∀ (m : Ms) p H', m.ok → Gro a H H' → MsV H' p m → Q (.ref p) H'
theorem ok_scaleL {f : Addr} {fd : FuncData} (F : Fun K "_law_scale" "_law_scale" sScaleL f fd) (D : Dc P w K mg base) : FnG P w K mg base CX0 2 f fd ["_law_dice_here"] spScaleL := by
  refine okG F scScaleL (fun vs H Q E h => ?_) (fun cdv A outer s H vs Q E hr h => ?_)
  · obtain ⟨a, rfl, _⟩ := h
    rfl
  · obtain ⟨a, rfl, hd, q⟩ := h
    refine ⟨_, pss_one (ps_ret (pe_ix ix_list (pe_lst (pa_cons (pe_tup (pa_cons pe_str (pa_cons pe_int pa_nil))) (pa_cons (pe_tup (pa_cons pe_str (pa_cons (pe_op op_add pe_int (pe_callG D.G hr (by rfl) D.g D.kp D.b .nil pass0 (pa_cons (pv 0) (pa_cons pe_int pa_nil)))) pa_nil))) (pa_cons (pe_tup (pa_cons pe_str (pa_cons pe_int pa_nil))) pa_nil))))
      (pe_callG D.G hr (by rfl) D.g D.kp D.b .nil pass0 (pa_cons (pv 0) (pa_cons pe_int pa_nil))) (fun _ _ => rfl))), ?_⟩
    have s2 : 2 ≤ sizeLine := by decide
    refine ⟨s2, fun t1 n1 => ⟨_, rfl, a, 4, rfl, by decide, by decide, (Ex.new n1).dice hd, fun v H1 v0 v1 g1 => ?_⟩⟩
    have x1 := Ex.new (o := .tup [.str "sums", .int 1]) n1
    obtain ⟨n, rfl⟩ : ∃ n : Nat, v = n := ⟨v.toNat, by omega⟩
    have gA := (Gro.of x1 hd).trans g1
    refine ⟨_, _, rfl, rfl, s2, fun t2 n2 => ⟨s2, fun t3 n3 => ⟨by show 3 ≤ sizeLine; decide, fun L nL => ?_⟩⟩⟩
    have x2 := Ex.new (o := .tup [.str "classes", .int (1 + (n : Int))]) n2
    have x3 := Ex.new (o := .tup [.str "odds", .int 1]) n3
    have xL := Ex.new (o := .lst [.ref t1, .ref t2, .ref t3]) nL
    have gB := ((gA.ex x2).ex x3).ex xL
    have La := ((gA.ex x2).ex x3).di.ne nL
    refine ⟨_, rfl, a, 3, rfl, by decide, by decide, gB.di, fun v H2 w0 w1 g2 => ?_⟩
    have g := gB.trans g2
    have eL := g2.st L _ La upd_same
    have d0 := gB.di
    obtain ⟨m, rfl⟩ : ∃ m : Nat, v = m := ⟨v.toNat, by omega⟩
    match m, w1 with
    | 0, _ => exact ⟨L, _, 0, _, rfl, rfl, .inl (.inl eL), rfl, q .sums t1 H2 trivial g (g2.rd d0 ((x2.trans (x3.trans xL)).rd (g1.rd (x1.dice hd) (.inl upd_same))))⟩
    | 1, _ =>
      refine ⟨L, _, 1, _, rfl, rfl, .inl (.inl eL), rfl, q (.classes (1 + n)) t2 H2 ⟨by omega, by omega⟩ g (g2.rd d0 ((x3.trans xL).rd (.inl ?_)))⟩
      rw [upd_same]
      show some (HO.tup [.str "classes", .int (1 + (n : Int))]) = some (HO.tup [.str "classes", .int ((1 + n : Nat) : Int)])
      rw [show ((1 + n : Nat) : Int) = 1 + (n : Int) by omega]
    | 2, _ => exact ⟨L, _, 2, _, rfl, rfl, .inl (.inl eL), rfl, q .odds t3 H2 trivial g (g2.rd d0 (xL.rd (.inl upd_same)))⟩
    | m + 3, z => omega

end
end Gl

namespace Gl
open PySem PySem.Spec PyProof.Rows L2
abbrev sAmtL : Stmt := topS 28
theorem scAmtL : FnScope ["_law_dice_here", "_law_measure", "_law_found", "_law_big", "_law_turn"] ["_law_dice_here", "_law_measure"] (defScope sAmtL) := ⟨rfl, rfl, rfl, by decide +kernel, rfl, by decide +kernel, by decide +kernel⟩
def big40 : Int := (10 : Int) ^ (40 : Int).toNat
theorem cpw40 : CPw 10 40 := ⟨by decide, by decide +kernel⟩
theorem big40_lt : 0 < big40 ∧ big40 + 1 < 2 ^ 190 ∧ big40.natAbs < 2 ^ 200 := by unfold big40; decide +kernel
/-- not far from zero -/
def Am.near : Am → Prop
  | .n i => i.natAbs < 2 ^ 190
  | .c ns => ∀ n ∈ ns, n.natAbs < 2 ^ 190
  | .o x => x.1.1 < 2 ^ 190 ∧ x.1.2 < 2 ^ 190
theorem Am.near.wide {x : Am} (h : x.near) : x.wide := by
  cases x with
  | n _ => trivial
  | c _ => trivial
  | o x =>
    have l : (2 : Nat) ^ 190 ≤ 2 ^ 2000 := Nat.pow_le_pow_right (by decide) (by decide)
    exact ⟨Nat.lt_of_lt_of_le h.1 l, Nat.lt_of_lt_of_le h.2 l⟩
theorem word_sums (m : Ms) : decide (V.str m.word = V.str "sums") = decide (m = .sums) := by
  cases m with
  | sums => decide +kernel
  | classes k =>
    rw [decide_eq_false (show ¬ Ms.classes k = .sums from fun z => nomatch z)]
    exact (show decide (V.str "classes" = V.str "sums") = false by decide +kernel)
  | odds => decide +kernel
def Ms.isC : Ms → Bool
  | .classes _ => true
  | _ => false
theorem word_classes (m : Ms) : decide (V.str m.word = V.str "classes") = m.isC := by
  cases m with
  | sums => exact (show decide (V.str "sums" = V.str "classes") = false by decide +kernel)
  | classes k => exact (show decide (V.str "classes" = V.str "classes") = true by decide +kernel)
  | odds => exact (show decide (V.str "odds" = V.str "classes") = false by decide +kernel)
theorem Gro.msV {a p : Addr} {H H' : Hp} {m : Ms} (g : Gro a H H') (d : Dice H a) (h : MsV H p m) : MsV H' p m := g.rd d h
section
variable {P : Program} {w : World} {K : PySem.W.Frag} {mg : Str → Option Value} {base : Heap}
structure DfG (P : Program) (w : World) (K : PySem.W.Frag) (mg : Str → Option Value) (base : Heap) (k : Nat) (x : Str) (ps : List Str) (sp : Sp) where
  f : Addr
  fd : FuncData
  G : FnG P w K mg base CX0 k f fd ps sp
  g : mg x = some (.ref f)
  kp : PySem.W.keepIn K (.ref f) = true
  b : Binds K fd ps []
def spAmtL : Sp := fun vs H Q _ => ∃ (a p : Addr) (m : Ms), vs = [.ref a, .ref p] ∧ Dice H a ∧ MsV H p m ∧ m.ok ∧ ∀ (v : V) (x : Am) H', Gro a H H' → m.has x → x.near → AmV H' v x → Q v H'
theorem ok_amtL {f : Addr} {fd : FuncData} (F : Fun K "_law_amount" "_law_amount" sAmtL f fd) (T : Blt mg) (D : Dc P w K mg base) (Lo : DfG P w K mg base 1 "_law_lowest" ["_law_top", "_law_bottom"] spLowL) : FnG P w K mg base CX0 2 f fd ["_law_dice_here", "_law_measure"] spAmtL := by
  refine okG F scAmtL (fun vs H Q E h => ?_) (fun cdv A outer s H vs Q E hr h => ?_)
  · obtain ⟨a, p, m, rfl, _⟩ := h
    rfl
  · obtain ⟨a, p, m, rfl, hd, hm, mok, q⟩ := h
    have nd := scAmtL.nd
    refine ⟨_, pss_cons (ps_if (pt_cmpR op_eq (pe_ix ix_tup (pv 1) pe_int (fun _ _ => rfl)) pe_str (nomark _))
        (pss_cons (ps_set (i := 2) nd rfl (.inl rfl) (pe_callG D.G hr (by rfl) D.g D.kp D.b .nil pass0 (pa_cons (pv 0) (pa_cons (pe_ix ix_list (pe_lst (pa_cons pe_int (pa_cons pe_int (pa_cons (pe_op op_powW pe_int pe_int) pa_nil)))) (pe_callG D.G hr (by rfl) D.g D.kp D.b .nil pass0 (pa_cons (pv 0) (pa_cons pe_int pa_nil))) (fun _ _ => rfl)) pa_nil))))
        (pss_one (ps_ret (pe_op op_sub (pv 2) (pe_callG D.G hr (by rfl) D.g D.kp D.b .nil pass0 (pa_cons (pv 0) (pa_cons (pe_ix ix_list (pe_lst (pa_cons pe_int (pa_cons pe_int (pa_cons (pe_op op_powW pe_int pe_int) pa_nil)))) (pe_callG D.G hr (by rfl) D.g D.kp D.b .nil pass0 (pa_cons (pv 0) (pa_cons pe_int pa_nil))) (fun _ _ => rfl)) pa_nil))))))) pss_nil)
      (pss_cons (ps_if (pt_cmpR op_eq (pe_ix ix_tup (pv 1) pe_int (fun _ _ => rfl)) pe_str (nomark _))
        (pss_one (ps_ret (pe_callTy call_tupleF (by rfl) T.tuple (by decide +kernel) (pa_cons (pe_lc (own := [("_law_turn", 4)]) (g := gName 4) (tt := tYes) rfl nd (pi_range1 rfl T.range (pa_cons (pe_ix ix_tup (pv 1) pe_int (fun _ _ => rfl)) pa_nil)) (blkOk_by (N := ["_law_dice_here", "_law_measure", "_law_found", "_law_big", "_law_turn"]) (sc := defScope sAmtL) (by decide +kernel)) (fun _ _ _ _ _ => pg_name (i := 4) nd rfl (.inl rfl)) (fun _ _ _ _ _ => pts_nil)
          (fun _ _ _ _ _ => pe_op op_sub (pe_callG D.G hr (by rfl) D.g D.kp D.b .nil pass0 (pa_cons (pv 0) (pa_cons pe_int pa_nil))) (pe_callG D.G hr (by rfl) D.g D.kp D.b .nil pass0 (pa_cons (pv 0) (pa_cons pe_int pa_nil))))) pa_nil)))) pss_nil)
      (pss_cons (ps_set (i := 3) nd rfl (.inl rfl) (pe_ix ix_list (pe_lst (pa_cons pe_int (pa_cons pe_int (pa_cons (pe_op op_powW pe_int pe_int) pa_nil)))) (pe_callG D.G hr (by rfl) D.g D.kp D.b .nil pass0 (pa_cons (pv 0) (pa_cons pe_int pa_nil))) (fun _ _ => rfl)))
      (pss_one (ps_ret (pe_callG Lo.G hr (by rfl) Lo.g Lo.kp Lo.b .nil pass0 (pa_cons (pe_op op_add pe_int (pe_callG D.G hr (by rfl) D.g D.kp D.b .nil pass0 (pa_cons (pv 0) (pa_cons (pv 3) pa_nil)))) (pa_cons (pe_op op_add pe_int (pe_callG D.G hr (by rfl) D.g D.kp D.b .nil pass0 (pa_cons (pv 0) (pa_cons (pv 3) pa_nil)))) pa_nil))))))), ?_⟩
    have s3 : 3 ≤ sizeLine := by decide
    obtain ⟨b0, b1, b2⟩ := big40_lt
    have pick3 : ∀ (c d : Int) {j : Int}, 0 < c → c ≤ 100 → 0 < d → d ≤ 100 → 0 ≤ j → j < 3 → ∃ t : Int, atI [V.int c, .int d, .int big40] j = some (.int t) ∧ 0 < t ∧ t.natAbs < 2 ^ 200 ∧ t + 1 < 2 ^ 190 := by
      intro c d j c0 c1 d0 d1 j0 j1
      obtain ⟨j, rfl⟩ : ∃ k : Nat, j = k := ⟨j.toNat, by omega⟩
      match j, j1 with
      | 0, _ => exact ⟨c, rfl, c0, by omega, by omega⟩
      | 1, _ => exact ⟨d, rfl, d0, by omega, by omega⟩
      | 2, _ => exact ⟨big40, rfl, b0, b2, b1⟩
      | j + 3, z => omega
    refine ⟨_, rfl, p, _, 0, _, rfl, rfl, .inl hm, rfl, rfl, _, rfl, ?_⟩
    rw [word_sums]
    cases m with
    | sums =>
      refine ⟨_, rfl, _, _, rfl, rfl, cpw40, s3, fun L nL => ?_⟩
      have xL := Ex.new (o := .lst [.int 2, .int 5, .int ((10 : Int) ^ (40 : Int).toNat)]) nL
      refine ⟨_, rfl, a, 3, rfl, by decide, by decide, xL.dice hd, fun j H1 j0 j1 g1 => ?_⟩
      have gA := (Gro.of xL hd).trans g1
      have La := hd.ne nL
      obtain ⟨t, ht, t0, t1, t2⟩ := pick3 2 5 (by decide) (by decide) (by decide) (by decide) j0 j1
      refine ⟨L, _, j, _, rfl, rfl, .inl (.inl (g1.st L _ La upd_same)), ht, a, t, rfl, t0, t1, gA.di, fun i H2 i0 i1 g2 => ?_⟩
      have gB := gA.trans g2
      refine ⟨_, rfl, _, rfl, _, _, rfl, rfl, cpw40, s3, fun M nM => ?_⟩
      have xM := Ex.new (o := .lst [.int 2, .int 5, .int ((10 : Int) ^ (40 : Int).toNat)]) nM
      refine ⟨_, rfl, a, 3, rfl, by decide, by decide, xM.dice gB.di, fun k H3 k0 k1 g3 => ?_⟩
      have gC := (gB.ex xM).trans g3
      have Ma := gB.di.ne nM
      obtain ⟨u, hu, u0, u1, u2⟩ := pick3 2 5 (by decide) (by decide) (by decide) (by decide) k0 k1
      refine ⟨M, _, k, _, rfl, rfl, .inl (.inl (g3.st M _ Ma upd_same)), hu, a, u, rfl, u0, u1, gC.di, fun l H4 l0 l1 g4 => ?_⟩
      exact ⟨_, _, rfl, rfl, q _ (.n (i - l)) H4 (gC.trans g4) trivial (show (i - l).natAbs < 2 ^ 190 by omega) rfl⟩
    | classes k =>
      refine ⟨_, rfl, p, _, 0, _, rfl, rfl, .inl hm, rfl, rfl, _, rfl, ?_⟩
      rw [word_classes]
      refine ⟨_, rfl, p, _, 1, _, rfl, rfl, .inl hm, rfl, k, rfl, by have := mok.2; omega, by have := mok.2; omega, fun L nL => ?_⟩
      have La := hd.ne nL
      refine lc_range (n := k) (fun i H' => ∃ ns : List Int, Gro a H H' ∧ H' L = some (.lst (ns.map V.int)) ∧ ns.length = i ∧ ∀ n ∈ ns, n.natAbs < 2 ^ 190)
        ⟨[], Gro.of (Ex.new nL) hd, upd_same, rfl, fun _ z => (nomatch z)⟩ (fun i H1 hi h => ?_) (fun H1 h => ?_)
      · obtain ⟨ns, g, eL, len, bd⟩ := h
        refine ⟨rfl, _, rfl, a, 4, rfl, by decide, by decide, g.di, fun u H2 u0 u1 g2 => ?_⟩
        refine ⟨_, rfl, a, 4, rfl, by decide, by decide, g2.di, fun t H3 t0 t1 g3 => ?_⟩
        have g23 := g2.trans g3
        have := mok.2
        refine ⟨_, _, rfl, rfl, _, g23.st L _ La eL, ?_, ns ++ [u - t], (g.trans g23).mut nL La, by rw [upd_same, List.map_append]; rfl, by rw [List.length_append, len]; rfl, fun n hn => ?_⟩
        · rw [List.length_map, len]
          exact Nat.lt_of_lt_of_le (show i < 100 by omega) (by decide)
        · rcases List.mem_append.mp hn with z | z
          · exact bd n z
          · rw [List.mem_singleton.mp z]
            have : (u - t).natAbs < 4 := by omega
            exact Nat.lt_of_lt_of_le this (by decide)
      · obtain ⟨ns, g, eL, len, bd⟩ := h
        refine ⟨L, _, rfl, .inl (.inl eL), fun t o nt _ => ?_⟩
        exact q _ (.c ns) _ (g.ex (Ex.new nt)) len bd ⟨t, rfl, .inr ⟨o, upd_same⟩⟩
    | odds =>
      refine ⟨_, rfl, p, _, 0, _, rfl, rfl, .inl hm, rfl, rfl, _, rfl, ?_⟩
      rw [word_classes]
      refine ⟨_, _, rfl, rfl, cpw40, s3, fun L nL => ?_⟩
      have xL := Ex.new (o := .lst [.int 3, .int 12, .int ((10 : Int) ^ (40 : Int).toNat)]) nL
      refine ⟨_, rfl, a, 3, rfl, by decide, by decide, xL.dice hd, fun j H1 j0 j1 g1 => ?_⟩
      have gA := (Gro.of xL hd).trans g1
      obtain ⟨t, ht, t0, t1, t2⟩ := pick3 3 12 (by decide) (by decide) (by decide) (by decide) j0 j1
      refine ⟨L, _, j, _, rfl, rfl, .inl (.inl (g1.st L _ (hd.ne nL) upd_same)), ht, ?_⟩
      refine ⟨_, rfl, _, rfl, a, t, rfl, t0, t1, gA.di, fun u H2 u0 u1 g2 => ?_⟩
      have gB := gA.trans g2
      refine ⟨_, _, rfl, rfl, _, rfl, _, rfl, a, t, rfl, t0, t1, gB.di, fun v H3 v0 v1 g3 => ?_⟩
      obtain ⟨u, rfl⟩ : ∃ k : Nat, u = k := ⟨u.toNat, by omega⟩
      obtain ⟨v, rfl⟩ : ∃ k : Nat, v = k := ⟨v.toNat, by omega⟩
      refine ⟨_, _, rfl, rfl, 1 + u, 1 + v, by rw [Int.natCast_add, Int.natCast_add]; rfl, by omega, by omega, by omega, by omega, fun pt H4 lo e4 np rd => ?_⟩
      refine q _ (.o ⟨_, lo⟩) _ ((gB.trans g3).ex e4) trivial ⟨?_, ?_⟩ ⟨pt, rfl, rd⟩
      · exact Nat.lt_of_le_of_lt (Nat.div_le_self ..) (by omega)
      · exact Nat.lt_of_le_of_lt (Nat.div_le_self ..) (by omega)
end
end Gl

namespace Gl
open PySem PySem.Spec PyProof.Rows L2
abbrev sZeroL : Stmt := topS 23
theorem scZeroL : FnScope ["_law_measure"] ["_law_measure"] (defScope sZeroL) := ⟨rfl, rfl, rfl, by decide +kernel, rfl, by decide +kernel, by decide +kernel⟩
section
variable {P : Program} {w : World} {K : PySem.W.Frag} {mg : Str → Option Value} {base : Heap}
def spZeroL : Sp := fun vs H Q _ => ∃ (p : Addr) (m : Ms), vs = [.ref p] ∧ MsV H p m ∧ m.ok ∧ ∀ v H', Ex H H' → AmV H' v m.zero → Q v H'
theorem ok_zeroL {f : Addr} {fd : FuncData} (F : Fun K "_law_zero" "_law_zero" sZeroL f fd) : FnG P w K mg base CX0 1 f fd ["_law_measure"] spZeroL := by
  refine okG F scZeroL (fun vs H Q E h => ?_) (fun cdv A outer s H vs Q E hr h => ?_)
  · obtain ⟨p, m, rfl, _⟩ := h
    rfl
  · obtain ⟨p, m, rfl, hm, mok, q⟩ := h
    have hu : (A.deeper (envOfC "_law_zero" (defScope sZeroL) s.heap.objs.size f cdv)).units + 1 < cLine := by have := hr.rm.un; omega
    refine ⟨_, pss_one (ps_ret (pe_dget hu (pe_disp (pps_cons pe_str pe_int (pps_cons pe_str (pe_op (op_repT1.or op_repT) (pe_tup (pa_cons pe_int pa_nil)) (pe_ix ix_tup (pv 0) pe_int (fun _ _ => rfl))) (pps_cons pe_str (pe_tup (pa_cons pe_int (pa_cons pe_int pa_nil))) pps_nil))) rfl rfl (by simp) (by decide)) (pe_ix ix_tup (pv 0) pe_int (fun _ _ => rfl)) (fun _ _ => rfl))), ?_⟩
    refine fun d nd => ⟨by show 1 ≤ sizeLine; decide, fun t nt => ?_⟩
    have xd := Ex.new (o := .dK []) nd
    have xt := Ex.new (o := .tup [.int 0]) nt
    have hm2 := (xd.trans xt).rd hm
    refine ⟨_, rfl, p, _, 1, _, rfl, rfl, .inl hm2, rfl, ?_⟩
    have next : ∀ (z : Addr) (H1 : Hp), Ex (upd (upd H d (.dK [])) t (.tup [.int 0])) H1 → Rd H1 z (.tup ((List.replicate m.size (0 : Int)).map V.int)) → tPairs [(tC (V.str "odds"), tTup (tCons (tC (V.int 1)) (tCons (tC (V.int 1)) tNil)))] [some (.ref p)] H1 fun ps H3 =>
        H3 d = some (.dK []) ∧ ∃ kvs : List (Key × V), (.str "sums", .int 0) :: (.str "classes", .ref z) :: ps = kvs.map (fun kv => (kV kv.1, kv.2)) ∧ kvs.length ≤ 15 ∧
          tOp (rIxT K) (tVar 0) (tC (V.int 0)) [some (.ref p)] (upd H3 d (.dK (mergeK [] kvs))) fun y H2 => ∃ a v, V.ref d = .ref a ∧ DGet H2 a y (some v) ∧ Q v H2 := by
      intro z H1 e1 rz
      refine ⟨by show 2 ≤ sizeLine; decide, fun u nu => ?_⟩
      have xu := Ex.new (o := .tup [.int 1, .int 1]) nu
      refine ⟨xu d _ (e1 d _ (xt d _ upd_same)), [(.inr "sums", .int 0), (.inr "classes", .ref z), (.inr "odds", .ref u)], rfl, by show 3 ≤ 15; decide, ?_⟩
      have mk : mergeK [] [((.inr "sums" : Key), V.int 0), (.inr "classes", .ref z), (.inr "odds", .ref u)] = [(.inr "sums", .int 0), (.inr "classes", .ref z), (.inr "odds", .ref u)] := by
        have n1 : ¬ ((.inr "sums" : Key) = .inr "classes") := by decide +kernel
        have n2 : ¬ ((.inr "sums" : Key) = .inr "odds") := by decide +kernel
        have n3 : ¬ ((.inr "classes" : Key) = .inr "odds") := by decide +kernel
        simp [mergeK, putK, n1, n2, n3]
      rw [mk]
      have fin := ((xd.trans (xt.trans (e1.trans xu))).mut (o := .dK [(.inr "sums", .int 0), (.inr "classes", .ref z), (.inr "odds", .ref u)]) nd)
      have away : ∀ {b : Addr} {xs : List V}, Rd (upd H1 u (.tup [.int 1, .int 1])) b (.tup xs) → Rd (upd (upd H1 u (.tup [.int 1, .int 1])) d (.dK [(.inr "sums", .int 0), (.inr "classes", .ref z), (.inr "odds", .ref u)])) b (.tup xs) := by
        intro b xs h
        have ed := xu d _ (e1 d _ (xt d _ upd_same))
        have ne : b ≠ d := fun e => by
          subst e
          rcases h with h | ⟨o, h⟩
          · rw [ed] at h; exact nomatch h
          · rw [ed] at h; exact nomatch h
        rcases h with h | ⟨o, h⟩
        · exact .inl (by rw [upd_ne ne]; exact h)
        · exact .inr ⟨o, by rw [upd_ne ne]; exact h⟩
      refine ⟨_, rfl, p, _, 0, _, rfl, rfl, .inl (fin.rd hm), rfl, d, ?_⟩
      cases m with
      | sums => exact ⟨.int 0, rfl, .inl ⟨_, .inr "sums", .inl upd_same, rfl, by simp [valV]⟩, q _ _ fin rfl⟩
      | classes k =>
        have n1 : ¬ ((.inr "sums" : Key) = .inr "classes") := by decide +kernel
        exact ⟨.ref z, rfl, .inl ⟨_, .inr "classes", .inl upd_same, rfl, by simp [valV, List.find?_cons, n1]⟩, q _ _ fin ⟨z, rfl, away (xu.rd rz)⟩⟩
      | odds =>
        have n2 : ¬ ((.inr "sums" : Key) = .inr "odds") := by decide +kernel
        have n3 : ¬ ((.inr "classes" : Key) = .inr "odds") := by decide +kernel
        exact ⟨.ref u, rfl, .inl ⟨_, .inr "odds", .inl upd_same, rfl, by simp [valV, List.find?_cons, n2, n3]⟩, q _ _ fin ⟨u, rfl, away (.inl upd_same)⟩⟩
    by_cases one : m.size = 1
    · refine .inl ⟨t, _, rfl, by rw [one]; rfl, .inl (.inl upd_same), ?_⟩
      exact next t _ (Ex.refl _) (.inl (by rw [upd_same, one]; rfl))
    · have sz : 2 ≤ m.size ∧ m.size ≤ 4 := by
        cases m with
        | sums => exact absurd rfl one
        | classes k => exact ⟨by have := mok.1; have : ¬ k = 1 := one; show 2 ≤ k; omega, mok.2⟩
        | odds => exact absurd rfl one
      refine .inr ⟨t, (m.size : Int), [.int 0], rfl, rfl, .inl (.inl upd_same), by simp, by omega, by omega, by decide, fun z nz => ?_⟩
      refine next z _ (Ex.new nz) (.inl ?_)
      rw [upd_same, Int.toNat_natCast, List.map_replicate]
      congr 2
      generalize m.size = n
      induction n with
      | zero => rfl
      | succ n ih => rw [List.replicate_succ, List.replicate_succ, List.flatten_cons, ih]; rfl
end
end Gl

namespace Gl
open PySem PySem.Spec PyProof.Rows L2
abbrev sWgtL : Stmt := topS 22
theorem scWgtL : FnScope ["_law_dice_here", "_law_measure", "_law_found", "_law_bottom", "_law_turn", "_law_one"] ["_law_dice_here", "_law_measure"] (defScope sWgtL) := ⟨rfl, rfl, rfl, by decide +kernel, rfl, by decide +kernel, by decide +kernel⟩
section
variable {P : Program} {w : World} {K : PySem.W.Frag} {mg : Str → Option Value} {base : Heap}
theorem pick_small (xs : List Int) (hx : ∀ x ∈ xs, 0 < x ∧ x ≤ 10 ^ 30) {j : Int} (j0 : 0 ≤ j) (j1 : j < xs.length) : ∃ t : Int, atI (xs.map V.int) j = some (.int t) ∧ 0 < t ∧ t ≤ 10 ^ 30 := by
  obtain ⟨j, rfl⟩ : ∃ k : Nat, j = k := ⟨j.toNat, by omega⟩
  have l : j < xs.length := by omega
  exact ⟨xs[j], atI_nat (by rw [List.getElem?_map, List.getElem?_eq_getElem l]; rfl), hx _ (List.getElem_mem l)⟩
theorem cpw30 : CPw 10 30 := ⟨by decide, by decide +kernel⟩
theorem ok_wgtL {f : Addr} {fd : FuncData} (F : Fun K "_law_weight" "_law_weight" sWgtL f fd) (T : Blt mg) (D : Dc P w K mg base) (Lo : DfG P w K mg base 1 "_law_lowest" ["_law_top", "_law_bottom"] spLowL) : FnG P w K mg base CX0 2 f fd ["_law_dice_here", "_law_measure"] spAmtL := by
  refine okG F scWgtL (fun vs H Q E h => ?_) (fun cdv A outer s H vs Q E hr h => ?_)
  · obtain ⟨a, p, m, rfl, _⟩ := h
    rfl
  · obtain ⟨a, p, m, rfl, hd, hm, mok, q⟩ := h
    have nd := scWgtL.nd
    have hu : (A.deeper (envOfC "_law_weight" (defScope sWgtL) s.heap.objs.size f cdv)).units < cLine := by have := hr.rm.un; omega
    refine ⟨_, pss_cons (ps_if (pt_cmpR op_eq (pe_ix ix_tup (pv 1) pe_int (fun _ _ => rfl)) pe_str (nomark _))
        (pss_one (ps_ret (pe_op op_add pe_int (pe_callG D.G hr (by rfl) D.g D.kp D.b .nil pass0 (pa_cons (pv 0) (pa_cons (pe_ix ix_list (pe_lst (pa_cons pe_int (pa_cons pe_int (pa_cons pe_int (pa_cons (pe_op op_powW pe_int pe_int) pa_nil))))) (pe_callG D.G hr (by rfl) D.g D.kp D.b .nil pass0 (pa_cons (pv 0) (pa_cons pe_int pa_nil))) (fun _ _ => rfl)) pa_nil)))))) pss_nil)
      (pss_cons (ps_if (pt_cmpR op_eq (pe_ix ix_tup (pv 1) pe_int (fun _ _ => rfl)) pe_str (nomark _))
        (pss_cons (ps_setLc (i := 2) (own := [("_law_turn", 4)]) (g := gName 4) (tt := tYes) rfl nd rfl rfl (sw_true rfl rfl rfl (by decide +kernel)) (pi_range1 rfl T.range (pa_cons (pe_ix ix_tup (pv 1) pe_int (fun _ _ => rfl)) pa_nil)) (blkOk_by (N := ["_law_dice_here", "_law_measure", "_law_found", "_law_bottom", "_law_turn", "_law_one"]) (sc := defScope sWgtL) (by decide +kernel)) (fun _ _ _ _ _ => pg_name (i := 4) nd rfl (.inl rfl)) (fun _ _ _ _ _ => pts_nil)
          (fun _ _ _ _ _ => pe_callG D.G hr (by rfl) D.g D.kp D.b .nil pass0 (pa_cons (pv 0) (pa_cons (pe_ix (r := rIxL K) ix_list (pe_lst (pa_cons pe_int (pa_cons pe_int (pa_cons pe_int pa_nil)))) (pe_callG D.G hr (by rfl) D.g D.kp D.b .nil pass0 (pa_cons (pv 0) (pa_cons pe_int pa_nil))) (fun _ _ => rfl)) pa_nil))))
        (pss_cons (ps_if (pt_cmpR (op_eqNil hu) (pe_lc (own := [("_law_one", 5)]) (g := gName 5) rfl nd (pi_list (pv 2)) (blkOk_by (N := ["_law_dice_here", "_law_measure", "_law_found", "_law_bottom", "_law_turn", "_law_one"]) (sc := defScope sWgtL) (by decide +kernel)) (fun _ _ _ _ _ => pg_name (i := 5) nd rfl (.inl rfl)) (fun _ _ _ _ _ => pts_one (pt_cmpR op_gt (pv 5) pe_int (nomark _)))
            (fun _ _ _ _ _ => pv 5)) (pe_lst pa_nil) (nomark _))
          (pss_one (ps_asg pe_int (pg_sub (pv 2) (pe_callG D.G hr (by rfl) D.g D.kp D.b .nil pass0 (pa_cons (pv 0) (pa_cons (pe_callB call_len_seq (by rfl) T.len PySem.boot_len (pa_cons (pv 2) pa_nil)) pa_nil))) set_list))) pss_nil)
        (pss_one (ps_ret (pe_callTy call_tupleF (by rfl) T.tuple (by decide +kernel) (pa_cons (pv 2) pa_nil)))))) pss_nil)
      (pss_cons (ps_set (i := 3) nd rfl (.inl rfl) (pe_op op_add pe_int (pe_callG D.G hr (by rfl) D.g D.kp D.b .nil pass0 (pa_cons (pv 0) (pa_cons (pe_ix ix_list (pe_lst (pa_cons pe_int (pa_cons pe_int (pa_cons pe_int (pa_cons pe_int pa_nil))))) (pe_callG D.G hr (by rfl) D.g D.kp D.b .nil pass0 (pa_cons (pv 0) (pa_cons pe_int pa_nil))) (fun _ _ => rfl)) pa_nil)))))
      (pss_one (ps_ret (pe_callG Lo.G hr (by rfl) Lo.g Lo.kp Lo.b .nil pass0 (pa_cons (pe_op op_add (pe_op op_add (pv 3) pe_int) (pe_callG D.G hr (by rfl) D.g D.kp D.b .nil pass0 (pa_cons (pv 0) (pa_cons (pe_ix ix_list (pe_lst (pa_cons pe_int (pa_cons pe_int (pa_cons pe_int (pa_cons pe_int pa_nil))))) (pe_callG D.G hr (by rfl) D.g D.kp D.b .nil pass0 (pa_cons (pv 0) (pa_cons pe_int pa_nil))) (fun _ _ => rfl)) pa_nil)))) (pa_cons (pv 3) pa_nil))))))), ?_⟩
    have b200 : ∀ t : Int, 0 < t → t ≤ 10 ^ 30 → t.natAbs < 2 ^ 200 := fun t h0 h1 => by omega
    refine ⟨_, rfl, p, _, 0, _, rfl, rfl, .inl hm, rfl, rfl, _, rfl, ?_⟩
    rw [word_sums]
    cases m with
    | sums =>
      refine ⟨_, rfl, _, _, rfl, rfl, cpw30, by show 4 ≤ sizeLine; decide, fun L nL => ?_⟩
      have xL := Ex.new (o := .lst [.int 2, .int 3, .int 9, .int ((10 : Int) ^ (30 : Int).toNat)]) nL
      refine ⟨_, rfl, a, 4, rfl, by decide, by decide, xL.dice hd, fun j H1 j0 j1 g1 => ?_⟩
      have gA := (Gro.of xL hd).trans g1
      obtain ⟨t, ht, t0, t1⟩ := pick_small [2, 3, 9, 10 ^ 30] (by decide +kernel) j0 j1
      refine ⟨L, _, j, .int t, rfl, rfl, .inl (.inl (g1.st L _ (hd.ne nL) upd_same)), ht, a, t, rfl, t0, b200 t t0 t1, gA.di, fun i H2 i0 i1 g2 => ?_⟩
      exact ⟨_, _, rfl, rfl, q _ (.n (1 + i)) H2 (gA.trans g2) trivial (show (1 + i).natAbs < 2 ^ 190 by omega) rfl⟩
    | classes k =>
      refine ⟨_, rfl, p, _, 0, _, rfl, rfl, .inl hm, rfl, rfl, _, rfl, ?_⟩
      rw [word_classes]
      have k1 := mok.1
      have k4 := mok.2
      refine ⟨_, rfl, p, _, 1, _, rfl, rfl, .inl hm, rfl, k, rfl, by omega, by omega, fun L nL => ?_⟩
      have La := hd.ne nL
      refine lc_range (n := k) (fun i H' => ∃ ns : List Int, Gro a H H' ∧ H' L = some (.lst (ns.map V.int)) ∧ ns.length = i ∧ ∀ n ∈ ns, n.natAbs < 2 ^ 190)
        ⟨[], Gro.of (Ex.new nL) hd, upd_same, rfl, fun _ z => (nomatch z)⟩ (fun i H1 hi h => ?_) (fun H1 h => ?_)
      · obtain ⟨ns, g, eL, len, bd⟩ := h
        refine ⟨rfl, _, rfl, by show 3 ≤ sizeLine; decide, fun M nM => ?_⟩
        have xM := Ex.new (o := .lst [.int 2, .int 3, .int 9]) nM
        refine ⟨_, rfl, a, 3, rfl, by decide, by decide, xM.dice g.di, fun j H2 j0 j1 g2 => ?_⟩
        obtain ⟨t, ht, t0, t1⟩ := pick_small [2, 3, 9] (by decide +kernel) j0 j1
        refine ⟨M, _, j, .int t, rfl, rfl, .inl (.inl (g2.st M _ (g.di.ne nM) upd_same)), ht, a, t, rfl, t0, b200 t t0 t1, g2.di, fun u H3 u0 u1 g3 => ?_⟩
        have g23 := g2.trans g3
        refine ⟨_, g23.st L _ La (xM L _ eL), ?_, ns ++ [u], ((g.ex xM).trans g23).mut nL La, by rw [upd_same, List.map_append]; rfl, by rw [List.length_append, len]; rfl, fun n hn => ?_⟩
        · rw [List.length_map, len]
          exact Nat.lt_of_lt_of_le (show i < 100 by omega) (by decide)
        · rcases List.mem_append.mp hn with z | z
          · exact bd n z
          · rw [List.mem_singleton.mp z]; omega
      · obtain ⟨ns, g, eL, len, bd⟩ := h
        refine ⟨_, rfl, L, rfl, ⟨_, .inl (.inl eL)⟩, fun D2 nD2 => lc_list (xs := ns.map V.int) (fun i H' => ∃ ks : List V, Ex H1 H' ∧ H' D2 = some (.lst ks) ∧ ks.length ≤ i)
          ⟨[], Ex.new nD2, upd_same, Nat.le_refl _⟩ (fun i H' _ h => ?_) (fun i x H' hx h => ?_) (fun H2 h => ?_)⟩
        · obtain ⟨_, ex, _⟩ := h
          exact .inl (.inl (ex L _ eL))
        · obtain ⟨ks, ex, eD, lk⟩ := h
          rw [List.getElem?_map] at hx
          obtain ⟨n, hn, rfl⟩ := Option.map_eq_some_iff.mp hx
          have il := (List.getElem?_eq_some_iff.mp hn).1
          refine ⟨rfl, _, rfl, _, _, rfl, rfl, _, rfl, ite2 (fun _ => ?_) (fun _ => ?_)⟩
          · refine ⟨_, rfl, ks, eD, ?_, ks ++ [.int n], ex.mut nD2, upd_same, by rw [List.length_append]; exact Nat.succ_le_succ lk⟩
            exact Nat.lt_of_lt_of_le (show ks.length < 100 by omega) (by decide)
          · exact ⟨ks, ex, eD, by omega⟩
        · obtain ⟨ks, ex, eD, lk⟩ := h
          refine ⟨Nat.zero_le _, fun m nm => ⟨D2, m, _, rfl, rfl, .inl (.inl (Ex.new nm D2 _ eD)), upd_same, _, rfl, ?_⟩⟩
          have xm := Ex.new (o := .lst []) nm
          have e1 := ex.trans xm
          have gm := g.ex e1
          refine ite2 (fun _ => ?_) (fun _ => ?_)
          · refine ⟨_, rfl, _, rfl, _, rfl, L, _, rfl, .inl (.inl (.inl (e1 L _ eL))), a, _, rfl, by rw [List.length_map, len]; omega, Nat.lt_of_le_of_lt (show (((ns.map V.int).length : Nat) : Int).natAbs ≤ 1000 by rw [List.length_map, len]; omega) (by decide), gm.di, fun j H4 j0 j1 g4 => ?_⟩
            obtain ⟨j, rfl⟩ : ∃ k : Nat, j = k := ⟨j.toNat, by omega⟩
            refine ⟨L, _, j, j, rfl, rfl, g4.st L _ La (e1 L _ eL), (by unfold ixN; rw [if_pos (by omega), if_pos j1]; rfl), ?_⟩
            refine ⟨_, rfl, L, _, rfl, .inl (.inl upd_same), fun t o nt _ => ?_⟩
            refine q _ (.c (ns.set j 1)) _ (((gm.trans g4).mut nL La).ex (Ex.new nt)) (by show (ns.set j 1).length = k; rw [List.length_set, len]) (fun n hn => ?_) ⟨t, rfl, .inr ⟨o, by rw [upd_same, List.map_set]⟩⟩
            rcases List.mem_or_eq_of_mem_set hn with z | rfl
            · exact bd n z
            · decide
          · refine ⟨_, rfl, L, _, rfl, .inl (.inl (e1 L _ eL)), fun t o nt _ => ?_⟩
            exact q _ (.c ns) _ (gm.ex (Ex.new nt)) len bd ⟨t, rfl, .inr ⟨o, upd_same⟩⟩
    | odds =>
      refine ⟨_, rfl, p, _, 0, _, rfl, rfl, .inl hm, rfl, rfl, _, rfl, ?_⟩
      rw [word_classes]
      refine ⟨_, rfl, by show 4 ≤ sizeLine; decide, fun L nL => ?_⟩
      have xL := Ex.new (o := .lst [.int 1, .int 3, .int 12, .int 999]) nL
      refine ⟨_, rfl, a, 4, rfl, by decide, by decide, xL.dice hd, fun j H1 j0 j1 g1 => ?_⟩
      have gA := (Gro.of xL hd).trans g1
      obtain ⟨t, ht, t0, t1⟩ := pick_small [1, 3, 12, 999] (by decide +kernel) j0 j1
      refine ⟨L, _, j, .int t, rfl, rfl, .inl (.inl (g1.st L _ (hd.ne nL) upd_same)), ht, a, t, rfl, t0, b200 t t0 t1, gA.di, fun u H2 u0 u1 g2 => ?_⟩
      have gB := gA.trans g2
      obtain ⟨u, rfl⟩ : ∃ k : Nat, u = k := ⟨u.toNat, by omega⟩
      refine ⟨_, _, rfl, rfl, _, rfl, _, _, rfl, rfl, _, rfl, by show 4 ≤ sizeLine; decide, fun M nM => ?_⟩
      have xM := Ex.new (o := .lst [.int 1, .int 4, .int 20, .int 990000]) nM
      refine ⟨_, rfl, a, 4, rfl, by decide, by decide, xM.dice gB.di, fun i H3 i0 i1 g3 => ?_⟩
      have gC := (gB.ex xM).trans g3
      obtain ⟨r, hrr, r0, r1⟩ := pick_small [1, 4, 20, 990000] (by decide +kernel) i0 i1
      refine ⟨M, _, i, .int r, rfl, rfl, .inl (.inl (g3.st M _ (gB.di.ne nM) upd_same)), hrr, a, r, rfl, r0, b200 r r0 r1, gC.di, fun v H4 v0 v1 g4 => ?_⟩
      obtain ⟨v, rfl⟩ : ∃ k : Nat, v = k := ⟨v.toNat, by omega⟩
      refine ⟨_, _, rfl, rfl, _, rfl, 1 + u + 1 + v, 1 + u, by simp only [Int.natCast_add]; rfl, by omega, by omega, by omega, by omega, fun pt H5 lo e5 np rd => ?_⟩
      refine q _ (.o ⟨_, lo⟩) _ ((gC.trans g4).ex e5) trivial ⟨?_, ?_⟩ ⟨pt, rfl, rd⟩
      · exact Nat.lt_of_le_of_lt (Nat.div_le_self ..) (by omega)
      · exact Nat.lt_of_le_of_lt (Nat.div_le_self ..) (by omega)
end
end Gl

namespace Gl
open PySem PySem.Spec PyProof.Rows L2
def sgn (m : Ms) (x : Am) : Int := if amLt x m.zero then -1 else if amLt m.zero x then 1 else 0
theorem zero_wide (m : Ms) : m.zero.wide := by
  cases m with
  | sums => trivial
  | classes k => trivial
  | odds => exact ⟨Nat.one_lt_two_pow (by decide), Nat.one_lt_two_pow (by decide)⟩
theorem AmV.ex {H H' : Hp} (e : Ex H H') {v : V} : ∀ {x : Am}, AmV H v x → AmV H' v x
  | .n _, h => h
  | .c _, ⟨p, h, r⟩ => ⟨p, h, e.rd r⟩
  | .o _, ⟨p, h, r⟩ => ⟨p, h, e.rd r⟩
theorem AmV.gro {a : Addr} {H H' : Hp} (g : Gro a H H') (d : Dice H a) {v : V} : ∀ {x : Am}, AmV H v x → AmV H' v x
  | .n _, h => h
  | .c _, ⟨p, h, r⟩ => ⟨p, h, g.rd d r⟩
  | .o _, ⟨p, h, r⟩ => ⟨p, h, g.rd d r⟩
end Gl

namespace Gl
open PySem PySem.Spec PyProof.Rows L2
def clsS (i : Nat) : Stmt := match topS 12 with
  | .ClassDef _ _ _ body _ _ _ _ _ _ _ => body.getD i (.Pass ⟨0, 0, 0, 0⟩)
  | _ => .Pass ⟨0, 0, 0, 0⟩
abbrev sIsAmt : Stmt := clsS 9
theorem scIsAmt : FnScope ["self", "value"] ["self", "value"] (defScope sIsAmt) := ⟨rfl, rfl, rfl, by decide +kernel, rfl, by decide +kernel, by decide +kernel⟩
/-- a scale of the program -/
def SclAt (H : Hp) (a C : Addr) (m : Ms) : Prop := ∃ dx fs, H a = some (.ins C dx fs) ∧ fs.lookup ("_word" : Str) = some (V.str m.word) ∧ fs.lookup ("_size" : Str) = some (V.int (m.size : Nat)) ∧ ∀ x : Str, x ≠ ("_word" : Str) → x ≠ ("_size" : Str) → fs.lookup x = none
theorem Ex.scl {H H' : Hp} {a C : Addr} {m : Ms} (e : Ex H H') (h : SclAt H a C m) : SclAt H' a C m := let ⟨dx, fs, h1, h2⟩ := h; ⟨dx, fs, e _ _ h1, h2⟩
/-- what is known of the class -/
structure ClsK (K : PySem.W.Frag) (C : Addr) : Prop where
  cls : Cls K C
  nw : NoAttr K C "_word"
  ns : NoAttr K C "_size"
section
variable {P : Program} {w : World} {K : PySem.W.Frag} {mg : Str → Option Value} {base : Heap} {C : Addr}
/-- an amount of the scale is told as one -/
def spIsAmt (C : Addr) : Sp := fun vs H Q _ => ∃ (a : Addr) (m : Ms) (v : V) (x : Am), vs = [.ref a, v] ∧ SclAt H a C m ∧ m.ok ∧ m.has x ∧ AmV H v x ∧ ∀ H', Ex H H' → Q (.bl true) H'
theorem ok_isAmt {f : Addr} {fd : FuncData} (F : Fun K "is_amount" "Scale.is_amount" sIsAmt f fd) (Z : ClsK K C) (Wh : Df P w K mg base 1 "is_whole" ["value"] spWhole) (Ws : Df P w K mg base 2 "are_whole" ["value", "many"] spWholes) (Lw : Df P w K mg base 3 "_is_lowest" ["value"] spLowest) : FnOk P w K mg base CX0 4 f fd ["self", "value"] (spIsAmt C) := by
  refine F.ok scIsAmt (fun vs H Q E h => ?_) (fun cdv A outer s H vs Q E hr h => ?_)
  · obtain ⟨a, m, v, x, rfl, _⟩ := h
    rfl
  · obtain ⟨a, m, v, x, rfl, ⟨dx, fs, ha, hw, hs, hn⟩, mok, hx, vx, q⟩ := h
    refine ⟨_, pss_cons (ps_if (pt_cmpR op_eq (pe_fld (pv 0) (by rfl)) pe_str (nomark _)) (pss_one (ps_ret (pe_call Wh.G (hr.mono (by decide)) (by rfl) Wh.g Wh.kp Wh.b .nil pass0 (pa_cons (pv 1) pa_nil)))) pss_nil)
      (pss_cons (ps_if (pt_cmpR op_eq (pe_fld (pv 0) (by rfl)) pe_str (nomark _)) (pss_one (ps_ret (pe_call Lw.G hr (by rfl) Lw.g Lw.kp Lw.b .nil pass0 (pa_cons (pv 1) pa_nil)))) pss_nil)
      (pss_one (ps_ret (pe_call Ws.G (hr.mono (by decide)) (by rfl) Ws.g Ws.kp Ws.b .nil pass0 (pa_cons (pv 1) (pa_cons (pe_fld (pv 0) (by rfl)) pa_nil)))))), ?_⟩
    refine ⟨_, rfl, a, C, dx, fs, _, rfl, ha, Z.cls, Z.nw, hw, rfl, _, rfl, ?_⟩
    rw [word_sums]
    cases m with
    | sums =>
      cases x <;> first | exact hx.elim | skip
      obtain rfl := vx
      exact ⟨_, rfl, _, rfl, q H (Ex.refl H)⟩
    | classes k =>
      refine ⟨_, rfl, a, C, dx, fs, _, rfl, ha, Z.cls, Z.nw, hw, rfl, _, rfl, ?_⟩
      rw [word_odds]
      cases x <;> first | exact hx.elim | skip
      rename_i ns
      obtain ⟨b, rfl, hb⟩ := vx
      have len : ns.length = k := hx
      have k4 := mok.2
      refine ⟨_, rfl, _, rfl, a, C, dx, fs, _, rfl, ha, Z.cls, Z.ns, hs, b, ns, ?_, hb, by omega, fun H1 e1 => q H1 e1⟩
      rw [len]
      rfl
    | odds =>
      refine ⟨_, rfl, a, C, dx, fs, _, rfl, ha, Z.cls, Z.nw, hw, rfl, _, rfl, ?_⟩
      rw [word_odds]
      cases x <;> first | exact hx.elim | skip
      rename_i x
      obtain ⟨b, rfl, hb⟩ := vx
      exact ⟨_, rfl, b, x, rfl, hb, fun H1 e1 => q H1 e1⟩
end
end Gl

namespace Gl
open PySem PySem.Spec PyProof.Rows L2
abbrev sInit : Stmt := clsS 0
abbrev sSums : Stmt := clsS 1
abbrev sClasses : Stmt := clsS 2
abbrev sOddsM : Stmt := clsS 3
abbrev sZero : Stmt := clsS 6
abbrev sMadeL : Stmt := topS 27
theorem scInit : FnScope ["self", "word", "size"] ["self", "word", "size"] (defScope sInit) := ⟨rfl, rfl, rfl, by decide +kernel, rfl, by decide +kernel, by decide +kernel⟩
theorem scSums : FnScope [] [] (defScope sSums) := ⟨rfl, rfl, rfl, by decide +kernel, rfl, by decide +kernel, by decide +kernel⟩
theorem scClasses : FnScope ["size"] ["size"] (defScope sClasses) := ⟨rfl, rfl, rfl, by decide +kernel, rfl, by decide +kernel, by decide +kernel⟩
theorem scOddsM : FnScope [] [] (defScope sOddsM) := ⟨rfl, rfl, rfl, by decide +kernel, rfl, by decide +kernel, by decide +kernel⟩
theorem scZero : FnScope ["self"] ["self"] (defScope sZero) := ⟨rfl, rfl, rfl, by decide +kernel, rfl, by decide +kernel, by decide +kernel⟩
theorem scMadeL : FnScope ["_law_measure"] ["_law_measure"] (defScope sMadeL) := ⟨rfl, rfl, rfl, by decide +kernel, rfl, by decide +kernel, by decide +kernel⟩
section
variable {P : Program} {w : World} {K : PySem.W.Frag} {mg : Str → Option Value} {base : Heap} {C : Addr}
def spIndex : Sp := fun vs H Q _ => ∃ i n : Int, vs = [.int i, .int n] ∧ 0 ≤ i ∧ i < n ∧ Q (.bl true) H
theorem ok_index {f : Addr} {fd : FuncData} (F : Fun K "is_index" "is_index" sIndex f fd) (T : Blt mg) (W : Df P w K mg base 1 "is_whole" ["value"] spWhole) : FnOk P w K mg base CX0 2 f fd ["value", "many"] spIndex := by
  refine F.ok scIndex (fun vs H Q E h => ?_) (fun cdv A outer s H vs Q E hr h => ?_)
  · obtain ⟨i, n, rfl, _⟩ := h
    rfl
  · obtain ⟨i, n, rfl, h0, h1, q⟩ := h
    refine ⟨_, pss_one (ps_ret (pe_and (pe_call W.G hr (by rfl) W.g W.kp W.b .nil pass0 (pa_cons (pv 0) pa_nil)) (pe_one (pe_chain op_le op_lt pe_int (pv 0) (pv 1))))), ?_⟩
    refine ⟨_, rfl, i, rfl, true, rfl, ?_⟩
    refine ⟨_, rfl, _, _, rfl, rfl, decide (0 ≤ i), rfl, ?_⟩
    rw [decide_eq_true h0]
    refine ⟨_, rfl, _, _, rfl, rfl, ?_⟩
    show Q (.bl (decide (i < n))) H
    rw [decide_eq_true h1]
    exact q
/-- a new scale is laid -/
def spInit (C : Addr) : Sp := fun vs H Q _ => ∃ (x dx : Addr) (m : Ms), vs = [.ref x, .str m.word, .int (m.size : Nat)] ∧ H x = some (.ins C dx []) ∧ ∀ H', (∀ b o, b ≠ x → H b = some o → H' b = some o) → SclAt H' x C m → Q .non H'
theorem ok_init {f : Addr} {fd : FuncData} (F : Fun K "__init__" "Scale.__init__" sInit f fd) (Z : ClsK K C) : FnOk P w K mg base CX0 1 f fd ["self", "word", "size"] (spInit C) := by
  refine F.ok scInit (fun vs H Q E h => ?_) (fun cdv A outer s H vs Q E hr h => ?_)
  · obtain ⟨x, dx, m, rfl, _⟩ := h
    rfl
  · obtain ⟨x, dx, m, rfl, hx, q⟩ := h
    refine ⟨_, pss_cons (ps_fld (pv 0) (pv 1) rfl) (pss_one (ps_fld (pv 0) (pv 2) rfl)), ?_⟩
    refine ⟨_, rfl, _, rfl, x, C, dx, [], rfl, hx, Z.cls, Z.nw, (by show 0 < 1000; decide), ?_⟩
    refine ⟨_, rfl, _, rfl, x, C, dx, _, rfl, upd_same, Z.cls, Z.ns, (by show 1 < 1000; decide), ?_⟩
    refine q _ (fun b o nb e => ?_) ⟨dx, _, upd_same, ?_, ?_, fun y n1 n2 => ?_⟩
    · rw [upd_ne nb, upd_ne nb]; exact e
    · rw [lookup_putF, if_neg (by decide +kernel), lookup_putF, if_pos rfl]
    · rw [lookup_putF, if_pos rfl]
    · rw [lookup_putF, if_neg n2, lookup_putF, if_neg n1]
      rfl
/-- the class as the module has it -/
structure SclD (P : Program) (w : World) (K : PySem.W.Frag) (mg : Str → Option Value) (base : Heap) (C : Addr) where
  k : ClsK K C
  f : Addr
  fd : FuncData
  G : FnOk P w K mg base CX0 1 f fd ["self", "word", "size"] (spInit C)
  made : Mk K C f
  g : mg "Scale" = some (.ref C)
  b : Binds K fd ["self", "word", "size"] []
def spNew (C : Addr) (m : Ms) : Sp := fun vs H Q _ => vs = [] ∧ ∀ a H', Ex H H' → H a = none → SclAt H' a C m → Q (.ref a) H'
def spClasses (C : Addr) : Sp := fun vs H Q _ => ∃ k : Nat, vs = [.int k] ∧ 1 ≤ k ∧ k ≤ 4 ∧ ∀ a H', Ex H H' → H a = none → SclAt H' a C (.classes k) → Q (.ref a) H'
theorem scl_made {H1 H2 : Hp} {x dx : Addr} (nx : H1 x = none) (nd : H1 dx = none) (hk : ∀ b o, b ≠ x → upd (upd H1 dx (.own x)) x (.ins C dx []) b = some o → H2 b = some o) : Ex H1 H2 := fun b o e => by
  have b1 := ne_of_none e nx
  have b2 := ne_of_none e nd
  refine hk b o b1 ?_
  rw [upd_ne b1, upd_ne b2]
  exact e
theorem ok_sums {f : Addr} {fd : FuncData} (F : Fun K "sums" "Scale.sums" sSums f fd) (Z : SclD P w K mg base C) : FnOk P w K mg base CX0 3 f fd [] (spNew C .sums) := by
  refine F.ok scSums (fun vs H Q E h => ?_) (fun cdv A outer s H vs Q E hr h => ?_)
  · obtain ⟨rfl, _⟩ := h
    rfl
  · obtain ⟨rfl, q⟩ := h
    refine ⟨_, pss_one (ps_ret (pe_make Z.made Z.G hr (by rfl) Z.g Z.b .nil pass0 (pa_cons pe_str (pa_cons pe_int pa_nil)))), ?_⟩
    refine fun x dx nx nd ne => ⟨x, dx, .sums, rfl, upd_same, fun H2 hk sa => ⟨rfl, q x H2 (scl_made nx nd hk) nx sa⟩⟩
theorem ok_oddsM {f : Addr} {fd : FuncData} (F : Fun K "odds" "Scale.odds" sOddsM f fd) (Z : SclD P w K mg base C) : FnOk P w K mg base CX0 3 f fd [] (spNew C .odds) := by
  refine F.ok scOddsM (fun vs H Q E h => ?_) (fun cdv A outer s H vs Q E hr h => ?_)
  · obtain ⟨rfl, _⟩ := h
    rfl
  · obtain ⟨rfl, q⟩ := h
    refine ⟨_, pss_one (ps_ret (pe_make Z.made Z.G hr (by rfl) Z.g Z.b .nil pass0 (pa_cons pe_str (pa_cons pe_int pa_nil)))), ?_⟩
    refine fun x dx nx nd ne => ⟨x, dx, .odds, rfl, upd_same, fun H2 hk sa => ⟨rfl, q x H2 (scl_made nx nd hk) nx sa⟩⟩
theorem ok_classes {f : Addr} {fd : FuncData} (F : Fun K "classes" "Scale.classes" sClasses f fd) (Z : SclD P w K mg base C) (I : Df P w K mg base 2 "is_index" ["value", "many"] spIndex) (ms : ∃ t, mg "MAX_SIZE" = some (.int 4 t)) : FnOk P w K mg base CX0 3 f fd ["size"] (spClasses C) := by
  refine F.ok scClasses (fun vs H Q E h => ?_) (fun cdv A outer s H vs Q E hr h => ?_)
  · obtain ⟨k, rfl, _⟩ := h
    rfl
  · obtain ⟨k, rfl, k1, k4, q⟩ := h
    obtain ⟨t, ms⟩ := ms
    refine ⟨_, pss_cons (ps_if (pw_or (pt_not (pt_val (pe_call I.G hr (by rfl) I.g I.kp I.b .nil pass0 (pa_cons (pv 0) (pa_cons (pe_op op_add (pe_glob (v := .int 4) (by rfl) ms ⟨t, rfl⟩) pe_int) pa_nil))))) (pw_or1 (pt_cmpR op_eq (pv 0) pe_int (nomark _)))).pt pss_never pss_nil)
      (pss_one (ps_ret (pe_make Z.made Z.G hr (by rfl) Z.g Z.b .nil pass0 (pa_cons pe_str (pa_cons (pv 0) pa_nil))))), ?_⟩
    refine ⟨_, rfl, _, _, rfl, rfl, k, _, rfl, by omega, by omega, ⟨_, rfl, ?_⟩⟩
    refine ⟨_, rfl, rfl, _, rfl, ?_⟩
    rw [decide_eq_false (show ¬ V.int (k : Nat) = V.int 0 from fun z => by injection z with z; omega)]
    refine ⟨_, rfl, fun x dx nx nd ne => ⟨x, dx, .classes k, rfl, upd_same, fun H2 hk sa => ⟨rfl, q x H2 (scl_made nx nd hk) nx sa⟩⟩⟩
end
end Gl

namespace Gl
open PySem PySem.Spec PyProof.Rows L2
abbrev sChkAll : Stmt := clsS 23
theorem scChkAll : FnScope ["self", "amounts", "amount"] ["self", "amounts"] (defScope sChkAll) := ⟨rfl, rfl, rfl, by decide +kernel, rfl, by decide +kernel, by decide +kernel⟩
/-- a method that the class has -/
structure Dm (P : Program) (w : World) (K : PySem.W.Frag) (mg : Str → Option Value) (base : Heap) (C : Addr) (k : Nat) (m : Str) (ps : List Str) (sp : Sp) where
  f : Addr
  fd : FuncData
  G : FnOk P w K mg base CX0 k f fd ps sp
  at_ : Meth K C m f
  b : Binds K fd ps []
/-- a tuple of amounts -/
def AmsT (H : Hp) (p : Addr) (m : Ms) (ps : List (V × Am)) : Prop := Rd H p (.tup (ps.map (·.1))) ∧ ∀ q ∈ ps, m.has q.2 ∧ q.2.wide ∧ AmV H q.1 q.2
theorem Ex.amsT {H H' : Hp} {p : Addr} {m : Ms} {ps : List (V × Am)} (e : Ex H H') (h : AmsT H p m ps) : AmsT H' p m ps := ⟨e.rd h.1, fun q hq => let ⟨a, b, c⟩ := h.2 q hq; ⟨a, b, c.ex e⟩⟩
section
variable {P : Program} {w : World} {K : PySem.W.Frag} {mg : Str → Option Value} {base : Heap} {C : Addr}
def spZero (C : Addr) : Sp := fun vs H Q _ => ∃ (a : Addr) (m : Ms), vs = [.ref a] ∧ SclAt H a C m ∧ m.ok ∧ ∀ v H', Ex H H' → AmV H' v m.zero → Q v H'
theorem zeros_rep (n : Nat) : (List.replicate n [V.int 0]).flatten = (List.replicate n (0 : Int)).map V.int := by
  induction n with
  | zero => rfl
  | succ n ih => rw [List.replicate_succ, List.replicate_succ, List.flatten_cons, ih]; rfl
theorem ok_zero {f : Addr} {fd : FuncData} (F : Fun K "zero" "Scale.zero" sZero f fd) (Z : ClsK K C) : FnOk P w K mg base CX0 1 f fd ["self"] (spZero C) := by
  refine F.ok scZero (fun vs H Q E h => ?_) (fun cdv A outer s H vs Q E hr h => ?_)
  · obtain ⟨a, m, rfl, _⟩ := h
    rfl
  · obtain ⟨a, m, rfl, ⟨dx, fs, ha, hw, hs, hn⟩, mok, q⟩ := h
    refine ⟨_, pss_cons (ps_if (pt_cmpR op_eq (pe_fld (pv 0) (by rfl)) pe_str (nomark _)) (pss_one (ps_ret pe_int)) pss_nil)
      (pss_cons (ps_if (pt_cmpR op_eq (pe_fld (pv 0) (by rfl)) pe_str (nomark _)) (pss_one (ps_ret (pe_tup (pa_cons pe_int (pa_cons pe_int pa_nil))))) pss_nil)
      (pss_one (ps_ret (pe_op (op_repT1.or op_repT) (pe_tup (pa_cons pe_int pa_nil)) (pe_fld (pv 0) (by rfl)))))), ?_⟩
    refine ⟨_, rfl, a, C, dx, fs, _, rfl, ha, Z.cls, Z.nw, hw, rfl, _, rfl, ?_⟩
    rw [word_sums]
    have other : m ≠ .sums → m ≠ .odds → ∃ k, m = .classes k := fun h1 h2 => by
      cases m with
      | sums => exact absurd rfl h1
      | classes k => exact ⟨k, rfl⟩
      | odds => exact absurd rfl h2
    by_cases e : m = .sums
    · subst e
      exact q _ H (Ex.refl H) rfl
    · rw [decide_eq_false e]
      refine ⟨_, rfl, a, C, dx, fs, _, rfl, ha, Z.cls, Z.nw, hw, rfl, _, rfl, ?_⟩
      rw [word_odds]
      by_cases e2 : m = .odds
      · subst e2
        exact ⟨by show 2 ≤ sizeLine; decide, fun t nt => q _ _ (Ex.new nt) ⟨t, rfl, .inl upd_same⟩⟩
      · rw [decide_eq_false e2]
        obtain ⟨k, rfl⟩ := other e e2
        have k1 := mok.1
        have k4 := mok.2
        refine ⟨by show 1 ≤ sizeLine; decide, fun t nt => ?_⟩
        have xt := Ex.new (o := .tup [.int 0]) nt
        refine ⟨_, rfl, a, C, dx, fs, _, rfl, xt a _ ha, Z.cls, Z.ns, hs, ?_⟩
        by_cases one : k = 1
        · subst one
          exact .inl ⟨t, _, rfl, rfl, .inl (.inl upd_same), q _ _ xt ⟨t, rfl, .inl upd_same⟩⟩
        · refine .inr ⟨t, (k : Int), [.int 0], rfl, rfl, .inl (.inl upd_same), by simp, by omega, by omega, by decide, fun z nz => ?_⟩
          refine q _ _ (xt.trans (Ex.new nz)) ⟨z, rfl, .inl ?_⟩
          rw [upd_same, Int.toNat_natCast, zeros_rep]
/-- all of them are amounts: nothing is raised -/
def spChkAll (C : Addr) : Sp := fun vs H Q _ => ∃ (a p : Addr) (m : Ms) (ps : List (V × Am)), vs = [.ref a, .ref p] ∧ SclAt H a C m ∧ m.ok ∧ AmsT H p m ps ∧ ps.length ≤ 1000 ∧ ∀ H', Ex H H' → Q .non H'
theorem ok_chkAll {f : Addr} {fd : FuncData} (F : Fun K "_check_all" "Scale._check_all" sChkAll f fd) (Z : ClsK K C) (T : Blt mg) (Ia : Dm P w K mg base C 4 "is_amount" ["self", "value"] (spIsAmt C)) : FnOk P w K mg base CX0 5 f fd ["self", "amounts"] (spChkAll C) := by
  refine F.ok scChkAll (fun vs H Q E h => ?_) (fun cdv A outer s H vs Q E hr h => ?_)
  · obtain ⟨a, p, m, ps, rfl, _⟩ := h
    rfl
  · obtain ⟨a, p, m, ps, rfl, sa, mok, hp, hl, q⟩ := h
    have nd := scChkAll.nd
    refine ⟨_, pss_one (ps_if (pw_or (pt_not (pt_val (pe_callB call_isi (by rfl) T.isinstance (by decide +kernel) (pa_cons (pv 1) (pa_cons (pe_bltn (v := .ty "tuple") (by rfl) T.tuple (by decide +kernel) rfl) pa_nil)))))
        (pw_or1 (pt_not (pt_val (pe_callB (cr_all rfl) (by rfl) T.all (by decide +kernel) (pa_cons (pe_lc (own := [("amount", 2)]) (g := gName 2) (tt := tYes) rfl nd (pi_tup (pv 1)) (blkOk_by (N := ["self", "amounts", "amount"]) (sc := defScope sChkAll) (by decide +kernel)) (fun _ _ _ _ _ => pg_name (i := 2) nd rfl (.inl rfl)) (fun _ _ _ _ _ => pts_nil)
          (fun _ _ _ _ _ => pe_meth (pv 0) Z.cls Ia.at_ Ia.G hr Ia.b .nil pass0 (pa_cons (pv 2) pa_nil))) pa_nil)))))).pt pss_never pss_nil), ?_⟩
    refine ⟨_, rfl, _, _, _, _, true, rfl, .ty _, tyRd hp.1, kit_ty (by decide +kernel), true, rfl, ?_⟩
    refine ⟨_, rfl, p, rfl, ⟨_, .inl hp.1⟩, fun D nD => lc_tup (xs := ps.map (·.1)) (fun i H' => Ex H H' ∧ H' D = some (.lst ((List.replicate i true).map V.bl)))
        ⟨Ex.new nD, upd_same⟩ (fun i H' _ h => .inl (h.1.rd hp.1)) (fun i x H' hx h => ?_) (fun H' h => ?_)⟩
    · obtain ⟨ex, eD⟩ := h
      rw [List.getElem?_map] at hx
      obtain ⟨r, hr, rfl⟩ := Option.map_eq_some_iff.mp hx
      obtain ⟨h1, h2, h3⟩ := hp.2 r (List.mem_of_getElem? hr)
      obtain ⟨dx, fs, ha, hw, hs, hn⟩ := id (ex.scl sa)
      refine ⟨rfl, _, rfl, a, dx, fs, rfl, ha, hn _ (by decide +kernel) (by decide +kernel), _, rfl, a, m, _, _, rfl, ex.scl sa, mok, h1, h3.ex ex, fun H2 e2 => ?_⟩
      refine ⟨_, e2 D _ eD, ?_, (ex.trans e2).mut nD, ?_⟩
      · rw [List.length_map, List.length_replicate]
        have := (List.getElem?_eq_some_iff.mp hr).1
        exact Nat.lt_of_lt_of_le (show i < 1001 by omega) (by decide)
      · rw [upd_same, List.replicate_succ', List.map_append]
        rfl
    · obtain ⟨ex, eD⟩ := h
      refine ⟨D, _, rfl, .inl (.inl eD), ?_⟩
      have : (List.replicate (List.map (fun q : V × Am => q.1) ps).length true).all id = true := by
        rw [List.all_eq_true]
        intro b hb
        exact (List.mem_replicate.mp hb).2
      rw [this]
      exact ⟨_, rfl, q _ ex⟩
end
end Gl

namespace Gl
open PySem PySem.Spec PyProof.Rows L2
/-- a method with a star argument -/
structure DmR (P : Program) (w : World) (K : PySem.W.Frag) (mg : Str → Option Value) (base : Heap) (C : Addr) (k : Nat) (m : Str) (sp : Sp) where
  f : Addr
  G : FnR P w K mg base CX0 k f sp
  at_ : Meth K C m f
theorem SclAt.no {H : Hp} {a C : Addr} {m : Ms} (sa : SclAt H a C m) {x : Str} (h1 : x ≠ ("_word" : Str)) (h2 : x ≠ ("_size" : Str)) : ∃ dx fs, H a = some (.ins C dx fs) ∧ fs.lookup x = none :=
  let ⟨dx, fs, ha, _, _, hn⟩ := sa; ⟨dx, fs, ha, hn x h1 h2⟩
theorem rd_updL {H : Hp} {p L : Addr} {xs ys zs : List V} (h : Rd H p (.tup xs)) (l : H L = some (.lst ys)) : Rd (upd H L (.lst zs)) p (.tup xs) := by
  have ne : p ≠ L := fun e => by
    subst e
    rcases h with h | ⟨o, h⟩
    · rw [l] at h; exact nomatch h
    · rw [l] at h; exact nomatch h
  rcases h with h | ⟨o, h⟩
  · exact .inl (by rw [upd_ne ne]; exact h)
  · exact .inr ⟨o, by rw [upd_ne ne]; exact h⟩
theorem AmV.updL {H : Hp} {L : Addr} {ys zs : List V} (l : H L = some (.lst ys)) {v : V} : ∀ {x : Am}, AmV H v x → AmV (upd H L (.lst zs)) v x
  | .n _, h => h
  | .c _, ⟨p, h, r⟩ => ⟨p, h, rd_updL r l⟩
  | .o _, ⟨p, h, r⟩ => ⟨p, h, rd_updL r l⟩
theorem cut_to (xs : List V) (k : Nat) : cutV xs none (some (k : Int)) = xs.take k := by
  unfold cutV
  rw [HT.sIx_none, HT.sIx_nat]
  simp
section
variable {X : Cx} {CX : CXT} {k : Nat} {C f : Addr} {sp : Sp} {E : XK} {m : Str} {o : Expr} {pos apos : Pos} {ta : TE} {pl : Sem Bool}
/-- o.m() of a method with a star argument -/
theorem pe_methR0 (he : PE X o ta) (c : Cls X.K C) (hm : Meth X.K C m f) (F : FnR X.prog X.w X.K X.mg X.base CX k f sp) (hr : Room k X.A) (hx : Passes CX X E)
    (ht : eval (.Call (.Attribute o m apos) [] [] pos) X.env = (do
      let ov ← eval o X.env
      standAt apos.atName
      let (f, first) ← holding [ov] (getMethod ov m pl)
      callWith pos f first (backTo pos (starEach [] X.env)) (backToKw pos (keywordEach [] X.env))) := by rfl) :
    PE X (.Call (.Attribute o m apos) [] [] pos) (tMethR C m sp E ta tNil) := by
  refine ⟨fun pins s σ H Q I h => ?_⟩
  refine PySem.W.methodCall_KW (pl := pl) (thn (he.run pins s σ H _ I h) fun u s1 ⟨x, H1, I1, rx, a, dx, fs, ex, ea, l, q⟩ => ?_) ht
  subst ex
  obtain rfl : u = Value.ref a := rx
  refine getmeth_ok I1 ea c hm l ?_
  exact PySem.W.callWith_K0 (first := [.ref a]) I1.kIn hm.kp (wpAny_call (run_fnR (us := [.ref a]) (vs := [.ref a]) F hr hx I1 (.cons rfl .nil) q))
/-- sum(a tuple of ints) -/
def rSumT (K : PySem.W.Frag) : List V → Hp → VK → Prop := fun vs H Q => ∃ (a : Addr) (ns : List Int), vs = [V.ref a] ∧ SqT K H a (ns.map V.int) ∧ Q (.int ns.sum) H
end
end Gl

namespace Gl
open PySem PySem.Spec PyProof.Rows L2
/-! ### amounts as data -/
def Few (n : Int) : Prop := n.natAbs < 2 ^ 200
section
variable {K : PySem.W.Frag} {H : Hp}
theorem dp_ints : ∀ ns : List Int, DpAll K H (ns.map V.int) (ns.map PyData.int)
  | [] => .nil
  | n :: ns => .cons (.int n) (dp_ints ns)
theorem dp_am {v : V} : ∀ {x : Am}, AmV H v x → Dp K H v x.data
  | .n i, h => by obtain rfl := h; exact .int i
  | .c ns, ⟨p, e, h⟩ => by subst e; exact .tup (.inl h) (dp_ints ns)
  | .o x, ⟨p, e, h⟩ => by subst e; exact .tup (.inl h) (.cons (.int _) (.cons (.int _) .nil))
theorem dp_ams : ∀ {ps : List (V × Am)}, (∀ q ∈ ps, AmV H q.1 q.2) → DpAll K H (ps.map (·.1)) (ps.map fun q => q.2.data)
  | [], _ => .nil
  | q :: ps, h => .cons (dp_am (h q (List.mem_cons_self ..))) (dp_ams fun r hr => h r (List.mem_cons_of_mem _ hr))
end
theorem eqv_int (i j : Int) : PyData.eqv (.int i) (.int j) = decide (i = j) := by simp only [PyData.eqv]; rfl
theorem eqv_ints : ∀ as bs : List Int, PyData.eqvAll (as.map PyData.int) (bs.map PyData.int) = decide (as = bs)
  | [], [] => by simp only [List.map_nil, PyData.eqvAll]; rfl
  | [], _ :: _ => by simp only [List.map_nil, List.map_cons, PyData.eqvAll]; rfl
  | _ :: _, [] => by simp only [List.map_nil, List.map_cons, PyData.eqvAll]; rfl
  | a :: as, b :: bs => by
    simp only [List.map_cons, PyData.eqvAll]
    rw [eqv_int, eqv_ints as bs]
    by_cases h1 : a = b
    · subst h1
      by_cases h2 : as = bs
      · subst h2; simp
      · rw [decide_eq_false h2, decide_eq_false (show ¬ a :: as = a :: bs from fun z => h2 (List.cons.inj z).2)]; simp
    · rw [decide_eq_false h1, decide_eq_false (show ¬ a :: as = b :: bs from fun z => h1 (List.cons.inj z).1)]; simp
theorem eqv_am {m : Ms} : ∀ {x y : Am}, m.has x → m.has y → PyData.eqv x.data y.data = decide (x = y)
  | .n i, .n j, _, _ => by
    show PyData.eqv (.int i) (.int j) = _
    rw [eqv_int]
    by_cases h : i = j
    · subst h; simp
    · rw [decide_eq_false h, decide_eq_false fun z => h (Am.n.inj z)]
  | .c as, .c bs, _, _ => by
    show PyData.eqv (.tuple _) (.tuple _) = _
    simp only [PyData.eqv]
    rw [eqv_ints]
    by_cases h : as = bs
    · subst h; simp
    · rw [decide_eq_false h, decide_eq_false fun z => h (Am.c.inj z)]
  | .o x, .o y, _, _ => by
    show PyData.eqv (.tuple ([((x.1.1 : Nat) : Int), ((x.1.2 : Nat) : Int)].map PyData.int)) (.tuple ([((y.1.1 : Nat) : Int), ((y.1.2 : Nat) : Int)].map PyData.int)) = _
    simp only [PyData.eqv]
    rw [eqv_ints]
    by_cases h : x = y
    · subst h; simp
    · rw [decide_eq_false fun z => h (Am.o.inj z), decide_eq_false fun z => h ?_]
      have h1 := (List.cons.inj z).1
      have h2 := (List.cons.inj (List.cons.inj z).2).1
      exact Subtype.ext (Prod.ext (by omega) (by omega))
  | .n _, .c _, h1, h2 => by cases m <;> first | exact h1.elim | exact h2.elim
  | .n _, .o _, h1, h2 => by cases m <;> first | exact h1.elim | exact h2.elim
  | .c _, .n _, h1, h2 => by cases m <;> first | exact h1.elim | exact h2.elim
  | .c _, .o _, h1, h2 => by cases m <;> first | exact h1.elim | exact h2.elim
  | .o _, .n _, h1, h2 => by cases m <;> first | exact h1.elim | exact h2.elim
  | .o _, .c _, h1, h2 => by cases m <;> first | exact h1.elim | exact h2.elim
theorem lay_ints : ∀ ns : List Int, PyData.canLayAll0 (ns.map PyData.int) = true
  | [] => by simp only [List.map_nil, PyData.canLayAll0]
  | n :: ns => by simp only [List.map_cons, PyData.canLayAll0, PyData.canLay0, lay_ints ns, Bool.and_self]
theorem dep_ints : ∀ ns : List Int, PyData.depthAll (ns.map PyData.int) = 0
  | [] => by simp only [List.map_nil, PyData.depthAll]
  | n :: ns => by simp only [List.map_cons, PyData.depthAll, PyData.depth, dep_ints ns, Nat.max_self]
theorem shaped_of {d : PyData} (h1 : d.canLay0 = true) (h2 : d.depth ≤ 64) : SeqAt.shaped d = true := by
  unfold SeqAt.shaped
  rw [h1, decide_eq_true h2]
  rfl
theorem Am.lay : ∀ x : Am, x.data.canLay0 = true
  | .n i => by simp only [Am.data, PyData.canLay0]
  | .c ns => by simp only [Am.data, PyData.canLay0, lay_ints]
  | .o x => by simp only [Am.data, PyData.canLay0, PyData.canLayAll0, Bool.and_self]
theorem Am.dep : ∀ x : Am, x.data.depth ≤ 1
  | .n i => by simp only [Am.data, PyData.depth]; decide
  | .c ns => by simp only [Am.data, PyData.depth, dep_ints]; decide
  | .o x => by simp only [Am.data, PyData.depth, PyData.depthAll]; decide
theorem Am.shaped (x : Am) : SeqAt.shaped x.data = true := shaped_of x.lay (Nat.le_trans x.dep (by decide))
/-- shown without trouble, in at most n signs -/
structure Shows (d : PyData) (n : Nat) : Prop where
  sh : d.showable = true
  dp : d.depth ≤ 3
  wt : wt d ≤ n
theorem Shows.ok {d : PyData} {n : Nat} (h : Shows d n) (hn : n ≤ 1000000) : d.showable = true ∧ d.depth ≤ 100 ∧ d.shown.length ≤ sizeLine :=
  ⟨h.sh, Nat.le_trans h.dp (by decide), Nat.le_trans (Nat.le_trans (shown_le d h.sh) h.wt) (Nat.le_trans hn (by decide))⟩
theorem show_int {n : Int} (h : Few n) : PyData.showable (.int n) = true := by
  simp only [PyData.showable]
  exact decide_eq_true (Nat.lt_trans (PySem.Flt.log2_lt_of (by decide) h) (by decide))
theorem show_ints : ∀ {ns : List Int}, (∀ n ∈ ns, Few n) → PyData.showableAll (ns.map PyData.int) = true
  | [], _ => by simp only [List.map_nil, PyData.showableAll]
  | n :: ns, h => by
    simp only [List.map_cons, PyData.showableAll]
    rw [show_int (h n (List.mem_cons_self ..)), show_ints fun x hx => h x (List.mem_cons_of_mem _ hx)]
    rfl
theorem wt_ints : ∀ ns : List Int, wtAll (ns.map PyData.int) = 1932 * ns.length
  | [] => by simp only [List.map_nil, wtAll]; rfl
  | n :: ns => by
    simp only [List.map_cons, wtAll, wt, List.length_cons]
    rw [wt_ints ns]
    omega
theorem few190 {n : Int} (h : n.natAbs < 2 ^ 190) : Few n := Nat.lt_trans h (by decide)
theorem Am.shows {m : Ms} : ∀ {x : Am}, m.ok → m.has x → x.near → x.data.showable = true ∧ wt x.data ≤ 8000
  | .n i, _, _, h => ⟨show_int (few190 h), by simp only [Am.data, wt]; decide⟩
  | .c ns, mok, hm, h => by
    have l : ns.length ≤ 4 := by
      cases m with
      | classes k =>
        have e : ns.length = k := hm
        have := mok.2
        omega
      | sums => exact hm.elim
      | odds => exact hm.elim
    refine ⟨by simp only [Am.data, PyData.showable]; exact show_ints fun n hn => few190 (h n hn), ?_⟩
    simp only [Am.data, wt]
    rw [wt_ints]
    omega
  | .o x, _, _, h => by
    have e : Am.data (.o x) = .tuple ([((x.1.1 : Nat) : Int), ((x.1.2 : Nat) : Int)].map PyData.int) := rfl
    have few : ∀ n ∈ [((x.1.1 : Nat) : Int), ((x.1.2 : Nat) : Int)], Few n := fun n hn => by
      rcases List.mem_cons.mp hn with rfl | hn
      · exact few190 (by rw [Int.natAbs_natCast]; exact h.1)
      · rw [List.mem_singleton.mp hn]
        exact few190 (by rw [Int.natAbs_natCast]; exact h.2)
    rw [e]
    exact ⟨by simp only [PyData.showable]; exact show_ints few, by simp only [wt]; rw [wt_ints]; show 1932 * 2 + 3 ≤ 8000; decide⟩
theorem Am.noDict : ∀ x : Am, x.data.hasDict = false
  | .n i => by simp only [Am.data, PyData.hasDict]
  | .c ns => by
    simp only [Am.data, PyData.hasDict]
    induction ns with
    | nil => simp only [List.map_nil, PyData.hasDictAll]
    | cons n ns ih => simp only [List.map_cons, PyData.hasDictAll, PyData.hasDict, ih, Bool.or_self]
  | .o x => by simp only [Am.data, PyData.hasDict, PyData.hasDictAll, Bool.or_self]
def dAms (ps : List (V × Am)) : PyData := .list (ps.map fun q => q.2.data)
theorem shows_ams {m : Ms} (mok : m.ok) : ∀ {ps : List (V × Am)}, (∀ q ∈ ps, m.has q.2 ∧ q.2.near) → PyData.showableAll (ps.map fun q => q.2.data) = true ∧ wtAll (ps.map fun q => q.2.data) ≤ 8002 * ps.length ∧ PyData.depthAll (ps.map fun q => q.2.data) ≤ 1
  | [], _ => ⟨by simp only [List.map_nil, PyData.showableAll], by simp only [List.map_nil, wtAll]; exact Nat.zero_le _, by simp only [List.map_nil, PyData.depthAll]; exact Nat.zero_le _⟩
  | q :: ps, h => by
    obtain ⟨h1, h2⟩ := h q (List.mem_cons_self ..)
    obtain ⟨a, b, c⟩ := shows_ams mok (ps := ps) fun r hr => h r (List.mem_cons_of_mem _ hr)
    obtain ⟨d, e⟩ := Am.shows mok h1 h2
    refine ⟨by simp only [List.map_cons, PyData.showableAll]; rw [d, a]; rfl, ?_, ?_⟩
    · simp only [List.map_cons, wtAll, List.length_cons]
      omega
    · simp only [List.map_cons, PyData.depthAll]
      exact Nat.max_le.mpr ⟨q.2.dep, c⟩
end Gl

set_option exponentiation.threshold 10000
namespace Gl
open PySem PySem.Spec PyProof.Rows L2
/-! ### amounts added up -/
def Am.lim (b : Nat) : Am → Prop
  | .n i => i.natAbs < 2 ^ b
  | .c ns => ∀ n ∈ ns, n.natAbs < 2 ^ b
  | .o x => x.1.1 < 2 ^ b ∧ x.1.2 < 2 ^ b
theorem Am.near.lim : ∀ {x : Am}, x.near → x.lim 190
  | .n _, h => h
  | .c _, h => h
  | .o _, h => h
theorem Am.lim.near : ∀ {x : Am}, x.lim 190 → x.near
  | .n _, h => h
  | .c _, h => h
  | .o _, h => h
theorem pow_le2 {a b : Nat} (h : a ≤ b) : (2 : Nat) ^ a ≤ 2 ^ b := Nat.pow_le_pow_right (by decide) h
theorem Am.lim.mono {a b : Nat} (h : a ≤ b) : ∀ {x : Am}, x.lim a → x.lim b
  | .n _, z => Nat.lt_of_lt_of_le z (pow_le2 h)
  | .c _, z => fun n hn => Nat.lt_of_lt_of_le (z n hn) (pow_le2 h)
  | .o _, z => ⟨Nat.lt_of_lt_of_le z.1 (pow_le2 h), Nat.lt_of_lt_of_le z.2 (pow_le2 h)⟩
def red (a b : Nat) (ha : 0 < a) (hb : 0 < b) : Odds := ⟨(a / Nat.gcd a b, b / Nat.gcd a b), low_div ha hb⟩
theorem red_congr {a b c d : Nat} {ha : 0 < a} {hb : 0 < b} {hc : 0 < c} {hd : 0 < d} (e1 : a = c) (e2 : b = d) : red a b ha hb = red c d hc hd := by
  subst e1 e2
  rfl
def swapO (x : Odds) : Odds := ⟨(x.1.2, x.1.1), x.2.q0, x.2.p0, by rw [Nat.gcd_comm]; exact x.2.co⟩
def mulO (x y : Odds) : Odds := red (x.1.1 * y.1.1) (x.1.2 * y.1.2) (Nat.mul_pos x.2.p0 y.2.p0) (Nat.mul_pos x.2.q0 y.2.q0)
def Am.add : Am → Am → Am
  | .n i, .n j => .n (i + j)
  | .c a, .c b => .c (List.zipWith (· + ·) a b)
  | .o x, .o y => .o (mulO x y)
  | x, _ => x
def Am.neg : Am → Am
  | .n i => .n (-i)
  | .c a => .c (a.map fun x => -x)
  | .o x => .o (swapO x)
def Am.sub : Am → Am → Am
  | .n i, .n j => .n (i - j)
  | .c a, .c b => .c (List.zipWith (· - ·) a b)
  | .o x, .o y => .o (mulO x (swapO y))
  | x, _ => x
def sumA (m : Ms) (xs : List Am) : Am := xs.foldl Am.add m.zero
theorem red_val {a b : Nat} (ha : 0 < a) (hb : 0 < b) : (red a b ha hb).1.1 * b = a * (red a b ha hb).1.2 := by
  show a / Nat.gcd a b * b = a * (b / Nat.gcd a b)
  obtain ⟨c, hc⟩ := Nat.gcd_dvd_left a b
  obtain ⟨d, hd⟩ := Nat.gcd_dvd_right a b
  have g0 : 0 < Nat.gcd a b := Nat.gcd_pos_of_pos_left _ ha
  have e1 : a / Nat.gcd a b = c := Nat.div_eq_of_eq_mul_right g0 hc
  have e2 : b / Nat.gcd a b = d := Nat.div_eq_of_eq_mul_right g0 hd
  rw [e1, e2]
  calc c * b = c * (Nat.gcd a b * d) := by rw [← hd]
    _ = (Nat.gcd a b * c) * d := by rw [Nat.mul_left_comm, Nat.mul_assoc]
    _ = a * d := by rw [← hc]
theorem red_of {a b : Nat} (ha : 0 < a) (hb : 0 < b) {x : Odds} (h : x.1.1 * b = a * x.1.2) : x = red a b ha hb := by
  have r := red_val ha hb
  have : x.1.1 * (red a b ha hb).1.2 = (red a b ha hb).1.1 * x.1.2 := by
    apply Nat.eq_of_mul_eq_mul_right hb
    calc x.1.1 * (red a b ha hb).1.2 * b = (x.1.1 * b) * (red a b ha hb).1.2 := Nat.mul_right_comm ..
      _ = a * x.1.2 * (red a b ha hb).1.2 := by rw [h]
      _ = (a * (red a b ha hb).1.2) * x.1.2 := Nat.mul_right_comm ..
      _ = (red a b ha hb).1.1 * b * x.1.2 := by rw [r]
      _ = (red a b ha hb).1.1 * x.1.2 * b := Nat.mul_right_comm ..
  obtain ⟨e1, e2⟩ := low_eq x.2 (red a b ha hb).2 this
  exact Subtype.ext (Prod.ext e1 e2)
theorem red_low {p q : Nat} (h : Low p q) (hp : 0 < p) (hq : 0 < q) : red p q hp hq = ⟨(p, q), h⟩ := (red_of hp hq (x := ⟨(p, q), h⟩) rfl).symm
theorem mulO_one (x : Odds) : mulO one1 x = x := by
  unfold mulO
  exact (red_of _ _ (by show x.1.1 * (1 * x.1.2) = 1 * x.1.1 * x.1.2; rw [Nat.one_mul, Nat.one_mul])).symm
theorem zip_zero : ∀ (ns : List Int), List.zipWith (· + ·) (List.replicate ns.length (0 : Int)) ns = ns
  | [] => rfl
  | n :: ns => by
    rw [List.length_cons, List.replicate_succ, List.zipWith_cons_cons, zip_zero ns, Int.zero_add]
theorem zip_neg : ∀ (as bs : List Int), List.zipWith (· + ·) as (bs.map fun x => -x) = List.zipWith (· - ·) as bs
  | [], _ => by simp
  | _ :: _, [] => by simp
  | a :: as, b :: bs => by
    rw [List.map_cons, List.zipWith_cons_cons, List.zipWith_cons_cons, zip_neg as bs]
    rfl
theorem zip_zneg : ∀ (ns : List Int), List.zipWith (· - ·) (List.replicate ns.length (0 : Int)) ns = ns.map fun x => -x
  | [] => rfl
  | n :: ns => by
    rw [List.length_cons, List.replicate_succ, List.zipWith_cons_cons, zip_zneg ns, List.map_cons, Int.zero_sub]
section
variable {m : Ms}
theorem zero_add : ∀ {x : Am}, m.has x → m.zero.add x = x
  | .n i, h => by
    cases m with
    | sums => show Am.n (0 + i) = _; rw [Int.zero_add]
    | classes _ => exact h.elim
    | odds => exact h.elim
  | .c ns, h => by
    cases m with
    | sums => exact h.elim
    | classes k =>
      have e : ns.length = k := h
      subst e
      show Am.c _ = _
      rw [zip_zero]
    | odds => exact h.elim
  | .o x, h => by
    cases m with
    | sums => exact h.elim
    | classes _ => exact h.elim
    | odds => show Am.o (mulO one1 x) = _; rw [mulO_one]
theorem neg_has : ∀ {x : Am}, m.has x → m.has x.neg
  | .n i, h => by cases m <;> first | trivial | exact h.elim
  | .c ns, h => by
    cases m with
    | classes k => show (ns.map _).length = k; rw [List.length_map]; exact h
    | sums => exact h.elim
    | odds => exact h.elim
  | .o x, h => by cases m <;> first | trivial | exact h.elim
theorem add_has : ∀ {x y : Am}, m.has x → m.has y → m.has (x.add y)
  | .n i, .n j, h, _ => by cases m <;> first | trivial | exact h.elim
  | .c a, .c b, h, z => by
    cases m with
    | classes k =>
      show (List.zipWith _ a b).length = k
      have h1 : a.length = k := h
      have h2 : b.length = k := z
      rw [List.length_zipWith, h1, h2, Nat.min_self]
    | sums => exact h.elim
    | odds => exact h.elim
  | .o x, .o y, h, _ => by cases m <;> first | trivial | exact h.elim
  | .n _, .c _, h, _ => h
  | .n _, .o _, h, _ => h
  | .c _, .n _, h, _ => h
  | .c _, .o _, h, _ => h
  | .o _, .n _, h, _ => h
  | .o _, .c _, h, _ => h
theorem sub_is : ∀ {x y : Am}, m.has x → m.has y → x.sub y = x.add y.neg
  | .n i, .n j, _, _ => by show Am.n _ = Am.n _; rw [Int.sub_eq_add_neg]
  | .c a, .c b, _, _ => by show Am.c _ = Am.c _; rw [zip_neg]
  | .o x, .o y, _, _ => rfl
  | .n _, .c _, _, _ => rfl
  | .n _, .o _, _, _ => rfl
  | .c _, .n _, _, _ => rfl
  | .c _, .o _, _, _ => rfl
  | .o _, .n _, _, _ => rfl
  | .o _, .c _, _, _ => rfl
theorem sub_has {x y : Am} (hx : m.has x) (hy : m.has y) : m.has (x.sub y) := by rw [sub_is hx hy]; exact add_has hx (neg_has hy)
theorem neg_is {x : Am} (h : m.has x) : m.zero.sub x = x.neg := by rw [sub_is m.zero_has h, zero_add (neg_has h)]
theorem sum2 {x y : Am} (hx : m.has x) : sumA m [x, y] = x.add y := by
  show (m.zero.add x).add y = _
  rw [zero_add hx]
theorem neg_lim {b : Nat} : ∀ {x : Am}, x.lim b → x.neg.lim b
  | .n i, h => by show (-i).natAbs < _; rw [Int.natAbs_neg]; exact h
  | .c ns, h => fun n hn => by
    obtain ⟨y, hy, rfl⟩ := List.mem_map.mp hn
    rw [Int.natAbs_neg]
    exact h y hy
  | .o x, h => ⟨h.2, h.1⟩
theorem pow_add_le {a b : Nat} (ha : 1 ≤ a) (hb : 1 ≤ b) : (2 : Nat) ^ a + 2 ^ b ≤ 2 ^ (a + b) := by
  rw [Nat.pow_add]
  have h1 : 2 ≤ (2 : Nat) ^ a := by
    have := pow_le2 ha
    simpa using this
  have h2 : 2 ≤ (2 : Nat) ^ b := by
    have := pow_le2 hb
    simpa using this
  generalize (2 : Nat) ^ a = p at *
  generalize (2 : Nat) ^ b = q at *
  obtain ⟨p, rfl⟩ : ∃ k, p = k + 2 := ⟨p - 2, by omega⟩
  obtain ⟨q, rfl⟩ : ∃ k, q = k + 2 := ⟨q - 2, by omega⟩
  rw [Nat.add_mul, Nat.mul_add]
  have := Nat.zero_le (p * q)
  omega
theorem zip_mem {f : Int → Int → Int} : ∀ {as bs : List Int} {n : Int}, n ∈ List.zipWith f as bs → ∃ a ∈ as, ∃ b ∈ bs, n = f a b
  | [], _, _, h => by simp at h
  | _ :: _, [], _, h => by simp at h
  | a :: as, b :: bs, n, h => by
    rw [List.zipWith_cons_cons] at h
    rcases List.mem_cons.mp h with rfl | h
    · exact ⟨a, List.mem_cons_self .., b, List.mem_cons_self .., rfl⟩
    · obtain ⟨x, hx, y, hy, e⟩ := zip_mem h
      exact ⟨x, List.mem_cons_of_mem _ hx, y, List.mem_cons_of_mem _ hy, e⟩
theorem red_lt {p q c d : Nat} (hp : 0 < p) (hq : 0 < q) (h1 : p < c) (h2 : q < d) : (red p q hp hq).1.1 < c ∧ (red p q hp hq).1.2 < d :=
  ⟨Nat.lt_of_le_of_lt (Nat.div_le_self ..) h1, Nat.lt_of_le_of_lt (Nat.div_le_self ..) h2⟩
theorem add_lim {a b : Nat} (ha : 1 ≤ a) (hb : 1 ≤ b) : ∀ {x y : Am}, m.has x → m.has y → x.lim a → y.lim b → (x.add y).lim (a + b)
  | .n i, .n j, _, _, h1, h2 => by
    have h1 : i.natAbs < 2 ^ a := h1
    have h2 : j.natAbs < 2 ^ b := h2
    have := pow_add_le ha hb
    show (i + j).natAbs < _
    omega
  | .c xs, .c ys, _, _, h1, h2 => fun n hn => by
    obtain ⟨i, hi, j, hj, rfl⟩ := zip_mem hn
    have h1 := h1 i hi
    have h2 := h2 j hj
    have := pow_add_le ha hb
    omega
  | .o x, .o y, _, _, h1, h2 => by
    refine red_lt _ _ ?_ ?_
    · rw [Nat.pow_add]; exact Nat.mul_lt_mul'' h1.1 h2.1
    · rw [Nat.pow_add]; exact Nat.mul_lt_mul'' h1.2 h2.2
  | .n _, .c _, h, z, _, _ => by cases m <;> first | exact h.elim | exact z.elim
  | .n _, .o _, h, z, _, _ => by cases m <;> first | exact h.elim | exact z.elim
  | .c _, .n _, h, z, _, _ => by cases m <;> first | exact h.elim | exact z.elim
  | .c _, .o _, h, z, _, _ => by cases m <;> first | exact h.elim | exact z.elim
  | .o _, .n _, h, z, _, _ => by cases m <;> first | exact h.elim | exact z.elim
  | .o _, .c _, h, z, _, _ => by cases m <;> first | exact h.elim | exact z.elim
theorem sub_lim {a b : Nat} (ha : 1 ≤ a) (hb : 1 ≤ b) {x y : Am} (hx : m.has x) (hy : m.has y) (h1 : x.lim a) (h2 : y.lim b) : (x.sub y).lim (a + b) := by
  rw [sub_is hx hy]
  exact add_lim ha hb hx (neg_has hy) h1 (neg_lim h2)
theorem zero_lim (m : Ms) {b : Nat} (hb : 1 ≤ b) : m.zero.lim b := by
  have h := pow_le2 hb
  cases m with
  | sums => show (0 : Int).natAbs < 2 ^ b; simp; omega
  | classes k =>
    intro n hn
    rw [(List.mem_replicate.mp hn).2]
    simp; omega
  | odds => exact ⟨by show 1 < 2 ^ b; simp at h; omega, by show 1 < 2 ^ b; simp at h; omega⟩
theorem sum_has : ∀ {xs : List Am} {s : Am}, (∀ x ∈ xs, m.has x) → m.has s → m.has (xs.foldl Am.add s)
  | [], _, _, hs => hs
  | x :: xs, s, h, hs => sum_has (xs := xs) (fun y hy => h y (List.mem_cons_of_mem _ hy)) (add_has hs (h x (List.mem_cons_self ..)))
theorem sum_lim {a : Nat} (ha : 1 ≤ a) : ∀ {xs : List Am} {s : Am} {b : Nat}, 1 ≤ b → (∀ x ∈ xs, m.has x ∧ x.lim a) → m.has s → s.lim b → (xs.foldl Am.add s).lim (b + a * xs.length)
  | [], _, _, _, _, _, hs => hs
  | x :: xs, s, b, hb, h, ms, hs => by
    obtain ⟨h1, h2⟩ := h x (List.mem_cons_self ..)
    have := sum_lim ha (xs := xs) (b := b + a) (by omega) (fun y hy => h y (List.mem_cons_of_mem _ hy)) (add_has ms h1) (add_lim hb ha ms h1 hs h2)
    rw [List.length_cons, Nat.mul_succ, show b + (a * xs.length + a) = b + a + a * xs.length by omega]
    exact this
/-! the sums as the program finds them -/
theorem sum_n : ∀ (ns : List Int) (s : Int), (ns.map Am.n).foldl Am.add (.n s) = .n (s + ns.sum)
  | [], s => by simp
  | n :: ns, s => by
    rw [List.map_cons, List.foldl_cons]
    show (ns.map Am.n).foldl Am.add (.n (s + n)) = _
    rw [sum_n ns, List.sum_cons, Int.add_assoc]
theorem sum_c (k : Nat) : ∀ (rs : List (List Int)) (s : List Int), (∀ r ∈ rs, r.length = k) → s.length = k →
    (rs.map Am.c).foldl Am.add (.c s) = .c ((List.range k).map fun i => s.getD i 0 + (rs.map fun r => r.getD i 0).sum)
  | [], s, _, hs => by
    show Am.c s = _
    congr 1
    apply List.ext_getElem
    · rw [List.length_map, List.length_range, hs]
    · intro i h1 h2
      rw [List.getElem_map, List.getElem_range, List.getD_eq_getElem?_getD, List.getElem?_eq_getElem h1]
      simp
  | r :: rs, s, h, hs => by
    rw [List.map_cons, List.foldl_cons]
    show (rs.map Am.c).foldl Am.add (.c (List.zipWith (· + ·) s r)) = _
    have hr := h r (List.mem_cons_self ..)
    rw [sum_c k rs _ (fun y hy => h y (List.mem_cons_of_mem _ hy)) (by rw [List.length_zipWith, hs, hr, Nat.min_self])]
    congr 1
    apply List.map_congr_left
    intro i hi
    have il := List.mem_range.mp hi
    have e : (List.zipWith (· + ·) s r).getD i 0 = s.getD i 0 + r.getD i 0 := by
      rw [List.getD_eq_getElem?_getD, List.getD_eq_getElem?_getD, List.getD_eq_getElem?_getD, List.getElem?_zipWith, List.getElem?_eq_getElem (show i < s.length by omega), List.getElem?_eq_getElem (show i < r.length by omega)]
      rfl
    rw [e, List.map_cons, List.sum_cons, Int.add_assoc]
def prod (ns : List Nat) : Nat := ns.foldl (· * ·) 1
theorem foldl_mul : ∀ (ns : List Nat) (s : Nat), ns.foldl (· * ·) s = s * prod ns
  | [], s => by show s = s * 1; rw [Nat.mul_one]
  | n :: ns, s => by
    show ns.foldl (· * ·) (s * n) = s * ns.foldl (· * ·) (1 * n)
    rw [foldl_mul ns, foldl_mul ns, Nat.one_mul, Nat.mul_assoc]
theorem prod_cons (n : Nat) (ns : List Nat) : prod (n :: ns) = n * prod ns := by
  show ns.foldl (· * ·) (1 * n) = _
  rw [foldl_mul, Nat.one_mul]
theorem prod_pos : ∀ {ns : List Nat}, (∀ n ∈ ns, 0 < n) → 0 < prod ns
  | [], _ => Nat.one_pos
  | n :: ns, h => by
    rw [prod_cons]
    exact Nat.mul_pos (h n (List.mem_cons_self ..)) (prod_pos fun x hx => h x (List.mem_cons_of_mem _ hx))
theorem prod_lt {b : Nat} : ∀ {ns : List Nat}, (∀ n ∈ ns, n < 2 ^ b) → prod ns < 2 ^ (b * ns.length + 1)
  | [], _ => by show 1 < 2 ^ (b * 0 + 1); rw [Nat.mul_zero]; decide
  | n :: ns, h => by
    rw [prod_cons, List.length_cons, Nat.mul_succ, show b * ns.length + b + 1 = b + (b * ns.length + 1) by omega, Nat.pow_add]
    exact Nat.mul_lt_mul'' (h n (List.mem_cons_self ..)) (prod_lt fun x hx => h x (List.mem_cons_of_mem _ hx))
def tops (os : List Odds) : List Nat := os.map fun x => x.1.1
def bots (os : List Odds) : List Nat := os.map fun x => x.1.2
theorem tops_pos (os : List Odds) : 0 < prod (tops os) := prod_pos fun n hn => by obtain ⟨x, _, rfl⟩ := List.mem_map.mp hn; exact x.2.p0
theorem bots_pos (os : List Odds) : 0 < prod (bots os) := prod_pos fun n hn => by obtain ⟨x, _, rfl⟩ := List.mem_map.mp hn; exact x.2.q0
theorem sum_o : ∀ (os : List Odds) (s : Odds) (ha : 0 < s.1.1 * prod (tops os)) (hb : 0 < s.1.2 * prod (bots os)), (os.map Am.o).foldl Am.add (.o s) = .o (red (s.1.1 * prod (tops os)) (s.1.2 * prod (bots os)) ha hb)
  | [], s, ha, hb => by
    show Am.o s = _
    congr 1
    exact red_of _ _ (by show s.1.1 * (s.1.2 * 1) = s.1.1 * 1 * s.1.2; rw [Nat.mul_one, Nat.mul_one])
  | x :: os, s, ha, hb => by
    rw [List.map_cons, List.foldl_cons]
    show (os.map Am.o).foldl Am.add (.o (mulO s x)) = _
    have p1 := tops_pos os
    have p2 := bots_pos os
    rw [sum_o os (mulO s x) (Nat.mul_pos (mulO s x).2.p0 p1) (Nat.mul_pos (mulO s x).2.q0 p2)]
    congr 1
    apply red_of
    have v := red_val (Nat.mul_pos s.2.p0 x.2.p0) (Nat.mul_pos s.2.q0 x.2.q0)
    have v2 := red_val (Nat.mul_pos (mulO s x).2.p0 p1) (Nat.mul_pos (mulO s x).2.q0 p2)
    have e1 : prod (tops (x :: os)) = x.1.1 * prod (tops os) := prod_cons ..
    have e2 : prod (bots (x :: os)) = x.1.2 * prod (bots os) := prod_cons ..
    rw [e1, e2]
    generalize (red ((mulO s x).1.1 * prod (tops os)) ((mulO s x).1.2 * prod (bots os)) _ _).1.1 = p at *
    generalize (red ((mulO s x).1.1 * prod (tops os)) ((mulO s x).1.2 * prod (bots os)) _ _).1.2 = q at *
    have v' : (mulO s x).1.1 * (s.1.2 * x.1.2) = s.1.1 * x.1.1 * (mulO s x).1.2 := v
    have ht : 0 < (mulO s x).1.2 := (mulO s x).2.q0
    generalize (mulO s x).1.1 = u at *
    generalize (mulO s x).1.2 = t at *
    generalize prod (tops os) = A at *
    generalize prod (bots os) = B at *
    apply Nat.eq_of_mul_eq_mul_right ht
    calc p * (s.1.2 * (x.1.2 * B)) * t = (p * (t * B)) * (s.1.2 * x.1.2) := by ac_rfl
      _ = (u * A * q) * (s.1.2 * x.1.2) := by rw [v2]
      _ = (u * (s.1.2 * x.1.2)) * A * q := by ac_rfl
      _ = s.1.1 * x.1.1 * t * A * q := by rw [v']
      _ = s.1.1 * (x.1.1 * A) * q * t := by ac_rfl
end
end Gl

set_option exponentiation.threshold 10000
namespace Gl
open PySem PySem.Spec PyProof.Rows L2
abbrev sTimes : Stmt := topS 14
theorem scTimes : FnScope ["numbers", "product", "number"] ["numbers"] (defScope sTimes) := ⟨rfl, rfl, rfl, by decide +kernel, rfl, by decide +kernel, by decide +kernel⟩
abbrev sLowP : Stmt := topS 15
theorem scLowP : FnScope ["over", "under", "common"] ["over", "under"] (defScope sLowP) := ⟨rfl, rfl, rfl, by decide +kernel, rfl, by decide +kernel, by decide +kernel⟩
abbrev sOpp : Stmt := clsS 26
theorem scOpp : FnScope ["self", "amount", "part"] ["self", "amount"] (defScope sOpp) := ⟨rfl, rfl, rfl, by decide +kernel, rfl, by decide +kernel, by decide +kernel⟩
abbrev sSum : Stmt := clsS 25
theorem scSum : FnScope ["self", "amounts", "over", "under", "at", "part"] ["self", "amounts"] (defScope sSum) := ⟨rfl, rfl, rfl, by decide +kernel, rfl, by decide +kernel, by decide +kernel⟩
abbrev sPlusAll : Stmt := clsS 12
theorem scPlusAll : FnScope ["self", "amounts"] ["self", "amounts"] (defScope sPlusAll) := ⟨rfl, rfl, rfl, by decide +kernel, rfl, by decide +kernel, by decide +kernel⟩
abbrev sMinus : Stmt := clsS 13
theorem scMinus : FnScope ["self", "amount", "other"] ["self", "amount", "other"] (defScope sMinus) := ⟨rfl, rfl, rfl, by decide +kernel, rfl, by decide +kernel, by decide +kernel⟩
abbrev sNegM : Stmt := clsS 14
theorem scNegM : FnScope ["self", "amount"] ["self", "amount"] (defScope sNegM) := ⟨rfl, rfl, rfl, by decide +kernel, rfl, by decide +kernel, by decide +kernel⟩
abbrev sTwice : Stmt := clsS 15
theorem scTwice : FnScope ["self", "amount"] ["self", "amount"] (defScope sTwice) := ⟨rfl, rfl, rfl, by decide +kernel, rfl, by decide +kernel, by decide +kernel⟩
abbrev sPlus : Stmt := clsS 11
theorem scPlus : FnScope ["self", "amounts"] ((["self"] : List Str) ++ (["amounts"] : List Str)) (defScope sPlus) := ⟨rfl, rfl, rfl, by decide +kernel, rfl, by decide +kernel, by decide +kernel⟩
section
variable {X : Cx}
theorem cr_sumT (hc : X.calm = true) : CallR X (.builtin "sum") (rSumT X.K) := by
  rintro pins s σ H vs us Q I rv ⟨a, ns, rfl, hq, q⟩
  obtain ⟨u, rfl, ru⟩ := vals1 rv
  obtain rfl : u = Value.ref a := ru
  obtain ⟨its, r, ht, hz⟩ := I.tuple hq
  have ia := intsAre_of r
  obtain ⟨xs, e⟩ := ia.allInts.items
  have hn : numsOf (intItems xs).toList = ns := by rw [← e]; exact ia.numsOf
  rw [nums_intItems] at hn
  rw [e] at ht
  refine PySem.W.ktm_sumG (I.ok.hd hc) ht fun h' tk t' hk => ?_
  rw [preSum_eq, List.take_of_length_le (by simp), hn]
  exact ⟨.int _, H, I.kept (t' := tk) hk, ⟨_, rfl⟩, q⟩
end
section
variable {P : Program} {w : World} {K : PySem.W.Frag} {mg : Str → Option Value} {base : Heap} {C : Addr}
def natV (ns : List Nat) : List V := ns.map fun n => V.int (n : Nat)
def spTimes (K : PySem.W.Frag) : Sp := fun vs H Q _ => ∃ (L : Addr) (ns : List Nat) (b : Nat), vs = [.ref L] ∧ SqL K H L (natV ns) ∧ (∀ n ∈ ns, n < 2 ^ b) ∧ 1 ≤ b ∧ b * ns.length + 1 + b ≤ 900000 ∧ Q (.int (prod ns : Nat)) H
theorem prod_take {ns : List Nat} {i : Nat} {n : Nat} (h : ns[i]? = some n) : prod (ns.take (i + 1)) = prod (ns.take i) * n := by
  obtain ⟨l, e⟩ := List.getElem?_eq_some_iff.mp h
  unfold prod
  rw [List.take_succ, h, List.foldl_append]
  rfl
theorem ok_times {f : Addr} {fd : FuncData} (F : Fun K "_times" "_times" sTimes f fd) : FnOk P w K mg base CX0 1 f fd ["numbers"] (spTimes K) := by
  refine F.ok scTimes (fun vs H Q E h => ?_) (fun cdv A outer s H vs Q E hr h => ?_)
  · obtain ⟨L, ns, b, rfl, _⟩ := h
    rfl
  · obtain ⟨L, ns, b, rfl, hL, hb, b1, hz, q⟩ := h
    have nd := scTimes.nd
    refine ⟨_, pss_cons (ps_set (i := 1) nd rfl (.inl rfl) pe_int)
      (pss_cons (ps_for PassesOwn.never rfl (pi_list (pv 0)) (pg_name (i := 2) nd rfl (.inl rfl))
        (pss_one (ps_set (i := 1) nd rfl (.inl rfl) (pe_op op_mulW (pv 1) (pv 2)))))
      (pss_one (ps_ret (pv 1)))), ?_⟩
    refine ⟨_, rfl, L, rfl, ⟨_, hL⟩, ?_⟩
    refine for_list (xs := natV ns) (fun i σ H' => ∃ y2 : Option V, σ = [some (.ref L), some (.int (prod (ns.take i) : Nat)), y2] ∧ H' = H) ⟨none, rfl, rfl⟩ (fun i σ H' _ h => by obtain ⟨y, rfl, rfl⟩ := h; exact hL) (fun i x σ H' hx h => ?_) (fun σ H' h => ?_)
    · obtain ⟨y2, rfl, rfl⟩ := h
      unfold natV at hx
      rw [List.getElem?_map] at hx
      obtain ⟨n, hn, rfl⟩ := Option.map_eq_some_iff.mp hx
      refine ⟨_, rfl, _, rfl, _, _, rfl, rfl, ?_, some (.int (n : Nat)), ?_, rfl⟩
      · have h1 : prod (ns.take i) < 2 ^ (b * (ns.take i).length + 1) := prod_lt fun x hx => hb x (List.mem_of_mem_take hx)
        have h2 := hb n (List.mem_of_getElem? hn)
        have h3 : b * (ns.take i).length ≤ b * ns.length := Nat.mul_le_mul_left _ (by rw [List.length_take]; exact Nat.min_le_right _ _)
        exact wide_mul (a := b * (ns.take i).length + 1) (b := b) (by rw [Int.natAbs_natCast]; exact h1) (by rw [Int.natAbs_natCast]; exact h2) (by omega) (by omega) (by omega)
      · show [some (V.ref L), some (V.int ((prod (ns.take i) : Nat) * (n : Nat))), some (V.int (n : Nat))] = _
        rw [prod_take hn, Int.natCast_mul]
    · obtain ⟨y2, rfl, rfl⟩ := h
      refine ⟨_, rfl, ?_⟩
      unfold natV
      rw [List.length_map, List.take_length]
      exact q
def spLowP : Sp := fun vs H Q _ => ∃ (a b : Nat) (ha : 0 < a) (hb : 0 < b), vs = [.int (a : Nat), .int (b : Nat)] ∧ a < 2 ^ 8000 ∧ ∀ (p : Addr) H', Ex H H' → H p = none → Rd H' p (.tup (oddV (red a b ha hb))) → Q (.ref p) H'
theorem ok_lowP {f : Addr} {fd : FuncData} (F : Fun K "_lowest" "_lowest" sLowP f fd) (hg : mg "gcd" = some (.builtin "math.gcd")) : FnOk P w K mg base CX0 1 f fd ["over", "under"] spLowP := by
  refine F.ok scLowP (fun vs H Q E h => ?_) (fun cdv A outer s H vs Q E hr h => ?_)
  · obtain ⟨a, b, _, _, rfl, _⟩ := h
    rfl
  · obtain ⟨a, b, ha, hb, rfl, la, q⟩ := h
    have nd := scLowP.nd
    refine ⟨_, pss_cons (ps_set (i := 2) nd rfl (.inl rfl) (pe_callBfun cr_gcd (by rfl) hg (pa_cons (pv 0) (pa_cons (pv 1) pa_nil))))
      (pss_one (ps_ret (pe_tup (pa_cons (pe_op op_fdivW (pv 0) (pv 2)) (pa_cons (pe_op op_fdivW (pv 1) (pv 2)) pa_nil))))), ?_⟩
    have g0 : 0 < Nat.gcd a b := Nat.gcd_pos_of_pos_left _ ha
    have gl : Nat.gcd a b < 2 ^ 8000 := Nat.lt_of_le_of_lt (Nat.le_of_dvd ha (Nat.gcd_dvd_left ..)) la
    refine ⟨_, rfl, _, rfl, _, _, rfl, ?_⟩
    rw [Int.natAbs_natCast, Int.natAbs_natCast]
    have dv : ∀ i : Int, CDivW i ((Nat.gcd a b : Nat) : Int) := fun i => wide_div (b := 8000) (by omega) (by rw [Int.natAbs_natCast]; exact gl) (by decide) (by decide)
    refine ⟨_, rfl, _, rfl, _, _, rfl, rfl, dv _, _, rfl, _, rfl, _, _, rfl, rfl, dv _, by show 2 ≤ sizeLine; decide, fun p np => ?_⟩
    exact q p _ (Ex.new np) np (.inl (by rw [upd_same]; rfl))
def spOpp (C : Addr) : Sp := fun vs H Q _ => ∃ (a : Addr) (m : Ms) (v : V) (x : Am), vs = [.ref a, v] ∧ SclAt H a C m ∧ m.ok ∧ m.has x ∧ AmV H v x ∧ ∀ u H', Ex H H' → AmV H' u x.neg → Q u H'
theorem ok_opp {f : Addr} {fd : FuncData} (F : Fun K "_opposite" "Scale._opposite" sOpp f fd) (Z : ClsK K C) (T : Blt mg) : FnOk P w K mg base CX0 1 f fd ["self", "amount"] (spOpp C) := by
  refine F.ok scOpp (fun vs H Q E h => ?_) (fun cdv A outer s H vs Q E hr h => ?_)
  · obtain ⟨a, m, v, x, rfl, _⟩ := h
    rfl
  · obtain ⟨a, m, v, x, rfl, ⟨dx, fs, ha, hw, hs, hn⟩, mok, hx, vx, q⟩ := h
    have nd := scOpp.nd
    refine ⟨_, pss_cons (ps_if (pt_cmpR op_eq (pe_fld (pv 0) (by rfl)) pe_str (nomark _)) (pss_one (ps_ret (pe_un un_neg (pv 1)))) pss_nil)
      (pss_cons (ps_if (pt_cmpR op_eq (pe_fld (pv 0) (by rfl)) pe_str (nomark _)) (pss_one (ps_ret (pe_tup (pa_cons (pe_ix ix_tup (pv 1) pe_int (fun _ _ => rfl)) (pa_cons (pe_ix ix_tup (pv 1) pe_int (fun _ _ => rfl)) pa_nil))))) pss_nil)
      (pss_one (ps_ret (pe_callTy call_tupleF (by rfl) T.tuple (by decide +kernel) (pa_cons (pe_lc (own := [("part", 2)]) (g := gName 2) (tt := tYes) rfl nd (pi_tup (pv 1)) (blkOk_by (N := ["self", "amount", "part"]) (sc := defScope sOpp) (by decide +kernel)) (fun _ _ _ _ _ => pg_name (i := 2) nd rfl (.inl rfl)) (fun _ _ _ _ _ => pts_nil)
          (fun _ _ _ _ _ => pe_un un_neg (pv 2))) pa_nil))))), ?_⟩
    refine ⟨_, rfl, a, C, dx, fs, _, rfl, ha, Z.cls, Z.nw, hw, rfl, _, rfl, ?_⟩
    rw [word_sums]
    cases m with
    | sums =>
      cases x <;> first | exact hx.elim | skip
      obtain rfl := vx
      exact ⟨_, rfl, _, rfl, q _ H (Ex.refl H) rfl⟩
    | classes k =>
      refine ⟨_, rfl, a, C, dx, fs, _, rfl, ha, Z.cls, Z.nw, hw, rfl, _, rfl, ?_⟩
      rw [word_odds]
      cases x <;> first | exact hx.elim | skip
      rename_i ns
      obtain ⟨b, rfl, hb⟩ := vx
      have len : ns.length = k := hx
      have k4 := mok.2
      refine ⟨_, rfl, b, rfl, ⟨_, .inl hb⟩, fun D nD => lc_tup (xs := ns.map V.int) (fun i H' => Ex H H' ∧ H' D = some (.lst ((ns.take i).map fun n => V.int (-n))))
        ⟨Ex.new nD, upd_same⟩ (fun i H' _ h => .inl (h.1.rd hb)) (fun i y H' hy h => ?_) (fun H' h => ?_)⟩
      · obtain ⟨ex, eD⟩ := h
        rw [List.getElem?_map] at hy
        obtain ⟨n, hn, rfl⟩ := Option.map_eq_some_iff.mp hy
        refine ⟨rfl, _, rfl, _, rfl, _, eD, ?_, ex.mut nD, ?_⟩
        · rw [List.length_map, List.length_take]
          exact Nat.lt_of_lt_of_le (show min i ns.length < 100 by omega) (by decide)
        · rw [upd_same, List.take_succ, hn, List.map_append]
          rfl
      · obtain ⟨ex, eD⟩ := h
        refine ⟨D, _, rfl, .inl (.inl eD), fun t ob nt _ => ?_⟩
        refine q _ _ (ex.trans (Ex.new nt)) ⟨t, rfl, .inr ⟨ob, ?_⟩⟩
        rw [upd_same, List.length_map, List.take_length, List.map_map]
        rfl
    | odds =>
      refine ⟨_, rfl, a, C, dx, fs, _, rfl, ha, Z.cls, Z.nw, hw, rfl, _, rfl, ?_⟩
      rw [word_odds]
      cases x <;> first | exact hx.elim | skip
      rename_i x
      obtain ⟨b, rfl, hb⟩ := vx
      refine ⟨_, rfl, b, _, 1, _, rfl, rfl, .inl hb, rfl, _, rfl, b, _, 0, _, rfl, rfl, .inl hb, rfl, by show 2 ≤ sizeLine; decide, fun p np => ?_⟩
      exact q _ _ (Ex.new np) ⟨p, rfl, .inl upd_same⟩
end
end Gl

set_option exponentiation.threshold 10000
namespace Gl
open PySem PySem.Spec PyProof.Rows L2
/-- a tuple of amounts of at most b bits -/
def AmsL (H : Hp) (p : Addr) (m : Ms) (b : Nat) (ps : List (V × Am)) : Prop := Rd H p (.tup (ps.map (·.1))) ∧ ∀ q ∈ ps, m.has q.2 ∧ q.2.lim b ∧ AmV H q.1 q.2
theorem Ex.amsL {H H' : Hp} {p : Addr} {m : Ms} {b : Nat} {ps : List (V × Am)} (e : Ex H H') (h : AmsL H p m b ps) : AmsL H' p m b ps := ⟨e.rd h.1, fun q hq => let ⟨a, b, c⟩ := h.2 q hq; ⟨a, b, c.ex e⟩⟩
theorem Am.lim.wide : ∀ {x : Am}, x.lim 2000 → x.wide
  | .n _, _ => trivial
  | .c _, _ => trivial
  | .o _, h => h
theorem AmsL.t {H : Hp} {p : Addr} {m : Ms} {b : Nat} {ps : List (V × Am)} (h : AmsL H p m b ps) (hb : b ≤ 2000) : AmsT H p m ps := ⟨h.1, fun q hq => let ⟨x, y, z⟩ := h.2 q hq; ⟨x, (y.mono hb).wide, z⟩⟩
section
variable {H : Hp}
theorem as_n : ∀ {ps : List (V × Am)}, (∀ q ∈ ps, Ms.sums.has q.2 ∧ AmV H q.1 q.2) → ∃ ns : List Int, ps.map (·.1) = ns.map V.int ∧ ps.map (·.2) = ns.map Am.n
  | [], _ => ⟨[], rfl, rfl⟩
  | (v, x) :: ps, h => by
    obtain ⟨ns, e1, e2⟩ := as_n (ps := ps) fun q hq => h q (List.mem_cons_of_mem _ hq)
    obtain ⟨h1, h2⟩ := h (v, x) (List.mem_cons_self ..)
    cases x <;> first | exact h1.elim | skip
    rename_i i
    have h2 : v = .int i := h2
    subst h2
    exact ⟨i :: ns, by rw [List.map_cons, List.map_cons, e1], by rw [List.map_cons, List.map_cons, e2]⟩
theorem as_c {k : Nat} : ∀ {ps : List (V × Am)}, (∀ q ∈ ps, (Ms.classes k).has q.2 ∧ AmV H q.1 q.2) → ∃ rs : List (Addr × List Int), ps.map (·.1) = rs.map (fun r => V.ref r.1) ∧ ps.map (·.2) = (rs.map (·.2)).map Am.c ∧ ∀ r ∈ rs, r.2.length = k ∧ Rd H r.1 (.tup (r.2.map V.int))
  | [], _ => ⟨[], rfl, rfl, fun _ z => nomatch z⟩
  | (v, x) :: ps, h => by
    obtain ⟨rs, e1, e2, e3⟩ := as_c (ps := ps) fun q hq => h q (List.mem_cons_of_mem _ hq)
    obtain ⟨h1, h2⟩ := h (v, x) (List.mem_cons_self ..)
    cases x <;> first | exact h1.elim | skip
    rename_i ns
    obtain ⟨p, e, rd⟩ := h2
    have e : v = .ref p := e
    subst e
    refine ⟨(p, ns) :: rs, by rw [List.map_cons, List.map_cons, e1], by rw [List.map_cons, List.map_cons, List.map_cons, e2], fun r hr => ?_⟩
    rcases List.mem_cons.mp hr with rfl | hr
    · exact ⟨h1, rd⟩
    · exact e3 r hr
theorem as_o {b : Nat} : ∀ {ps : List (V × Am)}, (∀ q ∈ ps, Ms.odds.has q.2 ∧ q.2.lim b ∧ AmV H q.1 q.2) → ∃ rs : List (Addr × Odds), ps.map (·.1) = rs.map (fun r => V.ref r.1) ∧ ps.map (·.2) = (rs.map (·.2)).map Am.o ∧ ∀ r ∈ rs, Rd H r.1 (.tup (oddV r.2)) ∧ r.2.1.1 < 2 ^ b ∧ r.2.1.2 < 2 ^ b
  | [], _ => ⟨[], rfl, rfl, fun _ z => nomatch z⟩
  | (v, x) :: ps, h => by
    obtain ⟨rs, e1, e2, e3⟩ := as_o (ps := ps) fun q hq => h q (List.mem_cons_of_mem _ hq)
    obtain ⟨h1, h0, h2⟩ := h (v, x) (List.mem_cons_self ..)
    cases x <;> first | exact h1.elim | skip
    rename_i o
    obtain ⟨p, e, rd⟩ := h2
    have e : v = .ref p := e
    subst e
    refine ⟨(p, o) :: rs, by rw [List.map_cons, List.map_cons, e1], by rw [List.map_cons, List.map_cons, List.map_cons, e2], fun r hr => ?_⟩
    rcases List.mem_cons.mp hr with rfl | hr
    · exact ⟨rd, h0⟩
    · exact e3 r hr
end
section
variable {P : Program} {w : World} {K : PySem.W.Frag} {mg : Str → Option Value} {base : Heap} {C : Addr}
abbrev atScope : Scope := { kind := .function, names := [(".0", .local), ("at", .cell), ("sum", .globalImplicit), ("amounts", .cell)], isGenerator := false, isCoroutine := false }
def spSum (C : Addr) : Sp := fun vs H Q _ => ∃ (a p : Addr) (m : Ms) (b : Nat) (ps : List (V × Am)), vs = [.ref a, .ref p] ∧ SclAt H a C m ∧ m.ok ∧ AmsL H p m b ps ∧ 1 ≤ b ∧ b * ps.length + 1 + b ≤ 8000 ∧ ps.length ≤ 1000 ∧ ∀ v H', Ex H H' → AmV H' v (sumA m (ps.map (·.2))) → Q v H'
theorem ok_sum {f : Addr} {fd : FuncData} (F : Fun K "_sum" "Scale._sum" sSum f fd) (Z : ClsK K C) (T : Blt mg) (ts : mg "sum" = none) (Ti : Df P w K mg base 1 "_times" ["numbers"] (spTimes K)) (Lp : Df P w K mg base 1 "_lowest" ["over", "under"] spLowP) : FnOk P w K mg base CX0 2 f fd ["self", "amounts"] (spSum C) := by
  refine F.ok scSum (fun vs H Q E h => ?_) (fun cdv A outer s H vs Q E hr h => ?_)
  · obtain ⟨a, p, m, b, ps, rfl, _⟩ := h
    rfl
  · obtain ⟨a, p, m, b, ps, rfl, ⟨dx, fs, ha, hw, hs, hn⟩, mok, hp, b1, hz, hl, q⟩ := h
    have nd := scSum.nd
    have hr0 := hr.mono (show 1 ≤ 1 by decide)
    refine ⟨_, pss_cons (ps_if (pt_cmpR op_eq (pe_fld (pv 0) (by rfl)) pe_str (nomark _)) (pss_one (ps_ret (pe_callB (cr_sumT rfl) (by rfl) ts (by decide +kernel) (pa_cons (pv 1) pa_nil)))) pss_nil)
      (pss_cons (ps_if (pt_cmpR op_eq (pe_fld (pv 0) (by rfl)) pe_str (nomark _)) (pss_one (ps_ret (pe_callTy call_tupleF (by rfl) T.tuple (by decide +kernel) (pa_cons (pe_lc (own := [("at", 4)]) (g := gName 4) (tt := tYes) rfl nd (pi_range1 rfl T.range (pa_cons (pe_fld (pv 0) (by rfl)) pa_nil)) (blkOk_by (N := ["self", "amounts", "over", "under", "at", "part"]) (sc := defScope sSum) (by decide +kernel)) (fun _ _ _ _ _ => pg_name (i := 4) nd rfl (.inr rfl)) (fun _ _ _ _ _ => pts_nil)
          (fun _ _ _ _ _ => pe_callB (id := "sum") (r := rSum K) (cr_sum rfl) (by rfl) ts (by decide +kernel) (pa_cons (pe_lc (wi := iTup K (tVar 1)) (own := [("part", 5)]) (g := gName 5) (tt := tYes) rfl nd (pi_tup (pv 1)) (blkOk_by (N := ["self", "amounts", "over", "under", "at", "part"]) (sc := atScope) (by decide +kernel)) (fun _ _ _ _ _ => pg_name (i := 5) nd rfl (.inl rfl)) (fun _ _ _ _ _ => pts_nil)
          (fun _ _ _ _ _ => pe_ix (r := rIxT K) ix_tup (pv 5) (pv 4) (fun _ _ => rfl))) pa_nil))) pa_nil)))) pss_nil)
      (pss_cons (ps_set (i := 2) nd rfl (.inl rfl) (pe_call Ti.G hr0 (by rfl) Ti.g Ti.kp Ti.b .nil pass0 (pa_cons (pe_lc (own := [("part", 5)]) (g := gName 5) (tt := tYes) rfl nd (pi_tup (pv 1)) (blkOk_by (N := ["self", "amounts", "over", "under", "at", "part"]) (sc := defScope sSum) (by decide +kernel)) (fun _ _ _ _ _ => pg_name (i := 5) nd rfl (.inl rfl)) (fun _ _ _ _ _ => pts_nil)
          (fun _ _ _ _ _ => pe_ix (r := rIxT K) ix_tup (pv 5) pe_int (fun _ _ => rfl))) pa_nil)))
      (pss_cons (ps_set (i := 3) nd rfl (.inl rfl) (pe_call Ti.G hr0 (by rfl) Ti.g Ti.kp Ti.b .nil pass0 (pa_cons (pe_lc (own := [("part", 5)]) (g := gName 5) (tt := tYes) rfl nd (pi_tup (pv 1)) (blkOk_by (N := ["self", "amounts", "over", "under", "at", "part"]) (sc := defScope sSum) (by decide +kernel)) (fun _ _ _ _ _ => pg_name (i := 5) nd rfl (.inl rfl)) (fun _ _ _ _ _ => pts_nil)
          (fun _ _ _ _ _ => pe_ix (r := rIxT K) ix_tup (pv 5) pe_int (fun _ _ => rfl))) pa_nil)))
      (pss_one (ps_ret (pe_call Lp.G hr0 (by rfl) Lp.g Lp.kp Lp.b .nil pass0 (pa_cons (pv 2) (pa_cons (pv 3) pa_nil)))))))), ?_⟩
    refine ⟨_, rfl, a, C, dx, fs, _, rfl, ha, Z.cls, Z.nw, hw, rfl, _, rfl, ?_⟩
    rw [word_sums]
    cases m with
    | sums =>
      obtain ⟨ns, e1, e2⟩ := as_n fun q hq => ⟨(hp.2 q hq).1, (hp.2 q hq).2.2⟩
      refine ⟨_, rfl, p, ns, rfl, .inl (by rw [← e1]; exact hp.1), q _ H (Ex.refl H) ?_⟩
      rw [e2]
      show AmV H _ ((ns.map Am.n).foldl Am.add (.n 0))
      rw [sum_n, Int.zero_add]
      rfl
    | classes k =>
      refine ⟨_, rfl, a, C, dx, fs, _, rfl, ha, Z.cls, Z.nw, hw, rfl, _, rfl, ?_⟩
      rw [word_classes]
      obtain ⟨rs, e1, e2, e3⟩ := as_c fun q hq => ⟨(hp.2 q hq).1, (hp.2 q hq).2.2⟩
      have k1 := mok.1
      have k4 := mok.2
      have lr : rs.length = ps.length := by have := congrArg List.length e1; rw [List.length_map, List.length_map] at this; exact this.symm
      have rp : Rd H p (.tup (rs.map fun r => V.ref r.1)) := by rw [← e1]; exact hp.1
      refine ⟨_, rfl, a, C, dx, fs, _, rfl, ha, Z.cls, Z.ns, hs, k, rfl, by omega, by omega, fun D nD => ?_⟩
      refine lc_range (n := k) (fun i H' => Ex H H' ∧ H' D = some (.lst ((List.range i).map fun at_ => V.int (rs.map fun r => r.2.getD at_ 0).sum)))
        ⟨Ex.new nD, upd_same⟩ (fun i H1 hi h => ?_) (fun H1 h => ?_)
      · obtain ⟨ex, eD⟩ := h
        refine ⟨rfl, _, rfl, p, rfl, ⟨_, .inl (ex.rd rp)⟩, fun D2 nD2 => lc_tup (xs := rs.map fun r => V.ref r.1) (fun j H' => Ex H1 H' ∧ H' D2 = some (.lst ((rs.take j).map fun r => V.int (r.2.getD i 0))))
          ⟨Ex.new nD2, upd_same⟩ (fun j H' _ h => .inl ((ex.trans h.1).rd rp)) (fun j y H' hy h => ?_) (fun H' h => ?_)⟩
        · obtain ⟨ex2, eD2⟩ := h
          rw [List.getElem?_map] at hy
          obtain ⟨r, hr, rfl⟩ := Option.map_eq_some_iff.mp hy
          obtain ⟨l1, rd⟩ := e3 r (List.mem_of_getElem? hr)
          have il : i < r.2.length := by omega
          have jl := (List.getElem?_eq_some_iff.mp hr).1
          refine ⟨rfl, _, rfl, _, rfl, r.1, _, _, .int (r.2.getD i 0), rfl, rfl, .inl ((ex.trans ex2).rd rd), ?_, _, eD2, ?_, ex2.mut nD2, ?_⟩
          · rw [Int.zero_add]
            exact atI_nat (by rw [List.getElem?_map, List.getD_eq_getElem?_getD, List.getElem?_eq_getElem il]; rfl)
          · rw [List.length_map, List.length_take]
            exact Nat.lt_of_lt_of_le (show min j rs.length < 1001 by omega) (by decide)
          · rw [upd_same, List.take_succ, hr, List.map_append]
            rfl
        · obtain ⟨ex2, eD2⟩ := h
          rw [List.length_map, List.take_length] at eD2
          refine ⟨D2, rs.map fun r => r.2.getD i 0, rfl, .inl (.inl (by rw [List.map_map]; exact eD2)), _, ex2 D _ eD, ?_, (ex.trans ex2).mut nD, ?_⟩
          · rw [List.length_map, List.length_range]
            exact Nat.lt_of_lt_of_le (show i < 100 by omega) (by decide)
          · rw [upd_same, List.range_succ, List.map_append]
            rfl
      · obtain ⟨ex, eD⟩ := h
        refine ⟨D, _, rfl, .inl (.inl eD), fun t ob nt _ => ?_⟩
        refine q _ _ (ex.trans (Ex.new nt)) ?_
        rw [e2]
        show AmV _ _ (((rs.map (·.2)).map Am.c).foldl Am.add (.c (List.replicate k 0)))
        rw [sum_c k _ _ (fun r hr => by obtain ⟨z, hz, rfl⟩ := List.mem_map.mp hr; exact (e3 z hz).1) List.length_replicate]
        refine ⟨t, rfl, .inr ⟨ob, ?_⟩⟩
        rw [upd_same, List.map_map]
        congr 3
        apply List.map_congr_left
        intro i hi
        have il := List.mem_range.mp hi
        show V.int (rs.map fun r => r.2.getD i 0).sum = V.int ((List.replicate k (0 : Int)).getD i 0 + ((rs.map (·.2)).map fun r => r.getD i 0).sum)
        have e0 : (List.replicate k (0 : Int)).getD i 0 = 0 := by rw [List.getD_eq_getElem?_getD, List.getElem?_replicate, if_pos il]; rfl
        rw [e0, List.map_map, Int.zero_add]
        rfl
    | odds =>
      refine ⟨_, rfl, a, C, dx, fs, _, rfl, ha, Z.cls, Z.nw, hw, rfl, _, rfl, ?_⟩
      rw [word_classes]
      obtain ⟨rs, e1, e2, e3⟩ := as_o (b := b) fun q hq => hp.2 q hq
      have lr : rs.length = ps.length := by have := congrArg List.length e1; rw [List.length_map, List.length_map] at this; exact this.symm
      have rp : Rd H p (.tup (rs.map fun r => V.ref r.1)) := by rw [← e1]; exact hp.1
      have lt : (tops (rs.map (·.2))).length = ps.length := by unfold tops; rw [List.length_map, List.length_map, lr]
      have lb : (bots (rs.map (·.2))).length = ps.length := by unfold bots; rw [List.length_map, List.length_map, lr]
      have ht : ∀ n ∈ tops (rs.map (·.2)), n < 2 ^ b := fun n hn => by
        obtain ⟨x, hx, rfl⟩ := List.mem_map.mp hn
        obtain ⟨r, hr, rfl⟩ := List.mem_map.mp hx
        exact (e3 r hr).2.1
      have hb : ∀ n ∈ bots (rs.map (·.2)), n < 2 ^ b := fun n hn => by
        obtain ⟨x, hx, rfl⟩ := List.mem_map.mp hn
        obtain ⟨r, hr, rfl⟩ := List.mem_map.mp hx
        exact (e3 r hr).2.2
      refine ⟨_, rfl, p, rfl, ⟨_, .inl rp⟩, fun D nD => lc_tup (xs := rs.map fun r => V.ref r.1) (fun j H' => Ex H H' ∧ H' D = some (.lst ((rs.take j).map fun r => V.int (r.2.1.1 : Nat))))
          ⟨Ex.new nD, upd_same⟩ (fun j H' _ h => .inl (h.1.rd rp)) (fun j y H' hy h => ?_) (fun H1 h => ?_)⟩
      · obtain ⟨ex2, eD2⟩ := h
        rw [List.getElem?_map] at hy
        obtain ⟨r, hr, rfl⟩ := Option.map_eq_some_iff.mp hy
        have jl := (List.getElem?_eq_some_iff.mp hr).1
        refine ⟨rfl, _, rfl, r.1, _, 0, _, rfl, rfl, .inl (ex2.rd (e3 r (List.mem_of_getElem? hr)).1), rfl, _, eD2, ?_, ex2.mut nD, ?_⟩
        · rw [List.length_map, List.length_take]
          exact Nat.lt_of_lt_of_le (show min j rs.length < 1001 by omega) (by decide)
        · rw [upd_same, List.take_succ, hr, List.map_append]
          rfl
      · obtain ⟨ex1, eD1⟩ := h
        rw [List.length_map, List.take_length] at eD1
        refine ⟨D, tops (rs.map (·.2)), b, rfl, .inl (.inl (by rw [eD1]; unfold natV tops; rw [List.map_map, List.map_map]; rfl)), ht, b1, by rw [lt]; omega, ?_⟩
        refine ⟨_, rfl, p, rfl, ⟨_, .inl (ex1.rd rp)⟩, fun D2 nD2 => lc_tup (xs := rs.map fun r => V.ref r.1) (fun j H' => Ex H H' ∧ H' D2 = some (.lst ((rs.take j).map fun r => V.int (r.2.1.2 : Nat))))
          ⟨ex1.trans (Ex.new nD2), upd_same⟩ (fun j H' _ h => .inl (h.1.rd rp)) (fun j y H' hy h => ?_) (fun H2 h => ?_)⟩
        · obtain ⟨ex2, eD2⟩ := h
          rw [List.getElem?_map] at hy
          obtain ⟨r, hr, rfl⟩ := Option.map_eq_some_iff.mp hy
          have jl := (List.getElem?_eq_some_iff.mp hr).1
          refine ⟨rfl, _, rfl, r.1, _, 1, _, rfl, rfl, .inl (ex2.rd (e3 r (List.mem_of_getElem? hr)).1), rfl, _, eD2, ?_, ex2.mut (ex1.back nD2), ?_⟩
          · rw [List.length_map, List.length_take]
            exact Nat.lt_of_lt_of_le (show min j rs.length < 1001 by omega) (by decide)
          · rw [upd_same, List.take_succ, hr, List.map_append]
            rfl
        · obtain ⟨ex2, eD2⟩ := h
          rw [List.length_map, List.take_length] at eD2
          refine ⟨D2, bots (rs.map (·.2)), b, rfl, .inl (.inl (by rw [eD2]; unfold natV bots; rw [List.map_map, List.map_map]; rfl)), hb, b1, by rw [lb]; omega, ?_⟩
          refine ⟨_, rfl, _, rfl, prod (tops (rs.map (·.2))), prod (bots (rs.map (·.2))), tops_pos _, bots_pos _, rfl, ?_, fun pt H3 e3 np rd => ?_⟩
          · refine Nat.lt_of_lt_of_le (prod_lt ht) (pow_le2 ?_)
            rw [lt]; omega
          · refine q _ _ (ex2.trans e3) ?_
            rw [e2]
            show AmV _ _ (((rs.map (·.2)).map Am.o).foldl Am.add (.o one1))
            rw [sum_o _ one1 (by show 0 < 1 * _; rw [Nat.one_mul]; exact tops_pos _) (by show 0 < 1 * _; rw [Nat.one_mul]; exact bots_pos _)]
            have e : red (one1.1.1 * prod (tops (rs.map (·.2)))) (one1.1.2 * prod (bots (rs.map (·.2)))) (by show 0 < 1 * _; rw [Nat.one_mul]; exact tops_pos _) (by show 0 < 1 * _; rw [Nat.one_mul]; exact bots_pos _) = red (prod (tops (rs.map (·.2)))) (prod (bots (rs.map (·.2)))) (tops_pos _) (bots_pos _) := red_congr (Nat.one_mul _) (Nat.one_mul _)
            rw [e]
            exact ⟨pt, rfl, rd⟩
end
end Gl

set_option exponentiation.threshold 10000
namespace Gl
open PySem PySem.Spec PyProof.Rows L2
theorem amsL1 {H : Hp} {t : Addr} {m : Ms} {b : Nat} {v : V} {x : Am} (hx : m.has x) (lx : x.lim b) (vx : AmV H v x) (ht : Rd H t (.tup [v])) : AmsL H t m b [(v, x)] := ⟨ht, fun q hq => by
  rw [List.mem_singleton.mp hq]
  exact ⟨hx, lx, vx⟩⟩
theorem amsL2 {H : Hp} {t : Addr} {m : Ms} {b : Nat} {v u : V} {x y : Am} (hx : m.has x) (lx : x.lim b) (vx : AmV H v x) (hy : m.has y) (ly : y.lim b) (uy : AmV H u y) (ht : Rd H t (.tup [v, u])) : AmsL H t m b [(v, x), (u, y)] := ⟨ht, fun q hq => by
  rcases List.mem_cons.mp hq with rfl | hq
  · exact ⟨hx, lx, vx⟩
  · rw [List.mem_singleton.mp hq]
    exact ⟨hy, ly, uy⟩⟩
section
variable {P : Program} {w : World} {K : PySem.W.Frag} {mg : Str → Option Value} {base : Heap} {C : Addr}
def spPlusAll (C : Addr) : Sp := fun vs H Q _ => ∃ (a p : Addr) (m : Ms) (b : Nat) (ps : List (V × Am)), vs = [.ref a, .ref p] ∧ SclAt H a C m ∧ m.ok ∧ AmsL H p m b ps ∧ 1 ≤ b ∧ b ≤ 2000 ∧ b * ps.length + 1 + b ≤ 8000 ∧ ps.length ≤ 1000 ∧ ∀ v H', Ex H H' → AmV H' v (sumA m (ps.map (·.2))) → Q v H'
theorem ok_plusAll {f : Addr} {fd : FuncData} (F : Fun K "plus_all" "Scale.plus_all" sPlusAll f fd) (Z : ClsK K C) (Ca : Dm P w K mg base C 5 "_check_all" ["self", "amounts"] (spChkAll C)) (Su : Dm P w K mg base C 2 "_sum" ["self", "amounts"] (spSum C)) : FnOk P w K mg base CX0 6 f fd ["self", "amounts"] (spPlusAll C) := by
  refine F.ok scPlusAll (fun vs H Q E h => ?_) (fun cdv A outer s H vs Q E hr h => ?_)
  · obtain ⟨a, p, m, b, ps, rfl, _⟩ := h
    rfl
  · obtain ⟨a, p, m, b, ps, rfl, sa, mok, hp, b1, b2, hz, hl, q⟩ := h
    have r2 := hr.mono (show 2 ≤ 5 by decide)
    refine ⟨_, pss_cons (ps_expr (pe_meth (pv 0) Z.cls Ca.at_ Ca.G hr Ca.b .nil pass0 (pa_cons (pv 1) pa_nil)))
      (pss_one (ps_ret (pe_meth (pv 0) Z.cls Su.at_ Su.G r2 Su.b .nil pass0 (pa_cons (pv 1) pa_nil)))), ?_⟩
    obtain ⟨dx, fs, ha, n1⟩ := sa.no (x := "_check_all") (by decide +kernel) (by decide +kernel)
    refine ⟨_, rfl, a, dx, fs, rfl, ha, n1, _, rfl, a, p, m, ps, rfl, sa, mok, hp.t b2, hl, fun H1 e1 => ?_⟩
    obtain ⟨dx, fs, ha, n2⟩ := (e1.scl sa).no (x := "_sum") (by decide +kernel) (by decide +kernel)
    exact ⟨_, rfl, a, dx, fs, rfl, ha, n2, _, rfl, a, p, m, b, ps, rfl, e1.scl sa, mok, e1.amsL hp, b1, hz, hl, fun v H' e vv => q v H' (e1.trans e) vv⟩
def spPlus (C : Addr) : Sp := fun vs H Q _ => ∃ (a : Addr) (m : Ms) (b : Nat) (ps : List (V × Am)), vs = .ref a :: ps.map (·.1) ∧ SclAt H a C m ∧ m.ok ∧ (∀ q ∈ ps, m.has q.2 ∧ q.2.lim b ∧ AmV H q.1 q.2) ∧ 1 ≤ b ∧ b ≤ 2000 ∧ b * ps.length + 1 + b ≤ 8000 ∧ ps.length ≤ 1000 ∧ ∀ v H', Ex H H' → AmV H' v (sumA m (ps.map (·.2))) → Q v H'
theorem ok_plus {f : Addr} {fd : FuncData} (F : Fun K "plus" "Scale.plus" sPlus f fd) (Z : ClsK K C) (Pl : Dm P w K mg base C 6 "plus_all" ["self", "amounts"] (spPlusAll C)) : FnR P w K mg base CX0 7 f (spPlus C) := by
  obtain ⟨oc, od, kV, doc, pm, an, cdv, ct, osl, rfl, lk, hc⟩ := F.ex
  refine FnR.imp (StX.fn_star (sp := spPlusAll C) (ps := (["self"] : List Str)) (pv := "amounts") lk hc scPlus StX.cxUp_none (StX.bind_star1 (p1 := "self") (pv := "amounts") (B := fun us => bindArgs (PySem.W.fnOf _ _ _ _ _ _ kV doc pm an cdv ct) ⟨us, []⟩) (fun _ => rfl) (fun _ _ _ => rfl)) (fun A outer s H vs Q E hr h => ?_)) fun vs H Q E h => ?_
  · have sh := h
    obtain ⟨a, p, m, b, ps, rfl, sa, _⟩ := h
    refine ⟨_, pss_one (ps_ret (pe_meth (pv 0) Z.cls Pl.at_ Pl.G hr Pl.b .nil pass0 (pa_cons (pv 1) pa_nil))), ?_⟩
    obtain ⟨dx, fs, ha, n1⟩ := sa.no (x := "plus_all") (by decide +kernel) (by decide +kernel)
    exact ⟨_, rfl, a, dx, fs, rfl, ha, n1, _, rfl, sh⟩
  · obtain ⟨a, m, b, ps, rfl, sa, mok, hp, b1, b2, hz, hl, q⟩ := h
    refine ⟨[.ref a], ps.map (·.1), rfl, rfl, by rw [List.length_map]; exact Nat.le_trans hl (by decide), fun p np => ?_⟩
    have xt := Ex.new (o := .tup (ps.map (·.1))) np
    exact ⟨a, p, m, b, ps, rfl, xt.scl sa, mok, ⟨.inl upd_same, fun r hr => let ⟨h1, h2, h3⟩ := hp r hr; ⟨h1, h2, h3.ex xt⟩⟩, b1, b2, hz, hl, fun v H' e => q v H' (xt.trans e)⟩
def spMinus (C : Addr) : Sp := fun vs H Q _ => ∃ (a : Addr) (m : Ms) (b : Nat) (v u : V) (x y : Am), vs = [.ref a, v, u] ∧ SclAt H a C m ∧ m.ok ∧ 1 ≤ b ∧ b ≤ 2000 ∧ m.has x ∧ m.has y ∧ x.lim b ∧ y.lim b ∧ AmV H v x ∧ AmV H u y ∧ ∀ r H', Ex H H' → AmV H' r (x.sub y) → Q r H'
theorem ok_minus {f : Addr} {fd : FuncData} (F : Fun K "minus" "Scale.minus" sMinus f fd) (Z : ClsK K C) (Ca : Dm P w K mg base C 5 "_check_all" ["self", "amounts"] (spChkAll C)) (Su : Dm P w K mg base C 2 "_sum" ["self", "amounts"] (spSum C)) (Op : Dm P w K mg base C 1 "_opposite" ["self", "amount"] (spOpp C)) : FnOk P w K mg base CX0 6 f fd ["self", "amount", "other"] (spMinus C) := by
  refine F.ok scMinus (fun vs H Q E h => ?_) (fun cdv A outer s H vs Q E hr h => ?_)
  · obtain ⟨a, m, b, v, u, x, y, rfl, _⟩ := h
    rfl
  · obtain ⟨a, m, b, v, u, x, y, rfl, sa, mok, b1, b2, hx, hy, lx, ly, vx, uy, q⟩ := h
    have r1 := hr.mono (show 1 ≤ 5 by decide)
    have r2 := hr.mono (show 2 ≤ 5 by decide)
    refine ⟨_, pss_cons (ps_expr (pe_meth (pv 0) Z.cls Ca.at_ Ca.G hr Ca.b .nil pass0 (pa_cons (pe_tup (pa_cons (pv 1) (pa_cons (pv 2) pa_nil))) pa_nil)))
      (pss_one (ps_ret (pe_meth (pv 0) Z.cls Su.at_ Su.G r2 Su.b .nil pass0 (pa_cons (pe_tup (pa_cons (pv 1) (pa_cons (pe_meth (pv 0) Z.cls Op.at_ Op.G r1 Op.b .nil pass0 (pa_cons (pv 2) pa_nil)) pa_nil))) pa_nil)))), ?_⟩
    obtain ⟨dx, fs, ha, n1⟩ := sa.no (x := "_check_all") (by decide +kernel) (by decide +kernel)
    refine ⟨_, rfl, a, dx, fs, rfl, ha, n1, _, rfl, _, rfl, by show 2 ≤ sizeLine; decide, fun t nt => ?_⟩
    have xt := Ex.new (o := .tup [v, u]) nt
    refine ⟨a, t, m, [(v, x), (u, y)], rfl, xt.scl sa, mok, (amsL2 hx lx (vx.ex xt) hy ly (uy.ex xt) (.inl upd_same)).t b2, by show 2 ≤ 1000; decide, fun H1 e1 => ?_⟩
    have e2 := xt.trans e1
    obtain ⟨dx, fs, ha, n2⟩ := (e2.scl sa).no (x := "_sum") (by decide +kernel) (by decide +kernel)
    refine ⟨_, rfl, a, dx, fs, rfl, ha, n2, _, rfl, ?_⟩
    obtain ⟨dx, fs, ha, n3⟩ := (e2.scl sa).no (x := "_opposite") (by decide +kernel) (by decide +kernel)
    refine ⟨_, rfl, a, dx, fs, rfl, ha, n3, _, rfl, a, m, u, y, rfl, e2.scl sa, mok, hy, uy.ex e2, fun z H2 e3 vz => ?_⟩
    refine ⟨by show 2 ≤ sizeLine; decide, fun t2 nt2 => ?_⟩
    have e4 := e2.trans e3
    have xt2 := Ex.new (o := .tup [v, z]) nt2
    have e5 := e4.trans xt2
    refine ⟨a, t2, m, b, [(v, x), (z, y.neg)], rfl, e5.scl sa, mok, amsL2 hx lx (vx.ex e5) (neg_has hy) (neg_lim ly) (vz.ex xt2) (.inl upd_same), b1, by show b * 2 + 1 + b ≤ 8000; omega, by show 2 ≤ 1000; decide, fun r H' e vr => q r H' (e5.trans e) ?_⟩
    rw [sub_is hx hy]
    rw [show [(v, x), (z, y.neg)].map (·.2) = [x, y.neg] from rfl, sum2 hx] at vr
    exact vr
def spNegM (C : Addr) : Sp := fun vs H Q _ => ∃ (a : Addr) (m : Ms) (b : Nat) (v : V) (x : Am), vs = [.ref a, v] ∧ SclAt H a C m ∧ m.ok ∧ b ≤ 2000 ∧ m.has x ∧ x.lim b ∧ AmV H v x ∧ ∀ r H', Ex H H' → AmV H' r x.neg → Q r H'
theorem ok_negM {f : Addr} {fd : FuncData} (F : Fun K "negative" "Scale.negative" sNegM f fd) (Z : ClsK K C) (Ca : Dm P w K mg base C 5 "_check_all" ["self", "amounts"] (spChkAll C)) (Op : Dm P w K mg base C 1 "_opposite" ["self", "amount"] (spOpp C)) : FnOk P w K mg base CX0 6 f fd ["self", "amount"] (spNegM C) := by
  refine F.ok scNegM (fun vs H Q E h => ?_) (fun cdv A outer s H vs Q E hr h => ?_)
  · obtain ⟨a, m, b, v, x, rfl, _⟩ := h
    rfl
  · obtain ⟨a, m, b, v, x, rfl, sa, mok, b2, hx, lx, vx, q⟩ := h
    have r1 := hr.mono (show 1 ≤ 5 by decide)
    refine ⟨_, pss_cons (ps_expr (pe_meth (pv 0) Z.cls Ca.at_ Ca.G hr Ca.b .nil pass0 (pa_cons (pe_tup (pa_cons (pv 1) pa_nil)) pa_nil)))
      (pss_one (ps_ret (pe_meth (pv 0) Z.cls Op.at_ Op.G r1 Op.b .nil pass0 (pa_cons (pv 1) pa_nil)))), ?_⟩
    obtain ⟨dx, fs, ha, n1⟩ := sa.no (x := "_check_all") (by decide +kernel) (by decide +kernel)
    refine ⟨_, rfl, a, dx, fs, rfl, ha, n1, _, rfl, by show 1 ≤ sizeLine; decide, fun t nt => ?_⟩
    have xt := Ex.new (o := .tup [v]) nt
    refine ⟨a, t, m, [(v, x)], rfl, xt.scl sa, mok, (amsL1 hx lx (vx.ex xt) (.inl upd_same)).t b2, by show 1 ≤ 1000; decide, fun H1 e1 => ?_⟩
    have e2 := xt.trans e1
    obtain ⟨dx, fs, ha, n3⟩ := (e2.scl sa).no (x := "_opposite") (by decide +kernel) (by decide +kernel)
    exact ⟨_, rfl, a, dx, fs, rfl, ha, n3, _, rfl, a, m, v, x, rfl, e2.scl sa, mok, hx, vx.ex e2, fun z H2 e3 vz => q z H2 (e2.trans e3) vz⟩
def spTwice (C : Addr) : Sp := fun vs H Q _ => ∃ (a : Addr) (m : Ms) (b : Nat) (v : V) (x : Am), vs = [.ref a, v] ∧ SclAt H a C m ∧ m.ok ∧ 1 ≤ b ∧ b ≤ 2000 ∧ m.has x ∧ x.lim b ∧ AmV H v x ∧ ∀ r H', Ex H H' → AmV H' r (x.add x) → Q r H'
theorem ok_twice {f : Addr} {fd : FuncData} (F : Fun K "twice" "Scale.twice" sTwice f fd) (Z : ClsK K C) (Ca : Dm P w K mg base C 5 "_check_all" ["self", "amounts"] (spChkAll C)) (Su : Dm P w K mg base C 2 "_sum" ["self", "amounts"] (spSum C)) : FnOk P w K mg base CX0 6 f fd ["self", "amount"] (spTwice C) := by
  refine F.ok scTwice (fun vs H Q E h => ?_) (fun cdv A outer s H vs Q E hr h => ?_)
  · obtain ⟨a, m, b, v, x, rfl, _⟩ := h
    rfl
  · obtain ⟨a, m, b, v, x, rfl, sa, mok, b1, b2, hx, lx, vx, q⟩ := h
    have r2 := hr.mono (show 2 ≤ 5 by decide)
    refine ⟨_, pss_cons (ps_expr (pe_meth (pv 0) Z.cls Ca.at_ Ca.G hr Ca.b .nil pass0 (pa_cons (pe_tup (pa_cons (pv 1) pa_nil)) pa_nil)))
      (pss_one (ps_ret (pe_meth (pv 0) Z.cls Su.at_ Su.G r2 Su.b .nil pass0 (pa_cons (pe_tup (pa_cons (pv 1) (pa_cons (pv 1) pa_nil))) pa_nil)))), ?_⟩
    obtain ⟨dx, fs, ha, n1⟩ := sa.no (x := "_check_all") (by decide +kernel) (by decide +kernel)
    refine ⟨_, rfl, a, dx, fs, rfl, ha, n1, _, rfl, by show 1 ≤ sizeLine; decide, fun t nt => ?_⟩
    have xt := Ex.new (o := .tup [v]) nt
    refine ⟨a, t, m, [(v, x)], rfl, xt.scl sa, mok, (amsL1 hx lx (vx.ex xt) (.inl upd_same)).t b2, by show 1 ≤ 1000; decide, fun H1 e1 => ?_⟩
    have e2 := xt.trans e1
    obtain ⟨dx, fs, ha, n2⟩ := (e2.scl sa).no (x := "_sum") (by decide +kernel) (by decide +kernel)
    refine ⟨_, rfl, a, dx, fs, rfl, ha, n2, _, rfl, _, rfl, by show 2 ≤ sizeLine; decide, fun t2 nt2 => ?_⟩
    have xt2 := Ex.new (o := .tup [v, v]) nt2
    have e5 := e2.trans xt2
    refine ⟨a, t2, m, b, [(v, x), (v, x)], rfl, e5.scl sa, mok, amsL2 hx lx (vx.ex e5) hx lx (vx.ex e5) (.inl upd_same), b1, by show b * 2 + 1 + b ≤ 8000; omega, by show 2 ≤ 1000; decide, fun r H' e vr => q r H' (e5.trans e) ?_⟩
    rw [show [(v, x), (v, x)].map (·.2) = [x, x] from rfl, sum2 hx] at vr
    exact vr
end
end Gl

set_option exponentiation.threshold 10000
namespace Gl
open PySem PySem.Spec PyProof.Rows L2 ClX RZ
abbrev sPlusL : Stmt := topS 24
theorem scPlusL : FnScope ["_law_measure", "_law_one", "_law_other", "_law_left", "_law_right"] ["_law_measure", "_law_one", "_law_other"] (defScope sPlusL) := ⟨rfl, rfl, rfl, by decide +kernel, rfl, by decide +kernel, by decide +kernel⟩
abbrev sMinusL : Stmt := topS 25
theorem scMinusL : FnScope ["_law_measure", "_law_one", "_law_other", "_law_left", "_law_right"] ["_law_measure", "_law_one", "_law_other"] (defScope sMinusL) := ⟨rfl, rfl, rfl, by decide +kernel, rfl, by decide +kernel, by decide +kernel⟩
abbrev sTotalL : Stmt := topS 26
theorem scTotalL : FnScope ["_law_measure", "_law_amounts", "_law_found", "_law_amount_here"] ["_law_measure", "_law_amounts"] (defScope sTotalL) := ⟨rfl, rfl, rfl, by decide +kernel, rfl, by decide +kernel, by decide +kernel⟩
abbrev sSomeL : Stmt := topS 29
theorem scSomeL : FnScope ["_law_dice_here", "_law_measure", "_law_found", "_law_turn", "_law_way"] ["_law_dice_here", "_law_measure"] (defScope sSomeL) := ⟨rfl, rfl, rfl, by decide +kernel, rfl, by decide +kernel, by decide +kernel⟩
section
variable {K : PySem.W.Frag} {a b : Addr} {xs ys : List V}
theorem walk_zipT {n : Nat} (hn : n = min xs.length ys.length) : Walk (ItzT K a b) n (fun H => SqT K H a xs ∧ SqT K H b ys) (YPair (fun i => xs[i]?) (fun i => ys[i]?)) := by
  subst hn
  constructor
  · intro i H hi ⟨q1, q2⟩
    have h1 : i < xs.length := by omega
    have h2 : i < ys.length := by omega
    exact ⟨xs, ys, xs[i], ys[i], q1, q2, List.getElem?_eq_getElem h1, List.getElem?_eq_getElem h2⟩
  · intro H ⟨q1, q2⟩
    exact ⟨xs, ys, q1, q2, by omega⟩
  · rintro i H v H' _ ⟨q1, q2⟩ ⟨T, x, y, h1, h2, h3, h4, h5⟩
    exact ⟨T, x, y, h1, h2, h3, h4 xs q1, h5 ys q2⟩
end
/-- a staticmethod that the class has -/
structure Sm (P : Program) (w : World) (K : PySem.W.Frag) (mg : Str → Option Value) (base : Heap) (C : Addr) (mc : Value) (k : Nat) (m : Str) (ps : List Str) (sp : Sp) where
  p : Addr
  f : Addr
  fd : FuncData
  G : FnOk P w K mg base CX0 k f fd ps sp
  at_ : SMet K C mc m p f
  b : Binds K fd ps []
section
variable {P : Program} {w : World} {K : PySem.W.Frag} {mg : Str → Option Value} {base : Heap} {C : Addr} {mc : Value}
def spMadeL (C : Addr) : Sp := fun vs H Q _ => ∃ (p : Addr) (m : Ms), vs = [.ref p] ∧ MsV H p m ∧ m.ok ∧ ∀ a H', Ex H H' → H a = none → SclAt H' a C m → Q (.ref a) H'
theorem ok_madeL {f : Addr} {fd : FuncData} (F : Fun K "_law_made" "_law_made" sMadeL f fd) (gC : mg "Scale" = some (.ref C)) (rd : CRead K C mc) (Cs : Sm P w K mg base C mc 3 "classes" ["size"] (spClasses C)) (Ss : Sm P w K mg base C mc 3 "sums" [] (spNew C .sums)) (Os : Sm P w K mg base C mc 3 "odds" [] (spNew C .odds)) : FnG P w K mg base CX0 4 f fd ["_law_measure"] (spMadeL C) := by
  refine okG F scMadeL (fun vs H Q E h => ?_) (fun cdv A outer s H vs Q E hr h => ?_)
  · obtain ⟨p, m, rfl, _⟩ := h
    rfl
  · obtain ⟨p, m, rfl, hm, mok, q⟩ := h
    refine ⟨_, pss_cons (ps_if (pt_cmpR op_eq (pe_ix ix_tup (pv 0) pe_int (fun _ _ => rfl)) pe_str (nomark _)) (pss_one (ps_ret (pe_smeth (pe_glob (v := .ref C) (by rfl) gC rfl) rd Cs.at_ Cs.G hr.rm Cs.b .nil pass0 (pa_cons (pe_ix ix_tup (pv 0) pe_int (fun _ _ => rfl)) pa_nil)))) pss_nil)
      (pss_one (ps_ret (pe_ifExp (pt_cmpR op_eq (pe_ix ix_tup (pv 0) pe_int (fun _ _ => rfl)) pe_str (nomark _)) (pe_smeth0 (pe_glob (v := .ref C) (by rfl) gC rfl) rd Ss.at_ Ss.G hr.rm Ss.b .nil pass0) (pe_smeth0 (pe_glob (v := .ref C) (by rfl) gC rfl) rd Os.at_ Os.G hr.rm Os.b .nil pass0)))), ?_⟩
    refine ⟨_, rfl, p, _, 0, _, rfl, rfl, .inl hm, rfl, rfl, _, rfl, ?_⟩
    rw [word_classes]
    cases m with
    | sums =>
      refine ⟨_, rfl, p, _, 0, _, rfl, rfl, .inl hm, rfl, rfl, _, rfl, ?_⟩
      rw [word_sums]
      exact ⟨rfl, rfl, fun a H' e n s => q a H' e n s⟩
    | classes k =>
      exact ⟨rfl, _, rfl, p, _, 1, _, rfl, rfl, .inl hm, rfl, k, rfl, mok.1, mok.2, fun a H' e n s => q a H' e n s⟩
    | odds =>
      refine ⟨_, rfl, p, _, 0, _, rfl, rfl, .inl hm, rfl, rfl, _, rfl, ?_⟩
      rw [word_sums]
      exact ⟨rfl, rfl, fun a H' e n s => q a H' e n s⟩
end
section
variable {P : Program} {w : World} {K : PySem.W.Frag} {mg : Str → Option Value} {base : Heap} {C : Addr}
def spPlusL : Sp := fun vs H Q _ => ∃ (p : Addr) (m : Ms) (b c : Nat) (v u : V) (x y : Am), vs = [.ref p, v, u] ∧ MsV H p m ∧ m.ok ∧ 1 ≤ b ∧ 1 ≤ c ∧ b + c ≤ 2000 ∧ m.has x ∧ m.has y ∧ x.lim b ∧ y.lim c ∧ AmV H v x ∧ AmV H u y ∧ ∀ r H', Ex H H' → AmV H' r (x.add y) → Q r H'
theorem ok_plusL {f : Addr} {fd : FuncData} (F : Fun K "_law_plus" "_law_plus" sPlusL f fd) (T : Blt mg) (Lo : DfG P w K mg base 1 "_law_lowest" ["_law_top", "_law_bottom"] spLowW) : FnG P w K mg base CX0 2 f fd ["_law_measure", "_law_one", "_law_other"] spPlusL := by
  refine okG F scPlusL (fun vs H Q E h => ?_) (fun cdv A0 outer s H vs Q E hr h => ?_)
  · obtain ⟨p, m, b, c, v, u, x, y, rfl, _⟩ := h
    rfl
  · obtain ⟨p, m, b, c, v, u, x, y, rfl, hm, mok, b1, c1, bc, hx, hy, lx, ly, vx, uy, q⟩ := h
    have nd := scPlusL.nd
    refine ⟨_, pss_cons (ps_if (pt_cmpR op_eq (pe_ix ix_tup (pv 0) pe_int (fun _ _ => rfl)) pe_str (nomark _)) (pss_one (ps_ret (pe_op op_add (pv 1) (pv 2)))) pss_nil)
      (pss_cons (ps_if (pt_cmpR op_eq (pe_ix ix_tup (pv 0) pe_int (fun _ _ => rfl)) pe_str (nomark _)) (pss_one (ps_ret (pe_callG Lo.G hr (by rfl) Lo.g Lo.kp Lo.b .nil pass0 (pa_cons (pe_op op_mulW (pe_ix ix_tup (pv 1) pe_int (fun _ _ => rfl)) (pe_ix ix_tup (pv 2) pe_int (fun _ _ => rfl))) (pa_cons (pe_op op_mulW (pe_ix ix_tup (pv 1) pe_int (fun _ _ => rfl)) (pe_ix ix_tup (pv 2) pe_int (fun _ _ => rfl))) pa_nil))))) pss_nil)
      (pss_one (ps_ret (pe_callTy call_tupleF (by rfl) T.tuple (by decide +kernel) (pa_cons (pe_lc (own := [("_law_left", 3), ("_law_right", 4)]) (g := gTup K 2 (gCons (gName 3) (gCons (gName 4) gNil))) (tt := tYes) rfl nd (pi_zipA (by rfl) T.zip (pa_cons (pv 1) (pa_cons (pv 2) pa_nil))) (blkOk_by (N := ["_law_measure", "_law_one", "_law_other", "_law_left", "_law_right"]) (sc := defScope sPlusL) (by decide +kernel)) (fun _ _ _ _ _ => pg_tup rfl (pgs_cons (pg_name (i := 3) nd rfl (.inl rfl)) (pgs_cons (pg_name (i := 4) nd rfl (.inl rfl)) pgs_nil))) (fun _ _ _ _ _ => pts_nil)
          (fun _ _ _ _ _ => pe_op op_add (pv 3) (pv 4))) pa_nil))))), ?_⟩
    refine ⟨_, rfl, p, _, 0, _, rfl, rfl, .inl hm, rfl, rfl, _, rfl, ?_⟩
    rw [word_sums]
    cases m with
    | sums =>
      cases x <;> first | exact hx.elim | skip
      cases y <;> first | exact hy.elim | skip
      obtain rfl := vx
      obtain rfl := uy
      exact ⟨_, rfl, _, rfl, _, _, rfl, rfl, q _ H (Ex.refl H) rfl⟩
    | classes k =>
      refine ⟨_, rfl, p, _, 0, _, rfl, rfl, .inl hm, rfl, rfl, _, rfl, ?_⟩
      rw [word_odds]
      cases x <;> first | exact hx.elim | skip
      cases y <;> first | exact hy.elim | skip
      rename_i as bs
      obtain ⟨a, rfl, ha⟩ := vx
      obtain ⟨z, rfl, hz⟩ := uy
      have la : as.length = k := hx
      have lb : bs.length = k := hy
      have k4 := mok.2
      refine ⟨_, rfl, _, rfl, a, z, _, _, rfl, .inr ⟨.inl ha, .inl hz, ?_⟩⟩
      refine fun D nD => lc_it (walk_zipT (n := as.length) (xs := as.map V.int) (ys := bs.map V.int) (by rw [List.length_map, List.length_map, la, lb, Nat.min_self])) (fun i H' => Ex H H' ∧ H' D = some (.lst (((List.zipWith (· + ·) as bs).take i).map V.int)))
        ⟨Ex.new nD, upd_same⟩ (fun i H' _ h => ⟨.inl (h.1.rd ha), .inl (h.1.rd hz)⟩) (fun i t H1 H2 hi h y => ?_) (fun H' h => ?_)
      · obtain ⟨ex, eD⟩ := h
        obtain ⟨t, u1, u2, rfl, nt, rfl, g1, g2⟩ := y
        have i2 : i < bs.length := by omega
        have g1 : (as.map V.int)[i]? = some u1 := g1
        have g2 : (bs.map V.int)[i]? = some u2 := g2
        rw [List.getElem?_map, List.getElem?_eq_getElem hi] at g1
        rw [List.getElem?_map, List.getElem?_eq_getElem i2] at g2
        obtain rfl : V.int as[i] = u1 := Option.some.inj g1
        obtain rfl : V.int bs[i] = u2 := Option.some.inj g2
        have xt := Ex.new (o := .tup [V.int as[i], V.int bs[i]]) nt
        refine ⟨t, _, rfl, .inl (.inl upd_same), rfl, _, _, rfl, _, _, rfl, rfl, rfl, _, rfl, _, rfl, _, _, rfl, rfl, _, xt D _ eD, ?_, (ex.trans xt).mut nD, ?_⟩
        · rw [List.length_map, List.length_take]
          exact Nat.lt_of_lt_of_le (show min i _ < 100 by omega) (by decide)
        · have zi : (List.zipWith (· + ·) as bs)[i]? = some (as[i] + bs[i]) := by
            rw [List.getElem?_zipWith, List.getElem?_eq_getElem hi, List.getElem?_eq_getElem i2]
          rw [upd_same, List.take_succ, zi, List.map_append]
          rfl
      · obtain ⟨ex, eD⟩ := h
        refine ⟨D, _, rfl, .inl (.inl eD), fun t ob nt _ => ?_⟩
        refine q _ _ (ex.trans (Ex.new nt)) ⟨t, rfl, .inr ⟨ob, ?_⟩⟩
        rw [upd_same, List.take_of_length_le (by rw [List.length_zipWith]; omega)]
    | odds =>
      refine ⟨_, rfl, p, _, 0, _, rfl, rfl, .inl hm, rfl, rfl, _, rfl, ?_⟩
      rw [word_odds]
      cases x <;> first | exact hx.elim | skip
      cases y <;> first | exact hy.elim | skip
      rename_i x y
      obtain ⟨a, rfl, ha⟩ := vx
      obtain ⟨z, rfl, hz⟩ := uy
      have w1 := Nat.lt_of_lt_of_le lx.1 (pow_le2 (show b ≤ 2000 by omega))
      have w2 := Nat.lt_of_lt_of_le lx.2 (pow_le2 (show b ≤ 2000 by omega))
      have w3 := Nat.lt_of_lt_of_le ly.1 (pow_le2 (show c ≤ 2000 by omega))
      have w4 := Nat.lt_of_lt_of_le ly.2 (pow_le2 (show c ≤ 2000 by omega))
      have sm : ∀ {i j : Nat}, i < 2 ^ b → j < 2 ^ c → i * j < 2 ^ 2000 := fun h1 h2 => Nat.lt_of_lt_of_le (by rw [Nat.pow_add]; exact Nat.mul_lt_mul'' h1 h2) (pow_le2 bc)
      refine ⟨_, rfl, a, _, 0, _, rfl, rfl, .inl ha, rfl, _, rfl, z, _, 0, _, rfl, rfl, .inl hz, rfl, _, _, rfl, rfl, cmulW w1 w3, _, rfl, a, _, 1, _, rfl, rfl, .inl ha, rfl, _, rfl, z, _, 1, _, rfl, rfl, .inl hz, rfl, _, _, rfl, rfl, cmulW w2 w4, ?_⟩
      exact ⟨x.1.1 * y.1.1, x.1.2 * y.1.2, by rw [Int.natCast_mul, Int.natCast_mul]; rfl, Nat.mul_pos x.2.p0 y.2.p0, Nat.mul_pos x.2.q0 y.2.q0, sm lx.1 ly.1, sm lx.2 ly.2, fun pt H' lo e np rd => q _ H' e ⟨pt, rfl, rd⟩⟩
def spMinusL : Sp := fun vs H Q _ => ∃ (p : Addr) (m : Ms) (b c : Nat) (v u : V) (x y : Am), vs = [.ref p, v, u] ∧ MsV H p m ∧ m.ok ∧ 1 ≤ b ∧ 1 ≤ c ∧ b + c ≤ 2000 ∧ m.has x ∧ m.has y ∧ x.lim b ∧ y.lim c ∧ AmV H v x ∧ AmV H u y ∧ ∀ r H', Ex H H' → AmV H' r (x.sub y) → Q r H'
theorem ok_minusL {f : Addr} {fd : FuncData} (F : Fun K "_law_minus" "_law_minus" sMinusL f fd) (T : Blt mg) (Lo : DfG P w K mg base 1 "_law_lowest" ["_law_top", "_law_bottom"] spLowW) : FnG P w K mg base CX0 2 f fd ["_law_measure", "_law_one", "_law_other"] spMinusL := by
  refine okG F scMinusL (fun vs H Q E h => ?_) (fun cdv A0 outer s H vs Q E hr h => ?_)
  · obtain ⟨p, m, b, c, v, u, x, y, rfl, _⟩ := h
    rfl
  · obtain ⟨p, m, b, c, v, u, x, y, rfl, hm, mok, b1, c1, bc, hx, hy, lx, ly, vx, uy, q⟩ := h
    have nd := scMinusL.nd
    refine ⟨_, pss_cons (ps_if (pt_cmpR op_eq (pe_ix ix_tup (pv 0) pe_int (fun _ _ => rfl)) pe_str (nomark _)) (pss_one (ps_ret (pe_op op_sub (pv 1) (pv 2)))) pss_nil)
      (pss_cons (ps_if (pt_cmpR op_eq (pe_ix ix_tup (pv 0) pe_int (fun _ _ => rfl)) pe_str (nomark _)) (pss_one (ps_ret (pe_callG Lo.G hr (by rfl) Lo.g Lo.kp Lo.b .nil pass0 (pa_cons (pe_op op_mulW (pe_ix ix_tup (pv 1) pe_int (fun _ _ => rfl)) (pe_ix ix_tup (pv 2) pe_int (fun _ _ => rfl))) (pa_cons (pe_op op_mulW (pe_ix ix_tup (pv 1) pe_int (fun _ _ => rfl)) (pe_ix ix_tup (pv 2) pe_int (fun _ _ => rfl))) pa_nil))))) pss_nil)
      (pss_one (ps_ret (pe_callTy call_tupleF (by rfl) T.tuple (by decide +kernel) (pa_cons (pe_lc (own := [("_law_left", 3), ("_law_right", 4)]) (g := gTup K 2 (gCons (gName 3) (gCons (gName 4) gNil))) (tt := tYes) rfl nd (pi_zipA (by rfl) T.zip (pa_cons (pv 1) (pa_cons (pv 2) pa_nil))) (blkOk_by (N := ["_law_measure", "_law_one", "_law_other", "_law_left", "_law_right"]) (sc := defScope sMinusL) (by decide +kernel)) (fun _ _ _ _ _ => pg_tup rfl (pgs_cons (pg_name (i := 3) nd rfl (.inl rfl)) (pgs_cons (pg_name (i := 4) nd rfl (.inl rfl)) pgs_nil))) (fun _ _ _ _ _ => pts_nil)
          (fun _ _ _ _ _ => pe_op op_sub (pv 3) (pv 4))) pa_nil))))), ?_⟩
    refine ⟨_, rfl, p, _, 0, _, rfl, rfl, .inl hm, rfl, rfl, _, rfl, ?_⟩
    rw [word_sums]
    cases m with
    | sums =>
      cases x <;> first | exact hx.elim | skip
      cases y <;> first | exact hy.elim | skip
      obtain rfl := vx
      obtain rfl := uy
      exact ⟨_, rfl, _, rfl, _, _, rfl, rfl, q _ H (Ex.refl H) rfl⟩
    | classes k =>
      refine ⟨_, rfl, p, _, 0, _, rfl, rfl, .inl hm, rfl, rfl, _, rfl, ?_⟩
      rw [word_odds]
      cases x <;> first | exact hx.elim | skip
      cases y <;> first | exact hy.elim | skip
      rename_i as bs
      obtain ⟨a, rfl, ha⟩ := vx
      obtain ⟨z, rfl, hz⟩ := uy
      have la : as.length = k := hx
      have lb : bs.length = k := hy
      have k4 := mok.2
      refine ⟨_, rfl, _, rfl, a, z, _, _, rfl, .inr ⟨.inl ha, .inl hz, ?_⟩⟩
      refine fun D nD => lc_it (walk_zipT (n := as.length) (xs := as.map V.int) (ys := bs.map V.int) (by rw [List.length_map, List.length_map, la, lb, Nat.min_self])) (fun i H' => Ex H H' ∧ H' D = some (.lst (((List.zipWith (· - ·) as bs).take i).map V.int)))
        ⟨Ex.new nD, upd_same⟩ (fun i H' _ h => ⟨.inl (h.1.rd ha), .inl (h.1.rd hz)⟩) (fun i t H1 H2 hi h y => ?_) (fun H' h => ?_)
      · obtain ⟨ex, eD⟩ := h
        obtain ⟨t, u1, u2, rfl, nt, rfl, g1, g2⟩ := y
        have i2 : i < bs.length := by omega
        have g1 : (as.map V.int)[i]? = some u1 := g1
        have g2 : (bs.map V.int)[i]? = some u2 := g2
        rw [List.getElem?_map, List.getElem?_eq_getElem hi] at g1
        rw [List.getElem?_map, List.getElem?_eq_getElem i2] at g2
        obtain rfl : V.int as[i] = u1 := Option.some.inj g1
        obtain rfl : V.int bs[i] = u2 := Option.some.inj g2
        have xt := Ex.new (o := .tup [V.int as[i], V.int bs[i]]) nt
        refine ⟨t, _, rfl, .inl (.inl upd_same), rfl, _, _, rfl, _, _, rfl, rfl, rfl, _, rfl, _, rfl, _, _, rfl, rfl, _, xt D _ eD, ?_, (ex.trans xt).mut nD, ?_⟩
        · rw [List.length_map, List.length_take]
          exact Nat.lt_of_lt_of_le (show min i _ < 100 by omega) (by decide)
        · have zi : (List.zipWith (· - ·) as bs)[i]? = some (as[i] - bs[i]) := by
            rw [List.getElem?_zipWith, List.getElem?_eq_getElem hi, List.getElem?_eq_getElem i2]
          rw [upd_same, List.take_succ, zi, List.map_append]
          rfl
      · obtain ⟨ex, eD⟩ := h
        refine ⟨D, _, rfl, .inl (.inl eD), fun t ob nt _ => ?_⟩
        refine q _ _ (ex.trans (Ex.new nt)) ⟨t, rfl, .inr ⟨ob, ?_⟩⟩
        rw [upd_same, List.take_of_length_le (by rw [List.length_zipWith]; omega)]
    | odds =>
      refine ⟨_, rfl, p, _, 0, _, rfl, rfl, .inl hm, rfl, rfl, _, rfl, ?_⟩
      rw [word_odds]
      cases x <;> first | exact hx.elim | skip
      cases y <;> first | exact hy.elim | skip
      rename_i x y
      obtain ⟨a, rfl, ha⟩ := vx
      obtain ⟨z, rfl, hz⟩ := uy
      have w1 := Nat.lt_of_lt_of_le lx.1 (pow_le2 (show b ≤ 2000 by omega))
      have w2 := Nat.lt_of_lt_of_le lx.2 (pow_le2 (show b ≤ 2000 by omega))
      have w3 := Nat.lt_of_lt_of_le ly.1 (pow_le2 (show c ≤ 2000 by omega))
      have w4 := Nat.lt_of_lt_of_le ly.2 (pow_le2 (show c ≤ 2000 by omega))
      have sm : ∀ {i j : Nat}, i < 2 ^ b → j < 2 ^ c → i * j < 2 ^ 2000 := fun h1 h2 => Nat.lt_of_lt_of_le (by rw [Nat.pow_add]; exact Nat.mul_lt_mul'' h1 h2) (pow_le2 bc)
      refine ⟨_, rfl, a, _, 0, _, rfl, rfl, .inl ha, rfl, _, rfl, z, _, 1, _, rfl, rfl, .inl hz, rfl, _, _, rfl, rfl, cmulW w1 w4, _, rfl, a, _, 1, _, rfl, rfl, .inl ha, rfl, _, rfl, z, _, 0, _, rfl, rfl, .inl hz, rfl, _, _, rfl, rfl, cmulW w2 w3, ?_⟩
      exact ⟨x.1.1 * y.1.2, x.1.2 * y.1.1, by rw [Int.natCast_mul, Int.natCast_mul]; rfl, Nat.mul_pos x.2.p0 y.2.q0, Nat.mul_pos x.2.q0 y.2.p0, sm lx.1 ly.2, sm lx.2 ly.1, fun pt H' lo e np rd => q _ H' e ⟨pt, rfl, rd⟩⟩
end
end Gl

set_option exponentiation.threshold 10000
namespace Gl
open PySem PySem.Spec PyProof.Rows L2 ClX RZ
theorem foldl_take {xs : List Am} {s : Am} {i : Nat} {x : Am} (h : xs[i]? = some x) : (xs.take (i + 1)).foldl Am.add s = ((xs.take i).foldl Am.add s).add x := by
  rw [List.take_succ, h, List.foldl_append]
  rfl
section
variable {P : Program} {w : World} {K : PySem.W.Frag} {mg : Str → Option Value} {base : Heap} {C : Addr}
def spTotalL : Sp := fun vs H Q _ => ∃ (p L : Addr) (m : Ms) (ps : List (V × Am)), vs = [.ref p, .ref L] ∧ MsV H p m ∧ m.ok ∧ H L = some (.lst (ps.map (·.1))) ∧ (∀ q ∈ ps, m.has q.2 ∧ q.2.near ∧ AmV H q.1 q.2) ∧ ps.length ≤ 8 ∧ ∀ r H', Ex H H' → AmV H' r (sumA m (ps.map (·.2))) → Q r H'
theorem ok_totalL {f : Addr} {fd : FuncData} (F : Fun K "_law_total" "_law_total" sTotalL f fd) (Pq : DfG P w K mg base 2 "_law_plus" ["_law_measure", "_law_one", "_law_other"] spPlusL) (Zq : DfG P w K mg base 1 "_law_zero" ["_law_measure"] spZeroL) : FnG P w K mg base CX0 3 f fd ["_law_measure", "_law_amounts"] spTotalL := by
  refine okG F scTotalL (fun vs H Q E h => ?_) (fun cdv A0 outer s H vs Q E hr h => ?_)
  · obtain ⟨p, L, m, ps, rfl, _⟩ := h
    rfl
  · obtain ⟨p, L, m, ps, rfl, hm, mok, eL, fact, hl, q⟩ := h
    have nd := scTotalL.nd
    have r1 := hr.mono (show 1 ≤ 2 by decide)
    have r2 := hr.mono (show 2 ≤ 2 by decide)
    refine ⟨_, pss_cons (ps_set (i := 2) nd rfl (.inl rfl) (pe_callG Zq.G r1 (by rfl) Zq.g Zq.kp Zq.b .nil pass0 (pa_cons (pv 0) pa_nil)))
      (pss_cons (ps_for PassesOwn.never rfl (pi_list (pv 1)) (pg_name (i := 3) nd rfl (.inl rfl))
        (pss_one (ps_set (i := 2) nd rfl (.inl rfl) (pe_callG Pq.G r2 (by rfl) Pq.g Pq.kp Pq.b .nil pass0 (pa_cons (pv 0) (pa_cons (pv 2) (pa_cons (pv 3) pa_nil)))))))
      (pss_one (ps_ret (pv 2)))), ?_⟩
    refine ⟨_, rfl, p, m, rfl, hm, mok, fun z H1 e1 vz => ?_⟩
    refine ⟨_, rfl, L, rfl, ⟨_, .inl (.inl (e1 L _ eL))⟩, ?_⟩
    have hx : ∀ x ∈ ps.map (·.2), m.has x ∧ x.lim 190 := fun x hx => by
      obtain ⟨q, hq, rfl⟩ := List.mem_map.mp hx
      obtain ⟨a, b, _⟩ := fact q hq
      exact ⟨a, b.lim⟩
    refine for_list (xs := ps.map (·.1)) (fun i σ H' => ∃ (v : V) (y3 : Option V), σ = [some (.ref p), some (.ref L), some v, y3] ∧ Ex H H' ∧ AmV H' v (((ps.map (·.2)).take i).foldl Am.add m.zero)) ⟨z, none, rfl, e1, vz⟩
      (fun i σ H' _ h => ?_) (fun i x σ H2 hx2 h => ?_) (fun σ H2 h => ?_)
    · obtain ⟨v, y3, rfl, ex, _⟩ := h
      exact .inl (.inl (ex L _ eL))
    · obtain ⟨v, y3, rfl, ex, vv⟩ := h
      rw [List.getElem?_map] at hx2
      obtain ⟨c, hc, rfl⟩ := Option.map_eq_some_iff.mp hx2
      have il := (List.getElem?_eq_some_iff.mp hc).1
      obtain ⟨c1, c2, c3⟩ := fact c (List.mem_of_getElem? hc)
      have ht : ∀ x ∈ (ps.map (·.2)).take i, m.has x ∧ x.lim 190 := fun x h => hx x (List.mem_of_mem_take h)
      have l1 := sum_lim (b := 1) (by decide) (by decide) ht m.zero_has (zero_lim m (by decide))
      have l2 : ((ps.map (·.2)).take i).length = i := by rw [List.length_take, List.length_map]; omega
      rw [l2] at l1
      refine ⟨_, rfl, _, rfl, _, rfl, p, m, 1 + 190 * i, 190, v, c.1, _, c.2, rfl, ex.rd hm, mok, by omega, by decide, by omega, sum_has (fun x h => (ht x h).1) m.zero_has, c1, l1, c2.lim, vv, c3.ex ex, fun r H3 e3 vr => ?_⟩
      refine ⟨r, _, rfl, ex.trans e3, ?_⟩
      rw [foldl_take (show (ps.map (·.2))[i]? = some c.2 by rw [List.getElem?_map, hc]; rfl)]
      exact vr
    · obtain ⟨v, y3, rfl, ex, vv⟩ := h
      refine ⟨_, rfl, q v H2 ex ?_⟩
      rw [List.length_map, ← List.length_map (f := fun q : V × Am => q.2), List.take_length] at vv
      exact vv
def spSomeA : Sp := fun vs H Q _ => ∃ (a p : Addr) (m : Ms), vs = [.ref a, .ref p] ∧ Dice H a ∧ MsV H p m ∧ m.ok ∧
  ∀ (L : Addr) H' (ps : List (V × Am)), Gro a H H' → H L = none → H' L = some (.lst (ps.map (·.1))) → 4 ≤ ps.length → ps.length ≤ 6 → (∀ q ∈ ps, m.has q.2 ∧ q.2.near ∧ AmV H' q.1 q.2) → Q (.ref L) H'
theorem zero_near (m : Ms) : m.zero.near := (zero_lim m (by decide)).near
theorem ok_someA {f : Addr} {fd : FuncData} (F : Fun K "_law_some_amounts" "_law_some_amounts" sSomeL f fd) (T : Blt mg) (D : Dc P w K mg base) (Aq : DfG P w K mg base 2 "_law_amount" ["_law_dice_here", "_law_measure"] spAmtL) (Wq : DfG P w K mg base 2 "_law_weight" ["_law_dice_here", "_law_measure"] spAmtL)
    (Zq : DfG P w K mg base 1 "_law_zero" ["_law_measure"] spZeroL) (Pk : DfG P w K mg base 2 "_law_pick" ["_law_dice_here", "_law_items"] spPick) (Mq : DfG P w K mg base 2 "_law_minus" ["_law_measure", "_law_one", "_law_other"] spMinusL) : FnG P w K mg base CX0 3 f fd ["_law_dice_here", "_law_measure"] spSomeA := by
  refine okG F scSomeL (fun vs H Q E h => ?_) (fun cdv A0 outer s H vs Q E hr h => ?_)
  · obtain ⟨a, p, m, rfl, _⟩ := h
    rfl
  · obtain ⟨a, p, m, rfl, hd, hm, mok, q⟩ := h
    have nd := scSomeL.nd
    have r1 := hr.mono (show 1 ≤ 2 by decide)
    have r2 := hr.mono (show 2 ≤ 2 by decide)
    have hu : (A0.deeper (envOfC "_law_some_amounts" (defScope sSomeL) s.heap.objs.size f cdv)).units < cLine := by have := hr.rm.un; omega
    refine ⟨_, pss_cons (ps_set (i := 2) nd rfl (.inl rfl) (pe_lst pa_nil))
      (pss_cons (ps_for PassesOwn.never rfl (pi_range1 rfl T.range (pa_cons (pe_op op_add pe_int (pe_callG D.G r1 (by rfl) D.g D.kp D.b .nil pass0 (pa_cons (pv 0) (pa_cons pe_int pa_nil)))) pa_nil)) (pg_name (i := 3) nd rfl (.inl rfl))
        (pss_cons (ps_set (i := 4) nd rfl (.inl rfl) (pe_callG D.G r1 (by rfl) D.g D.kp D.b .nil pass0 (pa_cons (pv 0) (pa_cons pe_int pa_nil))))
        (pss_one (ps_if (PW.pt (pw_and (pt_cmpR op_eq (pv 4) pe_int (nomark _)) (pw_and1 (pt_cmpR (op_neNil hu) (pv 2) (pe_lst pa_nil) (nomark _))))) (pss_one (ps_expr (pe_bm PySem.F.plainAttrs_list PySem.F.slot_list_append PySem.F.type_list_append mt_append (pv 2) (pa_cons (pe_callG Mq.G r2 (by rfl) Mq.g Mq.kp Mq.b .nil pass0 (pa_cons (pv 1) (pa_cons (pe_callG Zq.G r1 (by rfl) Zq.g Zq.kp Zq.b .nil pass0 (pa_cons (pv 1) pa_nil)) (pa_cons (pe_callG Pk.G r2 (by rfl) Pk.g Pk.kp Pk.b .nil pass0 (pa_cons (pv 0) (pa_cons (pv 2) pa_nil))) pa_nil)))) pa_nil)))) (pss_one (ps_if (pt_cmpR op_eq (pv 4) pe_int (nomark _)) (pss_one (ps_expr (pe_bm PySem.F.plainAttrs_list PySem.F.slot_list_append PySem.F.type_list_append mt_append (pv 2) (pa_cons (pe_callG Wq.G r2 (by rfl) Wq.g Wq.kp Wq.b .nil pass0 (pa_cons (pv 0) (pa_cons (pv 1) pa_nil))) pa_nil)))) (pss_one (ps_expr (pe_bm PySem.F.plainAttrs_list PySem.F.slot_list_append PySem.F.type_list_append mt_append (pv 2) (pa_cons (pe_callG Pk.G r2 (by rfl) Pk.g Pk.kp Pk.b .nil pass0 (pa_cons (pv 0) (pa_cons (pe_lst (pa_cons (pe_callG Aq.G r2 (by rfl) Aq.g Aq.kp Aq.b .nil pass0 (pa_cons (pv 0) (pa_cons (pv 1) pa_nil))) (pa_cons (pe_callG Aq.G r2 (by rfl) Aq.g Aq.kp Aq.b .nil pass0 (pa_cons (pv 0) (pa_cons (pv 1) pa_nil))) (pa_cons (pe_callG Zq.G r1 (by rfl) Zq.g Zq.kp Zq.b .nil pass0 (pa_cons (pv 1) pa_nil)) pa_nil)))) pa_nil))) pa_nil))))))))))
      (pss_one (ps_ret (pv 2)))), ?_⟩
    refine ⟨by show 0 ≤ sizeLine; decide, fun L nL => ?_⟩
    have xL := Ex.new (o := .lst []) nL
    have La := hd.ne nL
    refine ⟨_, rfl, a, 3, rfl, by decide, by decide, xL.dice hd, fun n H0 n0 n1 g0 => ?_⟩
    obtain ⟨n, rfl⟩ : ∃ k : Nat, n = k := ⟨n.toNat, by omega⟩
    have gz := (Gro.of xL hd).trans g0
    refine ⟨_, _, rfl, rfl, ((4 + n : Nat) : Int), by rw [Int.natCast_add]; rfl, by omega, by omega, ?_⟩
    refine for_range (n := 4 + n) (fun i σ H' => ∃ (ps : List (V × Am)) (y3 y4 : Option V), σ = [some (.ref a), some (.ref p), some (.ref L), y3, y4] ∧ Gro a H H' ∧ H' L = some (.lst (ps.map (·.1))) ∧ ps.length = i ∧ ∀ q ∈ ps, m.has q.2 ∧ q.2.near ∧ AmV H' q.1 q.2)
      ⟨[], none, none, rfl, gz, g0.st L _ La upd_same, rfl, fun _ z => (nomatch z)⟩ (fun i σ H1 hi h => ?_) (fun σ H1 h => ?_)
    · obtain ⟨ps, y3, y4, rfl, g, eL, len, fact⟩ := h
      refine ⟨_, rfl, a, 4, rfl, by decide, by decide, g.di, fun k H2 k0 k1 g2 => ?_⟩
      obtain ⟨k, rfl⟩ : ∃ j : Nat, k = j := ⟨k.toNat, by omega⟩
      have gA := g.trans g2
      have eL2 := g2.st L _ La eL
      -- one more amount
      have app : ∀ {Hx : Hp} {v : V} {x : Am} {y3 y4 : Option V}, Gro a H2 Hx → m.has x → x.near → AmV Hx v x → ∃ (ps' : List (V × Am)) (y3' y4' : Option V), [some (V.ref a), some (.ref p), some (.ref L), y3, y4] = [some (.ref a), some (.ref p), some (.ref L), y3', y4'] ∧ Gro a H (upd Hx L (.lst (ps.map (·.1) ++ [v]))) ∧
          upd Hx L (.lst (ps.map (·.1) ++ [v])) L = some (.lst (ps'.map (·.1))) ∧ ps'.length = i + 1 ∧ ∀ q ∈ ps', m.has q.2 ∧ q.2.near ∧ AmV (upd Hx L (.lst (ps.map (·.1) ++ [v]))) q.1 q.2 := by
        intro Hx v x y3 y4 gx h1 h2 h3
        have eLx := gx.st L _ La eL2
        refine ⟨ps ++ [(v, x)], y3, y4, rfl, (gA.trans gx).mut nL La, by rw [upd_same, List.map_append]; rfl, by rw [List.length_append, len]; rfl, fun q hq => ?_⟩
        rcases List.mem_append.mp hq with z | z
        · obtain ⟨c1, c2, c3⟩ := fact q z
          exact ⟨c1, c2, (c3.gro (g2.trans gx) g.di).updL eLx⟩
        · rw [List.mem_singleton.mp z]
          exact ⟨h1, h2, h3.updL eLx⟩
      have room : (ps.map (·.1)).length < sizeLine := by rw [List.length_map, len]; exact Nat.lt_of_lt_of_le (show i < 100 by omega) (by decide)
      have rest : ∀ {Hy : Hp}, Gro a H2 Hy → tIfS (tTest (tOp rEq (tVar 4) (tC (V.int 1))))
          (tDrop (tBM K "list" (fun x vs H Q => ∃ l xs y, x = .ref l ∧ vs = [y] ∧ H l = some (.lst xs) ∧ xs.length < sizeLine ∧ Q .non (upd H l (.lst (xs ++ [y])))) (tVar 2) (tCons (tCall spAmtL [] E0 (tCons (tVar 0) (tCons (tVar 1) tNil))) tNil)))
          (tDrop (tBM K "list" (fun x vs H Q => ∃ l xs y, x = .ref l ∧ vs = [y] ∧ H l = some (.lst xs) ∧ xs.length < sizeLine ∧ Q .non (upd H l (.lst (xs ++ [y])))) (tVar 2) (tCons (tCall spPick [] E0 (tCons (tVar 0) (tCons (tLst (tCons (tCall spAmtL [] E0 (tCons (tVar 0) (tCons (tVar 1) tNil))) (tCons (tCall spAmtL [] E0 (tCons (tVar 0) (tCons (tVar 1) tNil))) (tCons (tCall spZeroL [] E0 (tCons (tVar 1) tNil)) tNil)))) tNil))) tNil)))
          { nx := fun σ H' => ∃ (ps : List (V × Am)) (y3 y4 : Option V), σ = [some (.ref a), some (.ref p), some (.ref L), y3, y4] ∧ Gro a H H' ∧ H' L = some (.lst (ps.map (·.1))) ∧ ps.length = i + 1 ∧ ∀ q ∈ ps, m.has q.2 ∧ q.2.near ∧ AmV H' q.1 q.2, rt := fun _ _ => False } [some (.ref a), some (.ref p), some (.ref L), some (.int (0 + (i : Int))), some (.int (k : Nat))] Hy := by
        intro Hy gy
        have eLy := gy.st L _ La eL2
        refine ⟨_, rfl, rfl, _, rfl, ?_⟩
        by_cases k1 : k = 1
        · rw [decide_eq_true (show V.int (k : Nat) = V.int 1 by rw [k1]; rfl)]
          refine iteT ⟨_, rfl, .inl ⟨rfl, _, .inl (.inl eLy)⟩, _, rfl, _, rfl, a, p, m, rfl, gy.di, gy.msV gA.di (gA.msV hd hm), mok, fun v x H3 g3 h3 n3 a3 => ?_⟩
          exact ⟨L, _, _, rfl, rfl, g3.st L _ La eLy, room, app (gy.trans g3) h3 n3 a3⟩
        · rw [decide_eq_false (show ¬ V.int (k : Nat) = V.int 1 from fun z => k1 (by injection z with z; omega))]
          refine iteF ⟨_, rfl, .inl ⟨rfl, _, .inl (.inl eLy)⟩, _, rfl, _, rfl, _, rfl, a, p, m, rfl, gy.di, gy.msV gA.di (gA.msV hd hm), mok, fun v1 x1 H3 g3 h1 n1 a1 => ?_⟩
          have hm3 := (gy.trans g3).msV gA.di (gA.msV hd hm)
          refine ⟨_, rfl, _, rfl, a, p, m, rfl, g3.di, hm3, mok, fun v2 x2 H4 g4 h2 n2 a2 => ?_⟩
          refine ⟨_, rfl, p, m, rfl, g4.msV g3.di hm3, mok, fun v3 H5 e5 a3 => ?_⟩
          refine ⟨by show 3 ≤ sizeLine; decide, fun M nM => ?_⟩
          have xM := Ex.new (o := .lst [v1, v2, v3]) nM
          have gB := ((g3.trans g4).ex e5).ex xM
          have nMa : M ≠ a := (g4.ex e5).di.ne nM
          refine ⟨a, M, _, rfl, upd_same, nMa, by simp, by show 3 ≤ 1000; decide, gB.di, fun v H6 hv g6 => ?_⟩
          have am : ∃ x, m.has x ∧ x.near ∧ AmV H6 v x := by
            rcases List.mem_cons.mp hv with rfl | hv
            · exact ⟨_, h1, n1, ((a1.gro g4 g3.di).ex (e5.trans xM)).gro g6 gB.di⟩
            rcases List.mem_cons.mp hv with rfl | hv
            · exact ⟨_, h2, n2, (a2.ex (e5.trans xM)).gro g6 gB.di⟩
            rw [List.mem_singleton.mp hv]
            exact ⟨_, m.zero_has, zero_near m, (a3.ex xM).gro g6 gB.di⟩
          obtain ⟨x, b1, b2, b3⟩ := am
          have gC := gB.trans g6
          exact ⟨L, _, _, rfl, rfl, gC.st L _ La eLy, room, app (gy.trans gC) b1 b2 b3⟩
      refine ⟨_, rfl, rfl, _, rfl, ?_⟩
      by_cases k0 : k = 0
      · rw [decide_eq_true (show V.int (k : Nat) = V.int 0 by rw [k0]; rfl)]
        refine ⟨_, rfl, Nat.zero_le _, fun N nN => ⟨L, N, _, rfl, rfl, .inl (.inl (Ex.new nN L _ eL2)), upd_same, _, rfl, ?_⟩⟩
        have xN := Ex.new (o := .lst []) nN
        have gN := (Gro.refl gA.di).ex xN
        by_cases e : ps = []
        · rw [decide_eq_true (show ps.map (·.1) = [] by rw [e]; rfl)]
          exact rest gN
        · rw [decide_eq_false (show ¬ ps.map (·.1) = [] from fun z => e (List.map_eq_nil_iff.mp z))]
          have eLN := gN.st L _ La eL2
          have hmN := gN.msV gA.di (gA.msV hd hm)
          refine ⟨_, rfl, .inl ⟨rfl, _, .inl (.inl eLN)⟩, _, rfl, _, rfl, p, m, rfl, hmN, mok, fun v3 H5 e5 a3 => ?_⟩
          have g5 := gN.ex e5
          refine ⟨_, rfl, _, rfl, a, L, _, rfl, e5 L _ eLN, La, fun z => e (List.map_eq_nil_iff.mp z), by rw [List.length_map]; omega, g5.di, fun v H6 hv g6 => ?_⟩
          obtain ⟨c, hc, rfl⟩ := List.mem_map.mp hv
          obtain ⟨c1, c2, c3⟩ := fact c hc
          have gC := g5.trans g6
          refine ⟨p, m, 1, 190, v3, c.1, m.zero, c.2, rfl, gC.msV gA.di (gA.msV hd hm), mok, by decide, by decide, by decide, m.zero_has, c1, zero_lim m (by decide), c2.lim, a3.gro g6 g5.di, (c3.gro g2 g.di).gro gC gA.di, fun r H7 e7 vr => ?_⟩
          rw [neg_is c1] at vr
          have gD := gC.ex e7
          exact ⟨L, _, _, rfl, rfl, gD.st L _ La eL2, room, app gD (neg_has c1) (neg_lim c2.lim).near vr⟩
      · rw [decide_eq_false (show ¬ V.int (k : Nat) = V.int 0 from fun z => k0 (by injection z with z; omega))]
        exact rest (Gro.refl gA.di)
    · obtain ⟨ps, y3, y4, rfl, g, eL, len, fact⟩ := h
      exact ⟨_, rfl, q L H1 ps g nL eL (by omega) (by omega) fact⟩
end
end Gl

set_option exponentiation.threshold 10000
namespace Gl
open PySem PySem.Spec PyProof.Rows L2 ClX RZ
abbrev sSumsL : Stmt := topS 30
theorem scSumsL : FnScope ["_law_meter", "_law_measure", "_law_amounts", "_law_a", "_law_b", "_law_c", "_law_d", "_law_told", "_law_due", "_law_many"] ["_law_meter", "_law_measure", "_law_amounts"] (defScope sSumsL) := ⟨rfl, rfl, rfl, by decide +kernel, rfl, by decide +kernel, by decide +kernel⟩
abbrev sPairsL : Stmt := topS 31
theorem scPairsL : FnScope ["_law_meter", "_law_measure", "_law_one", "_law_other", "_law_told", "_law_due"] ["_law_meter", "_law_measure", "_law_one", "_law_other"] (defScope sPairsL) := ⟨rfl, rfl, rfl, by decide +kernel, rfl, by decide +kernel, by decide +kernel⟩
/-! ### shown -/
def FewW (n : Int) : Prop := n.natAbs < 2 ^ 1900
theorem show_intW {n : Int} (h : FewW n) : PyData.showable (.int n) = true := by
  simp only [PyData.showable]
  exact decide_eq_true (Nat.lt_trans (PySem.Flt.log2_lt_of (by decide) h) (by decide))
theorem show_intsW : ∀ {ns : List Int}, (∀ n ∈ ns, FewW n) → PyData.showableAll (ns.map PyData.int) = true
  | [], _ => by simp only [List.map_nil, PyData.showableAll]
  | n :: ns, h => by
    simp only [List.map_cons, PyData.showableAll]
    rw [show_intW (h n (List.mem_cons_self ..)), show_intsW fun x hx => h x (List.mem_cons_of_mem _ hx)]
    rfl
theorem Am.showsW {m : Ms} : ∀ {x : Am}, m.ok → m.has x → x.lim 1900 → x.data.showable = true ∧ wt x.data ≤ 8000
  | .n i, _, _, h => ⟨show_intW h, by simp only [Am.data, wt]; decide⟩
  | .c ns, mok, hm, h => by
    have l : ns.length ≤ 4 := by
      cases m with
      | classes k =>
        have e : ns.length = k := hm
        have := mok.2
        omega
      | sums => exact hm.elim
      | odds => exact hm.elim
    refine ⟨by simp only [Am.data, PyData.showable]; exact show_intsW fun n hn => h n hn, ?_⟩
    simp only [Am.data, wt]
    rw [wt_ints]
    omega
  | .o x, _, _, h => by
    have e : Am.data (.o x) = .tuple ([((x.1.1 : Nat) : Int), ((x.1.2 : Nat) : Int)].map PyData.int) := rfl
    have few : ∀ n ∈ [((x.1.1 : Nat) : Int), ((x.1.2 : Nat) : Int)], FewW n := fun n hn => by
      unfold FewW
      rcases List.mem_cons.mp hn with rfl | hn
      · rw [Int.natAbs_natCast]; exact h.1
      · rw [List.mem_singleton.mp hn, Int.natAbs_natCast]; exact h.2
    rw [e]
    exact ⟨by simp only [PyData.showable]; exact show_intsW few, by simp only [wt]; rw [wt_ints]; show 1932 * 2 + 3 ≤ 8000; decide⟩
/-- a list of amounts as data -/
def dList (xs : List Am) : PyData := .list (xs.map Am.data)
theorem shows_list {m : Ms} (mok : m.ok) : ∀ {xs : List Am}, (∀ x ∈ xs, m.has x ∧ x.lim 1900) → PyData.showableAll (xs.map Am.data) = true ∧ wtAll (xs.map Am.data) ≤ 8002 * xs.length ∧ PyData.depthAll (xs.map Am.data) ≤ 1
  | [], _ => ⟨by simp only [List.map_nil, PyData.showableAll], by simp only [List.map_nil, wtAll]; exact Nat.zero_le _, by simp only [List.map_nil, PyData.depthAll]; exact Nat.zero_le _⟩
  | x :: xs, h => by
    obtain ⟨h1, h2⟩ := h x (List.mem_cons_self ..)
    obtain ⟨a, b, c⟩ := shows_list mok (xs := xs) fun r hr => h r (List.mem_cons_of_mem _ hr)
    obtain ⟨d, e⟩ := Am.showsW mok h1 h2
    refine ⟨by simp only [List.map_cons, PyData.showableAll]; rw [d, a]; rfl, ?_, ?_⟩
    · simp only [List.map_cons, wtAll, List.length_cons]
      omega
    · simp only [List.map_cons, PyData.depthAll]
      exact Nat.max_le.mpr ⟨x.dep, c⟩
theorem shows_dList {m : Ms} (mok : m.ok) {xs : List Am} (h : ∀ x ∈ xs, m.has x ∧ x.lim 1900) (l : xs.length ≤ 100) : (dList xs).showable = true ∧ (dList xs).depth ≤ 100 ∧ (dList xs).shown.length ≤ sizeLine := by
  obtain ⟨a, b, c⟩ := shows_list mok h
  exact (Shows.mk (n := 900000) (by simp only [dList, PyData.showable]; exact a) (by simp only [dList, PyData.depth]; omega) (by simp only [dList, wt]; omega)).ok (by decide)
theorem shows_one {m : Ms} (mok : m.ok) {x : Am} (h : m.has x) (l : x.lim 1900) : x.data.showable = true ∧ x.data.depth ≤ 100 ∧ x.data.shown.length ≤ sizeLine := by
  obtain ⟨a, b⟩ := Am.showsW mok h l
  exact (Shows.mk (n := 8000) a (Nat.le_trans x.dep (by decide)) b).ok (by decide)
theorem dp_list {K : PySem.W.Frag} {H : Hp} {L : Addr} : ∀ {ps : List (V × Am)}, (∀ q ∈ ps, AmV H q.1 q.2) → DpAll K H (ps.map (·.1)) ((ps.map (·.2)).map Am.data)
  | [], _ => .nil
  | q :: ps, h => .cons (dp_am (h q (List.mem_cons_self ..))) (dp_list (L := L) fun r hr => h r (List.mem_cons_of_mem _ hr))
section
variable {P : Program} {w : World} {K : PySem.W.Frag} {mg : Str → Option Value} {base : Heap} {C : Addr}
def spSumsL (C : Addr) : Sp := fun vs H Q _ => ∃ (g p L : Addr) (m : Ms) (ps : List (V × Am)), vs = [.ref g, .ref p, .ref L] ∧ SclAt H g C m ∧ MsV H p m ∧ m.ok ∧ H L = some (.lst (ps.map (·.1))) ∧ (∀ q ∈ ps, m.has q.2 ∧ q.2.near ∧ AmV H q.1 q.2) ∧ 4 ≤ ps.length ∧ ps.length ≤ 6 ∧ ∀ H', Ex H H' → Q (.bl true) H'
theorem ok_sumsL {f : Addr} {fd : FuncData} (F : Fun K "_law_sums_right" "_law_sums_right" sSumsL f fd) (T : Blt mg) (Z : ClsK K C) (Tq : DfG P w K mg base 3 "_law_total" ["_law_measure", "_law_amounts"] spTotalL)
    (Pm : DmR P w K mg base C 7 "plus" (spPlus C)) (Pl : Dm P w K mg base C 6 "plus_all" ["self", "amounts"] (spPlusAll C)) : FnG P w K mg base CX0 8 f fd ["_law_meter", "_law_measure", "_law_amounts"] (spSumsL C) := by
  refine okG F scSumsL (fun vs H Q E h => ?_) (fun cdv A0 outer s H vs Q E hr h => ?_)
  · obtain ⟨g, p, L, m, ps, rfl, _⟩ := h
    rfl
  · obtain ⟨g, p, L, m, ps, rfl, sa, hm, mok, eL, fact, l4, l6, q⟩ := h
    have nd := scSumsL.nd
    have r3 := hr.mono (show 3 ≤ 7 by decide)
    have r6 := hr.mono (show 6 ≤ 7 by decide)
    have r7 := hr.mono (show 7 ≤ 7 by decide)
    refine ⟨_, pss_cons (ps_asg (pe_slice sl_list (pv 2) po_none (po_some pe_int)) (pg_unl rfl (pgs_cons (pg_name (i := 3) nd rfl (.inl rfl)) (pgs_cons (pg_name (i := 4) nd rfl (.inl rfl)) (pgs_cons (pg_name (i := 5) nd rfl (.inl rfl)) (pgs_cons (pg_name (i := 6) nd rfl (.inl rfl)) pgs_nil))))))
      (pss_cons (ps_set (i := 7) nd rfl (.inl rfl) (pe_lst (pa_cons (pe_methR0 (pv 0) Z.cls Pm.at_ Pm.G r7.rm pass0) (pa_cons (pe_methR (pv 0) Z.cls Pm.at_ Pm.G r7.rm pass0 (pa_cons (pv 3) pa_nil)) (pa_cons (pe_methR (pv 0) Z.cls Pm.at_ Pm.G r7.rm pass0 (pa_cons (pv 3) (pa_cons (pv 4) pa_nil))) (pa_cons (pe_methR (pv 0) Z.cls Pm.at_ Pm.G r7.rm pass0 (pa_cons (pv 3) (pa_cons (pv 4) (pa_cons (pv 5) pa_nil)))) (pa_cons (pe_methR (pv 0) Z.cls Pm.at_ Pm.G r7.rm pass0 (pa_cons (pv 3) (pa_cons (pv 4) (pa_cons (pv 5) (pa_cons (pv 6) pa_nil))))) pa_nil)))))))
      (pss_cons (ps_setLc (i := 8) (own := [("_law_many", 9)]) (g := gName 9) (tt := tYes) rfl nd rfl rfl (sw_true rfl rfl rfl (by decide +kernel)) (pi_range1 rfl T.range (pa_cons pe_int pa_nil)) (blkOk_by (N := ["_law_meter", "_law_measure", "_law_amounts", "_law_a", "_law_b", "_law_c", "_law_d", "_law_told", "_law_due", "_law_many"]) (sc := defScope sSumsL) (by decide +kernel)) (fun _ _ _ _ _ => pg_name (i := 9) nd rfl (.inl rfl)) (fun _ _ _ _ _ => pts_nil)
          (fun _ _ _ _ _ => pe_callG Tq.G r3 (by rfl) Tq.g Tq.kp Tq.b .nil pass0 (pa_cons (pv 1) (pa_cons (pe_slice (r := rSlL K) sl_list (pv 2) po_none (po_some (pv 9))) pa_nil))))
      (pss_cons (ps_if (pt_cmpR op_ne (pe_callB (call_reprD hr) (by rfl) T.repr (by decide +kernel) (pa_cons (pv 7) pa_nil)) (pe_callB (call_reprD hr) (by rfl) T.repr (by decide +kernel) (pa_cons (pv 8) pa_nil)) (nomark _)) pss_never pss_nil)
      (pss_cons (ps_for PassesOwn.never rfl (pi_range1 rfl T.range (pa_cons (pe_op op_add (pe_callB call_len_seq (by rfl) T.len PySem.boot_len (pa_cons (pv 2) pa_nil)) pe_int) pa_nil)) (pg_name (i := 9) nd rfl (.inl rfl))
        (pss_one (ps_if (pt_cmpR op_ne (pe_callB (call_reprD hr) (by rfl) T.repr (by decide +kernel) (pa_cons (pe_meth (pv 0) Z.cls Pl.at_ Pl.G r6.rm Pl.b .nil pass0 (pa_cons (pe_callTy call_tupleF (by rfl) T.tuple (by decide +kernel) (pa_cons (pe_slice sl_list (pv 2) po_none (po_some (pv 9))) pa_nil)) pa_nil)) pa_nil)) (pe_callB (call_reprD hr) (by rfl) T.repr (by decide +kernel) (pa_cons (pe_callG Tq.G r3 (by rfl) Tq.g Tq.kp Tq.b .nil pass0 (pa_cons (pv 1) (pa_cons (pe_slice sl_list (pv 2) po_none (po_some (pv 9))) pa_nil))) pa_nil)) (nomark _)) pss_never pss_nil)))
      (pss_one (ps_ret pe_bl)))))), ?_⟩
    have fw : ∀ {H1 : Hp}, Ex H H1 → ∀ q ∈ ps, m.has q.2 ∧ q.2.near ∧ AmV H1 q.1 q.2 := fun e q hq => let ⟨a, b, c⟩ := fact q hq; ⟨a, b, c.ex e⟩
    obtain ⟨q0, q1, q2, q3, more, eps⟩ : ∃ q0 q1 q2 q3 more, ps = q0 :: q1 :: q2 :: q3 :: more := by
      match ps, l4 with
      | q0 :: q1 :: q2 :: q3 :: more, _ => exact ⟨q0, q1, q2, q3, more, rfl⟩
      | [], z => simp at z
      | [_], z => simp at z
      | [_, _], z => simp at z
      | [_, _, _], z => simp at z
    have e4 : ps.take 4 = [q0, q1, q2, q3] := by rw [eps]; rfl
    have ft : ∀ {H1 : Hp} (k : Nat), Ex H H1 → ∀ q ∈ [q0, q1, q2, q3].take k, m.has q.2 ∧ q.2.lim 190 ∧ AmV H1 q.1 q.2 := fun k e q hq => by
      have : q ∈ ps := List.mem_of_mem_take (i := 4) (by rw [e4]; exact List.mem_of_mem_take hq)
      obtain ⟨a, b, c⟩ := fw e q this
      exact ⟨a, b.lim, c⟩
    have noP : ∀ {H1 : Hp}, Ex H H1 → ∃ dx fs, H1 g = some (.ins C dx fs) ∧ fs.lookup ("plus" : Str) = none := fun e => (e.scl sa).no (x := "plus") (by decide +kernel) (by decide +kernel)
    have lims : ∀ xs : List Am, (∀ x ∈ xs, m.has x ∧ x.lim 190) → xs.length ≤ 6 → m.has (sumA m xs) ∧ (sumA m xs).lim 1900 := fun xs h l =>
      ⟨sum_has (fun x hx => (h x hx).1) m.zero_has, (sum_lim (a := 190) (b := 1) (by decide) (by decide) h m.zero_has (zero_lim m (by decide))).mono (by omega)⟩
    -- a, b, c, d
    refine ⟨_, rfl, 4, rfl, L, _, rfl, .inl (.inl eL), fun S nS => ?_⟩
    rw [show cutV (ps.map (·.1)) none (some 4) = (ps.map (·.1)).take 4 from cut_to _ 4, ← List.map_take, e4]
    have xS := Ex.new (o := .lst ([q0, q1, q2, q3].map (·.1))) nS
    refine ⟨S, _, rfl, .inl (.inl upd_same), rfl, _, _, rfl, _, _, rfl, _, _, rfl, _, _, rfl, rfl, ?_⟩
    obtain ⟨dx, fs, ha, hn⟩ := noP xS
    refine ⟨_, rfl, g, dx, fs, rfl, ha, hn, g, m, 190, [q0, q1, q2, q3].take 0, rfl, xS.scl sa, mok, ft 0 xS, by decide, by decide, (by show 190 * 0 + 1 + 190 ≤ 8000; decide), (by show 0 ≤ 1000; decide), fun v0 J0 f0 a0 => ?_⟩
    have e0 := xS.trans f0
    obtain ⟨dx, fs, ha, hn⟩ := noP e0
    refine ⟨_, rfl, g, dx, fs, rfl, ha, hn, _, rfl, g, m, 190, [q0, q1, q2, q3].take 1, rfl, e0.scl sa, mok, ft 1 e0, by decide, by decide, (by show 190 * 1 + 1 + 190 ≤ 8000; decide), (by show 1 ≤ 1000; decide), fun v1 J1 f1 a1 => ?_⟩
    have e1 := e0.trans f1
    obtain ⟨dx, fs, ha, hn⟩ := noP e1
    refine ⟨_, rfl, g, dx, fs, rfl, ha, hn, _, rfl, _, rfl, g, m, 190, [q0, q1, q2, q3].take 2, rfl, e1.scl sa, mok, ft 2 e1, by decide, by decide, (by show 190 * 2 + 1 + 190 ≤ 8000; decide), (by show 2 ≤ 1000; decide), fun v2 J2 f2 a2 => ?_⟩
    have e2 := e1.trans f2
    obtain ⟨dx, fs, ha, hn⟩ := noP e2
    refine ⟨_, rfl, g, dx, fs, rfl, ha, hn, _, rfl, _, rfl, _, rfl, g, m, 190, [q0, q1, q2, q3].take 3, rfl, e2.scl sa, mok, ft 3 e2, by decide, by decide, (by show 190 * 3 + 1 + 190 ≤ 8000; decide), (by show 3 ≤ 1000; decide), fun v3 J3 f3 a3 => ?_⟩
    have e3 := e2.trans f3
    obtain ⟨dx, fs, ha, hn⟩ := noP e3
    refine ⟨_, rfl, g, dx, fs, rfl, ha, hn, _, rfl, _, rfl, _, rfl, _, rfl, g, m, 190, [q0, q1, q2, q3].take 4, rfl, e3.scl sa, mok, ft 4 e3, by decide, by decide, (by show 190 * 4 + 1 + 190 ≤ 8000; decide), (by show 4 ≤ 1000; decide), fun v4 J4 f4 a4 => ?_⟩
    have e5 := e3.trans f4
    refine ⟨by show 5 ≤ sizeLine; decide, fun O nO => ?_⟩
    have xO := Ex.new (o := .lst [v0, v1, v2, v3, v4]) nO
    have e6 := e5.trans xO
    let told : List (V × Am) := [(v0, sumA m (([q0, q1, q2, q3].take 0).map (·.2))), (v1, sumA m (([q0, q1, q2, q3].take 1).map (·.2))), (v2, sumA m (([q0, q1, q2, q3].take 2).map (·.2))), (v3, sumA m (([q0, q1, q2, q3].take 3).map (·.2))), (v4, sumA m (([q0, q1, q2, q3].take 4).map (·.2)))]
    have tv : ∀ q ∈ told, AmV (upd J4 O (.lst [v0, v1, v2, v3, v4])) q.1 q.2 := fun q hq => by
      rcases List.mem_cons.mp hq with rfl | hq
      · exact ((((a0.ex f1).ex f2).ex f3).ex f4).ex xO
      rcases List.mem_cons.mp hq with rfl | hq
      · exact (((a1.ex f2).ex f3).ex f4).ex xO
      rcases List.mem_cons.mp hq with rfl | hq
      · exact ((a2.ex f3).ex f4).ex xO
      rcases List.mem_cons.mp hq with rfl | hq
      · exact (a3.ex f4).ex xO
      rw [List.mem_singleton.mp hq]
      exact a4.ex xO
    have eO : upd J4 O (.lst [v0, v1, v2, v3, v4]) O = some (.lst (told.map (·.1))) := upd_same
    -- due
    refine ⟨5, rfl, by decide, by decide, fun D nD => ?_⟩
    refine lc_range (n := 5) (fun i H' => ∃ ds : List (V × Am), Ex (upd J4 O (.lst [v0, v1, v2, v3, v4])) H' ∧ H' D = some (.lst (ds.map (·.1))) ∧ ds.map (·.2) = (List.range i).map (fun j => sumA m ((ps.take j).map (·.2))) ∧ ∀ q ∈ ds, AmV H' q.1 q.2)
      ⟨[], Ex.new nD, upd_same, rfl, fun _ z => nomatch z⟩ (fun i H1 hi h => ?_) (fun H1 h => ?_)
    · obtain ⟨ds, ex, eD, es, fd⟩ := h
      have exH := e6.trans ex
      refine ⟨rfl, _, rfl, _, rfl, _, rfl, _, rfl, L, _, rfl, .inl (.inl (exH L _ eL)), fun S2 nS2 => ?_⟩
      rw [show cutV (ps.map (·.1)) none (some (0 + (i : Int))) = (ps.take i).map (·.1) by rw [Int.zero_add, cut_to, List.map_take]]
      have xS2 := Ex.new (o := .lst ((ps.take i).map (·.1))) nS2
      refine ⟨p, S2, m, ps.take i, rfl, (exH.trans xS2).rd hm, mok, upd_same, fun q hq => fw (exH.trans xS2) q (List.mem_of_mem_take hq), by rw [List.length_take]; omega, fun r H3 e3 vr => ?_⟩
      have ex3 := (ex.trans xS2).trans e3
      have eD3 := e3 D _ (xS2 D _ eD)
      have dl : ds.length = i := by
        have := congrArg List.length es
        rw [List.length_map, List.length_map, List.length_range] at this
        exact this
      refine ⟨_, eD3, by rw [List.length_map, dl]; exact Nat.lt_of_lt_of_le (show i < 100 by omega) (by decide), ds ++ [(r, sumA m ((ps.take i).map (·.2)))], ex3.mut nD, by rw [upd_same, List.map_append]; rfl, by rw [List.map_append, es, List.range_succ, List.map_append]; rfl, fun q hq => ?_⟩
      rcases List.mem_append.mp hq with z | z
      · exact ((fd q z).ex (xS2.trans e3)).updL eD3
      · rw [List.mem_singleton.mp z]
        exact vr.updL eD3
    · obtain ⟨ds, ex, eD, es, fd⟩ := h
      have exH := e6.trans ex
      have same : told.map (·.2) = ds.map (·.2) := by
        rw [es, eps]
        rfl
      have lt : ∀ x ∈ told.map (·.2), m.has x ∧ x.lim 1900 := fun x hx => by
        rw [same, es] at hx
        obtain ⟨j, hj, rfl⟩ := List.mem_map.mp hx
        refine lims _ (fun y hy => ?_) (by rw [List.length_map, List.length_take]; omega)
        obtain ⟨c, hc, rfl⟩ := List.mem_map.mp hy
        obtain ⟨c1, c2, _⟩ := fact c (List.mem_of_mem_take hc)
        exact ⟨c1, c2.lim⟩
      have tl : (told.map (·.2)).length ≤ 100 := by show 5 ≤ 100; decide
      clear_value told
      obtain ⟨u1, u2, u3⟩ := shows_dList mok lt tl
      have eO1 := ex O _ eO
      have tv1 : ∀ q ∈ told, AmV H1 q.1 q.2 := fun q hq => (tv q hq).ex ex
      have d1 : Dp K H1 (.ref O) (dList (told.map (·.2))) := .lst (.inl (.inl eO1)) (dp_list (L := O) tv1)
      have d2 : Dp K H1 (.ref D) (dList (told.map (·.2))) := by rw [same]; exact .lst (.inl (.inl eD)) (dp_list (L := D) fd)
      generalize dList (told.map (·.2)) = dd at *
      refine ⟨_, rfl, _, dd, rfl, d1, u1, u2, u3, ?_⟩
      refine ⟨_, rfl, _, dd, rfl, d2, u1, u2, u3, ?_⟩
      generalize dd.shown = kept
      refine ⟨rfl, ?_⟩
      rw [decide_eq_true rfl]
      refine ⟨_, rfl, ?_⟩
      -- plus_all
      refine ⟨_, rfl, L, _, rfl, .inl (.inl (.inl (exH L _ eL))), _, _, rfl, rfl, ((ps.length + 1 : Nat) : Int), by rw [List.length_map, Int.natCast_add]; rfl, by omega, by omega, ?_⟩
      refine for_range (n := ps.length + 1) (fun i σ H' => ∃ y9 : Option V, σ = [some (.ref g), some (.ref p), some (.ref L), some q0.1, some q1.1, some q2.1, some q3.1, some (.ref O), some (.ref D), y9] ∧ Ex H H') ⟨_, rfl, exH⟩ (fun i σ H2 hi h => ?_) (fun σ H2 h => ?_)
      · obtain ⟨y9, rfl, ex2⟩ := h
        obtain ⟨dx, fs, ha, hn⟩ := (ex2.scl sa).no (x := "plus_all") (by decide +kernel) (by decide +kernel)
        refine ⟨_, rfl, g, dx, fs, rfl, ha, hn, _, rfl, _, rfl, _, rfl, L, _, rfl, .inl (.inl (ex2 L _ eL)), fun S2 nS2 => ?_⟩
        rw [show cutV (ps.map (·.1)) none (some (0 + (i : Int))) = (ps.take i).map (·.1) by rw [Int.zero_add, cut_to, List.map_take]]
        have xS2 := Ex.new (o := .lst ((ps.take i).map (·.1))) nS2
        refine ⟨S2, _, rfl, .inl (.inl upd_same), fun u ob nu hd => ?_⟩
        have xu := Ex.new (o := .frz ob (.tup ((ps.take i).map (·.1)))) nu
        have ex3 := (ex2.trans xS2).trans xu
        have lk : (ps.take i).length ≤ 6 := by rw [List.length_take]; omega
        refine ⟨g, u, m, 190, ps.take i, rfl, ex3.scl sa, mok, ⟨.inr ⟨ob, upd_same⟩, fun q hq => let ⟨a, b, c⟩ := fw ex3 q (List.mem_of_mem_take hq); ⟨a, b.lim, c⟩⟩, by decide, by decide, by omega, by omega, fun v H4 e4 vv => ?_⟩
        have ex4 := ex3.trans e4
        obtain ⟨w1, w2⟩ := lims ((ps.take i).map (·.2)) (fun y hy => by
          obtain ⟨c, hc, rfl⟩ := List.mem_map.mp hy
          obtain ⟨c1, c2, _⟩ := fact c (List.mem_of_mem_take hc)
          exact ⟨c1, c2.lim⟩) (by rw [List.length_map]; exact lk)
        obtain ⟨t1, t2, t3⟩ := shows_one mok w1 w2
        refine ⟨_, _, rfl, dp_am vv, t1, t2, t3, ?_⟩
        refine ⟨_, rfl, _, rfl, _, rfl, _, rfl, L, _, rfl, .inl (.inl (ex4 L _ eL)), fun S3 nS3 => ?_⟩
        rw [show cutV (ps.map (·.1)) none (some (0 + (i : Int))) = (ps.take i).map (·.1) by rw [Int.zero_add, cut_to, List.map_take]]
        have xS3 := Ex.new (o := .lst ((ps.take i).map (·.1))) nS3
        have ex5 := ex4.trans xS3
        refine ⟨p, S3, m, ps.take i, rfl, ex5.rd hm, mok, upd_same, fun q hq => fw ex5 q (List.mem_of_mem_take hq), by omega, fun r H6 e6 vr => ?_⟩
        refine ⟨_, _, rfl, dp_am vr, t1, t2, t3, ?_⟩
        refine ⟨rfl, ?_⟩
        rw [decide_eq_true rfl]
        exact ⟨_, rfl, _, rfl, ex5.trans e6⟩
      · obtain ⟨y9, rfl, ex2⟩ := h
        exact q _ ex2
def spPairsL (C : Addr) : Sp := fun vs H Q _ => ∃ (g p : Addr) (m : Ms) (v u : V) (x y : Am), vs = [.ref g, .ref p, v, u] ∧ SclAt H g C m ∧ MsV H p m ∧ m.ok ∧ m.has x ∧ m.has y ∧ x.near ∧ y.near ∧ AmV H v x ∧ AmV H u y ∧ ∀ H', Ex H H' → Q (.bl true) H'
theorem ok_pairsL {f : Addr} {fd : FuncData} (F : Fun K "_law_pairs_right" "_law_pairs_right" sPairsL f fd) (T : Blt mg) (Z : ClsK K C) (Pq : DfG P w K mg base 2 "_law_plus" ["_law_measure", "_law_one", "_law_other"] spPlusL) (Mq : DfG P w K mg base 2 "_law_minus" ["_law_measure", "_law_one", "_law_other"] spMinusL) (Zq : DfG P w K mg base 1 "_law_zero" ["_law_measure"] spZeroL)
    (Mi : Dm P w K mg base C 6 "minus" ["self", "amount", "other"] (spMinus C)) (Ne : Dm P w K mg base C 6 "negative" ["self", "amount"] (spNegM C)) (Tw : Dm P w K mg base C 6 "twice" ["self", "amount"] (spTwice C)) : FnG P w K mg base CX0 7 f fd ["_law_meter", "_law_measure", "_law_one", "_law_other"] (spPairsL C) := by
  refine okG F scPairsL (fun vs H Q E h => ?_) (fun cdv A0 outer s H vs Q E hr h => ?_)
  · obtain ⟨g, p, m, v, u, x, y, rfl, _⟩ := h
    rfl
  · obtain ⟨g, p, m, v, u, x, y, rfl, sa, hm, mok, hx, hy, nx, ny, vx, uy, q⟩ := h
    have nd := scPairsL.nd
    have r1 := hr.mono (show 1 ≤ 6 by decide)
    have r2 := hr.mono (show 2 ≤ 6 by decide)
    have r6 := hr.mono (show 6 ≤ 6 by decide)
    refine ⟨_, pss_cons (ps_set (i := 4) nd rfl (.inl rfl) (pe_lst (pa_cons (pe_meth (pv 0) Z.cls Mi.at_ Mi.G r6.rm Mi.b .nil pass0 (pa_cons (pv 2) (pa_cons (pv 3) pa_nil))) (pa_cons (pe_meth (pv 0) Z.cls Mi.at_ Mi.G r6.rm Mi.b .nil pass0 (pa_cons (pv 3) (pa_cons (pv 2) pa_nil))) (pa_cons (pe_meth (pv 0) Z.cls Ne.at_ Ne.G r6.rm Ne.b .nil pass0 (pa_cons (pv 2) pa_nil)) (pa_cons (pe_meth (pv 0) Z.cls Tw.at_ Tw.G r6.rm Tw.b .nil pass0 (pa_cons (pv 2) pa_nil)) pa_nil))))))
      (pss_cons (ps_set (i := 5) nd rfl (.inl rfl) (pe_lst (pa_cons (pe_callG Mq.G r2 (by rfl) Mq.g Mq.kp Mq.b .nil pass0 (pa_cons (pv 1) (pa_cons (pv 2) (pa_cons (pv 3) pa_nil)))) (pa_cons (pe_callG Mq.G r2 (by rfl) Mq.g Mq.kp Mq.b .nil pass0 (pa_cons (pv 1) (pa_cons (pv 3) (pa_cons (pv 2) pa_nil)))) pa_nil))))
      (pss_cons (ps_set (i := 5) nd rfl (.inl rfl) (pe_op op_cat (pv 5) (pe_lst (pa_cons (pe_callG Mq.G r2 (by rfl) Mq.g Mq.kp Mq.b .nil pass0 (pa_cons (pv 1) (pa_cons (pe_callG Zq.G r1 (by rfl) Zq.g Zq.kp Zq.b .nil pass0 (pa_cons (pv 1) pa_nil)) (pa_cons (pv 2) pa_nil)))) (pa_cons (pe_callG Pq.G r2 (by rfl) Pq.g Pq.kp Pq.b .nil pass0 (pa_cons (pv 1) (pa_cons (pv 2) (pa_cons (pv 2) pa_nil)))) pa_nil)))))
      (pss_one (ps_ret (pe_cmpR op_eq (pe_callB (call_reprD hr) (by rfl) T.repr (by decide +kernel) (pa_cons (pv 4) pa_nil)) (pe_callB (call_reprD hr) (by rfl) T.repr (by decide +kernel) (pa_cons (pv 5) pa_nil)) (nomark _)))))), ?_⟩
    have no : ∀ {H1 : Hp} (t : Str), Ex H H1 → t ≠ ("_word" : Str) → t ≠ ("_size" : Str) → ∃ dx fs, H1 g = some (.ins C dx fs) ∧ fs.lookup t = none := fun t e h1 h2 => (e.scl sa).no h1 h2
    have e0 := Ex.refl H
    obtain ⟨dx, fs, ha, hn⟩ := no "minus" e0 (by decide +kernel) (by decide +kernel)
    refine ⟨_, rfl, g, dx, fs, rfl, ha, hn, _, rfl, _, rfl, g, m, 190, v, u, x, y, rfl, e0.scl sa, mok, by decide, by decide, hx, hy, nx.lim, ny.lim, vx.ex e0, uy.ex e0, fun z1 H1 e1 a1 => ?_⟩
    obtain ⟨dx, fs, ha, hn⟩ := no "minus" e1 (by decide +kernel) (by decide +kernel)
    refine ⟨_, rfl, g, dx, fs, rfl, ha, hn, _, rfl, _, rfl, g, m, 190, u, v, y, x, rfl, e1.scl sa, mok, by decide, by decide, hy, hx, ny.lim, nx.lim, uy.ex e1, vx.ex e1, fun z2 H2 f2 a2 => ?_⟩
    have e2 := e1.trans f2
    obtain ⟨dx, fs, ha, hn⟩ := no "negative" e2 (by decide +kernel) (by decide +kernel)
    refine ⟨_, rfl, g, dx, fs, rfl, ha, hn, _, rfl, g, m, 190, v, x, rfl, e2.scl sa, mok, by decide, hx, nx.lim, vx.ex e2, fun z3 H3 f3 a3 => ?_⟩
    have e3 := e2.trans f3
    obtain ⟨dx, fs, ha, hn⟩ := no "twice" e3 (by decide +kernel) (by decide +kernel)
    refine ⟨_, rfl, g, dx, fs, rfl, ha, hn, _, rfl, g, m, 190, v, x, rfl, e3.scl sa, mok, by decide, by decide, hx, nx.lim, vx.ex e3, fun z4 H4 f4 a4 => ⟨by show 4 ≤ sizeLine; decide, fun O nO => ?_⟩⟩
    have xO := Ex.new (o := .lst [z1, z2, z3, z4]) nO
    have e5 := (e3.trans f4).trans xO
    -- due
    refine ⟨_, rfl, _, rfl, _, rfl, p, m, 190, 190, v, u, x, y, rfl, e5.rd hm, mok, by decide, by decide, by decide, hx, hy, nx.lim, ny.lim, vx.ex e5, uy.ex e5, fun w1 H6 f6 b1 => ?_⟩
    have e6 := e5.trans f6
    refine ⟨_, rfl, _, rfl, _, rfl, p, m, 190, 190, u, v, y, x, rfl, e6.rd hm, mok, by decide, by decide, by decide, hy, hx, ny.lim, nx.lim, uy.ex e6, vx.ex e6, fun w2 H7 f7 b2 => ⟨by show 2 ≤ sizeLine; decide, fun U nU => ?_⟩⟩
    have xU := Ex.new (o := .lst [w1, w2]) nU
    have e8 := (e6.trans f7).trans xU
    refine ⟨_, rfl, _, rfl, _, rfl, p, m, rfl, e8.rd hm, mok, fun z H9 f9 vz => ?_⟩
    have e9 := e8.trans f9
    refine ⟨_, rfl, p, m, 1, 190, z, v, m.zero, x, rfl, e9.rd hm, mok, by decide, by decide, by decide, m.zero_has, hx, zero_lim m (by decide), nx.lim, vz, vx.ex e9, fun w3 H10 f10 b3 => ?_⟩
    have e10 := e9.trans f10
    refine ⟨_, rfl, _, rfl, _, rfl, p, m, 190, 190, v, v, x, x, rfl, e10.rd hm, mok, by decide, by decide, by decide, hx, hx, nx.lim, nx.lim, vx.ex e10, vx.ex e10, fun w4 H11 f11 b4 => ⟨by show 2 ≤ sizeLine; decide, fun W nW => ?_⟩⟩
    have xW := Ex.new (o := .lst [w3, w4]) nW
    have sU := (f9.trans (f10.trans (f11.trans xW))) U _ upd_same
    refine ⟨U, W, _, _, rfl, rfl, sU, upd_same, by show 4 ≤ sizeLine; decide, fun B nB => ?_⟩
    have xB := Ex.new (o := .lst ([w1, w2] ++ [w3, w4])) nB
    rw [neg_is hx] at b3
    let xs : List Am := [x.sub y, y.sub x, x.neg, x.add x]
    have lx : ∀ a ∈ xs, m.has a ∧ a.lim 1900 := fun a ha => by
      rcases List.mem_cons.mp ha with rfl | ha
      · exact ⟨sub_has hx hy, (sub_lim (by decide) (by decide) hx hy nx.lim ny.lim).mono (by decide)⟩
      rcases List.mem_cons.mp ha with rfl | ha
      · exact ⟨sub_has hy hx, (sub_lim (by decide) (by decide) hy hx ny.lim nx.lim).mono (by decide)⟩
      rcases List.mem_cons.mp ha with rfl | ha
      · exact ⟨neg_has hx, (neg_lim nx.lim).mono (by decide)⟩
      rw [List.mem_singleton.mp ha]
      exact ⟨add_has hx hx, (add_lim (by decide) (by decide) hx hx nx.lim nx.lim).mono (by decide)⟩
    obtain ⟨u1, u2, u3⟩ := shows_dList mok lx (by show 4 ≤ 100; decide)
    have t1 := f6.trans (f7.trans (xU.trans (f9.trans (f10.trans (f11.trans (xW.trans xB))))))
    have t2 := xO.trans t1
    refine ⟨_, rfl, _, dList xs, rfl, .lst (.inl (.inl (t1 O _ upd_same))) (.cons (dp_am (a1.ex (f2.trans (f3.trans (f4.trans t2))))) (.cons (dp_am (a2.ex (f3.trans (f4.trans t2)))) (.cons (dp_am (a3.ex (f4.trans t2))) (.cons (dp_am (a4.ex t2)) .nil)))), u1, u2, u3, ?_⟩
    have t3 := f9.trans (f10.trans (f11.trans (xW.trans xB)))
    refine ⟨_, rfl, _, dList xs, rfl, .lst (.inl (.inl upd_same)) (.cons (dp_am (b1.ex (f7.trans (xU.trans t3)))) (.cons (dp_am (b2.ex (xU.trans t3))) (.cons (dp_am (b3.ex (f11.trans (xW.trans xB)))) (.cons (dp_am (b4.ex (xW.trans xB))) .nil)))), u1, u2, u3, ?_⟩
    refine ⟨rfl, ?_⟩
    rw [decide_eq_true rfl]
    exact q _ ((e10.trans f11).trans (xW.trans xB))
end
end Gl

set_option exponentiation.threshold 10000
namespace Gl
open PySem PySem.Spec PyProof.Rows L2 ClX RZ
abbrev sLaw : Stmt := topS 32
theorem scLaw : FnScope ["_law_script", "_law_at", "_law_dice_here", "_law_turn", "_law_measure", "_law_meter", "_law_amounts", "_law_kept", "_law_one", "_law_told", "_law_many"] ["_law_script"] (defScope sLaw) := ⟨rfl, rfl, rfl, by decide +kernel, rfl, by decide +kernel, by decide +kernel⟩
def od (a b : Nat) (h : Low a b) : Am := .o ⟨(a, b), h⟩
theorem l31 : Low 3 1 := ⟨by decide, by decide, by decide⟩
theorem l21 : Low 2 1 := ⟨by decide, by decide, by decide⟩
theorem l23 : Low 2 3 := ⟨by decide, by decide, by decide⟩
theorem l32 : Low 3 2 := ⟨by decide, by decide, by decide⟩
theorem l11 : Low 1 1 := ⟨by decide, by decide, by decide⟩
theorem l49 : Low 4 9 := ⟨by decide, by decide, by decide⟩
def big50 : Int := (10 : Int) ^ (50 : Int).toNat
theorem big50_lt : big50.natAbs < 2 ^ 190 := by unfold big50; decide +kernel
theorem cpw50 : CPw 10 50 := ⟨by decide, by decide +kernel⟩
def tolds : List Am := [sumA (.classes 2) [.c [1, 0], .c [0, 3]], (od 3 1 l31).sub (od 2 1 l21), sumA .odds [od 2 3 l23, od 3 2 l32], (od 2 3 l23).add (od 2 3 l23), (Am.c [4]).neg, sumA .sums [.n big50, .n (0 - big50)]]
def dues : List Am := [.c [1, 3], od 3 2 l32, od 1 1 l11, od 4 9 l49, .c [-4], .n 0]
theorem tolds_dues : tolds = dues := by
  have h : sumA .sums [.n big50, .n (0 - big50)] = .n 0 := by
    show Am.n ((0 + big50) + (0 - big50)) = _
    congr 1
  unfold tolds
  rw [h]
  decide +kernel
theorem eqv_self : ∀ x : Am, PyData.eqv x.data x.data = true
  | .n i => by show PyData.eqv (.int i) (.int i) = _; rw [eqv_int]; exact decide_eq_true rfl
  | .c ns => by show PyData.eqv (.tuple _) (.tuple _) = _; simp only [PyData.eqv]; rw [eqv_ints]; exact decide_eq_true rfl
  | .o x => by
    show PyData.eqv (.tuple ([((x.1.1 : Nat) : Int), ((x.1.2 : Nat) : Int)].map PyData.int)) (.tuple ([((x.1.1 : Nat) : Int), ((x.1.2 : Nat) : Int)].map PyData.int)) = _
    simp only [PyData.eqv]
    rw [eqv_ints]
    exact decide_eq_true rfl
theorem eqv_list : ∀ xs : List Am, PyData.eqvAll (xs.map Am.data) (xs.map Am.data) = true
  | [] => by simp only [List.map_nil, PyData.eqvAll]
  | x :: xs => by simp only [List.map_cons, PyData.eqvAll]; rw [eqv_self, eqv_list xs]; rfl
theorem lay_list : ∀ xs : List Am, PyData.canLayAll0 (xs.map Am.data) = true
  | [] => by simp only [List.map_nil, PyData.canLayAll0]
  | x :: xs => by simp only [List.map_cons, PyData.canLayAll0, x.lay, lay_list xs, Bool.and_self]
theorem dep_list : ∀ xs : List Am, PyData.depthAll (xs.map Am.data) ≤ 1
  | [] => by simp only [List.map_nil, PyData.depthAll]; exact Nat.zero_le _
  | x :: xs => by
    simp only [List.map_cons, PyData.depthAll]
    exact Nat.max_le.mpr ⟨x.dep, dep_list xs⟩
theorem shaped_list (xs : List Am) : SeqAt.shaped (dList xs) = true := shaped_of (by simp only [dList, PyData.canLay0, lay_list]) (by simp only [dList, PyData.depth]; have := dep_list xs; omega)
theorem eqv_dList (xs : List Am) : PyData.eqv (dList xs) (dList xs) = true := by simp only [dList, PyData.eqv]; exact eqv_list xs
theorem lim_c {ns : List Int} (h : (ns.all fun n => decide (n.natAbs < 2 ^ 10)) = true) : (Am.c ns).lim 10 := fun n hn => of_decide_eq_true (List.all_eq_true.mp h n hn)
theorem lim_o {a b : Nat} {h : Low a b} (x : a ≤ 9) (y : b ≤ 9) : (od a b h).lim 10 := ⟨Nat.lt_of_le_of_lt x (by decide), Nat.lt_of_le_of_lt y (by decide)⟩
theorem mem2 {α : Type} {p : α → Prop} {a b : α} (h1 : p a) (h2 : p b) : ∀ q ∈ [a, b], p q := fun q hq => by
  rcases List.mem_cons.mp hq with rfl | hq
  · exact h1
  · rw [List.mem_singleton.mp hq]; exact h2
/-! the long product -/
def wA : Odds := ⟨(1000000, 999999), by decide, by decide, by decide +kernel⟩
def wB : Odds := ⟨(999999, 999998), by decide, by decide, by decide +kernel⟩
def many : List Odds := (List.replicate 100 [wA, wB]).flatten
def T1 : Nat := 500000 ^ 100
def T2 : Nat := 499999 ^ 100
theorem lT : Low T1 T2 := ⟨by decide +kernel, by decide +kernel, by decide +kernel⟩
theorem many_sum : sumA .odds (many.map Am.o) = od T1 T2 lT := by
  show (many.map Am.o).foldl Am.add (.o one1) = _
  rw [sum_o many one1 (by show 0 < 1 * _; rw [Nat.one_mul]; exact tops_pos _) (by show 0 < 1 * _; rw [Nat.one_mul]; exact bots_pos _)]
  unfold od
  exact congrArg Am.o (red_of _ _ (x := ⟨(T1, T2), lT⟩) (by decide +kernel)).symm
theorem q1 : ((500000 : Int) ^ (50 : Int).toNat) ^ (2 : Int).toNat = (T1 : Nat) := by decide +kernel
theorem q2 : ((499999 : Int) ^ (50 : Int).toNat) ^ (2 : Int).toNat = (T2 : Nat) := by decide +kernel
theorem cpa : CPw 500000 50 := ⟨by decide, by decide +kernel⟩
theorem cpb : CPw ((500000 : Int) ^ (50 : Int).toNat) 2 := ⟨by decide, by decide +kernel⟩
theorem cpc : CPw 499999 50 := ⟨by decide, by decide +kernel⟩
theorem cpd : CPw ((499999 : Int) ^ (50 : Int).toNat) 2 := ⟨by decide, by decide +kernel⟩
def manyP (t1 t2 : Addr) : List (V × Am) := (List.replicate 100 [(V.ref t1, Am.o wA), (V.ref t2, Am.o wB)]).flatten
theorem manyP1 (t1 t2 : Addr) : (manyP t1 t2).map (·.1) = (List.replicate 100 [V.ref t1, V.ref t2]).flatten := by unfold manyP; rw [List.map_flatten, List.map_replicate]; rfl
theorem manyP2 (t1 t2 : Addr) : (manyP t1 t2).map (·.2) = many.map Am.o := by unfold manyP many; rw [List.map_flatten, List.map_flatten, List.map_replicate, List.map_replicate]; rfl
theorem manyP3 (t1 t2 : Addr) : (manyP t1 t2).length = 200 := by unfold manyP; simp
theorem manyP_mem {t1 t2 : Addr} {q : V × Am} (h : q ∈ manyP t1 t2) : q = (V.ref t1, Am.o wA) ∨ q = (V.ref t2, Am.o wB) := by
  unfold manyP at h
  obtain ⟨l, hl, hq⟩ := List.mem_flatten.mp h
  rw [(List.mem_replicate.mp hl).2] at hq
  rcases List.mem_cons.mp hq with rfl | hq
  · exact .inl rfl
  · exact .inr (List.mem_singleton.mp hq)
theorem Gro.toEx {p : Addr} {H H1 H2 : Hp} (e : Ex H H1) (n : H p = none) (g : Gro p H1 H2) : Ex H H2 := fun b o h => g.st b o (ne_of_none h n) (e b o h)
theorem Gro.scl {a g C : Addr} {m : Ms} {H H' : Hp} (gr : Gro a H H') (di : Dice H a) (h : SclAt H g C m) : SclAt H' g C m := by
  obtain ⟨dx, fs, h1, h2⟩ := h
  obtain ⟨i, j, l, hd⟩ := di
  exact ⟨dx, fs, gr.st _ _ (fun e => by rw [e, hd] at h1; exact nomatch h1) h1, h2⟩
section
variable {P : Program} {w : World} {K : PySem.W.Frag} {mg : Str → Option Value} {base : Heap} {C : Addr} {mc : Value}
def spLaw (K : PySem.W.Frag) : Sp := fun vs H Q _ => ∃ (a : Addr) (ns : List Int), vs = [.ref a] ∧ SqL K H a (ns.map V.int) ∧ ns.length ≤ 63 ∧ ∀ H', Q (.bl true) H'
theorem ok_law {f : Addr} {fd : FuncData} (F : Fun K "law" "law" sLaw f fd) (T : Blt mg) (Z : ClsK K C) (gC : mg "Scale" = some (.ref C)) (rd : CRead K C mc) (Di : DfG P w K mg base 1 "_law_dice" ["_law_script", "_law_at"] (spDice K)) (Pk : DfG P w K mg base 2 "_law_pick" ["_law_dice_here", "_law_items"] spPick)
    (Sc : DfG P w K mg base 2 "_law_scale" ["_law_dice_here"] spScaleL) (Md : DfG P w K mg base 4 "_law_made" ["_law_measure"] (spMadeL C)) (So : DfG P w K mg base 3 "_law_some_amounts" ["_law_dice_here", "_law_measure"] spSomeA)
    (Sr : DfG P w K mg base 8 "_law_sums_right" ["_law_meter", "_law_measure", "_law_amounts"] (spSumsL C)) (Pr : DfG P w K mg base 7 "_law_pairs_right" ["_law_meter", "_law_measure", "_law_one", "_law_other"] (spPairsL C))
    (Cs : Sm P w K mg base C mc 3 "classes" ["size"] (spClasses C)) (Ss : Sm P w K mg base C mc 3 "sums" [] (spNew C .sums)) (Os : Sm P w K mg base C mc 3 "odds" [] (spNew C .odds))
    (Pm : DmR P w K mg base C 7 "plus" (spPlus C)) (Pl : Dm P w K mg base C 6 "plus_all" ["self", "amounts"] (spPlusAll C))
    (Mi : Dm P w K mg base C 6 "minus" ["self", "amount", "other"] (spMinus C)) (Ne : Dm P w K mg base C 6 "negative" ["self", "amount"] (spNegM C)) (Tw : Dm P w K mg base C 6 "twice" ["self", "amount"] (spTwice C)) : FnG P w K mg base CX0 9 f fd ["_law_script"] (spLaw K) := by
  refine okG F scLaw (fun vs H Q E h => ?_) (fun cdv A0 outer s H vs Q E hr h => ?_)
  · obtain ⟨a, ns, rfl, _⟩ := h
    rfl
  · obtain ⟨a, ns, rfl, hS, hl, k⟩ := h
    have nd := scLaw.nd
    have hu : (A0.deeper (envOfC "law" (defScope sLaw) s.heap.objs.size f cdv)).units + 64 < cLine := by have := hr.rm.un; omega
    have r1 := hr.mono (show 1 ≤ 8 by decide)
    have r2 := hr.mono (show 2 ≤ 8 by decide)
    have r3 := hr.mono (show 3 ≤ 8 by decide)
    have r4 := hr.mono (show 4 ≤ 8 by decide)
    have r6 := hr.mono (show 6 ≤ 8 by decide)
    have r7 := hr.mono (show 7 ≤ 8 by decide)
    have r8 := hr.mono (show 8 ≤ 8 by decide)
    refine ⟨_, pss_cons (ps_for PassesOwn.never rfl (pi_range1 rfl T.range (pa_cons (pe_callB (call_max2 rfl) (by rfl) T.max (by decide +kernel) (pa_cons pe_int (pa_cons (pe_callB (call_min2 rfl) (by rfl) T.min (by decide +kernel) (pa_cons pe_int (pa_cons (pe_callB call_len_seq (by rfl) T.len PySem.boot_len (pa_cons (pv 0) pa_nil)) pa_nil))) pa_nil))) pa_nil)) (pg_name (i := 1) nd rfl (.inl rfl))
        (pss_cons (ps_set (i := 2) nd rfl (.inl rfl) (pe_callG Di.G r1 (by rfl) Di.g Di.kp Di.b .nil pass0 (pa_cons (pv 0) (pa_cons (pv 1) pa_nil))))
        (pss_one (ps_for PassesOwn.never rfl (pi_range1 rfl T.range (pa_cons pe_int pa_nil)) (pg_name (i := 3) nd rfl (.inl rfl))
          (pss_cons (ps_set (i := 4) nd rfl (.inl rfl) (pe_callG Sc.G r2 (by rfl) Sc.g Sc.kp Sc.b .nil pass0 (pa_cons (pv 2) pa_nil)))
          (pss_cons (ps_par (i := 5) (j := 6) rfl nd rfl rfl (by decide) rfl rfl (pa_cons (pe_callG Md.G r4 (by rfl) Md.g Md.kp Md.b .nil pass0 (pa_cons (pv 4) pa_nil)) (pa_cons (pe_callG So.G r3 (by rfl) So.g So.kp So.b .nil pass0 (pa_cons (pv 2) (pa_cons (pv 4) pa_nil))) pa_nil)) (by rfl))
          (pss_cons (ps_set (i := 7) nd rfl (.inl rfl) (pe_callB (call_reprD hr) (by rfl) T.repr (by decide +kernel) (pa_cons (pv 6) pa_nil)))
          (pss_cons (ps_if (pt_not (pt_val (pe_callG Sr.G r8 (by rfl) Sr.g Sr.kp Sr.b .nil pass0 (pa_cons (pv 5) (pa_cons (pv 4) (pa_cons (pv 6) pa_nil)))))) pss_never pss_nil)
          (pss_cons (ps_for PassesOwn.never rfl (pi_list (pv 6)) (pg_name (i := 8) nd rfl (.inl rfl))
            (pss_one (ps_if (pt_not (pt_val (pe_callG Pr.G r7 (by rfl) Pr.g Pr.kp Pr.b .nil pass0 (pa_cons (pv 5) (pa_cons (pv 4) (pa_cons (pv 8) (pa_cons (pe_callG Pk.G r2 (by rfl) Pk.g Pk.kp Pk.b .nil pass0 (pa_cons (pv 2) (pa_cons (pv 6) pa_nil))) pa_nil))))))) pss_never pss_nil)))
          (pss_one (ps_if (pt_cmpR op_ne (pe_callB (call_reprD hr) (by rfl) T.repr (by decide +kernel) (pa_cons (pv 6) pa_nil)) (pv 7) (nomark _)) pss_never pss_nil)))))))))))
      (pss_cons (ps_set (i := 9) nd rfl (.inl rfl) (pe_lst (pa_cons (pe_methR (pe_smeth (pe_glob (v := .ref C) (by rfl) gC rfl) rd Cs.at_ Cs.G r3.rm Cs.b .nil pass0 (pa_cons pe_int pa_nil)) Z.cls Pm.at_ Pm.G r7.rm pass0 (pa_cons (pe_tup (pa_cons pe_int (pa_cons pe_int pa_nil))) (pa_cons (pe_tup (pa_cons pe_int (pa_cons pe_int pa_nil))) pa_nil))) (pa_cons (pe_meth (pe_smeth0 (pe_glob (v := .ref C) (by rfl) gC rfl) rd Os.at_ Os.G r3.rm Os.b .nil pass0) Z.cls Mi.at_ Mi.G r6.rm Mi.b .nil pass0 (pa_cons (pe_tup (pa_cons pe_int (pa_cons pe_int pa_nil))) (pa_cons (pe_tup (pa_cons pe_int (pa_cons pe_int pa_nil))) pa_nil))) pa_nil))))
      (pss_cons (ps_set (i := 9) nd rfl (.inl rfl) (pe_op op_cat (pv 9) (pe_lst (pa_cons (pe_methR (pe_smeth0 (pe_glob (v := .ref C) (by rfl) gC rfl) rd Os.at_ Os.G r3.rm Os.b .nil pass0) Z.cls Pm.at_ Pm.G r7.rm pass0 (pa_cons (pe_tup (pa_cons pe_int (pa_cons pe_int pa_nil))) (pa_cons (pe_tup (pa_cons pe_int (pa_cons pe_int pa_nil))) pa_nil))) (pa_cons (pe_meth (pe_smeth0 (pe_glob (v := .ref C) (by rfl) gC rfl) rd Os.at_ Os.G r3.rm Os.b .nil pass0) Z.cls Tw.at_ Tw.G r6.rm Tw.b .nil pass0 (pa_cons (pe_tup (pa_cons pe_int (pa_cons pe_int pa_nil))) pa_nil)) pa_nil)))))
      (pss_cons (ps_set (i := 9) nd rfl (.inl rfl) (pe_op op_cat (pv 9) (pe_lst (pa_cons (pe_meth (pe_smeth (pe_glob (v := .ref C) (by rfl) gC rfl) rd Cs.at_ Cs.G r3.rm Cs.b .nil pass0 (pa_cons pe_int pa_nil)) Z.cls Ne.at_ Ne.G r6.rm Ne.b .nil pass0 (pa_cons (pe_tup (pa_cons pe_int pa_nil)) pa_nil)) (pa_cons (pe_methR (pe_smeth0 (pe_glob (v := .ref C) (by rfl) gC rfl) rd Ss.at_ Ss.G r3.rm Ss.b .nil pass0) Z.cls Pm.at_ Pm.G r7.rm pass0 (pa_cons (pe_op op_powW pe_int pe_int) (pa_cons (pe_op op_sub pe_int (pe_op op_powW pe_int pe_int)) pa_nil))) pa_nil)))))
      (pss_cons (ps_if (pt_cmpR (op_neD hu) (pv 9) (pe_lst (pa_cons (pe_tup (pa_cons pe_int (pa_cons pe_int pa_nil))) (pa_cons (pe_tup (pa_cons pe_int (pa_cons pe_int pa_nil))) (pa_cons (pe_tup (pa_cons pe_int (pa_cons pe_int pa_nil))) (pa_cons (pe_tup (pa_cons pe_int (pa_cons pe_int pa_nil))) (pa_cons (pe_tup (pa_cons (pe_un un_neg pe_int) pa_nil)) (pa_cons pe_int pa_nil))))))) (nomark _)) pss_never pss_nil)
      (pss_cons (ps_set (i := 10) nd rfl (.inl rfl) (pe_callTy call_tupleF (by rfl) T.tuple (by decide +kernel) (pa_cons (pe_op op_rep (pe_lst (pa_cons (pe_tup (pa_cons pe_int (pa_cons pe_int pa_nil))) (pa_cons (pe_tup (pa_cons pe_int (pa_cons pe_int pa_nil))) pa_nil))) pe_int) pa_nil)))
      (pss_one (ps_ret (pe_cmpR (op_eqD hu) (pe_meth (pe_smeth0 (pe_glob (v := .ref C) (by rfl) gC rfl) rd Os.at_ Os.G r3.rm Os.b .nil pass0) Z.cls Pl.at_ Pl.G r6.rm Pl.b .nil pass0 (pa_cons (pv 10) pa_nil)) (pe_tup (pa_cons (pe_op op_powW (pe_op op_powW pe_int pe_int) pe_int) (pa_cons (pe_op op_powW (pe_op op_powW pe_int pe_int) pe_int) pa_nil))) (nomark _))))))))), ?_⟩
    refine ⟨_, rfl, a, _, rfl, .inl hS, _, _, rfl, _, _, rfl, _, rfl, ?_, ?_, ?_⟩
    · split <;> split <;> omega
    · split <;> split <;> (try rw [List.length_map] at *) <;> omega
    refine for_range (fun i σ H' => ∃ y1 y2 y3 y4 y5 y6 y7 y8 : Option V, σ = [some (.ref a), y1, y2, y3, y4, y5, y6, y7, y8, none, none] ∧ Ex H H') ⟨none, none, none, none, none, none, none, none, rfl, Ex.refl H⟩ (fun i σ H1 hi h => ?_) (fun σ H1 h => ?_)
    · obtain ⟨y1, y2, y3, y4, y5, y6, y7, y8, rfl, e1⟩ := h
      refine ⟨_, rfl, _, rfl, a, ns, i, by rw [Int.zero_add]; rfl, e1.sqL hS, hl, fun H2 p e2 np dp => ?_⟩
      refine ⟨2, rfl, by decide, by decide, ?_⟩
      refine for_range (n := 2) (fun j σ H' => ∃ y3 y4 y5 y6 y7 y8 : Option V, σ = [some (.ref a), some (.int (0 + (i : Int))), some (.ref p), y3, y4, y5, y6, y7, y8, none, none] ∧ Ex H1 H' ∧ Dice H' p) ⟨y3, y4, y5, y6, y7, y8, rfl, e2, dp⟩ (fun j σ H3 hj h => ?_) (fun σ H3 h => ?_)
      · obtain ⟨y3, y4, y5, y6, y7, y8, rfl, e3, d3⟩ := h
        refine ⟨_, rfl, p, rfl, d3, fun m b H4 mok g4 hm => ?_⟩
        refine ⟨_, rfl, b, m, rfl, hm, mok, fun g H5 e5 ng sa => ?_⟩
        have g5 := g4.ex e5
        refine ⟨_, rfl, _, rfl, p, b, m, rfl, g5.di, e5.rd hm, mok, fun L H6 ps g6 nL eL l4 l6 fact => ⟨_, _, rfl, ?_⟩⟩
        have d5 := g5.di
        have sa6 := g6.scl d5 sa
        have hm6 := g6.msV d5 (e5.rd hm)
        have La : L ≠ p := d5.ne nL
        have lt : ∀ x ∈ ps.map (·.2), m.has x ∧ x.lim 1900 := fun x hx => by
          obtain ⟨c, hc, rfl⟩ := List.mem_map.mp hx
          obtain ⟨c1, c2, _⟩ := fact c hc
          exact ⟨c1, c2.lim.mono (by decide)⟩
        obtain ⟨u1, u2, u3⟩ := shows_dList mok lt (by rw [List.length_map]; omega)
        have dAll : ∀ {H' : Hp}, H' L = some (.lst (ps.map (·.1))) → (∀ q ∈ ps, AmV H' q.1 q.2) → Dp K H' (.ref L) (dList (ps.map (·.2))) := fun e f => .lst (.inl (.inl e)) (dp_list (L := L) f)
        generalize dList (ps.map (·.2)) = dd at *
        refine ⟨_, rfl, _, dd, rfl, dAll eL fun q hq => (fact q hq).2.2, u1, u2, u3, ?_⟩
        generalize hk : dd.shown = kept
        refine ⟨_, rfl, _, rfl, _, rfl, g, b, L, m, ps, rfl, sa6, hm6, mok, eL, fact, l4, l6, fun H7 e7 => ⟨true, rfl, ?_⟩⟩
        have d6 := g6.di
        have g7 : Gro p H6 H7 := Gro.of e7 d6
        refine ⟨_, rfl, L, rfl, ⟨_, .inl (.inl (e7 L _ eL))⟩, ?_⟩
        refine for_list (xs := ps.map (·.1)) (fun n σ H' => ∃ y8 : Option V, σ = [some (.ref a), some (.int (0 + (i : Int))), some (.ref p), some (.int (0 + (j : Int))), some (.ref b), some (.ref g), some (.ref L), some (.str kept), y8, none, none] ∧ Gro p H6 H') ⟨_, rfl, g7⟩ (fun n σ H' _ h => ?_) (fun n x σ H8 hx h => ?_) (fun σ H8 h => ?_)
        · obtain ⟨y8, rfl, gg⟩ := h
          exact .inl (.inl (gg.st L _ La eL))
        · obtain ⟨y8, rfl, gg⟩ := h
          rw [List.getElem?_map] at hx
          obtain ⟨c, hc, rfl⟩ := Option.map_eq_some_iff.mp hx
          obtain ⟨c1, c2, c3⟩ := fact c (List.mem_of_getElem? hc)
          have ne : ps.map (·.1) ≠ [] := fun z => by
            have := congrArg List.length z
            rw [List.length_map] at this
            simp at this
            rw [this] at l4
            simp at l4
          refine ⟨_, rfl, _, rfl, _, rfl, _, rfl, _, rfl, p, L, _, rfl, gg.st L _ La eL, La, ne, by rw [List.length_map]; omega, gg.di, fun v H9 hv g9 => ?_⟩
          obtain ⟨z, hz, rfl⟩ := List.mem_map.mp hv
          obtain ⟨z1, z2, z3⟩ := fact z hz
          have gA := gg.trans g9
          refine ⟨g, b, m, c.1, z.1, c.2, z.2, rfl, gA.scl d6 sa6, gA.msV d6 hm6, mok, c1, z1, c2, z2, c3.gro gA d6, z3.gro gA d6, fun H10 e10 => ⟨true, rfl, _, rfl, gA.ex e10⟩⟩
        · obtain ⟨y8, rfl, gg⟩ := h
          refine ⟨_, rfl, _, dd, rfl, dAll (gg.st L _ La eL) fun q hq => (fact q hq).2.2.gro gg d6, u1, u2, u3, _, rfl, rfl, ?_⟩
          rw [hk, decide_eq_true rfl]
          refine ⟨_, rfl, _, _, _, _, _, _, rfl, ?_, gg.di⟩
          exact Gro.toEx e3 np (((g4.ex e5).trans g6).trans gg)
      · obtain ⟨y3, y4, y5, y6, y7, y8, rfl, e3, d3⟩ := h
        exact ⟨_, _, _, _, _, _, _, _, rfl, e1.trans e3⟩
    · obtain ⟨y1, y2, y3, y4, y5, y6, y7, y8, rfl, e1⟩ := h
      have s1 : 1 ≤ sizeLine := by decide
      have s2 : 2 ≤ sizeLine := by decide
      have c2 : (Ms.classes 2).ok := ⟨by decide, by decide⟩
      have c1 : (Ms.classes 1).ok := ⟨by decide, by decide⟩
      refine ⟨rfl, 2, rfl, by decide, by decide, fun g1 J2 y3 ng4 so5 => ?_⟩
      have x6 := y3
      obtain ⟨dx, fs, ha, hn⟩ := so5.no (x := "plus") (by decide +kernel) (by decide +kernel)
      refine ⟨g1, dx, fs, rfl, ha, hn, s2, fun t7 nt8 => ⟨s2, fun t9 nt10 => ?_⟩⟩
      have z11 := Ex.new (o := .tup [.int 1, .int 0]) nt8
      have z12 := Ex.new (o := .tup [.int 0, .int 3]) nt10
      have x13 := (z11.trans z12)
      refine ⟨g1, (.classes 2), 10, [((.ref t7), (.c [1, 0])), ((.ref t9), (.c [0, 3]))], rfl, (z11.trans z12).scl so5, c2, mem2 ⟨rfl, (lim_c (by decide +kernel)), ⟨t7, rfl, z12.rd (.inl upd_same)⟩⟩ ⟨rfl, (lim_c (by decide +kernel)), ⟨t9, rfl, .inl upd_same⟩⟩, by decide, by decide, (by show 10 * 2 + 1 + 10 ≤ 8000; decide), (by show 2 ≤ 1000; decide), fun r14 J15 y16 v17 => ?_⟩
      have x18 := y16
      refine ⟨rfl, rfl, fun g19 J20 y21 ng22 so23 => ?_⟩
      have x24 := y21
      have v17 := v17.ex x24
      obtain ⟨dx, fs, ha, hn⟩ := so23.no (x := "minus") (by decide +kernel) (by decide +kernel)
      refine ⟨g19, dx, fs, rfl, ha, hn, s2, fun t25 nt26 => ⟨s2, fun t27 nt28 => ?_⟩⟩
      have z29 := Ex.new (o := .tup [.int 3, .int 1]) nt26
      have z30 := Ex.new (o := .tup [.int 2, .int 1]) nt28
      have x31 := (z29.trans z30)
      have v17 := v17.ex x31
      refine ⟨g19, .odds, 10, (.ref t25), (.ref t27), (od 3 1 l31), (od 2 1 l21), rfl, (z29.trans z30).scl so23, trivial, by decide, by decide, trivial, trivial, (lim_o (by decide) (by decide)), (lim_o (by decide) (by decide)), ⟨t25, rfl, z30.rd (.inl upd_same)⟩, ⟨t27, rfl, .inl upd_same⟩, fun r32 J33 y34 v35 => ?_⟩
      have x36 := y34
      have v17 := v17.ex x36
      refine ⟨(by show 2 ≤ sizeLine; decide), fun l37 nl38 => ?_⟩
      have x39 := Ex.new (o := .lst [r14, r32]) nl38
      have v17 := v17.ex x39
      have v35 := v35.ex x39
      have tl : (upd J33 l37 (.lst [r14, r32])) l37 = some (.lst [r14, r32]) := upd_same
      refine ⟨_, rfl, ?_⟩
      refine ⟨rfl, rfl, fun g40 J41 y42 ng43 so44 => ?_⟩
      have x45 := y42
      have v17 := v17.ex x45
      have v35 := v35.ex x45
      have tl := x45 _ _ tl
      obtain ⟨dx, fs, ha, hn⟩ := so44.no (x := "plus") (by decide +kernel) (by decide +kernel)
      refine ⟨g40, dx, fs, rfl, ha, hn, s2, fun t46 nt47 => ⟨s2, fun t48 nt49 => ?_⟩⟩
      have z50 := Ex.new (o := .tup [.int 2, .int 3]) nt47
      have z51 := Ex.new (o := .tup [.int 3, .int 2]) nt49
      have x52 := (z50.trans z51)
      have v17 := v17.ex x52
      have v35 := v35.ex x52
      have tl := x52 _ _ tl
      refine ⟨g40, .odds, 10, [((.ref t46), (od 2 3 l23)), ((.ref t48), (od 3 2 l32))], rfl, (z50.trans z51).scl so44, trivial, mem2 ⟨trivial, (lim_o (by decide) (by decide)), ⟨t46, rfl, z51.rd (.inl upd_same)⟩⟩ ⟨trivial, (lim_o (by decide) (by decide)), ⟨t48, rfl, .inl upd_same⟩⟩, by decide, by decide, (by show 10 * 2 + 1 + 10 ≤ 8000; decide), (by show 2 ≤ 1000; decide), fun r53 J54 y55 v56 => ?_⟩
      have x57 := y55
      have v17 := v17.ex x57
      have v35 := v35.ex x57
      have tl := x57 _ _ tl
      refine ⟨rfl, rfl, fun g58 J59 y60 ng61 so62 => ?_⟩
      have x63 := y60
      have v17 := v17.ex x63
      have v35 := v35.ex x63
      have tl := x63 _ _ tl
      have v56 := v56.ex x63
      obtain ⟨dx, fs, ha, hn⟩ := so62.no (x := "twice") (by decide +kernel) (by decide +kernel)
      refine ⟨g58, dx, fs, rfl, ha, hn, s2, fun t64 nt65 => ?_⟩
      have z66 := Ex.new (o := .tup [.int 2, .int 3]) nt65
      have x67 := z66
      have v17 := v17.ex x67
      have v35 := v35.ex x67
      have tl := x67 _ _ tl
      have v56 := v56.ex x67
      refine ⟨g58, .odds, 10, (.ref t64), (od 2 3 l23), rfl, z66.scl so62, trivial, by decide, by decide, trivial, (lim_o (by decide) (by decide)), ⟨t64, rfl, .inl upd_same⟩, fun r68 J69 y70 v71 => ?_⟩
      have x72 := y70
      have v17 := v17.ex x72
      have v35 := v35.ex x72
      have tl := x72 _ _ tl
      have v56 := v56.ex x72
      refine ⟨(by show 2 ≤ sizeLine; decide), fun l73 nl74 => ?_⟩
      have x75 := Ex.new (o := .lst [r53, r68]) nl74
      have v17 := v17.ex x75
      have v35 := v35.ex x75
      have tl := x75 _ _ tl
      have v56 := v56.ex x75
      have v71 := v71.ex x75
      refine ⟨l37, l73, _, _, rfl, rfl, tl, upd_same, (by show 4 ≤ sizeLine; decide), fun l76 nl77 => ?_⟩
      have x78 := Ex.new (o := .lst [r14, r32, r53, r68]) nl77
      have v17 := v17.ex x78
      have v35 := v35.ex x78
      have v56 := v56.ex x78
      have v71 := v71.ex x78
      have tl : (upd (upd J69 l73 (.lst [r53, r68])) l76 (.lst [r14, r32, r53, r68])) l76 = some (.lst [r14, r32, r53, r68]) := upd_same
      refine ⟨_, rfl, ?_⟩
      refine ⟨rfl, 1, rfl, by decide, by decide, fun g79 J80 y81 ng82 so83 => ?_⟩
      have x84 := y81
      have v17 := v17.ex x84
      have v35 := v35.ex x84
      have v56 := v56.ex x84
      have v71 := v71.ex x84
      have tl := x84 _ _ tl
      obtain ⟨dx, fs, ha, hn⟩ := so83.no (x := "negative") (by decide +kernel) (by decide +kernel)
      refine ⟨g79, dx, fs, rfl, ha, hn, s1, fun t85 nt86 => ?_⟩
      have z87 := Ex.new (o := .tup [.int 4]) nt86
      have x88 := z87
      have v17 := v17.ex x88
      have v35 := v35.ex x88
      have v56 := v56.ex x88
      have v71 := v71.ex x88
      have tl := x88 _ _ tl
      refine ⟨g79, (.classes 1), 10, (.ref t85), (.c [4]), rfl, z87.scl so83, c1, by decide, rfl, (lim_c (by decide +kernel)), ⟨t85, rfl, .inl upd_same⟩, fun r89 J90 y91 v92 => ?_⟩
      have x93 := y91
      have v17 := v17.ex x93
      have v35 := v35.ex x93
      have v56 := v56.ex x93
      have v71 := v71.ex x93
      have tl := x93 _ _ tl
      refine ⟨rfl, rfl, fun g94 J95 y96 ng97 so98 => ?_⟩
      have x99 := y96
      have v17 := v17.ex x99
      have v35 := v35.ex x99
      have v56 := v56.ex x99
      have v71 := v71.ex x99
      have tl := x99 _ _ tl
      have v92 := v92.ex x99
      obtain ⟨dx, fs, ha, hn⟩ := so98.no (x := "plus") (by decide +kernel) (by decide +kernel)
      refine ⟨g94, dx, fs, rfl, ha, hn, _, _, rfl, rfl, cpw50, _, _, rfl, rfl, cpw50, _, _, rfl, rfl, ?_⟩
      refine ⟨g94, .sums, 190, [(.int big50, .n big50), (.int (0 - big50), .n (0 - big50))], rfl, so98, trivial, mem2 ⟨trivial, big50_lt, rfl⟩ ⟨trivial, by show (0 - big50).natAbs < 2 ^ 190; rw [Int.zero_sub, Int.natAbs_neg]; exact big50_lt, rfl⟩, by decide, by decide, (by show 190 * 2 + 1 + 190 ≤ 8000; decide), (by show 2 ≤ 1000; decide), fun r100 J101 y102 v103 => ?_⟩
      have x104 := y102
      have v17 := v17.ex x104
      have v35 := v35.ex x104
      have v56 := v56.ex x104
      have v71 := v71.ex x104
      have tl := x104 _ _ tl
      have v92 := v92.ex x104
      refine ⟨(by show 2 ≤ sizeLine; decide), fun l105 nl106 => ?_⟩
      have x107 := Ex.new (o := .lst [r89, r100]) nl106
      have v17 := v17.ex x107
      have v35 := v35.ex x107
      have v56 := v56.ex x107
      have v71 := v71.ex x107
      have tl := x107 _ _ tl
      have v92 := v92.ex x107
      have v103 := v103.ex x107
      refine ⟨l76, l105, _, _, rfl, rfl, tl, upd_same, (by show 6 ≤ sizeLine; decide), fun l108 nl109 => ?_⟩
      have x110 := Ex.new (o := .lst [r14, r32, r53, r68, r89, r100]) nl109
      have v17 := v17.ex x110
      have v35 := v35.ex x110
      have v56 := v56.ex x110
      have v71 := v71.ex x110
      have v92 := v92.ex x110
      have v103 := v103.ex x110
      have tl : (upd (upd J101 l105 (.lst [r89, r100])) l108 (.lst [r14, r32, r53, r68, r89, r100])) l108 = some (.lst [r14, r32, r53, r68, r89, r100]) := upd_same
      refine ⟨_, rfl, s2, fun t111 nt112 => ⟨s2, fun t113 nt114 => ⟨s2, fun t115 nt116 => ⟨s2, fun t117 nt118 => ⟨_, rfl, s1, fun t119 nt120 => ⟨(by show 6 ≤ sizeLine; decide), fun l121 nl122 => ?_⟩⟩⟩⟩⟩⟩
      have z123 := Ex.new (o := .tup [.int 1, .int 3]) nt112
      have z124 := Ex.new (o := .tup [.int 3, .int 2]) nt114
      have z125 := Ex.new (o := .tup [.int 1, .int 1]) nt116
      have z126 := Ex.new (o := .tup [.int 4, .int 9]) nt118
      have z127 := Ex.new (o := .tup [.int (-4)]) nt120
      have z128 := Ex.new (o := .lst [.ref t111, .ref t113, .ref t115, .ref t117, .ref t119, .int 0]) nl122
      have x129 := (((((z123.trans z124).trans z125).trans z126).trans z127).trans z128)
      have v17 := v17.ex x129
      have v35 := v35.ex x129
      have v56 := v56.ex x129
      have v71 := v71.ex x129
      have v92 := v92.ex x129
      have v103 := v103.ex x129
      have tl := x129 _ _ tl
      refine ⟨dList tolds, dList dues, .lst (.inl (.inl tl)) (.cons (dp_am v17) (.cons (dp_am v35) (.cons (dp_am v56) (.cons (dp_am v71) (.cons (dp_am v92) (.cons (dp_am v103) .nil)))))), .lst (.inl (.inl upd_same)) (.cons (dp_am (x := (.c [1, 3])) ⟨t111, rfl, z128.rd (z127.rd (z126.rd (z125.rd (z124.rd (.inl upd_same)))))⟩) (.cons (dp_am (x := (od 3 2 l32)) ⟨t113, rfl, z128.rd (z127.rd (z126.rd (z125.rd (.inl upd_same))))⟩) (.cons (dp_am (x := (od 1 1 l11)) ⟨t115, rfl, z128.rd (z127.rd (z126.rd (.inl upd_same)))⟩) (.cons (dp_am (x := (od 4 9 l49)) ⟨t117, rfl, z128.rd (z127.rd (.inl upd_same))⟩) (.cons (dp_am (x := (.c [-4])) ⟨t119, rfl, z128.rd (.inl upd_same)⟩) (.cons (dp_am (x := .n 0) rfl) .nil)))))), shaped_list _, shaped_list _, ?_⟩
      rw [tolds_dues, eqv_dList]
      refine ⟨_, rfl, ?_⟩
      refine ⟨s2, fun tA nA => ⟨s2, fun tB nB => ⟨s2, fun lA nlA => ?_⟩⟩⟩
      have wa := Ex.new (o := .tup [.int 1000000, .int 999999]) nA
      have wb := Ex.new (o := .tup [.int 999999, .int 999998]) nB
      have wl := Ex.new (o := .lst [.ref tA, .ref tB]) nlA
      refine ⟨lA, 100, [.ref tA, .ref tB], rfl, rfl, upd_same, by decide, by decide, (by show 2 * 100 ≤ sizeLine; decide), fun lB nlB => ?_⟩
      have wm := Ex.new (o := .lst (List.replicate (100 : Int).toNat [V.ref tA, V.ref tB]).flatten) nlB
      refine ⟨lB, _, rfl, .inl (.inl upd_same), fun tM oM nM hM => ?_⟩
      have wt := Ex.new (o := .frz oM (.tup (List.replicate (100 : Int).toNat [V.ref tA, V.ref tB]).flatten)) nM
      refine ⟨rfl, rfl, fun gF JF xF ngF soF => ?_⟩
      obtain ⟨dx, fs, ha, hn⟩ := soF.no (x := "plus_all") (by decide +kernel) (by decide +kernel)
      refine ⟨gF, dx, fs, rfl, ha, hn, _, rfl, gF, tM, .odds, 20, manyP tA tB, rfl, soF, trivial, ⟨xF.rd (.inr ⟨oM, ?_⟩), fun q hq => ?_⟩, by decide, by decide, ?_, ?_, fun r J x v => ?_⟩
      · rw [manyP1, upd_same]
        rfl
      · rcases manyP_mem hq with rfl | rfl
        · exact ⟨trivial, ⟨by decide +kernel, by decide +kernel⟩, tA, rfl, xF.rd (wt.rd (wm.rd (wl.rd (wb.rd (.inl upd_same)))))⟩
        · exact ⟨trivial, ⟨by decide +kernel, by decide +kernel⟩, tB, rfl, xF.rd (wt.rd (wm.rd (wl.rd (.inl upd_same))))⟩
      · rw [manyP3]; decide
      · rw [manyP3]; decide
      rw [manyP2, many_sum] at v
      refine ⟨_, _, rfl, rfl, cpa, _, _, rfl, rfl, cpb, _, _, rfl, rfl, cpc, _, _, rfl, rfl, cpd, s2, fun tZ nZ => ?_⟩
      have xZ := Ex.new (o := .tup [.int (((500000 : Int) ^ (50 : Int).toNat) ^ (2 : Int).toNat), .int (((499999 : Int) ^ (50 : Int).toNat) ^ (2 : Int).toNat)]) nZ
      refine ⟨(od T1 T2 lT).data, (od T1 T2 lT).data, dp_am (v.ex xZ), dp_am (x := od T1 T2 lT) ⟨tZ, rfl, .inl (by rw [upd_same]; show some (HO.tup [V.int (((500000 : Int) ^ (50 : Int).toNat) ^ (2 : Int).toNat), V.int (((499999 : Int) ^ (50 : Int).toNat) ^ (2 : Int).toNat)]) = some (HO.tup [V.int (T1 : Nat), V.int (T2 : Nat)]); rw [q1, q2])⟩, Am.shaped _, Am.shaped _, ?_⟩
      rw [eqv_self]
      exact k _
end
end Gl

namespace Gl
open PySem PySem.Spec PyProof.Rows L2 ClX
section
/-- a def of the text, by what the top has left -/
structure Has (K : PySem.W.Frag) (x : Str) (st : Stmt) (f : Addr) : Prop where
  at_ : PySem.W.nsIn K mainGlobals x = some (some (.ref f))
  fn : ∃ fd : FuncData, Fun K x x st f fd
theorem Has.mk' {K : PySem.W.Frag} {x : Str} {st : Stmt} {f : Addr} {oc kV doc pm cdv ct : Value} {od an : Option Addr} {sl : Array (Option Value)}
    (a : PySem.W.nsIn K mainGlobals x = some (some (.ref f)))
    (l : K.lookup f = some ⟨oc, od, .func (PySem.W.fnOf x x (defArgs st) (defBody st) (defScope st) .none kV doc pm an cdv ct), sl⟩)
    (c : PySem.W.codeIn K cdv x = true) (k : PySem.W.keepIn K (.ref f) = true) : Has K x st f := ⟨a, _, fun_mk l c k⟩
/-- a method -/
structure HasM (K : PySem.W.Frag) (C : Addr) (x y : Str) (st : Stmt) (f : Addr) : Prop where
  at_ : PySem.W.findIn K (.ref C) x = some (some (.ref f))
  isf : PySem.W.isFn K (.ref f) = true
  fn : ∃ fd : FuncData, Fun K x y st f fd
theorem HasM.mk' {K : PySem.W.Frag} {C : Addr} {x y : Str} {st : Stmt} {f : Addr} {oc kV doc pm cdv ct : Value} {od an : Option Addr} {sl : Array (Option Value)}
    (a : PySem.W.findIn K (.ref C) x = some (some (.ref f))) (i : PySem.W.isFn K (.ref f) = true)
    (l : K.lookup f = some ⟨oc, od, .func (PySem.W.fnOf x y (defArgs st) (defBody st) (defScope st) .none kV doc pm an cdv ct), sl⟩)
    (c : PySem.W.codeIn K cdv y = true) (k : PySem.W.keepIn K (.ref f) = true) : HasM K C x y st f := ⟨a, i, _, fun_mk l c k⟩
/-- a staticmethod -/
structure HasS (K : PySem.W.Frag) (C : Addr) (mc : Value) (x y : Str) (st : Stmt) (p f : Addr) : Prop where
  sm : SMet K C mc x p f
  fn : ∃ fd : FuncData, Fun K x y st f fd
theorem HasS.mk' {K : PySem.W.Frag} {C : Addr} {mc : Value} {x y : Str} {st : Stmt} {p f : Addr} {oc kV doc pm cdv ct : Value} {od an : Option Addr} {sl : Array (Option Value)} {rest : List Value}
    (a : PySem.W.findCls K (.ref C) mc x = some (.get (.builtin "staticmethod.__get__") (.ref p) .none (.ref C))) (r : PySem.W.recIn K p "staticmethod" = some (.ref f :: rest))
    (l : K.lookup f = some ⟨oc, od, .func (PySem.W.fnOf x y (defArgs st) (defBody st) (defScope st) .none kV doc pm an cdv ct), sl⟩)
    (c : PySem.W.codeIn K cdv y = true) (k : PySem.W.keepIn K (.ref f) = true) : HasS K C mc x y st p f := ⟨⟨a, ⟨rest, r⟩, k⟩, _, fun_mk l c k⟩
/-- what the law rests on -/
structure Facts (K : PySem.W.Frag) (C : Addr) : Prop where
  aC : PySem.W.nsIn K mainGlobals "Scale" = some (some (.ref C))
  d0 : ∃ f, Has K "is_whole" sWhole f
  d1 : ∃ f, Has K "are_whole" sWholes f
  d2 : ∃ f, Has K "is_index" sIndex f
  d3 : ∃ f, Has K "_is_lowest" sLowest f
  d4 : ∃ f, Has K "_times" sTimes f
  d5 : ∃ f, Has K "_lowest" sLowP f
  d6 : ∃ f, Has K "_law_dice" sDice f
  d7 : ∃ f, Has K "_law_pull" sPull f
  d8 : ∃ f, Has K "_law_pick" sPick f
  d9 : ∃ f, Has K "_law_scale" sScaleL f
  d10 : ∃ f, Has K "_law_lowest" sLowL f
  d11 : ∃ f, Has K "_law_weight" sWgtL f
  d12 : ∃ f, Has K "_law_zero" sZeroL f
  d13 : ∃ f, Has K "_law_plus" sPlusL f
  d14 : ∃ f, Has K "_law_minus" sMinusL f
  d15 : ∃ f, Has K "_law_total" sTotalL f
  d16 : ∃ f, Has K "_law_made" sMadeL f
  d17 : ∃ f, Has K "_law_amount" sAmtL f
  d18 : ∃ f, Has K "_law_some_amounts" sSomeL f
  d19 : ∃ f, Has K "_law_sums_right" sSumsL f
  d20 : ∃ f, Has K "_law_pairs_right" sPairsL f
  d21 : ∃ f, Has K "law" sLaw f
  m0 : ∃ f, HasM K C "__init__" "Scale.__init__" sInit f
  m1 : ∃ f, HasM K C "plus" "Scale.plus" sPlus f
  m2 : ∃ f, HasM K C "plus_all" "Scale.plus_all" sPlusAll f
  m3 : ∃ f, HasM K C "minus" "Scale.minus" sMinus f
  m4 : ∃ f, HasM K C "negative" "Scale.negative" sNegM f
  m5 : ∃ f, HasM K C "twice" "Scale.twice" sTwice f
  m6 : ∃ f, HasM K C "is_amount" "Scale.is_amount" sIsAmt f
  m7 : ∃ f, HasM K C "_check_all" "Scale._check_all" sChkAll f
  m8 : ∃ f, HasM K C "_sum" "Scale._sum" sSum f
  m9 : ∃ f, HasM K C "_opposite" "Scale._opposite" sOpp f
  s0 : ∃ p f, HasS K C (.type "type") "sums" "Scale.sums" sSums p f
  s1 : ∃ p f, HasS K C (.type "type") "classes" "Scale.classes" sClasses p f
  s2 : ∃ p f, HasS K C (.type "type") "odds" "Scale.odds" sOddsM p f
  b_len : PySem.W.nsIn K mainGlobals "len" = some none
  b_int : PySem.W.nsIn K mainGlobals "int" = some none
  b_abs : PySem.W.nsIn K mainGlobals "abs" = some none
  b_max : PySem.W.nsIn K mainGlobals "max" = some none
  b_min : PySem.W.nsIn K mainGlobals "min" = some none
  b_range : PySem.W.nsIn K mainGlobals "range" = some none
  b_tuple : PySem.W.nsIn K mainGlobals "tuple" = some none
  b_list : PySem.W.nsIn K mainGlobals "list" = some none
  b_repr : PySem.W.nsIn K mainGlobals "repr" = some none
  b_zip : PySem.W.nsIn K mainGlobals "zip" = some none
  b_isinstance : PySem.W.nsIn K mainGlobals "isinstance" = some none
  b_all : PySem.W.nsIn K mainGlobals "all" = some none
  b_str : PySem.W.nsIn K mainGlobals "str" = some none
  b_bool : PySem.W.nsIn K mainGlobals "bool" = some none
  b_sum : PySem.W.nsIn K mainGlobals "sum" = some none
  c_gcd : PySem.W.nsIn K mainGlobals "gcd" = some (some (.builtin "math.gcd"))
  c_max : ∃ t, PySem.W.nsIn K mainGlobals "MAX_SIZE" = some (some (.int 4 t))
  pg : PySem.W.plainGet K C Str.empty = true
  hd : PySem.W.hasDictIn K C = true
  po : PySem.W.plainOver K C = true
  sa : PySem.W.findIn K (.ref C) "__setattr__" = some (some (.builtin "object.__setattr__"))
  nw : PySem.W.findIn K (.ref C) "_word" = some none
  nz : PySem.W.findIn K (.ref C) "_size" = some none
  mk_ : PySem.W.makesIn K C = true
  kc : PySem.W.keepIn K (.ref C) = true
  rdm : PySem.W.readsIn K C (.type "type") = true
  ga : PySem.W.specialIn K (.ref C) "__getattribute__" = some (some (.builtin "type.__getattribute__"))
variable {w : World} {K : PySem.W.Frag} {mg : Str → Option Value} {h : Heap} {fa : Addr}
theorem all_law (P : Program) {C : Addr} (Y : Facts K C) (X : K.In h) (G : h.Ns mainGlobals mg) (hfa : mg "law" = some (.ref fa)) :
    ∃ fd : FuncData, (∀ (s : Shared) (v : Value), BindsTo s fd ⟨[v], []⟩ [("_law_script", v)]) ∧
      ∀ base : Heap, K.In base → base.Ns mainGlobals mg → FnG P w K mg base CX0 9 fa fd ["_law_script"] (spLaw K) := by
  obtain ⟨f0, h0⟩ := Y.d0
  obtain ⟨e0, F0⟩ := h0.fn
  have g0 := PySem.W.mg_of X G h0.at_
  obtain ⟨f1, h1⟩ := Y.d1
  obtain ⟨e1, F1⟩ := h1.fn
  have g1 := PySem.W.mg_of X G h1.at_
  obtain ⟨f2, h2⟩ := Y.d2
  obtain ⟨e2, F2⟩ := h2.fn
  have g2 := PySem.W.mg_of X G h2.at_
  obtain ⟨f3, h3⟩ := Y.d3
  obtain ⟨e3, F3⟩ := h3.fn
  have g3 := PySem.W.mg_of X G h3.at_
  obtain ⟨f4, h4⟩ := Y.d4
  obtain ⟨e4, F4⟩ := h4.fn
  have g4 := PySem.W.mg_of X G h4.at_
  obtain ⟨f5, h5⟩ := Y.d5
  obtain ⟨e5, F5⟩ := h5.fn
  have g5 := PySem.W.mg_of X G h5.at_
  obtain ⟨f6, h6⟩ := Y.d6
  obtain ⟨e6, F6⟩ := h6.fn
  have g6 := PySem.W.mg_of X G h6.at_
  obtain ⟨f7, h7⟩ := Y.d7
  obtain ⟨e7, F7⟩ := h7.fn
  have g7 := PySem.W.mg_of X G h7.at_
  obtain ⟨f8, h8⟩ := Y.d8
  obtain ⟨e8, F8⟩ := h8.fn
  have g8 := PySem.W.mg_of X G h8.at_
  obtain ⟨f9, h9⟩ := Y.d9
  obtain ⟨e9, F9⟩ := h9.fn
  have g9 := PySem.W.mg_of X G h9.at_
  obtain ⟨f10, h10⟩ := Y.d10
  obtain ⟨e10, F10⟩ := h10.fn
  have g10 := PySem.W.mg_of X G h10.at_
  obtain ⟨f11, h11⟩ := Y.d11
  obtain ⟨e11, F11⟩ := h11.fn
  have g11 := PySem.W.mg_of X G h11.at_
  obtain ⟨f12, h12⟩ := Y.d12
  obtain ⟨e12, F12⟩ := h12.fn
  have g12 := PySem.W.mg_of X G h12.at_
  obtain ⟨f13, h13⟩ := Y.d13
  obtain ⟨e13, F13⟩ := h13.fn
  have g13 := PySem.W.mg_of X G h13.at_
  obtain ⟨f14, h14⟩ := Y.d14
  obtain ⟨e14, F14⟩ := h14.fn
  have g14 := PySem.W.mg_of X G h14.at_
  obtain ⟨f15, h15⟩ := Y.d15
  obtain ⟨e15, F15⟩ := h15.fn
  have g15 := PySem.W.mg_of X G h15.at_
  obtain ⟨f16, h16⟩ := Y.d16
  obtain ⟨e16, F16⟩ := h16.fn
  have g16 := PySem.W.mg_of X G h16.at_
  obtain ⟨f17, h17⟩ := Y.d17
  obtain ⟨e17, F17⟩ := h17.fn
  have g17 := PySem.W.mg_of X G h17.at_
  obtain ⟨f18, h18⟩ := Y.d18
  obtain ⟨e18, F18⟩ := h18.fn
  have g18 := PySem.W.mg_of X G h18.at_
  obtain ⟨f19, h19⟩ := Y.d19
  obtain ⟨e19, F19⟩ := h19.fn
  have g19 := PySem.W.mg_of X G h19.at_
  obtain ⟨f20, h20⟩ := Y.d20
  obtain ⟨e20, F20⟩ := h20.fn
  have g20 := PySem.W.mg_of X G h20.at_
  obtain ⟨f21, h21⟩ := Y.d21
  obtain ⟨e21, F21⟩ := h21.fn
  have g21 := PySem.W.mg_of X G h21.at_
  obtain ⟨mf0, mh0⟩ := Y.m0
  obtain ⟨me0, MF0⟩ := mh0.fn
  obtain ⟨mf1, mh1⟩ := Y.m1
  obtain ⟨me1, MF1⟩ := mh1.fn
  obtain ⟨mf2, mh2⟩ := Y.m2
  obtain ⟨me2, MF2⟩ := mh2.fn
  obtain ⟨mf3, mh3⟩ := Y.m3
  obtain ⟨me3, MF3⟩ := mh3.fn
  obtain ⟨mf4, mh4⟩ := Y.m4
  obtain ⟨me4, MF4⟩ := mh4.fn
  obtain ⟨mf5, mh5⟩ := Y.m5
  obtain ⟨me5, MF5⟩ := mh5.fn
  obtain ⟨mf6, mh6⟩ := Y.m6
  obtain ⟨me6, MF6⟩ := mh6.fn
  obtain ⟨mf7, mh7⟩ := Y.m7
  obtain ⟨me7, MF7⟩ := mh7.fn
  obtain ⟨mf8, mh8⟩ := Y.m8
  obtain ⟨me8, MF8⟩ := mh8.fn
  obtain ⟨mf9, mh9⟩ := Y.m9
  obtain ⟨me9, MF9⟩ := mh9.fn
  obtain ⟨sp0, sf0, sh0⟩ := Y.s0
  obtain ⟨se0, SF0⟩ := sh0.fn
  obtain ⟨sp1, sf1, sh1⟩ := Y.s1
  obtain ⟨se1, SF1⟩ := sh1.fn
  obtain ⟨sp2, sf2, sh2⟩ := Y.s2
  obtain ⟨se2, SF2⟩ := sh2.fn
  have T : Blt mg := { len := PySem.W.mg_none_of X G Y.b_len, int := PySem.W.mg_none_of X G Y.b_int, abs := PySem.W.mg_none_of X G Y.b_abs, max := PySem.W.mg_none_of X G Y.b_max, min := PySem.W.mg_none_of X G Y.b_min, range := PySem.W.mg_none_of X G Y.b_range, tuple := PySem.W.mg_none_of X G Y.b_tuple, list := PySem.W.mg_none_of X G Y.b_list, repr := PySem.W.mg_none_of X G Y.b_repr, zip := PySem.W.mg_none_of X G Y.b_zip, isinstance := PySem.W.mg_none_of X G Y.b_isinstance, all := PySem.W.mg_none_of X G Y.b_all, str := PySem.W.mg_none_of X G Y.b_str, bool := PySem.W.mg_none_of X G Y.b_bool }
  have ts := PySem.W.mg_none_of X G Y.b_sum
  have hg := PySem.W.mg_of X G Y.c_gcd
  obtain ⟨tm, km⟩ := Y.c_max
  have ms : ∃ t, mg "MAX_SIZE" = some (.int 4 t) := ⟨_, PySem.W.mg_of X G km⟩
  have gC := PySem.W.mg_of X G Y.aC
  have Zk : ClsK K C := ⟨⟨Y.pg, Y.hd, Y.po, Y.sa⟩, Y.nw, Y.nz⟩
  have rd : CRead K C (.type "type") := ⟨Y.rdm, Y.ga⟩
  have b0 := F0.binds (ps := ["value"]) fun _ _ _ _ _ _ us hl => match us, hl with | [_], _ => rfl
  have b1 := F1.binds (ps := ["value", "many"]) fun _ _ _ _ _ _ us hl => match us, hl with | [_, _], _ => rfl
  have b2 := F2.binds (ps := ["value", "many"]) fun _ _ _ _ _ _ us hl => match us, hl with | [_, _], _ => rfl
  have b3 := F3.binds (ps := ["value"]) fun _ _ _ _ _ _ us hl => match us, hl with | [_], _ => rfl
  have b4 := F4.binds (ps := ["numbers"]) fun _ _ _ _ _ _ us hl => match us, hl with | [_], _ => rfl
  have b5 := F5.binds (ps := ["over", "under"]) fun _ _ _ _ _ _ us hl => match us, hl with | [_, _], _ => rfl
  have b6 := F6.binds (ps := ["_law_script", "_law_at"]) fun _ _ _ _ _ _ us hl => match us, hl with | [_, _], _ => rfl
  have b7 := F7.binds (ps := ["_law_dice_here", "_law_total_here"]) fun _ _ _ _ _ _ us hl => match us, hl with | [_, _], _ => rfl
  have b8 := F8.binds (ps := ["_law_dice_here", "_law_items"]) fun _ _ _ _ _ _ us hl => match us, hl with | [_, _], _ => rfl
  have b9 := F9.binds (ps := ["_law_dice_here"]) fun _ _ _ _ _ _ us hl => match us, hl with | [_], _ => rfl
  have b10 := F10.binds (ps := ["_law_top", "_law_bottom"]) fun _ _ _ _ _ _ us hl => match us, hl with | [_, _], _ => rfl
  have b11 := F11.binds (ps := ["_law_dice_here", "_law_measure"]) fun _ _ _ _ _ _ us hl => match us, hl with | [_, _], _ => rfl
  have b12 := F12.binds (ps := ["_law_measure"]) fun _ _ _ _ _ _ us hl => match us, hl with | [_], _ => rfl
  have b13 := F13.binds (ps := ["_law_measure", "_law_one", "_law_other"]) fun _ _ _ _ _ _ us hl => match us, hl with | [_, _, _], _ => rfl
  have b14 := F14.binds (ps := ["_law_measure", "_law_one", "_law_other"]) fun _ _ _ _ _ _ us hl => match us, hl with | [_, _, _], _ => rfl
  have b15 := F15.binds (ps := ["_law_measure", "_law_amounts"]) fun _ _ _ _ _ _ us hl => match us, hl with | [_, _], _ => rfl
  have b16 := F16.binds (ps := ["_law_measure"]) fun _ _ _ _ _ _ us hl => match us, hl with | [_], _ => rfl
  have b17 := F17.binds (ps := ["_law_dice_here", "_law_measure"]) fun _ _ _ _ _ _ us hl => match us, hl with | [_, _], _ => rfl
  have b18 := F18.binds (ps := ["_law_dice_here", "_law_measure"]) fun _ _ _ _ _ _ us hl => match us, hl with | [_, _], _ => rfl
  have b19 := F19.binds (ps := ["_law_meter", "_law_measure", "_law_amounts"]) fun _ _ _ _ _ _ us hl => match us, hl with | [_, _, _], _ => rfl
  have b20 := F20.binds (ps := ["_law_meter", "_law_measure", "_law_one", "_law_other"]) fun _ _ _ _ _ _ us hl => match us, hl with | [_, _, _, _], _ => rfl
  have mb0 := MF0.binds (ps := ["self", "word", "size"]) fun _ _ _ _ _ _ us hl => match us, hl with | [_, _, _], _ => rfl
  have mb2 := MF2.binds (ps := ["self", "amounts"]) fun _ _ _ _ _ _ us hl => match us, hl with | [_, _], _ => rfl
  have mb3 := MF3.binds (ps := ["self", "amount", "other"]) fun _ _ _ _ _ _ us hl => match us, hl with | [_, _, _], _ => rfl
  have mb4 := MF4.binds (ps := ["self", "amount"]) fun _ _ _ _ _ _ us hl => match us, hl with | [_, _], _ => rfl
  have mb5 := MF5.binds (ps := ["self", "amount"]) fun _ _ _ _ _ _ us hl => match us, hl with | [_, _], _ => rfl
  have mb6 := MF6.binds (ps := ["self", "value"]) fun _ _ _ _ _ _ us hl => match us, hl with | [_, _], _ => rfl
  have mb7 := MF7.binds (ps := ["self", "amounts"]) fun _ _ _ _ _ _ us hl => match us, hl with | [_, _], _ => rfl
  have mb8 := MF8.binds (ps := ["self", "amounts"]) fun _ _ _ _ _ _ us hl => match us, hl with | [_, _], _ => rfl
  have mb9 := MF9.binds (ps := ["self", "amount"]) fun _ _ _ _ _ _ us hl => match us, hl with | [_, _], _ => rfl
  have sb0 := SF0.binds (ps := []) fun _ _ _ _ _ _ us hl => match us, hl with | [], _ => rfl
  have sb1 := SF1.binds (ps := ["size"]) fun _ _ _ _ _ _ us hl => match us, hl with | [_], _ => rfl
  have sb2 := SF2.binds (ps := []) fun _ _ _ _ _ _ us hl => match us, hl with | [], _ => rfl
  obtain rfl : f21 = fa := Value.ref.inj (Option.some.inj (g21.symm.trans hfa))
  refine ⟨e21, fun s v => ?_, fun base KB NB => ?_⟩
  · obtain ⟨_, _, _, _, _, _, _, _, _, rfl, _, _⟩ := F21.ex
    exact .of_eq rfl
  let Wh : Df P w K mg base 1 "is_whole" ["value"] spWhole := ⟨f0, e0, ok_whole F0 T, g0, F0.kp, b0⟩
  let Ws : Df P w K mg base 2 "are_whole" ["value", "many"] spWholes := ⟨f1, e1, ok_wholes F1 T Wh, g1, F1.kp, b1⟩
  let In : Df P w K mg base 2 "is_index" ["value", "many"] spIndex := ⟨f2, e2, ok_index F2 T Wh, g2, F2.kp, b2⟩
  let Lw : Df P w K mg base 3 "_is_lowest" ["value"] spLowest := ⟨f3, e3, ok_lowest F3 hg Ws, g3, F3.kp, b3⟩
  let Ti : Df P w K mg base 1 "_times" ["numbers"] (spTimes K) := ⟨f4, e4, ok_times F4, g4, F4.kp, b4⟩
  let Lp : Df P w K mg base 1 "_lowest" ["over", "under"] spLowP := ⟨f5, e5, ok_lowP F5 hg, g5, F5.kp, b5⟩
  let ScD : SclD P w K mg base C := ⟨Zk, mf0, me0, ok_init MF0 Zk, ⟨Y.mk_, mh0.at_, mh0.isf, Y.kc⟩, gC, mb0⟩
  let Ia : Dm P w K mg base C 4 "is_amount" ["self", "value"] (spIsAmt C) := ⟨mf6, me6, ok_isAmt MF6 Zk Wh Ws Lw, ⟨mh6.at_, mh6.isf, MF6.kp⟩, mb6⟩
  let Ca : Dm P w K mg base C 5 "_check_all" ["self", "amounts"] (spChkAll C) := ⟨mf7, me7, ok_chkAll MF7 Zk T Ia, ⟨mh7.at_, mh7.isf, MF7.kp⟩, mb7⟩
  let Su : Dm P w K mg base C 2 "_sum" ["self", "amounts"] (spSum C) := ⟨mf8, me8, ok_sum MF8 Zk T ts Ti Lp, ⟨mh8.at_, mh8.isf, MF8.kp⟩, mb8⟩
  let Op : Dm P w K mg base C 1 "_opposite" ["self", "amount"] (spOpp C) := ⟨mf9, me9, ok_opp MF9 Zk T, ⟨mh9.at_, mh9.isf, MF9.kp⟩, mb9⟩
  let Pl : Dm P w K mg base C 6 "plus_all" ["self", "amounts"] (spPlusAll C) := ⟨mf2, me2, ok_plusAll MF2 Zk Ca Su, ⟨mh2.at_, mh2.isf, MF2.kp⟩, mb2⟩
  let Pm : DmR P w K mg base C 7 "plus" (spPlus C) := ⟨mf1, ok_plus MF1 Zk Pl, ⟨mh1.at_, mh1.isf, MF1.kp⟩⟩
  let Mi : Dm P w K mg base C 6 "minus" ["self", "amount", "other"] (spMinus C) := ⟨mf3, me3, ok_minus MF3 Zk Ca Su Op, ⟨mh3.at_, mh3.isf, MF3.kp⟩, mb3⟩
  let Ne : Dm P w K mg base C 6 "negative" ["self", "amount"] (spNegM C) := ⟨mf4, me4, ok_negM MF4 Zk Ca Op, ⟨mh4.at_, mh4.isf, MF4.kp⟩, mb4⟩
  let Tw : Dm P w K mg base C 6 "twice" ["self", "amount"] (spTwice C) := ⟨mf5, me5, ok_twice MF5 Zk Ca Su, ⟨mh5.at_, mh5.isf, MF5.kp⟩, mb5⟩
  let Ss : Sm P w K mg base C (.type "type") 3 "sums" [] (spNew C .sums) := ⟨sp0, sf0, se0, ok_sums SF0 ScD, sh0.sm, sb0⟩
  let Cs : Sm P w K mg base C (.type "type") 3 "classes" ["size"] (spClasses C) := ⟨sp1, sf1, se1, ok_classes SF1 ScD In ms, sh1.sm, sb1⟩
  let Os : Sm P w K mg base C (.type "type") 3 "odds" [] (spNew C .odds) := ⟨sp2, sf2, se2, ok_oddsM SF2 ScD, sh2.sm, sb2⟩
  let Dd : Dc P w K mg base := ⟨f7, e7, ok_pull F7 T, g7, F7.kp, b7⟩
  let Di : DfG P w K mg base 1 "_law_dice" ["_law_script", "_law_at"] (spDice K) := ⟨f6, e6, ok_dice F6 T, g6, F6.kp, b6⟩
  let Pk : DfG P w K mg base 2 "_law_pick" ["_law_dice_here", "_law_items"] spPick := ⟨f8, e8, ok_pick F8 T Dd, g8, F8.kp, b8⟩
  let Sc : DfG P w K mg base 2 "_law_scale" ["_law_dice_here"] spScaleL := ⟨f9, e9, ok_scaleL F9 Dd, g9, F9.kp, b9⟩
  let Lo : DfG P w K mg base 1 "_law_lowest" ["_law_top", "_law_bottom"] spLowW := ⟨f10, e10, ok_lowW F10 T, g10, F10.kp, b10⟩
  let Lo2 : DfG P w K mg base 1 "_law_lowest" ["_law_top", "_law_bottom"] spLowL := ⟨f10, e10, lowL_of (ok_lowW F10 T), g10, F10.kp, b10⟩
  let Wq : DfG P w K mg base 2 "_law_weight" ["_law_dice_here", "_law_measure"] spAmtL := ⟨f11, e11, ok_wgtL F11 T Dd Lo2, g11, F11.kp, b11⟩
  let Zq : DfG P w K mg base 1 "_law_zero" ["_law_measure"] spZeroL := ⟨f12, e12, ok_zeroL F12, g12, F12.kp, b12⟩
  let Pq : DfG P w K mg base 2 "_law_plus" ["_law_measure", "_law_one", "_law_other"] spPlusL := ⟨f13, e13, ok_plusL F13 T Lo, g13, F13.kp, b13⟩
  let Mq : DfG P w K mg base 2 "_law_minus" ["_law_measure", "_law_one", "_law_other"] spMinusL := ⟨f14, e14, ok_minusL F14 T Lo, g14, F14.kp, b14⟩
  let Tq : DfG P w K mg base 3 "_law_total" ["_law_measure", "_law_amounts"] spTotalL := ⟨f15, e15, ok_totalL F15 Pq Zq, g15, F15.kp, b15⟩
  let Md : DfG P w K mg base 4 "_law_made" ["_law_measure"] (spMadeL C) := ⟨f16, e16, ok_madeL F16 gC rd Cs Ss Os, g16, F16.kp, b16⟩
  let Aq : DfG P w K mg base 2 "_law_amount" ["_law_dice_here", "_law_measure"] spAmtL := ⟨f17, e17, ok_amtL F17 T Dd Lo2, g17, F17.kp, b17⟩
  let So : DfG P w K mg base 3 "_law_some_amounts" ["_law_dice_here", "_law_measure"] spSomeA := ⟨f18, e18, ok_someA F18 T Dd Aq Wq Zq Pk Mq, g18, F18.kp, b18⟩
  let Sr : DfG P w K mg base 8 "_law_sums_right" ["_law_meter", "_law_measure", "_law_amounts"] (spSumsL C) := ⟨f19, e19, ok_sumsL F19 T Zk Tq Pm Pl, g19, F19.kp, b19⟩
  let Pr : DfG P w K mg base 7 "_law_pairs_right" ["_law_meter", "_law_measure", "_law_one", "_law_other"] (spPairsL C) := ⟨f20, e20, ok_pairsL F20 T Zk Pq Mq Zq Mi Ne Tw, g20, F20.kp, b20⟩
  exact ok_law F21 T Zk gC rd Di Pk Sc Md So Sr Pr Cs Ss Os Pm Pl Mi Ne Tw
end
end Gl

open PySem PySem.W PyProof.Rows
set_option maxHeartbeats 0 in
theorem PySem.Challenge.cw_mostkept_k07_sums_and_differences_holds : PySem.Challenge.rw_mostkept_k07_sums_and_differences.Holds := by
  w_on; o_law; k_head; (case hw => w_witness2)
  k_fill
  refine Gl.walkG (l := PySem.Challenge.rw_mostkept_k07_sums_and_differences) (n := 63) (k := 9) (x := "_law_script") (sp := Gl.spLaw) rfl (by decide) rfl ⟨rfl, by decide, by decide⟩ (fun w h Y => PySem.W.kIn_of Y) ?F (fun _ _ a ns hl _ hS => ⟨a, ns, rfl, hS, hl, fun _ => rfl⟩)
  case F =>
    intro w mg fa h KX G hmg
    refine' Gl.all_law _ ?Z KX G hmg
    case Z =>
      constructor
      · k_is
      · refine' ⟨_, Gl.Has.mk' ?a ?l ?c ?k⟩
        (case a => k_is); (case l => k_is); (case c => k_is); (case k => k_is)
      · refine' ⟨_, Gl.Has.mk' ?a ?l ?c ?k⟩
        (case a => k_is); (case l => k_is); (case c => k_is); (case k => k_is)
      · refine' ⟨_, Gl.Has.mk' ?a ?l ?c ?k⟩
        (case a => k_is); (case l => k_is); (case c => k_is); (case k => k_is)
      · refine' ⟨_, Gl.Has.mk' ?a ?l ?c ?k⟩
        (case a => k_is); (case l => k_is); (case c => k_is); (case k => k_is)
      · refine' ⟨_, Gl.Has.mk' ?a ?l ?c ?k⟩
        (case a => k_is); (case l => k_is); (case c => k_is); (case k => k_is)
      · refine' ⟨_, Gl.Has.mk' ?a ?l ?c ?k⟩
        (case a => k_is); (case l => k_is); (case c => k_is); (case k => k_is)
      · refine' ⟨_, Gl.Has.mk' ?a ?l ?c ?k⟩
        (case a => k_is); (case l => k_is); (case c => k_is); (case k => k_is)
      · refine' ⟨_, Gl.Has.mk' ?a ?l ?c ?k⟩
        (case a => k_is); (case l => k_is); (case c => k_is); (case k => k_is)
      · refine' ⟨_, Gl.Has.mk' ?a ?l ?c ?k⟩
        (case a => k_is); (case l => k_is); (case c => k_is); (case k => k_is)
      · refine' ⟨_, Gl.Has.mk' ?a ?l ?c ?k⟩
        (case a => k_is); (case l => k_is); (case c => k_is); (case k => k_is)
      · refine' ⟨_, Gl.Has.mk' ?a ?l ?c ?k⟩
        (case a => k_is); (case l => k_is); (case c => k_is); (case k => k_is)
      · refine' ⟨_, Gl.Has.mk' ?a ?l ?c ?k⟩
        (case a => k_is); (case l => k_is); (case c => k_is); (case k => k_is)
      · refine' ⟨_, Gl.Has.mk' ?a ?l ?c ?k⟩
        (case a => k_is); (case l => k_is); (case c => k_is); (case k => k_is)
      · refine' ⟨_, Gl.Has.mk' ?a ?l ?c ?k⟩
        (case a => k_is); (case l => k_is); (case c => k_is); (case k => k_is)
      · refine' ⟨_, Gl.Has.mk' ?a ?l ?c ?k⟩
        (case a => k_is); (case l => k_is); (case c => k_is); (case k => k_is)
      · refine' ⟨_, Gl.Has.mk' ?a ?l ?c ?k⟩
        (case a => k_is); (case l => k_is); (case c => k_is); (case k => k_is)
      · refine' ⟨_, Gl.Has.mk' ?a ?l ?c ?k⟩
        (case a => k_is); (case l => k_is); (case c => k_is); (case k => k_is)
      · refine' ⟨_, Gl.Has.mk' ?a ?l ?c ?k⟩
        (case a => k_is); (case l => k_is); (case c => k_is); (case k => k_is)
      · refine' ⟨_, Gl.Has.mk' ?a ?l ?c ?k⟩
        (case a => k_is); (case l => k_is); (case c => k_is); (case k => k_is)
      · refine' ⟨_, Gl.Has.mk' ?a ?l ?c ?k⟩
        (case a => k_is); (case l => k_is); (case c => k_is); (case k => k_is)
      · refine' ⟨_, Gl.Has.mk' ?a ?l ?c ?k⟩
        (case a => k_is); (case l => k_is); (case c => k_is); (case k => k_is)
      · refine' ⟨_, Gl.Has.mk' ?a ?l ?c ?k⟩
        (case a => k_is); (case l => k_is); (case c => k_is); (case k => k_is)
      · refine' ⟨_, Gl.HasM.mk' ?a ?i ?l ?c ?k⟩
        (case a => k_is); (case i => k_is); (case l => k_is); (case c => k_is); (case k => k_is)
      · refine' ⟨_, Gl.HasM.mk' ?a ?i ?l ?c ?k⟩
        (case a => k_is); (case i => k_is); (case l => k_is); (case c => k_is); (case k => k_is)
      · refine' ⟨_, Gl.HasM.mk' ?a ?i ?l ?c ?k⟩
        (case a => k_is); (case i => k_is); (case l => k_is); (case c => k_is); (case k => k_is)
      · refine' ⟨_, Gl.HasM.mk' ?a ?i ?l ?c ?k⟩
        (case a => k_is); (case i => k_is); (case l => k_is); (case c => k_is); (case k => k_is)
      · refine' ⟨_, Gl.HasM.mk' ?a ?i ?l ?c ?k⟩
        (case a => k_is); (case i => k_is); (case l => k_is); (case c => k_is); (case k => k_is)
      · refine' ⟨_, Gl.HasM.mk' ?a ?i ?l ?c ?k⟩
        (case a => k_is); (case i => k_is); (case l => k_is); (case c => k_is); (case k => k_is)
      · refine' ⟨_, Gl.HasM.mk' ?a ?i ?l ?c ?k⟩
        (case a => k_is); (case i => k_is); (case l => k_is); (case c => k_is); (case k => k_is)
      · refine' ⟨_, Gl.HasM.mk' ?a ?i ?l ?c ?k⟩
        (case a => k_is); (case i => k_is); (case l => k_is); (case c => k_is); (case k => k_is)
      · refine' ⟨_, Gl.HasM.mk' ?a ?i ?l ?c ?k⟩
        (case a => k_is); (case i => k_is); (case l => k_is); (case c => k_is); (case k => k_is)
      · refine' ⟨_, Gl.HasM.mk' ?a ?i ?l ?c ?k⟩
        (case a => k_is); (case i => k_is); (case l => k_is); (case c => k_is); (case k => k_is)
      · refine' ⟨_, _, Gl.HasS.mk' ?a ?r ?l ?c ?k⟩
        (case a => k_is); (case r => k_is); (case l => k_is); (case c => k_is); (case k => k_is)
      · refine' ⟨_, _, Gl.HasS.mk' ?a ?r ?l ?c ?k⟩
        (case a => k_is); (case r => k_is); (case l => k_is); (case c => k_is); (case k => k_is)
      · refine' ⟨_, _, Gl.HasS.mk' ?a ?r ?l ?c ?k⟩
        (case a => k_is); (case r => k_is); (case l => k_is); (case c => k_is); (case k => k_is)
      · k_is
      · k_is
      · k_is
      · k_is
      · k_is
      · k_is
      · k_is
      · k_is
      · k_is
      · k_is
      · k_is
      · k_is
      · k_is
      · k_is
      · k_is
      · k_is
      · exact ⟨_, by k_is⟩
      · k_is
      · k_is
      · k_is
      · k_is
      · k_is
      · k_is
      · k_is
      · k_is
      · k_is
      · k_is
