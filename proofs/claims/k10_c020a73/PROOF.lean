import PyProof.Rows.All
import Wide.All
import OpenK.AllK
import Wide.FinOn
import HandS.ForMost
import HandS.Wide
import HandS.Zip
import PyProof.ReprRoads
import HandS.IsInst
import HandS.Walk
import HandS.Strs
import HandS.Defaults
import PyProof.NeData
import PyProof.EqAt
import HandS.List
import HandS.Gcd
import HandS.TupMul
import PyProof.StrLawsRepr
import HandS.OwnEq
import HandS.ClsMeth
import KE.KCallOwn
import HandS.Property
import HandS.FStr
import HandS.RaiseMore
import HandS.Iter
import KE.GoesMore
import HandS.Style
import KE.KRevSl
import HandS.Star
import KE.KTupSum
import HandS.SetFor
import PyProof.Rows.CountFlat
import HandS.TupAny
import HandS.NoneIn
import PySem.Challenge.RW_mostkept_k10_whole_one_ordered_group
set_option Elab.async false
set_option linter.all false
set_option maxRecDepth 100000
set_option maxHeartbeats 4000000
/-! Defs called while no repr is under way: the promise FnG of a def, and the rules that go with it. -/
namespace Gl
open PySem PySem.Spec PyProof.Rows L2

/-- there is room for k calls, and the stack holds no repr -/
structure RmG (k : Nat) (A : Around) : Prop where
  rm : Room k A
  gd : A.guards = some []
theorem RmG.mono {j k : Nat} {A : Around} (r : RmG k A) (h : j ≤ k) : RmG j A := ⟨r.rm.mono h, r.gd⟩
theorem RmG.deeper {k : Nat} {A : Around} (r : RmG (k + 1) A) (v : Env) : RmG k (A.deeper v) := ⟨r.rm.deeper v, r.gd⟩

structure FnG (P : Program) (w : World) (K : PySem.W.Frag)
    (mg : Str → Option Value) (base : Heap) (CX : CXT) (k : Nat)
    (f : Addr) (fd : FuncData) (ps : List Str) (sp : Sp) : Prop where
  len : ∀ vs H Q E, sp vs H Q E → vs.length = ps.length
  go : ∀ (A : Around) (o : List Env) (s : Shared) (H : Hp)
    (ar : Args) (us : List Value) (vs : List V) (Q : VK) (E : XK),
    RmG k A → Env0 P w K mg base A o s H → BindsTo s fd ar (ps.zip us) →
    Vals vs us → sp vs H Q E →
    codeAny (model P w) A (.call (.ref f) ar) (CR CX o P w H s Q E) s

section
variable {P : Program} {w : World} {K : PySem.W.Frag} {mg : Str → Option Value} {base : Heap} {CX : CXT} {k : Nat} {f : Addr} {fd : FuncData} {ps : List Str} {sp : Sp}
theorem FnG.mono {j : Nat} (F : FnG P w K mg base CX j f fd ps sp) (h : j ≤ k) : FnG P w K mg base CX k f fd ps sp :=
  ⟨F.len, fun A o s H ar us vs Q E r => F.go A o s H ar us vs Q E (r.mono h)⟩
/-- a promise of the layer's own -/
theorem FnG.of (F : FnOk P w K mg base CX k f fd ps sp) : FnG P w K mg base CX k f fd ps sp :=
  ⟨F.len, fun A o s H ar us vs Q E r => F.run A o s H ar us vs Q E r.rm⟩
theorem FnG.imp {sp' : Sp} (F : FnG P w K mg base CX k f fd ps sp) (h : ∀ vs H Q E, sp' vs H Q E → sp vs H Q E) : FnG P w K mg base CX k f fd ps sp' :=
  ⟨fun vs H Q E q => F.len vs H Q E (h _ _ _ _ q), fun A o s H ar us vs Q E r e b v q => F.go A o s H ar us vs Q E r e b v (h _ _ _ _ q)⟩
end

section
variable {X : Cx} {CX : CXT} {k : Nat} {f : Addr} {fd : FuncData} {ps : List Str} {sp : Sp} {dvs : List V} {ds : List Value} {E : XK} {x : Str} {p pos : Pos} {e : Expr} {es : List Expr} {t : TA}
theorem runG {pins : List (Addr × Obj)} {σ : L2.St} {H : Hp} {s : Shared} {Q : VK} {us : List Value} {vs : List V}
    (F : FnG X.prog X.w X.K X.mg X.base CX k f fd ps sp) (r : RmG k X.A)
    (hb : Binds X.K fd ps ds) (hd : Vals dvs ds) (hx : Passes CX X E) (I : Inv X pins σ H s)
    (hv : Vals vs us) (q : sp (vs ++ dvs) H Q E) : wpAny (model X.prog X.w) X.A (call (.ref f) us) (EP X pins σ Q) X.xe s := by
  have hv2 : Vals (vs ++ dvs) (us ++ ds) := hv.append hd
  have n1 : (us ++ ds).length = ps.length := hv2.length.symm.trans (F.len _ _ _ _ q)
  have c := F.go X.A X.stack s H ⟨us, []⟩ (us ++ ds) (vs ++ dvs) Q E r I.env0 (hb s us I.kIn n1) hv2 q
  apply wpAny_call
  apply codeAny_mono c
  intro y s2 z
  match y, z with
  | .error a, z => exact hx pins σ H s a s2 I z
  | .ok (.ret u), z => exact I.after z
  | .ok .next, z => exact z.elim
  | .ok .brk, z => exact z.elim
  | .ok .cont, z => exact z.elim

/-- f(e, ..), a def of the text -/
theorem pe_callG (F : FnG X.prog X.w X.K X.mg X.base CX k f fd ps sp) (r : RmG k X.A)
    (hg : Gl X x) (hm : X.mg x = some (.ref f)) (hk : PySem.W.keepIn X.K (.ref f) = true)
    (hb : Binds X.K fd ps ds) (hd : Vals dvs ds) (hx : Passes CX X E) (ha : PA X (e :: es) t)
    (h1 : (x == ("__debug__" : Str)) = false := by decide)
    (h2 : starEach (e :: es) X.env = (false, eval e X.env) :: starEach es X.env := by rfl)
    (h3 : (backTo pos (starEach es X.env)).any (·.1) = false := by rfl) :
    PE X (.Call (.Name x p) (e :: es) [] pos) (tCall sp dvs E t) := .mk fun pins s σ H Q I q => by
  apply wpAny_Call_Name_kw
  apply ld_glob I hg hm _ h1
  apply PySem.W.callWith_K (h₀ := X.base) I.ok.mod.kin hk _ h2 h3
  apply thn (ha.run pos pins s σ H _ I q)
  rintro us s2 ⟨vs, H2, I2, v2, q2⟩
  exact ⟨I2.kIn, runG F r hb hd hx I2 v2 q2⟩
/-- f() -/
theorem pe_callG0 (F : FnG X.prog X.w X.K X.mg X.base CX k f fd ps sp) (r : RmG k X.A)
    (hg : Gl X x) (hm : X.mg x = some (.ref f)) (hk : PySem.W.keepIn X.K (.ref f) = true)
    (hb : Binds X.K fd ps ds) (hd : Vals dvs ds) (hx : Passes CX X E)
    (h1 : (x == ("__debug__" : Str)) = false := by decide) :
    PE X (.Call (.Name x p) [] [] pos) (tCall sp dvs E tNil) := .mk fun pins s σ H Q I q => by
  apply wpAny_Call_Name_kw
  apply ld_glob I hg hm _ h1
  exact PySem.W.callWith_K0 I.kIn hk (runG (us := []) F r hb hd hx I .nil q)
end

/-! ### a def's body -/
section
variable {P : Program} {w : World} {K : PySem.W.Frag} {mg : Str → Option Value} {base : Heap}
theorem okG_of {CX : CXT} {k : Nat} {f : Addr} {nm qual : Str} {pr : Arguments} {body : List Stmt} {sc : Scope} {dV kV doc pm cdv ct oc : Value} {an od : Option Addr}
    {sl : Array (Option Value)} {N ps : List Str} {sp : Sp}
    (lk : K.lookup f = some ⟨oc, od, .func (PySem.W.fnOf nm qual pr body sc dV kV doc pm an cdv ct), sl⟩)
    (hc : PySem.W.codeIn K cdv qual = true) (S : FnScope N ps sc)
    (len : ∀ vs H Q E, sp vs H Q E → vs.length = ps.length)
    (bd : ∀ (A : Around) (o : List Env) (s : Shared) (H : Hp) (vs : List V) (Q : VK) (E : XK),
      RmG k (A.deeper (envOfC qual sc s.heap.objs.size f cdv)) → sp vs H Q E →
      ∃ t, PSs (cxOf CX P w K mg base N qual sc f cdv A o s H E) body t ∧ t { nx := fun _ H' => Q .non H', rt := Q } (start N vs) H) :
    FnG P w K mg base CX (k + 1) f (PySem.W.fnOf nm qual pr body sc dV kV doc pm an cdv ct) ps sp where
  len := len
  go := by
    intro A o s H ar us vs Q E r e0 hb hv q
    have n1 := len _ _ _ _ q
    have up : ∀ b u, base.get? b = some u → s.heap.get? b = some u := fun b u z => (e0.bs b u z).1
    have KX : K.In s.heap := e0.mod.kin.keeps up
    have par : ∀ y ∈ ps.zip us, sc.names.lookup y.1 = some .local ∨
        (sc.names.lookup y.1 = some .cell ∧ ((cellsFrom (s.heap.objs.size + 1) sc.names []).lookup y.1).isSome = true) := by
      rintro ⟨a, v⟩ hy
      have := S.par a (List.of_mem_zip hy).1
      exact this.imp id fun z => ⟨z, PySem.W.cellsFrom_some _ _ _ (.inl z)⟩
    apply codeAny_call_function r.rm.depth (KX _ _ lk) rfl S.co S.gen rfl (PySem.W.codeRec_of KX hc)
    apply hb
    apply wpAny_newFunctionEnv_cells S.kind par
    rintro env rfl s1 ic
    refine ⟨(e0.mod.nolimit.keeps up).keeps ic.toInCall.keep, codeAny_func ?_⟩
    obtain ⟨t, d, z⟩ := bd A o s H vs Q E (r.deeper _) q
    have I := inv_start (CX := CX) (E := E) S r.rm.hd e0 n1 hv ic
    refine wpAny_mono (d.run [] s1 (start N vs) H _ I z) ?_ fun _ _ z => z
    rintro fl s2 y
    match fl, y with
    | .ret u, ⟨v, σ', H', J, rv, q⟩ => exact ⟨v, H', J.os, J.bare, J.base, J.hok, rv, q⟩
    | .next, ⟨σ', H', J, q⟩ => exact ⟨.non, H', J.os, J.bare, J.base, J.hok, rfl, q⟩
    | .brk, ⟨_, _, _, q⟩ => exact q.elim
    | .cont, ⟨_, _, _, q⟩ => exact q.elim
theorem okG {x qual : Str} {st : Stmt} {f : Addr} {fd : FuncData} {N ps : List Str} {k : Nat} {sp : Sp}
    (F : Fun K x qual st f fd) (S : FnScope N ps (defScope st)) (len : ∀ vs H Q E, sp vs H Q E → vs.length = ps.length)
    (bd : ∀ (cdv : Value) (A : Around) (o : List Env) (s : Shared) (H : Hp) (vs : List V) (Q : VK) (E : XK),
      RmG k (A.deeper (envOfC qual (defScope st) s.heap.objs.size f cdv)) → sp vs H Q E →
      ∃ t, PSs (cxOf CX0 P w K mg base N qual (defScope st) f cdv A o s H E).nox (defBody st) t ∧
        t { nx := fun _ H' => Q .non H', rt := Q } (start N vs) H) : FnG P w K mg base CX0 (k + 1) f fd ps sp := by
  obtain ⟨_, _, _, _, _, _, _, _, _, rfl, lk, hc⟩ := F.ex
  apply okG_of lk hc S len
  intro A o s H vs Q E r q
  obtain ⟨t, d, z⟩ := bd _ A o s H vs Q E r q
  exact ⟨t, d.nox, z⟩
end
end Gl

/-! repr of data as a whole. -/
namespace Gl
open PySem PySem.Spec PyProof.Rows L2

mutual
theorem Dp.noDict {K : PySem.W.Frag} {H : Hp} : ∀ {v : V} {d : PyData}, Dp K H v d → d.hasDict = false
  | _, _, .non => by simp only [PyData.hasDict]
  | _, _, .bl b => by simp only [PyData.hasDict]
  | _, _, .int i => by simp only [PyData.hasDict]
  | _, _, .str x => by simp only [PyData.hasDict]
  | _, _, .lst _ h => by simp only [PyData.hasDict]; exact DpAll.noDict h
  | _, _, .tup _ h => by simp only [PyData.hasDict]; exact DpAll.noDict h
theorem DpAll.noDict {K : PySem.W.Frag} {H : Hp} : ∀ {v : List V} {d : List PyData}, DpAll K H v d → PyData.hasDictAll d = false
  | _, _, .nil => by simp only [PyData.hasDictAll]
  | _, _, .cons a b => by simp only [PyData.hasDictAll]; rw [Dp.noDict a, DpAll.noDict b]; rfl
end
/-- repr(x), x data of any shape without dicts -/
def rRepr (K : PySem.W.Frag) : List V → Hp → VK → Prop := fun xs H Q => ∃ x d, xs = [x] ∧ Dp K H x d ∧ d.showable = true ∧ d.depth ≤ 100 ∧ d.shown.length ≤ sizeLine ∧ Q (.str d.shown) H
section
variable {X : Cx}
theorem repr_core {pins : List (Addr × Obj)} {s : Shared} {σ : L2.St} {H : Hp} {Q : VK} {k : Nat} (r : RmG k X.A) (I : Inv X pins σ H s) : ∀ {x : V} {d : PyData} {u : Value}, Dp X.K H x d → RelV x u → d.showable = true → d.depth ≤ 100 → d.shown.length ≤ sizeLine → Q (.str d.shown) H →
    wpAny (model X.prog X.w) X.A (call (.builtin "repr") [u]) (EP X pins σ Q) X.xe s := by
  intro x d u hd ru hs hp hz q
  have nd := Dp.noDict hd
  obtain ⟨as, R⟩ := Dp.reads I d x u hd ru
  have room := r.rm.un
  have refs : ∀ a, u = .ref a → wpAny (model X.prog X.w) X.A (call (.builtin "repr") [u]) (EP X pins σ Q) X.xe s := by
    rintro a rfl
    refine repr_of_reads' R hs (PyData.noDict_hsm nd) r.gd (by omega) (fun _ _ z => z) (fun h' t tk hk => ?_) hz
    exact ⟨.str _, H, I.kept hk, ⟨_, rfl⟩, q⟩
  cases hd with
  | non =>
    cases ru
    exact PySem.P.repr_of_none ⟨.str _, H, I.tok _, ⟨_, rfl⟩, q⟩
  | bl b =>
    cases ru
    exact PySem.P.repr_of_bool ⟨.str _, H, I.tok _, ⟨_, rfl⟩, q⟩
  | int i =>
    obtain ⟨t, rfl⟩ := ru
    have hs' : i.natAbs.log2 < 1920 := of_decide_eq_true (by simpa only [PyData.showable] using hs)
    exact PySem.P.repr_of_int hs' ⟨.str _, H, I.tok _, ⟨_, rfl⟩, q⟩
  | str y =>
    obtain ⟨t, rfl⟩ := ru
    exact PySem.P.repr_of_str ⟨.str _, H, I.tok _, ⟨_, rfl⟩, q⟩ hz
  | lst _ _ =>
    cases ru
    exact refs _ rfl
  | tup _ _ =>
    cases ru
    exact refs _ rfl
theorem call_reprD {k : Nat} (r : RmG k X.A) : CallR X (.builtin "repr") (rRepr X.K) := by
  intro pins s σ H xs us Q I hv h
  obtain ⟨x, d, rfl, hd, hs, hp, hz, q⟩ := h
  obtain ⟨u, rfl, ru⟩ := vals1 hv
  exact repr_core r I hd ru hs hp hz q
/-- a ** n of written numbers -/
def CPw (i j : Int) : Prop := 0 ≤ j ∧ (Builtin.Int.intBits i : Int) * j ≤ 2 ^ 27
theorem op_powW : OpR X (binaryOp .Pow) (rI CPw fun i j => .int (i ^ j.toNat)) := opI fun _ _ _ _ _ _ _ hc q => pow_int hc.1 hc.2 q
end

/-! ### a bound of a shown text -/
mutual
def wt : PyData → Nat
  | .none => 4
  | .bool _ => 5
  | .int _ => 1930
  | .str x => (reprText x).length
  | .list xs => wtAll xs + 2
  | .tuple xs => wtAll xs + 3
  | .dict kvs => (PyData.dict kvs).shown.length
def wtAll : List PyData → Nat
  | [] => 0
  | x :: xs => wt x + 2 + wtAll xs
end
theorem textFrom_le : ∀ (ts : List Str) (k : Nat) (acc : Str), (textFrom k acc ts).length ≤ acc.length + piled ts
  | [], k, acc => by show acc.length ≤ _; omega
  | t :: ts, k, acc => by
    have h := textFrom_le ts (k + 1) (acc ++ (if k > 0 then ", " else "" : String) ++ t)
    have e : (acc ++ (if k > 0 then ", " else "" : String) ++ t).length ≤ acc.length + 2 + t.length := by
      rw [strLen_append, strLen_append]
      split
      · show _ + 2 + _ ≤ _; omega
      · show _ + 0 + _ ≤ _; omega
    rw [piled_cons]
    show (textFrom (k + 1) _ ts).length ≤ _
    omega
theorem join_le : ∀ ts : List Str, (Str.join ", " ts).length ≤ piled ts
  | [] => Nat.zero_le _
  | t :: ts => by
    have h := join_length_add (t :: ts) (by simp)
    omega
theorem listText_le (ts : List Str) : (listText ts).length ≤ piled ts + 2 := by
  unfold listText
  rw [strLen_append]
  have h := textFrom_le ts 0 "["
  have e1 : (("[" : String) : Str).length = 1 := rfl
  have e2 : (("]" : String) : Str).length = 1 := rfl
  omega
theorem tupleText_le (ts : List Str) : (tupleText ts).length ≤ piled ts + 3 := by
  unfold tupleText
  rw [strLen_append, strLen_append]
  have h := join_le ts
  have e1 : (("(" : Str)).length = 1 := rfl
  split
  · have e2 : ((",)" : String) : Str).length = 2 := rfl
    omega
  · have e2 : ((")" : String) : Str).length = 1 := rfl
    omega
mutual
theorem shown_le : ∀ d : PyData, d.showable = true → d.shown.length ≤ wt d
  | .none, _ => by simp only [PyData.shown, wt]; decide
  | .bool b, _ => by simp only [PyData.shown, wt]; cases b <;> decide
  | .int i, h => by
    simp only [PyData.shown, wt]
    have h' : i.natAbs.log2 < 1920 := of_decide_eq_true (by simpa only [PyData.showable] using h)
    have e := int_text_length_le (k := 1920) (by decide) h'
    have e2 : (Str.ofString (toString i)).length = (toString i).length := PySem.ofString_length _
    show (Str.ofString (toString i)).length ≤ _
    omega
  | .str x, _ => by simp only [PyData.shown, wt]; exact Nat.le_refl _
  | .list xs, h => by
    simp only [PyData.shown, wt]
    have h1 := listText_le (PyData.shownAll xs)
    have h2 := shownAll_le xs (by simpa only [PyData.showable] using h)
    omega
  | .tuple xs, h => by
    simp only [PyData.shown, wt]
    have h1 := tupleText_le (PyData.shownAll xs)
    have h2 := shownAll_le xs (by simpa only [PyData.showable] using h)
    omega
  | .dict kvs, _ => by simp only [wt]; exact Nat.le_refl _
theorem shownAll_le : ∀ xs : List PyData, PyData.showableAll xs = true → piled (PyData.shownAll xs) ≤ wtAll xs
  | [], _ => by simp only [PyData.shownAll, wtAll]; exact Nat.le_refl _
  | x :: xs, h => by
    have h' : (x.showable && PyData.showableAll xs) = true := by simpa only [PyData.showableAll] using h
    have h2 := Bool.and_eq_true_iff.mp h'
    simp only [PyData.shownAll, wtAll]
    rw [piled_cons]
    have a := shown_le x h2.1
    have b := shownAll_le xs h2.2
    omega
end
end Gl

/-! The end of a law over FnG. -/
namespace Gl
open PySem PySem.Spec PyProof.Rows L2
open PySem.W (OpenLaw)

theorem rmCaller {k : Nat} (h : Room k callerA) : RmG k callerA := ⟨h, rfl⟩

section
variable {P : Program} {w : World} {K : PySem.W.Frag} {mg mb : Str → Option Value} {k : Nat} {fa a : Addr} {fd : FuncData} {x : Str} {sp : Sp} {s1 : Shared} {vs : List Value} {ns : List Int}
/-- what stands at the law's entry -/
structure Entry (P : Program) (w : World) (K : PySem.W.Frag) (mg mb : Str → Option Value) (k : Nat) (fa a : Addr) (fd : FuncData) (x : Str) (sp : Sp) (s1 : Shared) (vs : List Value) (ns : List Int) : Prop where
  kin : K.In s1.heap
  ng : s1.heap.Ns mainGlobals mg
  nb : s1.heap.Ns builtinsNs mb
  bb : ∀ y : Str, y ≠ "__name__" → mb y = bootBuiltins y
  lim : s1.heap.NoLimit
  gn : s1.gens = #[]
  at_ : s1.heap.get? a = some { cls := .type "list", data := .seq vs.toArray }
  ia : IntsAre vs ns
  sz : ns.length ≤ sizeLine
  rm : Room k callerA
  F : ∀ base : Heap, K.In base → base.Ns mainGlobals mg → FnG P w K mg base CX0 k fa fd [x] sp
  bind : ∀ (s : Shared) (u : Value), BindsTo s fd ⟨[u], []⟩ [(x, u)]
  sp_ : ∀ H : Hp, Only H → SqL K H a (ns.map V.int) → sp [.ref a] H (fun v _ => v = .bl true) fun _ _ _ => False
abbrev Fin (s1 : Shared) (r : Result) (s' : Shared) : Prop := r = .ok (.ret (.bool true)) ∧ OldK s1.heap s'.heap ∧ s'.os = s1.os ∧ AllBare s'.gens

theorem Entry.from (N : Entry P w K mg mb k fa a fd x sp s1 vs ns) (H : Hp) (only : Only H) (sq : SqL K H a (ns.map V.int)) (ok : HOk P w H s1.heap)
    (just : ∀ b, H b ≠ none → b = a) (own : H a ≠ none → K.lookup a = none) :
    codeAny (model P w) callerA (.call (.ref fa) ⟨[.ref a], []⟩) (Fin s1) s1 := by
  have none_of : ∀ b, (H b ≠ none → False) → H b = none := fun b z => by
    rcases h : H b with _ | u
    · rfl
    · exact (z (by rw [h]; exact fun e => nomatch e)).elim
  have dict_free : ∀ {b : Addr} {o : Obj} {es : Array DictEntry} {ep : Nat}, s1.heap.get? b = some o → o.data = .dict es ep → H b = none := by
    intro b o es ep e d
    apply none_of
    intro z
    obtain rfl := just b z
    rw [N.at_] at e
    obtain rfl := Option.some.inj e
    exact nomatch d
  have keepNs : ∀ {b : Addr} {m : Str → Option Value}, s1.heap.Ns b m → (hidT s1.heap H).Ns b m := by
    rintro b m ⟨o, es, ep, e, d, r⟩
    exact ⟨o, es, ep, hidT_get e (dict_free e d), d, r⟩
  have kb : K.In (hidT s1.heap H) := by
    intro b o e
    apply hidT_get (N.kin b o e)
    apply none_of
    intro z
    obtain rfl := just b z
    rw [own z] at e
    exact nomatch e
  have lim : (hidT s1.heap H).NoLimit := by
    obtain ⟨m, h1, h2⟩ := N.lim
    exact ⟨m, keepNs h1, h2⟩
  have md : Mod K mg (hidT s1.heap H) := ⟨kb, keepNs N.ng, ⟨mb, keepNs N.nb, N.bb⟩, lim⟩
  have e0 : Env0 P w K mg (hidT s1.heap H) callerA [] s1 H :=
    { frames := rfl, mod := md, bs := fun _ _ e => of_hidT e, bsz := Nat.le_of_eq (hidT_size _ _), funs := trivial,
      frf := (fun b z => absurd (show b ∈ ([] : List Addr) from z) (by simp)), hok := ok, bare := .of_eq N.gn }
  have c := (N.F _ kb (keepNs N.ng)).go callerA [] s1 H ⟨[.ref a], []⟩ [.ref a] [.ref a] _ _ (rmCaller N.rm) e0 (N.bind s1 (.ref a)) (.cons rfl .nil) (N.sp_ H only sq)
  apply codeAny_mono c
  intro r s2 z
  match r, z with
  | .error e, z => exact z.elim
  | .ok .next, z => exact z.elim
  | .ok .brk, z => exact z.elim
  | .ok .cont, z => exact z.elim
  | .ok (.ret u), ⟨v, H2, os, br, un, ok2, rv, q⟩ =>
    obtain rfl : v = .bl true := q
    obtain rfl : u = Value.bool true := rv
    refine ⟨rfl, OldK.of_keep ?_, os, br⟩
    intro b o e
    rcases h : H b with _ | u
    · exact un.keep b o e h (fun z => nomatch z) (fun z => nomatch z)
    · rcases only b with z | ⟨ob, xs, z⟩
      · rw [h] at z
        exact nomatch z
      · have y1 := (ok b _ z).1
        have y2 := (ok2 b _ (un.frzs b ob _ z)).1
        obtain rfl := Option.some.inj (e.symm.trans y1)
        exact y2

theorem Entry.run (N : Entry P w K mg mb k fa a fd x sp s1 vs ns) : codeAny (model P w) callerA (.call (.ref fa) ⟨[.ref a], []⟩) (Fin s1) s1 := by
  have rv := vals_ints N.ia
  rcases hk : K.lookup a with _ | o
  · let ob : Obj := { cls := .type "list", data := .seq vs.toArray }
    let H : Hp := upd (fun _ => none) a (.frz ob (.lst (ns.map V.int)))
    have ha : H a = some (.frz ob (.lst (ns.map V.int))) := upd_same
    have hn : ∀ b, b ≠ a → H b = none := fun b z => upd_ne z
    have just : ∀ b, H b ≠ none → b = a := fun b z => Decidable.byContradiction fun y => z (hn b y)
    refine N.from H ?_ (.inl (.inr ⟨ob, ha⟩)) ?_ just fun _ => hk
    · intro b
      by_cases z : b = a
      · subst z
        exact .inr ⟨ob, ns.map V.int, ha⟩
      · exact .inl (hn b z)
    · intro b o z
      obtain rfl := just b (by rw [z]; exact fun e => nomatch e)
      rw [ha] at z
      obtain rfl := Option.some.inj z
      exact ⟨N.at_, by rw [List.length_map]; exact N.sz, vs, _, rv, N.at_⟩
  · have e := N.kin a o hk
    rw [N.at_] at e
    obtain rfl := Option.some.inj e
    refine N.from (fun _ => none) (fun _ => .inl rfl) (.inr ⟨_, vs.toArray, _, hk, rfl, rfl, rfl, ?_, by simpa using rv⟩) (fun b u z => nomatch (show (none : Option HO) = some u from z)) (fun b z => (z rfl).elim) fun z => (z rfl).elim
    rw [List.size_toArray, N.ia.length]
    exact N.sz
end

theorem walkG {l : OpenLaw} {n k : Nat} {q : Program} {lo : List Str} {XP : (Str → Option Value) → Heap → Prop} {YP : World → Heap → Prop} {d : DefRec} {K : Params → PySem.W.Frag} {sp : PySem.W.Frag → Sp} {x : Str}
    (hn : l.most = some n) (n2 : n ≤ sizeLine) (df : d.params.defaults = []) (rm : Room k callerA)
    (kY : ∀ (w : World) (h : Heap), YP w h → (K w.params).In h)
    (F : ∀ (w : World) (mg : Str → Option Value) (fa : Addr) (h : Heap), (K w.params).In h → h.Ns mainGlobals mg → mg d.name = some (.ref fa) →
      ∃ fd : FuncData, (∀ (s : Shared) (u : Value), BindsTo s fd ⟨[u], []⟩ [(x, u)]) ∧
        ∀ base : Heap, (K w.params).In base → base.Ns mainGlobals mg → FnG l.prog w (K w.params) mg base CX0 k fa fd [x] (sp (K w.params)))
    (hs : ∀ (K : PySem.W.Frag) (H : Hp) (a : Addr) (ns : List Int), ns.length ≤ n → Only H → SqL K H a (ns.map V.int) → sp K [.ref a] H (fun v _ => v = .bl true) fun _ _ _ => False) :
    PySem.W.WalkO q lo XP YP l.row.toRowW d [] (fun f vs => PySem.call f vs) := by
  apply Att.attach_call hn df
  intro w s0 s1 mg mb fa o pm cd doc a vs ns G Y ho hd hc hm ha hi hl hg
  obtain ⟨fd, hb, hF⟩ := F w mg fa _ (kY w _ Y) G.T.g hm
  exact Entry.run { kin := kY w _ Y, ng := G.T.g, nb := G.T.b, bb := G.T.builtins, lim := G.T.nolimit, gn := hg, at_ := ha, ia := hi, sz := Nat.le_trans hl n2, rm := rm, F := hF, bind := hb, sp_ := fun H h1 h2 => hs _ H a ns hl h1 h2 }
end Gl

namespace Gl
open PySem PySem.Spec PyProof.Rows L2
def topS (i : Nat) : Stmt := PySem.Challenge.pw_mostkept_k10_whole_one_ordered_group.main.body.getD i (.Pass ⟨0, 0, 0, 0⟩)
/-- what the dice are: a list of three ints -/
def Dice (H : Hp) (a : Addr) : Prop := ∃ x y z : Int, H a = some (.lst [.int x, .int y, .int z])
/-- all that stands stays -/
def Ex (H H' : Hp) : Prop := ∀ b o, H b = some o → H' b = some o
/-- all that stands stays, but the dice at a -/
structure Gro (a : Addr) (H H' : Hp) : Prop where
  st : ∀ b o, b ≠ a → H b = some o → H' b = some o
  di : Dice H' a
theorem Ex.refl (H : Hp) : Ex H H := fun _ _ e => e
theorem Ex.trans {H H1 H2 : Hp} (a : Ex H H1) (b : Ex H1 H2) : Ex H H2 := fun _ _ e => b _ _ (a _ _ e)
theorem Ex.new {H : Hp} {p : Addr} {o : HO} (h : H p = none) : Ex H (upd H p o) := fun b u e => by rw [upd_ne (ne_of_none e h)]; exact e
/-- an object that was not there may change -/
theorem Ex.mut {H H' : Hp} {p : Addr} {o : HO} (e : Ex H H') (h : H p = none) : Ex H (upd H' p o) := fun b u q => by rw [upd_ne (ne_of_none q h)]; exact e b u q
theorem Ex.sqL {K : PySem.W.Frag} {H H' : Hp} {a : Addr} {xs : List V} (e : Ex H H') (h : SqL K H a xs) : SqL K H' a xs := by
  rcases h with (h | ⟨o, h⟩) | h
  · exact .inl (.inl (e a _ h))
  · exact .inl (.inr ⟨o, e a _ h⟩)
  · exact .inr h
theorem Ex.rd {H H' : Hp} {a : Addr} {u : HO} (e : Ex H H') (h : Rd H a u) : Rd H' a u := by
  rcases h with h | ⟨o, h⟩
  · exact .inl (e a _ h)
  · exact .inr ⟨o, e a _ h⟩
theorem Ex.dice {H H' : Hp} {a : Addr} (e : Ex H H') (h : Dice H a) : Dice H' a := let ⟨x, y, z, q⟩ := h; ⟨x, y, z, e a _ q⟩
theorem Ex.back {H H' : Hp} {p : Addr} (e : Ex H H') (h : H' p = none) : H p = none := by
  rcases q : H p with _ | o
  · rfl
  · rw [e p o q] at h; exact nomatch h
theorem Gro.refl {H : Hp} {a : Addr} (d : Dice H a) : Gro a H H := ⟨fun _ _ _ e => e, d⟩
theorem Gro.trans {a : Addr} {H H1 H2 : Hp} (x : Gro a H H1) (y : Gro a H1 H2) : Gro a H H2 := ⟨fun b o n e => y.st b o n (x.st b o n e), y.di⟩
theorem Gro.ex {a : Addr} {H H1 H2 : Hp} (x : Gro a H H1) (y : Ex H1 H2) : Gro a H H2 := ⟨fun b o n e => y b o (x.st b o n e), y.dice x.di⟩
theorem Gro.of {a : Addr} {H H1 : Hp} (y : Ex H H1) (d : Dice H a) : Gro a H H1 := (Gro.refl d).ex y
theorem Gro.mut {a : Addr} {H H' : Hp} {p : Addr} {o : HO} (x : Gro a H H') (h : H p = none) (n : p ≠ a) : Gro a H (upd H' p o) :=
  ⟨fun b u nb e => by rw [upd_ne (ne_of_none e h)]; exact x.st b u nb e, let ⟨i, j, k, q⟩ := x.di; ⟨i, j, k, by rw [upd_ne n.symm]; exact q⟩⟩
theorem Gro.tup {a p : Addr} {H H' : Hp} {xs : List V} (x : Gro a H H') (d : Dice H a) (h : H p = some (.tup xs)) : H' p = some (.tup xs) :=
  x.st p _ (fun e => by obtain ⟨i, j, k, q⟩ := d; rw [e, q] at h; exact nomatch h) h
theorem Gro.rd {a p : Addr} {H H' : Hp} {xs : List V} (x : Gro a H H') (d : Dice H a) (h : Rd H p (.tup xs)) : Rd H' p (.tup xs) := by
  obtain ⟨i, j, k, q⟩ := d
  rcases h with h | ⟨o, h⟩
  · exact .inl (x.st p _ (fun e => by rw [e, q] at h; exact nomatch h) h)
  · exact .inr ⟨o, x.st p _ (fun e => by rw [e, q] at h; exact nomatch h) h⟩
theorem Gro.frz {a p : Addr} {H H' : Hp} {o : Obj} {u : HO} (x : Gro a H H') (d : Dice H a) (h : H p = some (.frz o u)) : H' p = some (.frz o u) := by
  obtain ⟨i, j, k, q⟩ := d
  exact x.st p _ (fun e => by rw [e, q] at h; exact nomatch h) h
theorem Gro.sqL {K : PySem.W.Frag} {a p : Addr} {H H' : Hp} {xs : List V} (x : Gro a H H') (n : p ≠ a) (h : SqL K H p xs) : SqL K H' p xs := by
  rcases h with (h | ⟨o, h⟩) | h
  · exact .inl (.inl (x.st p _ n h))
  · exact .inl (.inr ⟨o, x.st p _ n h⟩)
  · exact .inr h
theorem Gro.back {a p : Addr} {H H' : Hp} (x : Gro a H H') (d : Dice H a) (h : H' p = none) : H p = none ∧ p ≠ a := by
  have n : p ≠ a := fun e => by obtain ⟨i, j, k, q⟩ := x.di; rw [← e, h] at q; exact nomatch q
  refine ⟨?_, n⟩
  rcases q : H p with _ | o
  · rfl
  · rw [x.st p o n q] at h; exact nomatch h
theorem Dice.ne {H : Hp} {a p : Addr} (d : Dice H a) (h : H p = none) : p ≠ a := fun e => by obtain ⟨i, j, k, q⟩ := d; rw [← e, h] at q; exact nomatch q
/-- names that the module leaves to the built-ins -/
structure Blt (mg : Str → Option Value) : Prop where
  len : mg "len" = none
  int : mg "int" = none
  abs : mg "abs" = none
  max : mg "max" = none
  min : mg "min" = none
  range : mg "range" = none
  tuple : mg "tuple" = none
  list : mg "list" = none
  repr : mg "repr" = none
  zip : mg "zip" = none
  isinstance : mg "isinstance" = none
  all : mg "all" = none
  str : mg "str" = none
  bool : mg "bool" = none
end Gl

namespace Gl
open PySem PySem.Spec PyProof.Rows L2
abbrev sDice : Stmt := topS 25
abbrev sPull : Stmt := topS 26
abbrev sPick : Stmt := topS 27
theorem scDice : FnScope ["_law_script", "_law_at", "_law_cell", "_law_great", "_law_mixed"] ["_law_script", "_law_at"] (defScope sDice) := ⟨rfl, rfl, rfl, by decide +kernel, rfl, by decide +kernel, by decide +kernel⟩
theorem scPull : FnScope ["_law_dice_here", "_law_total", "_law_found", "_law_one", "_law_two"] ["_law_dice_here", "_law_total"] (defScope sPull) := ⟨rfl, rfl, rfl, by decide +kernel, rfl, by decide +kernel, by decide +kernel⟩
theorem scPick : FnScope ["_law_dice_here", "_law_items"] ["_law_dice_here", "_law_items"] (defScope sPick) := ⟨rfl, rfl, rfl, by decide +kernel, rfl, by decide +kernel, by decide +kernel⟩
section
variable {P : Program} {w : World} {K : PySem.W.Frag} {mg : Str → Option Value} {base : Heap}
def spDice (K : PySem.W.Frag) : Sp := fun vs H Q _ => ∃ (a : Addr) (ns : List Int) (at_ : Nat), vs = [.ref a, .int at_] ∧ SqL K H a (ns.map V.int) ∧ ns.length ≤ 63 ∧
  ∀ H' p, Ex H H' → H p = none → Dice H' p → Q (.ref p) H'
theorem cmul_l {i j : Int} (h1 : -(2 ^ 64) < i) (h2 : i < 2 ^ 64) : CMul i j := .inl ⟨h1, h2⟩
theorem cpw60 : CPw 10 60 := ⟨by decide, by decide +kernel⟩
theorem cpw12 : CPw ((10 : Int) ^ (60 : Int).toNat) 12 := ⟨by decide, by decide +kernel⟩
theorem cpw18 : CPw 10 18 := ⟨by decide, by decide +kernel⟩
theorem pos720 : (0 : Int) < ((10 : Int) ^ (60 : Int).toNat) ^ (12 : Int).toNat := by decide +kernel
theorem ok_dice {f : Addr} {fd : FuncData} {k : Nat} (F : Fun K "_law_dice" "_law_dice" sDice f fd) (T : Blt mg) : FnG P w K mg base CX0 (k + 1) f fd ["_law_script", "_law_at"] (spDice K) := by
  refine okG F scDice (fun vs H Q E h => ?_) (fun cdv A outer s H vs Q E hr h => ?_)
  · obtain ⟨a, ns, i, rfl, _⟩ := h
    rfl
  · obtain ⟨a, ns, i, rfl, hS, hl, q⟩ := h
    have nd := scDice.nd
    refine ⟨_, pss_cons (ps_set (i := 2) nd rfl (.inl rfl) (pe_op op_add (pe_op op_mul pe_int (pv 1)) pe_int))
      (pss_cons (ps_if (pt_cmpR op_lt (pv 1) (pe_callB call_len_seq (by rfl) T.len PySem.boot_len (pa_cons (pv 0) pa_nil)) (nomark _)) (pss_one (ps_set (i := 2) nd rfl (.inl rfl) (pe_ix ix_list (pv 0) (pv 1) (fun _ _ => rfl)))) pss_nil)
      (pss_cons (ps_set (i := 3) nd rfl (.inl rfl) (pe_op op_mod (pe_callTy call_int1 (by rfl) T.int (by decide +kernel) (pa_cons (pe_callB call_abs (by rfl) T.abs (by decide +kernel) (pa_cons (pv 2) pa_nil)) pa_nil)) (pe_op op_powW (pe_op op_powW pe_int pe_int) pe_int)))
      (pss_cons (ps_set (i := 4) nd rfl (.inl rfl) (pe_op op_add (pe_op op_add (pe_op op_add (pe_op op_mul (pe_op op_mod (pe_callTy call_int1 (by rfl) T.int (by decide +kernel) (pa_cons (pv 3) pa_nil)) pe_int) pe_int) (pe_op op_mul pe_int (pv 1))) (pe_op op_mul pe_int (pe_callTy call_int1 (by rfl) T.int (by decide +kernel) (pa_cons (pe_cmpR op_lt (pv 2) pe_int (nomark _)) pa_nil)))) pe_int))
      (pss_one (ps_ret (pe_lst (pa_cons (pe_callB (call_max2 rfl) (by rfl) T.max (by decide +kernel) (pa_cons pe_int (pa_cons (pe_op op_sub (pv 3) (pe_op op_powW pe_int pe_int)) pa_nil))) (pa_cons (pe_op op_mod (pe_callTy call_int1 (by rfl) T.int (by decide +kernel) (pa_cons (pv 4) pa_nil)) pe_int) (pa_cons pe_int pa_nil))))))))), ?_⟩
    -- cell = 13 * at + 6
    refine ⟨_, rfl, 13, i, rfl, rfl, cmul_l (by decide) (by decide), _, _, rfl, rfl, ?_⟩
    -- if at < len(script): cell = script[at]
    refine ⟨_, rfl, .ref a, rfl, a, _, rfl, .inl hS, i, _, rfl, rfl, _, rfl, ?_⟩
    refine ite2 (fun e => ?_) (fun e => ?_)
    have hi : i < ns.length := by
      have := of_decide_eq_true e
      rw [List.length_map] at this
      omega
    refine ⟨_, rfl, _, rfl, a, _, i, .int ns[i], rfl, rfl, hS, atI_nat (j := i) (by rw [List.getElem?_map, List.getElem?_eq_getElem hi]; rfl), ?_⟩
    generalize ns[i] = c
    revert c
    rotate_left
    generalize 13 * (i : Int) + 6 = c
    revert c
    all_goals
      intro c
      refine ⟨_, rfl, _, rfl, .inl ⟨_, rfl, 10, 60, rfl, rfl, cpw60, _, 12, rfl, rfl, cpw12, _, _, rfl, rfl, pos720, ?_⟩⟩
      refine ⟨_, rfl, .inl ⟨_, rfl, _, _, rfl, rfl, (show (0 : Int) < 2147483497 by decide), _, _, rfl, rfl, .inr ⟨by decide, by decide⟩, _, rfl, _, _, rfl, rfl, cmul_l (by decide) (by decide), _, _, rfl, rfl, _, rfl, _, _, rfl, rfl, .inr ⟨_, rfl, _, _, rfl, rfl, cmul_l (by decide) (by decide), _, _, rfl, rfl, _, _, rfl, rfl, ?_⟩⟩⟩
      refine ⟨_, rfl, 10, 18, rfl, rfl, cpw18, _, _, rfl, rfl, _, _, rfl, _, rfl, .inl ⟨_, rfl, _, _, rfl, rfl, (show (0 : Int) < 2147483489 by decide), by show 3 ≤ sizeLine; decide, fun p np => ?_⟩⟩
      exact q _ p (Ex.new np) np ⟨_, _, _, upd_same⟩
def spPull : Sp := fun vs H Q _ => ∃ (a : Addr) (n : Int), vs = [.ref a, .int n] ∧ 0 < n ∧ n.natAbs < 2 ^ 200 ∧ Dice H a ∧
  ∀ (v : Int) H', 0 ≤ v → v < n → Gro a H H' → Q (.int v) H'
theorem ok_pull {f : Addr} {fd : FuncData} {k : Nat} (F : Fun K "_law_pull" "_law_pull" sPull f fd) (T : Blt mg) : FnG P w K mg base CX0 (k + 1) f fd ["_law_dice_here", "_law_total"] spPull := by
  refine okG F scPull (fun vs H Q E h => ?_) (fun cdv A outer s H vs Q E hr h => ?_)
  · obtain ⟨a, n, rfl, _⟩ := h
    rfl
  · obtain ⟨a, n, rfl, hn, hn2, ⟨x, y, z, hd⟩, q⟩ := h
    have nd := scPull.nd
    have hu := hu_of hr.rm
    refine ⟨_, pss_cons (ps_if (pt_cmpR op_gt (pe_ix ix_list (pv 0) pe_int (fun _ _ => rfl)) pe_int (nomark _))
        (pss_cons (ps_set (i := 2) nd rfl (.inl rfl) (pe_op op_mod (pe_callTy call_int1 (by rfl) T.int (by decide +kernel) (pa_cons (pe_ix ix_list (pv 0) pe_int (fun _ _ => rfl)) pa_nil)) (pv 1)))
        (pss_cons (ps_asg (pe_op op_fdivW (pe_ix ix_list (pv 0) pe_int (fun _ _ => rfl)) (pv 1)) (pg_sub (pv 0) pe_int set_list))
        (pss_one (ps_ret (pv 2))))) pss_nil)
      (pss_cons (ps_asg (pe_op op_add (pe_ix ix_list (pv 0) pe_int (fun _ _ => rfl)) pe_int) (pg_sub (pv 0) pe_int set_list))
      (pss_cons (ps_set (i := 3) nd rfl (.inl rfl) (pe_op op_mod (pe_callTy call_int1 (by rfl) T.int (by decide +kernel) (pa_cons (pe_op op_add (pe_ix ix_list (pv 0) pe_int (fun _ _ => rfl)) (pe_op op_mul pe_int (pe_ix ix_list (pv 0) pe_int (fun _ _ => rfl)))) pa_nil)) pe_int))
      (pss_cons (ps_set (i := 4) nd rfl (.inl rfl) (pe_op op_mul (pe_op op_mod (pe_callTy call_int1 (by rfl) T.int (by decide +kernel) (pa_cons (pe_op op_mul (pv 3) (pv 3)) pa_nil)) pe_int) (pv 3)))
      (pss_one (ps_ret (pe_op op_mod (pe_callTy call_int1 (by rfl) T.int (by decide +kernel) (pa_cons (pe_op op_fdiv (pe_op op_mod (pe_callTy call_int1 (by rfl) T.int (by decide +kernel) (pa_cons (pe_op op_add (pv 4) (pe_op op_mul pe_int (pe_ix ix_list (pv 0) pe_int (fun _ _ => rfl)))) pa_nil)) pe_int) pe_int) pa_nil)) (pv 1))))))), ?_⟩
    have at0 : atI [V.int x, .int y, .int z] 0 = some (.int x) := rfl
    have hl : SqL K H a [.int x, .int y, .int z] := .inl (.inl hd)
    have hdi : ∀ H', H' a = some (.lst [.int x, .int y, .int z]) → SqL K H' a [.int x, .int y, .int z] := fun _ h => .inl (.inl h)
    have grow : ∀ x' y' z' : Int, Gro a H (upd H a (.lst [.int x', .int y', .int z'])) := fun x' y' z' => ⟨fun b o n e => by rw [upd_ne n]; exact e, x', y', z', upd_same⟩
    refine ⟨_, rfl, a, _, 0, _, rfl, rfl, hl, rfl, _, _, rfl, rfl, _, rfl, ite2 (fun e => ?_) (fun e => ?_)⟩
    · refine ⟨_, rfl, a, _, 0, _, rfl, rfl, hl, rfl, .inl ⟨_, rfl, _, rfl, x, n, rfl, rfl, hn, ?_⟩⟩
      refine ⟨_, rfl, a, _, 0, _, rfl, rfl, hl, rfl, _, rfl, x, n, rfl, rfl, wide_div hn hn2 (by decide) (by decide), ?_⟩
      refine ⟨_, rfl, a, _, 0, 0, rfl, rfl, hd, rfl, ?_⟩
      exact ⟨_, rfl, q (x % n) _ (Int.emod_nonneg _ (by omega)) (Int.emod_lt_of_pos _ hn) (grow _ _ _)⟩
    · refine ⟨_, rfl, a, _, 2, _, rfl, rfl, hl, rfl, z, 1, rfl, rfl, ?_⟩
      refine ⟨_, rfl, a, _, 2, 2, rfl, rfl, hd, rfl, ?_⟩
      have hl2 : SqL K (upd H a (.lst [.int x, .int y, .int (z + 1)])) a [.int x, .int y, .int (z + 1)] := .inl (.inl upd_same)
      refine ⟨_, rfl, a, _, 1, _, rfl, rfl, hl2, rfl, _, rfl, a, _, 2, _, rfl, rfl, hl2, rfl, _, _, rfl, rfl, cmul_l (by decide) (by decide), _, _, rfl, rfl, .inl ⟨_, rfl, _, _, rfl, rfl, (show (0 : Int) < 2305843009213693951 by decide), ?_⟩⟩
      have b1 : ∀ u : Int, 0 ≤ u % 2305843009213693951 ∧ u % 2305843009213693951 < 2305843009213693951 := fun u => ⟨Int.emod_nonneg _ (by decide), Int.emod_lt_of_pos _ (by decide)⟩
      have b2 : ∀ u : Int, 0 ≤ u % 2305843009213693921 ∧ u % 2305843009213693921 < 2305843009213693921 := fun u => ⟨Int.emod_nonneg _ (by decide), Int.emod_lt_of_pos _ (by decide)⟩
      have c1 : ∀ u v : Int, CMul (u % 2305843009213693951) v := fun u v => cmul_l (by have := b1 u; omega) (by have := b1 u; omega)
      have c2 : ∀ u v : Int, CMul (u % 2305843009213693921) v := fun u v => cmul_l (by have := b2 u; omega) (by have := b2 u; omega)
      refine ⟨_, rfl, _, rfl, _, _, rfl, rfl, c1 _ _, .inl ⟨_, rfl, _, _, rfl, rfl, (show (0 : Int) < 2305843009213693921 by decide), _, rfl, _, _, rfl, rfl, c2 _ _, ?_⟩⟩
      refine ⟨_, rfl, _, rfl, a, _, 2, _, rfl, rfl, hl2, rfl, _, _, rfl, rfl, cmul_l (by decide) (by decide), _, _, rfl, rfl, .inl ⟨_, rfl, _, _, rfl, rfl, (show (0 : Int) < 2305843009213693907 by decide), _, _, rfl, rfl, ⟨by decide, by decide⟩, .inl ⟨_, rfl, _, rfl, _, _, rfl, rfl, hn, ?_⟩⟩⟩
      exact q _ _ (Int.emod_nonneg _ (by omega)) (Int.emod_lt_of_pos _ hn) (grow _ _ _)
end
end Gl

namespace Gl
open PySem PySem.Spec PyProof.Rows L2
/-- a tuple that carries no dict of its own: known to the object -/
def TupF (H : Hp) (p : Addr) (xs : List V) : Prop := ∃ o : Obj, o.dict = none ∧ H p = some (.frz o (.tup xs))
theorem TupF.rd {H : Hp} {p : Addr} {xs : List V} (h : TupF H p xs) : Rd H p (.tup xs) := let ⟨o, _, e⟩ := h; .inr ⟨o, e⟩
theorem Ex.tupF {H H' : Hp} {p : Addr} {xs : List V} (e : Ex H H') (h : TupF H p xs) : TupF H' p xs := let ⟨o, d, q⟩ := h; ⟨o, d, e _ _ q⟩
theorem Gro.tupF {a p : Addr} {H H' : Hp} {xs : List V} (x : Gro a H H') (d : Dice H a) (h : TupF H p xs) : TupF H' p xs := let ⟨o, n, q⟩ := h; ⟨o, n, x.frz d q⟩
theorem tupF_new {H : Hp} {p : Addr} {xs : List V} {o : Obj} (d : o.dict = none) : TupF (upd H p (.frz o (.tup xs))) p xs := ⟨o, d, upd_same⟩
section
variable {X : Cx}
/-- tuple(a list): new, without a dict -/
def rTupF (K : PySem.W.Frag) : List V → Hp → VK → Prop := fun xs H Q => ∃ p ys, xs = [.ref p] ∧ SqL K H p ys ∧ ∀ l o, H l = none → o.dict = none → Q (.ref l) (upd H l (.frz o (.tup ys)))
theorem call_tupleF : CallR X (.type "tuple") (rTupF X.K) := by
  rintro pins s σ H xs us Q I rv ⟨p, ys, rfl, hq, q⟩
  obtain ⟨u, rfl, ru⟩ := vals1 rv
  obtain rfl : u = Value.ref p := ru
  obtain ⟨its, ri, pl, hz⟩ := I.list hq
  have n1 := ri.length
  apply call_tuple_list pl.isList _ (by simp only [List.size_toArray]; omega)
  intro h' kp
  have J : Inv X pins σ H { s with heap := h' } := I.kept (t' := s.toks) kp
  let o : Obj := { cls := .type "tuple", data := .seq its.toArray }
  have g : (h'.push o).get? h'.objs.size = some o := Heap.get?_push_size _ rfl
  have ok : ObjOk X.prog X.w (upd H h'.objs.size (.frz o (.tup ys))) (h'.push o) h'.objs.size (.frz o (.tup ys)) :=
    ⟨g, hz, its, ri, o, g, rfl, _, rfl⟩
  exact ⟨.ref h'.objs.size, _, J.laid (t' := s.toks) (fun _ _ e => Heap.get?_push_of_some _ e) (Nat.le_refl _) ok, rfl, q _ o (J.hok.fresh (Nat.le_refl _)) rfl⟩
variable {es : List Expr} {pos : Pos} {t : TA}
/-- (a, b, ..): new, without a dict -/
def tTupF (t : TA) : TE := fun σ H Q => t σ H fun xs H1 => xs.length ≤ sizeLine ∧ ∀ p o, H1 p = none → o.dict = none → Q (.ref p) (upd H1 p (.frz o (.tup xs)))
theorem pe_tupF {n} (h : PA X es t) : PE X (.Tuple es n pos) (tTupF t) := .mk fun pins s σ H Q I hq => by
  apply wpAny_Tuple_spliced
  apply thn (h.run pos pins s σ H _ I hq)
  rintro us s1 ⟨xs, H1, J, r, z, q⟩
  refine ⟨by rw [← r.length]; exact z, ?_⟩
  let o : Obj := { cls := .type "tuple", data := .seq us.toArray }
  have g : (s1.heap.push o).get? s1.heap.objs.size = some o := Heap.get?_push_size _ rfl
  have ok : ObjOk X.prog X.w (upd H1 s1.heap.objs.size (.frz o (.tup xs))) (s1.heap.push o) s1.heap.objs.size (.frz o (.tup xs)) :=
    ⟨g, z, us, r, o, g, rfl, _, rfl⟩
  exact ⟨.ref s1.heap.objs.size, _, J.laid (t' := s1.toks) (fun _ _ e => Heap.get?_push_of_some _ e) (Nat.le_refl _) ok, rfl, q _ o (J.hok.fresh (Nat.le_refl _)) rfl⟩
/-- t.m(e, ..), t a tuple without a dict -/
def tBMT (r : V → List V → Hp → VK → Prop) (to : TE) (t : TA) : TE := fun σ H Q => to σ H fun x H1 => (∃ p xs, x = .ref p ∧ TupF H1 p xs) ∧ t σ H1 fun ys H2 => r x ys H2 Q
theorem pe_bmT {o e : Expr} {name : Str} {apos cpos : Pos} {id : String} {to : TE} {r : V → List V → Hp → VK → Prop} (sl : Slot "tuple" name id) (ty : typeOf (.builtin id) = pure (.type "method_descriptor")) (hm : MtR X id r) (ho : PE X o to) (ha : PA X (e :: es) t)
    (h1 : attributeBase o name X.env (eval o X.env) = eval o X.env := by rfl)
    (h2 : ((backTo cpos (starEach (e :: es) X.env)).all (fun x => !x.1) && (backToKw cpos (keywordEach [] X.env)).all (fun x => x.1.isSome)
        && decide ((e :: es).length + ([] : List Keyword).length + (if ([] : List Keyword).isEmpty then 0 else 1) < 30)) = true := by rfl)
    (h3 : (apos.endLine == cpos.line) = true := by rfl) (h4 : starEach (e :: es) X.env = (false, eval e X.env) :: starEach es X.env := by rfl)
    (h5 : (backTo cpos (starEach es X.env)).any (·.1) = false := by rfl) :
    PE X (.Call (.Attribute o name apos) (e :: es) [] cpos) (tBMT r to t) := .mk fun pins s σ H Q I h => by
  apply wpAny_Call_method_late h1 h2 h3 rfl
  apply thn (ho.run pins s σ H _ I h)
  rintro v s1 ⟨x, H1, J, rx, ⟨p, xs, rfl, ob, hd, hp⟩, q⟩
  obtain rfl : v = Value.ref p := rx
  obtain ⟨g, _, its, ri, o2, g2, c2, _⟩ := J.hok p _ hp
  obtain rfl := Option.some.inj (g.symm.trans g2)
  refine ⟨"tuple", id, PySem.F.plainAttrs_tuple, sl, ty, ⟨ob, g, c2⟩, ?_, ?_⟩
  · rintro a z
    obtain rfl := Value.ref.inj z
    exact ⟨ob, g, hd⟩
  · have A := ha.run cpos pins s1 σ H1 _ J q
    rw [h4] at A ⊢
    have h6 : (backTo cpos ((false, eval e X.env) :: starEach es X.env)).any (·.1) = false := (Bool.false_or _).trans h5
    apply Calls.callWith_builtin h6
    apply Calls.evalArgs_plain
    exact thn A fun us s2 ⟨vs, H2, J2, r2, q2⟩ => hm pins s2 σ H2 _ vs _ us Q J2 (show RelV (V.ref p) (Value.ref p) from rfl) r2 q2
end
end Gl

namespace Gl
open PySem PySem.Spec PyProof.Rows L2
section
variable {P : Program} {w : World} {K : PySem.W.Frag} {mg : Str → Option Value} {base : Heap}
def spPick : Sp := fun vs H Q _ => ∃ (a p : Addr) (xs : List V), vs = [.ref a, .ref p] ∧ H p = some (.lst xs) ∧ p ≠ a ∧ xs ≠ [] ∧ xs.length ≤ 1000 ∧ Dice H a ∧
  ∀ (v : V) H', v ∈ xs → Gro a H H' → Q v H'
/-- the dice's defs -/
structure Dc (P : Program) (w : World) (K : PySem.W.Frag) (mg : Str → Option Value) (base : Heap) where
  f : Addr
  fd : FuncData
  G : FnG P w K mg base CX0 1 f fd ["_law_dice_here", "_law_total"] spPull
  g : mg "_law_pull" = some (.ref f)
  kp : PySem.W.keepIn K (.ref f) = true
  b : Binds K fd ["_law_dice_here", "_law_total"] []
theorem ok_pick {f : Addr} {fd : FuncData} (F : Fun K "_law_pick" "_law_pick" sPick f fd) (T : Blt mg) (D : Dc P w K mg base) : FnG P w K mg base CX0 2 f fd ["_law_dice_here", "_law_items"] spPick := by
  refine okG F scPick (fun vs H Q E h => ?_) (fun cdv A outer s H vs Q E hr h => ?_)
  · obtain ⟨a, n, xs, rfl, _⟩ := h
    rfl
  · obtain ⟨a, p, xs, rfl, hp, pa, hx, hl, hd, q⟩ := h
    have nd := scPick.nd
    refine ⟨_, pss_one (ps_ret (pe_ix ix_list (pv 1) (pe_callG D.G hr (by rfl) D.g D.kp D.b .nil pass0 (pa_cons (pv 0) (pa_cons (pe_callB call_len_seq (by rfl) T.len PySem.boot_len (pa_cons (pv 1) pa_nil)) pa_nil))) (fun _ _ => rfl))), ?_⟩
    have hl0 : 0 < xs.length := List.length_pos_iff.mpr hx
    refine ⟨_, rfl, _, rfl, _, rfl, p, xs, rfl, .inl (.inl (.inl hp)), a, _, rfl, by omega, Nat.lt_of_le_of_lt (show ((xs.length : Int)).natAbs ≤ 1000 by omega) (by decide), hd, fun v H' h0 h1 gr => ?_⟩
    obtain ⟨m, rfl⟩ : ∃ m : Nat, v = m := ⟨v.toNat, by omega⟩
    have hi : m < xs.length := by omega
    exact ⟨p, xs, m, xs[m], rfl, rfl, .inl (.inl (gr.st p _ pa hp)), atI_nat (List.getElem?_eq_getElem hi), q _ _ (List.getElem_mem hi) gr⟩

end
end Gl

namespace Gl
open PySem PySem.Spec PyProof.Rows L2
/-! ### data of any shape, with dicts from texts to ints -/
mutual
inductive Dx (K : PySem.W.Frag) (H : Hp) : V → PyData → Prop
  | non : Dx K H .non .none
  | bl (b : Bool) : Dx K H (.bl b) (.bool b)
  | int (i : Int) : Dx K H (.int i) (.int i)
  | str (x : Str) : Dx K H (.str x) (.str x)
  | lst {a : Addr} {xs : List V} {ds : List PyData} : H a = some (.lst xs) → DxAll K H xs ds → Dx K H (.ref a) (.list ds)
  | tup {a : Addr} {xs : List V} {ds : List PyData} : Rd H a (.tup xs) → DxAll K H xs ds → Dx K H (.ref a) (.tuple ds)
  | dk {a : Addr} (ps : List (Str × Int)) : H a = some (.dK (ps.map fun p => (.inr p.1, .int p.2))) → Dx K H (.ref a) (.dict (ps.map fun p => (.str p.1, .int p.2)))
inductive DxAll (K : PySem.W.Frag) (H : Hp) : List V → List PyData → Prop
  | nil : DxAll K H [] []
  | cons {v : V} {vs : List V} {d : PyData} {ds : List PyData} : Dx K H v d → DxAll K H vs ds → DxAll K H (v :: vs) (d :: ds)
end
mutual
def noList : PyData → Bool
  | .list _ => false
  | .tuple xs => noLists xs
  | _ => true
def noLists : List PyData → Bool
  | [] => true
  | x :: xs => noList x && noLists xs
end
section
variable {X : Cx} {pins : List (Addr × Obj)} {σ : L2.St} {H : Hp} {s : Shared}
theorem dict_key {P : Program} {w : World} {h : Heap} : ∀ (ps : List (Str × Int)) (vs : List (Key × Value)) (l : List DictEntry), KV (ps.map fun p => ((Sum.inr p.1 : Key), V.int p.2)) vs → Pairs (mixKind P w) l vs →
    ReadsAll h (l.map (·.key)) ((ps.map fun p => (PyData.str p.1, PyData.int p.2)).map (·.1)) [] ∧ ReadsAll h (l.map (·.val)) ((ps.map fun p => (PyData.str p.1, PyData.int p.2)).map (·.2)) []
  | [], _, _, .nil, .nil => ⟨.nil, .nil⟩
  | p :: ps, (k, v) :: vs, e :: l, .cons ⟨e1, e2⟩ r, .cons h1 h2 h3 => by
    obtain ⟨r1, r2⟩ := dict_key ps vs l r h3
    have e1 : (Sum.inr p.1 : Key) = k := e1
    subst e1
    obtain ⟨t, rfl⟩ : ∃ t, v = Value.int p.2 t := e2
    have h1 : keyIs (.inr p.1) e.key = true := h1
    have h2 : e.val = Value.int p.2 t := h2
    constructor
    · show ReadsAll h (e.key :: l.map (·.key)) (PyData.str p.1 :: _) ([] ++ [])
      refine .cons ?_ r1
      rcases keyIs_shape h1 with ⟨i, u, e3, _⟩ | ⟨x, u, e3, e4⟩
      · exact nomatch e3
      · rw [e4, Sum.inr.inj e3]; exact .str x u
    · show ReadsAll h (e.val :: l.map (·.val)) (PyData.int p.2 :: _) ([] ++ [])
      rw [h2]
      exact .cons (.int _ _) r2
theorem dict_reads (I : Inv X pins σ H s) {a : Addr} {ps : List (Str × Int)} (h : H a = some (.dK (ps.map fun p => (.inr p.1, .int p.2)))) :
    ∃ as, Reads s.heap (.ref a) (.dict (ps.map fun p => (.str p.1, .int p.2))) as ∧ sysModules ∉ as := by
  obtain ⟨_, hs, vs, kv, o, es, ep, g, hx, hd, _, pr, _⟩ := I.hok a _ h
  obtain ⟨k1, k2⟩ := dict_key (h := s.heap) ps vs es.toList kv pr
  refine ⟨[a], .dict (as := []) (bs := []) g hx.1 hd k1 k2, ?_⟩
  intro z
  rw [List.mem_singleton.mp z] at hs
  simp at hs
mutual
theorem Dx.reads (I : Inv X pins σ H s) : ∀ (d : PyData) (v : V) (u : Value), Dx X.K H v d → RelV v u → ∃ as, Reads s.heap u d as ∧ (noList d = true → sysModules ∉ as)
  | .none, _, _, .non, r => by
    cases r
    exact ⟨_, .none, fun _ z => nomatch z⟩
  | .bool b, _, _, .bl _, r => by
    cases r
    exact ⟨_, .bool b, fun _ z => nomatch z⟩
  | .int i, _, _, .int _, r => by
    obtain ⟨t, rfl⟩ := r
    exact ⟨_, .int i t, fun _ z => nomatch z⟩
  | .str x, _, _, .str _, r => by
    obtain ⟨t, rfl⟩ := r
    exact ⟨_, .str x t, fun _ z => nomatch z⟩
  | .list ds, _, _, .lst ha hd, r => by
    cases r
    obtain ⟨_, its, n, ri, g⟩ := I.hok _ _ ha
    obtain ⟨as, R, _⟩ := DxAll.reads I ds _ its hd ri
    exact ⟨_, .list g rfl rfl (by simpa using R), fun z => by simp [noList] at z⟩
  | .tuple ds, _, _, .tup ha hd, r => by
    cases r
    obtain ⟨_, its, ri, o, g, c, n, dt⟩ := ha.ok I.hok
    obtain ⟨as, R, q⟩ := DxAll.reads I ds _ its hd ri
    exact ⟨_, .tuple g c dt (by simpa using R), fun z => q (by simpa only [noList] using z)⟩
  | .dict _, _, _, .dk ps ha, r => by
    cases r
    obtain ⟨as, R, q⟩ := dict_reads I ha
    exact ⟨as, R, fun _ => q⟩
theorem DxAll.reads (I : Inv X pins σ H s) : ∀ (ds : List PyData) (vs : List V) (us : List Value), DxAll X.K H vs ds → Vals vs us → ∃ as, ReadsAll s.heap us ds as ∧ (noLists ds = true → sysModules ∉ as)
  | [], _, _, .nil, .nil => ⟨_, .nil, fun _ z => nomatch z⟩
  | d :: ds, v :: vs, u :: us, .cons h1 h2, .cons r1 r2 => by
    obtain ⟨as, R, q⟩ := Dx.reads I d v u h1 r1
    obtain ⟨bs, R2, q2⟩ := DxAll.reads I ds vs us h2 r2
    refine ⟨_, .cons R R2, fun z m => ?_⟩
    have z' : (noList d && noLists ds) = true := by simpa only [noLists] using z
    have z2 := Bool.and_eq_true_iff.mp z'
    rcases List.mem_append.mp m with y | y
    · exact q z2.1 y
    · exact q2 z2.2 y
end
/-- repr(x) of such data: dicts only where no list is -/
def rReprX (K : PySem.W.Frag) : List V → Hp → VK → Prop := fun xs H Q => ∃ x d, xs = [x] ∧ Dx K H x d ∧ (d.hasDict = false ∨ noList d = true) ∧ d.showable = true ∧ d.depth ≤ 100 ∧ d.shown.length ≤ sizeLine ∧ Q (.str d.shown) H
theorem call_reprX {k : Nat} (r : RmG k X.A) : CallR X (.builtin "repr") (rReprX X.K) := by
  intro pins s σ H xs us Q I hv h
  obtain ⟨x, d, rfl, hd, hdict, hs, hp, hz, q⟩ := h
  obtain ⟨u, rfl, ru⟩ := vals1 hv
  obtain ⟨as, R, nl⟩ := Dx.reads I d x u hd ru
  have room := r.rm.un
  have hsm : d.hasDict = true → sysModules ∉ as := fun z => by
    rcases hdict with y | y
    · rw [y] at z; exact nomatch z
    · exact nl y
  have refs : ∀ a, u = .ref a → wpAny (model X.prog X.w) X.A (call (.builtin "repr") [u]) (EP X pins σ Q) X.xe s := by
    rintro a rfl
    refine repr_of_reads' R hs hsm r.gd (by omega) (fun _ _ z => z) (fun h' t tk hk => ?_) hz
    exact ⟨.str _, H, I.kept hk, ⟨_, rfl⟩, q⟩
  cases hd with
  | non =>
    cases ru
    exact PySem.P.repr_of_none ⟨.str _, H, I.tok _, ⟨_, rfl⟩, q⟩
  | bl b =>
    cases ru
    exact PySem.P.repr_of_bool ⟨.str _, H, I.tok _, ⟨_, rfl⟩, q⟩
  | int i =>
    obtain ⟨t, rfl⟩ := ru
    have hs' : i.natAbs.log2 < 1920 := of_decide_eq_true (by simpa only [PyData.showable] using hs)
    exact PySem.P.repr_of_int hs' ⟨.str _, H, I.tok _, ⟨_, rfl⟩, q⟩
  | str y =>
    obtain ⟨t, rfl⟩ := ru
    exact PySem.P.repr_of_str ⟨.str _, H, I.tok _, ⟨_, rfl⟩, q⟩ hz
  | lst _ _ =>
    cases ru
    exact refs _ rfl
  | tup _ _ =>
    cases ru
    exact refs _ rfl
  | dk _ _ =>
    cases ru
    exact refs _ rfl
/-- xs == [] and xs != [], whatever the items are -/
def rNil (b : Bool) (K : PySem.W.Frag) : R2 := fun x y H Q => ∃ p q xs, x = .ref p ∧ y = .ref q ∧ SqL K H p xs ∧ H q = some (.lst []) ∧ Q (.bl (if b then decide (xs = []) else !decide (xs = []))) H
theorem nil_core (I : Inv X pins σ H s) {p q : Addr} {xs : List V} (h1 : SqL X.K H p xs) (h2 : H q = some (.lst [])) :
    ∃ its its2 : Array Value, s.heap.IsList p its ∧ s.heap.IsList q its2 ∧ its2.size = 0 ∧ its.size = xs.length := by
  obtain ⟨its, r, pl, _⟩ := I.list h1
  obtain ⟨_, its2, n, r2, g⟩ := I.hok q _ h2
  have := r2.length
  exact ⟨its.toArray, its2.toArray, pl.isList, ⟨_, g, rfl, _, rfl⟩, by simpa using this.symm, by simpa using r.length.symm⟩
theorem op_eqNil (hu : X.A.units < cLine) : OpR X (compareOp .Eq) (rNil true X.K) := by
  rintro pins s σ H x y v u Q I rx ry ⟨p, q, xs, rfl, rfl, h1, h2, k⟩
  obtain rfl : v = Value.ref p := rx
  obtain rfl : u = Value.ref q := ry
  obtain ⟨i1, i2, l1, l2, z, n⟩ := nil_core I h1 h2
  by_cases e : xs = []
  · refine SeqAt.eq_listAt (e := fun _ => true) l1 l2 (by rw [z, n, e]; rfl) hu (fun j j1 j2 => by omega) ⟨.bl true, H, I, ?_, ?_⟩
    · rw [n, e]; rfl
    · rw [if_pos rfl, decide_eq_true e] at k; exact k
  · refine SeqAt.eq_list_lengthsAt l1 l2 ?_ hu ⟨.bl false, H, I, rfl, ?_⟩
    · rw [z, n]
      have : xs.length ≠ 0 := fun z => e (List.length_eq_zero_iff.mp z)
      simpa using this
    · rw [if_pos rfl, decide_eq_false e] at k; exact k
theorem op_neNil (hu : X.A.units < cLine) : OpR X (compareOp .NotEq) (rNil false X.K) := by
  rintro pins s σ H x y v u Q I rx ry ⟨p, q, xs, rfl, rfl, h1, h2, k⟩
  obtain rfl : v = Value.ref p := rx
  obtain rfl : u = Value.ref q := ry
  obtain ⟨i1, i2, l1, l2, z, n⟩ := nil_core I h1 h2
  rw [if_neg Bool.false_ne_true] at k
  by_cases e : xs = []
  · refine SeqAt.RcNeAt.lists (e := fun _ => true) l1 l2 (by rw [z, n, e]; rfl) hu (fun j j1 j2 => by omega) X.prog X.w X.xe _ ⟨.bl false, H, I, ?_, ?_⟩
    · rw [n, e]; rfl
    · rw [decide_eq_true e] at k; exact k
  · refine SeqAt.RcNeAt.lists_lengths l1 l2 ?_ hu X.prog X.w X.xe _ ⟨.bl true, H, I, rfl, ?_⟩
    · rw [z, n]
      have : xs.length ≠ 0 := fun z => e (List.length_eq_zero_iff.mp z)
      simpa using this
    · rw [decide_eq_false e] at k; exact k
end
end Gl

namespace Gl
open PySem PySem.Spec PyProof.Rows L2
abbrev sWhole : Stmt := topS 4
abbrev sWholes : Stmt := topS 5
abbrev sIndex : Stmt := topS 6
theorem scWhole : FnScope ["value"] ["value"] (defScope sWhole) := ⟨rfl, rfl, rfl, by decide +kernel, rfl, by decide +kernel, by decide +kernel⟩
theorem scWholes : FnScope ["value", "many", "one"] ["value", "many"] (defScope sWholes) := ⟨rfl, rfl, rfl, by decide +kernel, rfl, by decide +kernel, by decide +kernel⟩
theorem scIndex : FnScope ["value", "many"] ["value", "many"] (defScope sIndex) := ⟨rfl, rfl, rfl, by decide +kernel, rfl, by decide +kernel, by decide +kernel⟩
/-! ### the answers as plain functions -/
def tyName : PyData → String
  | .none => "NoneType"
  | .bool _ => "bool"
  | .int _ => "int"
  | .str _ => "str"
  | .list _ => "list"
  | .tuple _ => "tuple"
  | .dict _ => "dict"
def wholeB : PyData → Bool
  | .int _ => true
  | _ => false
def wholesB (d : PyData) (n : Int) : Bool := match d with
  | .tuple ds => decide ((ds.length : Int) = n) && ds.all wholeB
  | _ => false
theorem room1000 {n : Nat} (h : n ≤ 100000) : n < sizeLine := Nat.lt_of_le_of_lt h (by decide)
/-- texts of at most 1000 signs, tuples of at most 1000 things -/
def Short : PyData → Prop
  | .tuple ds => ds.length ≤ 1000 ∧ True
  | _ => True
theorem DxAll.get {K : PySem.W.Frag} {H : Hp} : ∀ {xs : List V} {ds : List PyData} {i : Nat} {v : V}, DxAll K H xs ds → xs[i]? = some v → ∃ d, ds[i]? = some d ∧ Dx K H v d
  | _, _, _, _, .nil, e => by simp at e
  | _, _, 0, _, .cons h _, e => by simp at e; subst e; exact ⟨_, rfl, h⟩
  | _, _, i + 1, _, .cons _ t, e => DxAll.get (i := i) t (by simpa using e)
theorem DxAll.length {K : PySem.W.Frag} {H : Hp} : ∀ {xs : List V} {ds : List PyData}, DxAll K H xs ds → xs.length = ds.length
  | _, _, .nil => rfl
  | _, _, .cons _ t => congrArg (· + 1) (DxAll.length t)
mutual
theorem Dx.ex {K : PySem.W.Frag} {H H' : Hp} (e : Ex H H') : ∀ {v : V} {d : PyData}, Dx K H v d → Dx K H' v d
  | _, _, .non => .non
  | _, _, .bl b => .bl b
  | _, _, .int i => .int i
  | _, _, .str x => .str x
  | _, _, .lst h t => .lst (e _ _ h) (DxAll.ex e t)
  | _, _, .tup h t => .tup (e.rd h) (DxAll.ex e t)
  | _, _, .dk ps h => .dk ps (e _ _ h)
theorem DxAll.ex {K : PySem.W.Frag} {H H' : Hp} (e : Ex H H') : ∀ {v : List V} {d : List PyData}, DxAll K H v d → DxAll K H' v d
  | _, _, .nil => .nil
  | _, _, .cons h t => .cons (Dx.ex e h) (DxAll.ex e t)
end
theorem tyx {K : PySem.W.Frag} {H : Hp} {v : V} {d : PyData} (h : Dx K H v d) : TyX K H v (.type (tyName d)) := by
  cases h with
  | non => exact .base .non
  | bl b => exact .base (.bl b)
  | int i => exact .base (.int i)
  | str x => exact .base (.str x)
  | lst h _ => exact .base (.lst h)
  | tup h _ =>
    rcases h with h | ⟨o, h⟩
    · exact .base (.tup h)
    · exact .fTuple h
  | dk ps h => exact .base (.dK h)
abbrev tys : List String := ["NoneType", "bool", "int", "str", "list", "tuple", "dict"]
theorem tyName_in (d : PyData) : tyName d ∈ tys := by cases d <;> simp [tyName]
theorem isInt (d : PyData) : L2.kitB (tyName d) "int" = some (tyName d == "int" || tyName d == "bool") := (show ∀ t ∈ tys, L2.kitB t "int" = some (t == "int" || t == "bool") by decide +kernel) _ (tyName_in d)
theorem isBool (d : PyData) : L2.kitB (tyName d) "bool" = some (tyName d == "bool") := (show ∀ t ∈ tys, L2.kitB t "bool" = some (t == "bool") by decide +kernel) _ (tyName_in d)
theorem isStr (d : PyData) : L2.kitB (tyName d) "str" = some (tyName d == "str") := (show ∀ t ∈ tys, L2.kitB t "str" = some (t == "str") by decide +kernel) _ (tyName_in d)
theorem isTup (d : PyData) : L2.kitB (tyName d) "tuple" = some (tyName d == "tuple") := (show ∀ t ∈ tys, L2.kitB t "tuple" = some (t == "tuple") by decide +kernel) _ (tyName_in d)
/-- what is known of the class, as a type -/
structure ClsT (K : PySem.W.Frag) (C : Addr) : Prop where
  c : Cls K C
  t1 : PySem.W.findIn K (.ref C) "__class__" = some (some (.builtin "object.__class__"))
  t2 : PySem.W.specialIn K (.builtin "object.__class__") "__get__" = some (some (.builtin "getset_descriptor.__get__"))
  t3 : PySem.W.takesIn K (.builtin "object.__class__") = some true
  t4 : PySem.W.mroIn K C (.type "object") = some true
  ki : PySem.W.kitOne K (.ref C) (.type "int") = some false
  kt : PySem.W.kitOne K (.ref C) (.type "tuple") = some false
/-- data, or an instance of the class, which is neither an int nor a tuple and counts as none here -/
inductive Od (K : PySem.W.Frag) (H : Hp) : V → PyData → Prop
  | dx {v : V} {d : PyData} : Dx K H v d → Od K H v d
  | ins {a C dx : Addr} {fs : List (Str × V)} : H a = some (.ins C dx fs) → ClsT K C → Od K H (.ref a) .none
theorem Od.ex {K : PySem.W.Frag} {H H' : Hp} (e : Ex H H') {v : V} {d : PyData} (h : Od K H v d) : Od K H' v d := by
  cases h with
  | dx h => exact .dx (h.ex e)
  | ins h a => exact .ins (e _ _ h) a
section
variable {P : Program} {w : World} {K : PySem.W.Frag} {mg : Str → Option Value} {base : Heap}
structure Df (P : Program) (w : World) (K : PySem.W.Frag) (mg : Str → Option Value) (base : Heap) (k : Nat) (x : Str) (ps : List Str) (sp : Sp) where
  f : Addr
  fd : FuncData
  G : FnOk P w K mg base CX0 k f fd ps sp
  g : mg x = some (.ref f)
  kp : PySem.W.keepIn K (.ref f) = true
  b : Binds K fd ps []
structure DfG (P : Program) (w : World) (K : PySem.W.Frag) (mg : Str → Option Value) (base : Heap) (k : Nat) (x : Str) (ps : List Str) (sp : Sp) where
  f : Addr
  fd : FuncData
  G : FnG P w K mg base CX0 k f fd ps sp
  g : mg x = some (.ref f)
  kp : PySem.W.keepIn K (.ref f) = true
  b : Binds K fd ps []
def spWhole (K : PySem.W.Frag) : Sp := fun vs H Q _ => ∃ v d, vs = [v] ∧ Od K H v d ∧ Q (.bl (wholeB d)) H
theorem ok_whole {f : Addr} {fd : FuncData} (F : Fun K "is_whole" "is_whole" sWhole f fd) (T : Blt mg) : FnOk P w K mg base CX0 1 f fd ["value"] (spWhole K) := by
  refine F.ok scWhole (fun vs H Q E h => ?_) (fun cdv A outer s H vs Q E hr h => ?_)
  · obtain ⟨v, d, rfl, _⟩ := h
    rfl
  · obtain ⟨v, d, rfl, hd, q⟩ := h
    refine ⟨_, pss_one (ps_ret (pe_and (pe_callB call_isi (by rfl) T.isinstance (by decide +kernel) (pa_cons (pv 0) (pa_cons (pe_bltn (v := .ty "int") (by rfl) T.int (by decide +kernel) rfl) pa_nil)))
      (pe_one (pe_not (pe_callB call_isi (by rfl) T.isinstance (by decide +kernel) (pa_cons (pv 0) (pa_cons (pe_bltn (v := .ty "bool") (by rfl) T.bool (by decide +kernel) rfl) pa_nil))))))), ?_⟩
    rcases hd with hd | ⟨hd, z⟩
    case ins => exact ⟨_, rfl, _, _, _, _, _, rfl, .ty _, .base (.ins hd z.c z.t1 z.t2 z.t3 z.t4), z.ki, false, rfl, q⟩
    refine ⟨_, rfl, _, _, _, _, _, rfl, .ty _, tyx hd, kit_ty (isInt d), _, rfl, ?_⟩
    cases d with
    | bool b => exact ⟨_, rfl, _, _, _, _, _, rfl, .ty _, tyx hd, kit_ty (isBool _), true, rfl, q⟩
    | int i => exact ⟨_, rfl, _, _, _, _, _, rfl, .ty _, tyx hd, kit_ty (isBool _), false, rfl, q⟩
    | none => exact q
    | str x => exact q
    | list xs => exact q
    | tuple xs => exact q
    | dict xs => exact q

def spWholes (K : PySem.W.Frag) : Sp := fun vs H Q _ => ∃ v d n, vs = [v, .int n] ∧ Od K H v d ∧ Short d ∧ ∀ H', Ex H H' → Q (.bl (wholesB d n)) H'
theorem take_all {α : Type} {f : α → Bool} {l : List α} {i : Nat} {x : α} (h : l[i]? = some x) : (l.take (i + 1)).map f = (l.take i).map f ++ [f x] := by
  rw [List.take_add_one, h, List.map_append]
  rfl
theorem all_id {α : Type} (f : α → Bool) (l : List α) : (l.map f).all id = l.all f := by
  rw [List.all_map]
  rfl
theorem ok_wholes {f : Addr} {fd : FuncData} (F : Fun K "are_whole" "are_whole" sWholes f fd) (T : Blt mg) (W : Df P w K mg base 1 "is_whole" ["value"] (spWhole K)) : FnOk P w K mg base CX0 2 f fd ["value", "many"] (spWholes K) := by
  refine F.ok scWholes (fun vs H Q E h => ?_) (fun cdv A outer s H vs Q E hr h => ?_)
  · obtain ⟨v, d, n, rfl, _⟩ := h
    rfl
  · obtain ⟨v, d, n, rfl, hd, sh, q⟩ := h
    have nd := scWholes.nd
    refine ⟨_, pss_one (ps_ret (pe_and (pe_callB call_isi (by rfl) T.isinstance (by decide +kernel) (pa_cons (pv 0) (pa_cons (pe_bltn (v := .ty "tuple") (by rfl) T.tuple (by decide +kernel) rfl) pa_nil)))
      (pe_and (pe_cmpR op_eq (pe_callB call_len_seq (by rfl) T.len PySem.boot_len (pa_cons (pv 0) pa_nil)) (pv 1) (nomark _))
      (pe_one (pe_callB (cr_all rfl) (by rfl) T.all (by decide +kernel) (pa_cons (pe_lc (own := [("one", 2)]) (g := gName 2) (tt := tYes) rfl nd (pi_tup (pv 0)) (blkOk_by (N := ["value", "many", "one"]) (sc := defScope sWholes) (by decide +kernel)) (fun _ _ _ _ _ => pg_name (i := 2) nd rfl (.inl rfl)) (fun _ _ _ _ _ => pts_nil)
        (fun _ _ _ _ _ => pe_call W.G hr (by rfl) W.g W.kp W.b .nil pass0 (pa_cons (pv 2) pa_nil))) pa_nil)))))), ?_⟩
    rcases hd with hd | ⟨hd, z⟩
    case ins => exact ⟨_, rfl, _, _, _, _, _, rfl, .ty _, .base (.ins hd z.c z.t1 z.t2 z.t3 z.t4), z.kt, false, rfl, q _ (Ex.refl H)⟩
    refine ⟨_, rfl, _, _, _, _, _, rfl, .ty _, tyx hd, kit_ty (isTup d), _, rfl, ?_⟩
    cases hd with
    | non => exact q _ (Ex.refl H)
    | bl b => exact q _ (Ex.refl H)
    | int i => exact q _ (Ex.refl H)
    | str x => exact q _ (Ex.refl H)
    | lst _ _ => exact q _ (Ex.refl H)
    | dk _ _ => exact q _ (Ex.refl H)
    | @tup p xs ds hp ha =>
      have ln := ha.length
      have q : ∀ H', Ex H H' → Q (.bl (decide ((ds.length : Int) = n) && ds.all wholeB)) H' := q
      refine ⟨_, rfl, p, _, rfl, .inr (.inl hp), _, rfl, rfl, _, rfl, ?_⟩
      by_cases e : (ds.length : Int) = n
      · rw [decide_eq_true (show V.int (xs.length : Int) = V.int n by rw [ln, e])]
        refine ⟨_, rfl, p, rfl, ⟨_, .inl hp⟩, fun D nD => lc_tup (xs := xs) (fun i H' => Ex H H' ∧ H' D = some (.lst (((ds.take i).map wholeB).map V.bl)))
          ⟨Ex.new nD, upd_same⟩ (fun i H' _ h => .inl (h.1.rd hp)) (fun i x H' hx h => ?_) (fun H' h => ?_)⟩
        · obtain ⟨ex, eD⟩ := h
          obtain ⟨d1, hd1, hx1⟩ := ha.get hx
          refine ⟨rfl, _, rfl, x, d1, rfl, .dx (hx1.ex ex), _, eD, ?_, ex.mut nD, ?_⟩
          · rw [List.length_map, List.length_map, List.length_take]
            have := sh.1
            exact room1000 (by omega)
          · rw [upd_same, take_all hd1, List.map_append]
            rfl
        · obtain ⟨ex, eD⟩ := h
          rw [ln, List.take_length] at eD
          refine ⟨D, _, rfl, .inl (.inl eD), ?_⟩
          rw [all_id]
          have := q _ ex
          rw [decide_eq_true e, Bool.true_and] at this
          exact this
      · rw [decide_eq_false (show ¬ V.int (xs.length : Int) = V.int n from fun z => e (by rw [← ln]; exact V.int.inj z))]
        have := q _ (Ex.refl H)
        rw [decide_eq_false e, Bool.false_and] at this
        exact this

def spIndex : Sp := fun vs H Q _ => ∃ i n : Int, vs = [.int i, .int n] ∧ 0 ≤ i ∧ i < n ∧ Q (.bl true) H
theorem ok_index {f : Addr} {fd : FuncData} (F : Fun K "is_index" "is_index" sIndex f fd) (T : Blt mg) (W : Df P w K mg base 1 "is_whole" ["value"] (spWhole K)) : FnOk P w K mg base CX0 2 f fd ["value", "many"] spIndex := by
  refine F.ok scIndex (fun vs H Q E h => ?_) (fun cdv A outer s H vs Q E hr h => ?_)
  · obtain ⟨i, n, rfl, _⟩ := h
    rfl
  · obtain ⟨i, n, rfl, h0, h1, q⟩ := h
    refine ⟨_, pss_one (ps_ret (pe_and (pe_call W.G hr (by rfl) W.g W.kp W.b .nil pass0 (pa_cons (pv 0) pa_nil)) (pe_one (pe_chain op_le op_lt pe_int (pv 0) (pv 1))))), ?_⟩
    refine ⟨_, rfl, _, .int i, rfl, .dx (.int i), true, rfl, ?_⟩
    refine ⟨_, rfl, _, _, rfl, rfl, decide (0 ≤ i), rfl, ?_⟩
    rw [decide_eq_true h0]
    refine ⟨_, rfl, _, _, rfl, rfl, ?_⟩
    show Q (.bl (decide (i < n))) H
    rw [decide_eq_true h1]
    exact q

end
end Gl

namespace Gl
/-! the order of amounts: greater ones first, equal ones in their order -/
section
variable {α : Type} (lt : α → α → Prop) [DecidableRel lt] [DecidableEq α]
structure Lin : Prop where
  irr : ∀ a, ¬ lt a a
  tr : ∀ a b c, lt a b → lt b c → lt a c
  tot : ∀ a b, lt a b ∨ a = b ∨ lt b a
/-- x stands ahead of y -/
def Bef (k : Nat → α) (x y : Nat) : Prop := lt (k y) (k x) ∨ (k x = k y ∧ x < y)
instance (k : Nat → α) (x y : Nat) : Decidable (Bef lt k x y) := inferInstanceAs (Decidable (_ ∨ _))
variable {lt} {k : Nat → α}
theorem Lin.asym (h : Lin lt) {a b : α} (x : lt a b) : ¬ lt b a := fun y => h.irr _ (h.tr _ _ _ x y)
theorem Lin.befIrr (h : Lin lt) (x : Nat) : ¬ Bef lt k x x := by
  rintro (y | ⟨_, y⟩)
  · exact h.irr _ y
  · omega
theorem Lin.befAsym (h : Lin lt) {x y : Nat} (a : Bef lt k x y) : ¬ Bef lt k y x := by
  rintro (b | ⟨e, b⟩)
  · rcases a with a | ⟨e, a⟩
    · exact h.asym a b
    · rw [e] at b; exact h.irr _ b
  · rcases a with a | ⟨_, a⟩
    · rw [e] at a; exact h.irr _ a
    · omega
/-- the indices below i, in this order -/
structure Ord (k : Nat → α) (i : Nat) (o : List Nat) : Prop where
  pw : o.Pairwise (Bef lt k)
  pm : o.Perm (List.range i)
theorem Ord.nil : Ord (lt := lt) k 0 [] := ⟨List.Pairwise.nil, List.Perm.refl _⟩
theorem Ord.length {i : Nat} {o : List Nat} (h : Ord (lt := lt) k i o) : o.length = i := by
  rw [h.pm.length_eq, List.length_range]
theorem Ord.lt_of {i : Nat} {o : List Nat} (h : Ord (lt := lt) k i o) {x : Nat} (m : x ∈ o) : x < i := List.mem_range.mp (h.pm.mem_iff.mp m)
/-- one more, put in where all behind are less and none ahead is -/
theorem Ord.put (H : Lin lt) {i low : Nat} {o : List Nat} (h : Ord (lt := lt) k i o) (hl : low ≤ o.length)
    (h1 : ∀ p x, p < low → o[p]? = some x → ¬ lt (k x) (k i)) (h2 : ∀ p x, low ≤ p → o[p]? = some x → lt (k x) (k i)) : Ord (lt := lt) k (i + 1) (o.take low ++ i :: o.drop low) := by
  have pw := h.pw
  rw [← List.take_append_drop low o] at pw
  obtain ⟨pa, pb, pc⟩ := List.pairwise_append.mp pw
  refine ⟨List.pairwise_append.mpr ⟨pa, List.pairwise_cons.mpr ⟨fun y hy => ?_, pb⟩, fun x hx y hy => ?_⟩, ?_⟩
  · obtain ⟨p, hp⟩ := List.getElem?_of_mem hy
    rw [List.getElem?_drop] at hp
    exact .inl (h2 _ y (Nat.le_add_right _ _) hp)
  · rcases List.mem_cons.mp hy with rfl | hy
    · obtain ⟨p, hp⟩ := List.getElem?_of_mem hx
      have pl : p < low := by
        have := (List.getElem?_eq_some_iff.mp hp).1
        rw [List.length_take] at this
        omega
      rw [List.getElem?_take_of_lt pl] at hp
      have nx := h1 p x pl hp
      have xi := h.lt_of (List.mem_of_getElem? hp)
      rcases H.tot (k y) (k x) with z | z | z
      · exact .inl z
      · exact .inr ⟨z.symm, xi⟩
      · exact absurd z nx
    · exact pc x hx y hy
  · refine List.perm_middle.trans ?_
    rw [List.take_append_drop, List.range_succ]
    exact (List.Perm.cons i h.pm).trans (List.perm_append_singleton _ _).symm
theorem place_of (H : Lin lt) : ∀ {o : List Nat} {j x : Nat}, o.Pairwise (Bef lt k) → o[j]? = some x → o.countP (fun y => decide (Bef lt k y x)) = j
  | [], j, x, _, e => by simp at e
  | y :: o, 0, x, pw, e => by
    simp at e
    subst e
    rw [List.countP_eq_zero]
    intro z hz
    rcases List.mem_cons.mp hz with rfl | hz
    · simpa using H.befIrr (k := k) z
    · simpa using H.befAsym ((List.pairwise_cons.mp pw).1 z hz)
  | y :: o, j + 1, x, pw, e => by
    have e' : o[j]? = some x := by simpa using e
    have pc := List.pairwise_cons.mp pw
    rw [List.countP_cons, place_of H pc.2 e', if_pos (decide_eq_true (pc.1 x (List.mem_of_getElem? e')))]
/-- the place of x: how many stand ahead of it -/
theorem Ord.place (H : Lin lt) {i j x : Nat} {o : List Nat} (h : Ord (lt := lt) k i o) (e : o[j]? = some x) : (List.range i).countP (fun y => decide (Bef lt k y x)) = j := by
  rw [← h.pm.countP_eq]
  exact place_of H h.pw e
theorem Ord.has {i x : Nat} {o : List Nat} (h : Ord (lt := lt) k i o) (l : x < i) : ∃ j : Nat, o[j]? = some x := List.getElem?_of_mem (h.pm.mem_iff.mpr (List.mem_range.mpr l))
/-- the list that the law fills -/
def filled (o : List Nat) (i : Nat) : List Nat := o.map fun x => if x < i then x else 0
theorem filled_zero (o : List Nat) : filled o 0 = List.replicate o.length 0 := by
  unfold filled
  induction o with
  | nil => rfl
  | cons x o ih => rw [List.map_cons, ih]; rfl
theorem filled_all {i : Nat} {o : List Nat} (h : Ord (lt := lt) k i o) : filled o i = o := by
  have e : o.map (fun x => if x < i then x else 0) = o.map id := List.map_congr_left fun x hx => if_pos (h.lt_of hx)
  unfold filled
  rw [e, List.map_id]
theorem filled_set {n i j : Nat} {o : List Nat} (h : Ord (lt := lt) k n o) (e : o[j]? = some i) : (filled o i).set j i = filled o (i + 1) := by
  have nd : o.Nodup := h.pm.nodup_iff.mpr List.nodup_range
  obtain ⟨jl, ej⟩ := List.getElem?_eq_some_iff.mp e
  unfold filled
  apply List.ext_getElem
  · rw [List.length_set, List.length_map, List.length_map]
  · intro m m1 m2
    rw [List.getElem_set, List.getElem_map, List.getElem_map]
    have ml : m < o.length := by rw [List.length_map] at m2; exact m2
    by_cases q : j = m
    · subst q
      rw [if_pos rfl, ej, if_pos (Nat.lt_succ_self _)]
    · rw [if_neg q]
      have : o[m] ≠ i := fun z => by
        rcases Nat.lt_or_gt_of_ne q with y | y
        · exact List.pairwise_iff_getElem.mp nd j m jl ml y (ej.trans z.symm)
        · exact List.pairwise_iff_getElem.mp nd m j ml jl y (z.trans ej.symm)
      by_cases a : o[m] < i
      · rw [if_pos a, if_pos (by omega)]
      · rw [if_neg a, if_neg (by omega)]
end
end Gl

namespace Gl
open PySem PySem.Spec PyProof.Rows L2
/-- a fraction in lowest terms -/
structure Low (p q : Nat) : Prop where
  p0 : 0 < p
  q0 : 0 < q
  co : Nat.gcd p q = 1
abbrev Odds := { x : Nat × Nat // Low x.1 x.2 }
def oddsLt (a b : Odds) : Prop := a.1.1 * b.1.2 < b.1.1 * a.1.2
instance : DecidableRel oddsLt := fun a b => inferInstanceAs (Decidable (_ < _))
theorem low_eq {p q r s : Nat} (a : Low p q) (b : Low r s) (e : p * s = r * q) : p = r ∧ q = s := by
  have h1 : p ∣ r := (Nat.Coprime.dvd_of_dvd_mul_right (show Nat.Coprime p q from a.co) ⟨s, e.symm⟩)
  have h2 : r ∣ p := (Nat.Coprime.dvd_of_dvd_mul_right (show Nat.Coprime r s from b.co) ⟨q, e⟩)
  have h3 : p = r := Nat.dvd_antisymm h1 h2
  subst h3
  exact ⟨rfl, (Nat.eq_of_mul_eq_mul_left a.p0 e).symm⟩
theorem odds_lin : Lin oddsLt := by
  refine ⟨fun a => Nat.lt_irrefl _, fun a b c h1 h2 => ?_, fun a b => ?_⟩
  · unfold oddsLt at *
    have b0 := b.2.q0
    have x1 : a.1.1 * b.1.2 * c.1.2 < b.1.1 * a.1.2 * c.1.2 := Nat.mul_lt_mul_of_pos_right h1 c.2.q0
    have x2 : b.1.1 * c.1.2 * a.1.2 < c.1.1 * b.1.2 * a.1.2 := Nat.mul_lt_mul_of_pos_right h2 a.2.q0
    have x3 : a.1.1 * c.1.2 * b.1.2 < c.1.1 * a.1.2 * b.1.2 := by
      calc a.1.1 * c.1.2 * b.1.2 = a.1.1 * b.1.2 * c.1.2 := Nat.mul_right_comm ..
        _ < b.1.1 * a.1.2 * c.1.2 := x1
        _ = b.1.1 * c.1.2 * a.1.2 := Nat.mul_right_comm ..
        _ < c.1.1 * b.1.2 * a.1.2 := x2
        _ = c.1.1 * a.1.2 * b.1.2 := Nat.mul_right_comm ..
    exact Nat.lt_of_mul_lt_mul_right x3
  · unfold oddsLt
    rcases Nat.lt_trichotomy (a.1.1 * b.1.2) (b.1.1 * a.1.2) with z | z | z
    · exact .inl z
    · obtain ⟨e1, e2⟩ := low_eq a.2 b.2 z
      exact .inr (.inl (Subtype.ext (Prod.ext e1 e2)))
    · exact .inr (.inr z)
/-- divided by the greatest divisor -/
theorem low_div {p q : Nat} (hp : 0 < p) (hq : 0 < q) : Low (p / Nat.gcd p q) (q / Nat.gcd p q) :=
  have g0 : 0 < Nat.gcd p q := Nat.gcd_pos_of_pos_left _ hp
  ⟨Nat.div_pos (Nat.le_of_dvd hp (Nat.gcd_dvd_left ..)) g0, Nat.div_pos (Nat.le_of_dvd hq (Nat.gcd_dvd_right ..)) g0, by rw [Nat.gcd_div (Nat.gcd_dvd_left ..) (Nat.gcd_dvd_right ..), Nat.div_self g0]⟩
theorem int_lin : Lin (fun a b : Int => a < b) := ⟨fun a => Int.lt_irrefl a, fun a b c h1 h2 => Int.lt_trans h1 h2, fun a b => by omega⟩
theorem lex_irr : ∀ a : List Int, HT.lexLt a a = false
  | [] => rfl
  | x :: xs => by rw [HT.lexLt_cons, if_pos rfl]; exact lex_irr xs
theorem lex_trans : ∀ a b c : List Int, HT.lexLt a b = true → HT.lexLt b c = true → HT.lexLt a c = true
  | [], [], _, h, _ => nomatch h
  | [], _ :: _, [], _, h => nomatch h
  | [], _ :: _, _ :: _, _, _ => rfl
  | _ :: _, [], _, h, _ => nomatch h
  | _ :: _, _ :: _, [], _, h => nomatch h
  | x :: xs, y :: ys, z :: zs, h1, h2 => by
    rw [HT.lexLt_cons] at *
    by_cases e1 : x = y
    · subst e1
      rw [if_pos rfl] at h1
      by_cases e2 : x = z
      · subst e2
        rw [if_pos rfl] at *
        exact lex_trans xs ys zs h1 h2
      · rw [if_neg e2] at *
        exact h2
    · rw [if_neg e1] at h1
      have l1 := of_decide_eq_true h1
      by_cases e2 : y = z
      · subst e2
        rw [if_neg e1]
        exact h1
      · rw [if_neg e2] at h2
        have l2 := of_decide_eq_true h2
        rw [if_neg (by omega)]
        exact decide_eq_true (by omega)
theorem lex_tot : ∀ a b : List Int, HT.lexLt a b = true ∨ a = b ∨ HT.lexLt b a = true
  | [], [] => .inr (.inl rfl)
  | [], _ :: _ => .inl rfl
  | _ :: _, [] => .inr (.inr rfl)
  | x :: xs, y :: ys => by
    rw [HT.lexLt_cons, HT.lexLt_cons]
    by_cases e : x = y
    · subst e
      rw [if_pos rfl, if_pos rfl]
      rcases lex_tot xs ys with h | h | h
      · exact .inl h
      · exact .inr (.inl (by rw [h]))
      · exact .inr (.inr h)
    · rw [if_neg e, if_neg (fun z => e z.symm)]
      by_cases l : x < y
      · exact .inl (decide_eq_true l)
      · exact .inr (.inr (decide_eq_true (by omega)))
theorem lex_lin : Lin (fun a b : List Int => HT.lexLt a b = true) := ⟨fun a => by rw [lex_irr]; exact Bool.false_ne_true, lex_trans, lex_tot⟩
end Gl

namespace Gl
open PySem PySem.Spec PyProof.Rows L2
/-- an amount of any scale -/
inductive Am
  | n (i : Int)
  | c (ns : List Int)
  | o (x : Odds)
deriving DecidableEq
def amLt : Am → Am → Prop
  | .n i, .n j => i < j
  | .c a, .c b => HT.lexLt a b = true
  | .o a, .o b => oddsLt a b
  | .n _, .c _ => True
  | .n _, .o _ => True
  | .c _, .o _ => True
  | _, _ => False
instance : DecidableRel amLt := fun a b => by cases a <;> cases b <;> unfold amLt <;> infer_instance
theorem am_lin : Lin amLt := by
  refine ⟨fun a => ?_, fun a b c h1 h2 => ?_, fun a b => ?_⟩
  · cases a with
    | n i => exact int_lin.irr i
    | c ns => exact lex_lin.irr ns
    | o x => exact odds_lin.irr x
  · cases a <;> cases b <;> cases c <;> first
      | exact int_lin.tr _ _ _ h1 h2
      | exact lex_lin.tr _ _ _ h1 h2
      | exact odds_lin.tr _ _ _ h1 h2
      | trivial
      | exact h1.elim
      | exact h2.elim
  · cases a with
    | n i => cases b with
      | n j => rcases int_lin.tot i j with h | h | h
               · exact .inl h
               · exact .inr (.inl (congrArg Am.n h))
               · exact .inr (.inr h)
      | c _ => exact .inl trivial
      | o _ => exact .inl trivial
    | c i => cases b with
      | n j => exact .inr (.inr trivial)
      | c j => rcases lex_lin.tot i j with h | h | h
               · exact .inl h
               · exact .inr (.inl (congrArg Am.c h))
               · exact .inr (.inr h)
      | o _ => exact .inl trivial
    | o i => cases b with
      | n j => exact .inr (.inr trivial)
      | c _ => exact .inr (.inr trivial)
      | o j => rcases odds_lin.tot i j with h | h | h
               · exact .inl h
               · exact .inr (.inl (congrArg Am.o h))
               · exact .inr (.inr h)
/-- a scale, as the law has it -/
inductive Ms
  | sums
  | classes (n : Nat)
  | odds
deriving DecidableEq
def Ms.word : Ms → Str
  | .sums => "sums"
  | .classes _ => "classes"
  | .odds => "odds"
def Ms.size : Ms → Nat
  | .classes n => n
  | _ => 1
def Ms.ok : Ms → Prop
  | .classes n => 1 ≤ n ∧ n ≤ 4
  | _ => True
/-- an amount of this scale -/
def Ms.has : Ms → Am → Prop
  | .sums, .n _ => True
  | .classes k, .c ns => ns.length = k
  | .odds, .o _ => True
  | _, _ => False
def one1 : Odds := ⟨(1, 1), by decide, by decide, by decide⟩
def Ms.zero : Ms → Am
  | .sums => .n 0
  | .classes k => .c (List.replicate k 0)
  | .odds => .o one1
theorem Ms.zero_has (m : Ms) : m.has m.zero := by
  cases m with
  | sums => trivial
  | classes k => exact List.length_replicate
  | odds => trivial
def Am.data : Am → PyData
  | .n i => .int i
  | .c ns => .tuple (ns.map PyData.int)
  | .o x => .tuple [.int (x.1.1 : Nat), .int (x.1.2 : Nat)]
/-- an amount, in the heap -/
def AmV (H : Hp) (v : V) : Am → Prop
  | .n i => v = .int i
  | .c ns => ∃ p, v = .ref p ∧ Rd H p (.tup (ns.map V.int))
  | .o x => ∃ p, v = .ref p ∧ Rd H p (.tup [.int (x.1.1 : Nat), .int (x.1.2 : Nat)])
end Gl

namespace Gl
open PySem PySem.Spec PyProof.Rows L2
abbrev sPart : Stmt := topS 19
abbrev sLowest : Stmt := topS 20
abbrev sAreOdds : Stmt := topS 21
theorem scPart : FnScope ["value"] ["value"] (defScope sPart) := ⟨rfl, rfl, rfl, by decide +kernel, rfl, by decide +kernel, by decide +kernel⟩
theorem scLowest : FnScope ["value"] ["value"] (defScope sLowest) := ⟨rfl, rfl, rfl, by decide +kernel, rfl, by decide +kernel, by decide +kernel⟩
theorem scAreOdds : FnScope ["right", "wrong"] ["right", "wrong"] (defScope sAreOdds) := ⟨rfl, rfl, rfl, by decide +kernel, rfl, by decide +kernel, by decide +kernel⟩
def big40 : Int := (10 : Int) ^ (40 : Int).toNat
theorem cpw40 : CPw 10 40 := ⟨by decide, by decide +kernel⟩
/-- the answers -/
def partB : PyData → Bool
  | .int i => decide (0 ≤ i) && decide (i < big40)
  | _ => false
def lowB : PyData → Bool
  | .tuple [.int a, .int b] => decide (0 < a) && (decide (0 < b) && decide (Nat.gcd a.natAbs b.natAbs = 1))
  | _ => false
def oddsB (a b : Int) : Bool := decide (a ≤ 1000000) && decide (b < a)
section
variable {P : Program} {w : World} {K : PySem.W.Frag} {mg : Str → Option Value} {base : Heap}
theorem iteT {A B : Prop} (h : A) : if true = true then A else B := by rw [if_pos rfl]; exact h
theorem iteF {A B : Prop} (h : B) : if false = true then A else B := by rw [if_neg Bool.false_ne_true]; exact h
def spPart (K : PySem.W.Frag) : Sp := fun vs H Q _ => ∃ v d, vs = [v] ∧ Od K H v d ∧ Q (.bl (partB d)) H
theorem ok_part {f : Addr} {fd : FuncData} (F : Fun K "_is_part" "_is_part" sPart f fd) (W : Df P w K mg base 1 "is_whole" ["value"] (spWhole K)) : FnOk P w K mg base CX0 2 f fd ["value"] (spPart K) := by
  refine F.ok scPart (fun vs H Q E h => ?_) (fun cdv A outer s H vs Q E hr h => ?_)
  · obtain ⟨v, d, rfl, _⟩ := h
    rfl
  · obtain ⟨v, d, rfl, hd, q⟩ := h
    refine ⟨_, pss_one (ps_ret (pe_and (pe_call W.G hr (by rfl) W.g W.kp W.b .nil pass0 (pa_cons (pv 0) pa_nil)) (pe_one (pe_chain op_le op_lt pe_int (pv 0) (pe_op op_powW pe_int pe_int))))), ?_⟩
    refine ⟨_, rfl, _, d, rfl, hd, _, rfl, ?_⟩
    cases d with
    | int i =>
      rcases hd with hd | _
      cases hd
      refine ⟨_, rfl, _, _, rfl, rfl, decide (0 ≤ i), rfl, ?_⟩
      by_cases z : 0 ≤ i
      · rw [decide_eq_true z]
        refine ⟨_, _, rfl, rfl, cpw40, _, _, rfl, rfl, ?_⟩
        have q' := q
        simp only [partB, decide_eq_true z, Bool.true_and] at q'
        exact q'
      · rw [decide_eq_false z]
        have q' := q
        simp only [partB, decide_eq_false z, Bool.false_and] at q'
        exact q'
    | none => exact q
    | bool b => exact q
    | str x => exact q
    | list xs => exact q
    | tuple xs => exact q
    | dict xs => exact q

def spAreOdds : Sp := fun vs H Q _ => ∃ a b : Int, vs = [.int a, .int b] ∧ Q (.bl (oddsB a b)) H
theorem ok_areOdds {f : Addr} {fd : FuncData} (F : Fun K "_are_odds" "_are_odds" sAreOdds f fd) (ms : ∃ t, mg "MAX_ODDS" = some (.int 1000000 t)) : FnOk P w K mg base CX0 1 f fd ["right", "wrong"] spAreOdds := by
  refine F.ok scAreOdds (fun vs H Q E h => ?_) (fun cdv A outer s H vs Q E hr h => ?_)
  · obtain ⟨a, b, rfl, _⟩ := h
    rfl
  · obtain ⟨a, b, rfl, q⟩ := h
    obtain ⟨t, ms⟩ := ms
    refine ⟨_, pss_one (ps_ret (pe_chain op_ge op_gt (pe_glob (v := .int 1000000) (by rfl) ms ⟨t, rfl⟩) (pv 0) (pv 1))), ?_⟩
    refine ⟨_, rfl, _, _, rfl, rfl, decide (a ≤ 1000000), rfl, ?_⟩
    unfold oddsB at q
    by_cases z : a ≤ 1000000
    · rw [decide_eq_true z] at q ⊢
      rw [Bool.true_and] at q
      exact ⟨_, rfl, _, _, rfl, rfl, q⟩
    · rw [decide_eq_false z] at q ⊢
      exact q

theorem wholes_two {d : PyData} (h : wholesB d 2 = true) : ∃ a b, d = .tuple [.int a, .int b] := by
  cases d with
  | tuple ds =>
    simp only [wholesB, Bool.and_eq_true, decide_eq_true_eq] at h
    obtain ⟨l, h⟩ := h
    match ds, l, h with
    | [x, y], _, h =>
      simp only [List.all_cons, List.all_nil, Bool.and_true, Bool.and_eq_true] at h
      obtain ⟨hx, hy⟩ := h
      cases x <;> first | cases hx; done | skip
      cases y <;> first | cases hy; done | skip
      exact ⟨_, _, rfl⟩
    | [], l, _ => simp at l
    | [_], l, _ => simp at l
    | _ :: _ :: _ :: _, l, _ => simp only [List.length_cons] at l; omega
  | _ => cases h
theorem low_not {d : PyData} (h : wholesB d 2 = false) : lowB d = false := by
  unfold lowB
  split
  · simp [wholesB, wholeB] at h
  · rfl
def spLowest (K : PySem.W.Frag) : Sp := fun vs H Q _ => ∃ v d, vs = [v] ∧ Od K H v d ∧ Short d ∧ ∀ H', Ex H H' → Q (.bl (lowB d)) H'
theorem ok_lowest {f : Addr} {fd : FuncData} (F : Fun K "_is_lowest" "_is_lowest" sLowest f fd) (hg : mg "gcd" = some (.builtin "math.gcd")) (W : Df P w K mg base 2 "are_whole" ["value", "many"] (spWholes K)) : FnOk P w K mg base CX0 3 f fd ["value"] (spLowest K) := by
  refine F.ok scLowest (fun vs H Q E h => ?_) (fun cdv A outer s H vs Q E hr h => ?_)
  · obtain ⟨v, d, rfl, _⟩ := h
    rfl
  · obtain ⟨v, d, rfl, hd, sh, q⟩ := h
    refine ⟨_, pss_one (ps_ret (pe_and (pe_call W.G hr (by rfl) W.g W.kp W.b .nil pass0 (pa_cons (pv 0) (pa_cons pe_int pa_nil)))
      (pe_and (pe_cmpR op_gt (pe_ix ix_tup (pv 0) pe_int (fun _ _ => rfl)) pe_int (nomark _))
      (pe_and (pe_cmpR op_gt (pe_ix ix_tup (pv 0) pe_int (fun _ _ => rfl)) pe_int (nomark _))
      (pe_one (pe_cmpR op_eq (pe_callBfun cr_gcd (by rfl) hg (pa_cons (pe_ix ix_tup (pv 0) pe_int (fun _ _ => rfl)) (pa_cons (pe_ix ix_tup (pv 0) pe_int (fun _ _ => rfl)) pa_nil))) pe_int (nomark _))))))), ?_⟩
    refine ⟨_, rfl, _, d, 2, rfl, hd, sh, fun H1 e1 => ⟨_, rfl, ?_⟩⟩
    have q := q H1 e1
    cases hw : wholesB d 2 with
    | false =>
      rw [low_not hw] at q
      exact q
    | true =>
      obtain ⟨a, b, rfl⟩ := wholes_two hw
      rcases hd with hd | _
      cases hd with
      | @tup p xs _ hp ha =>
        cases ha with
        | cons h1 ha =>
        cases ha with
        | cons h2 ha =>
        cases ha
        cases h1
        cases h2
        have hp1 : SqT K H1 p [.int a, .int b] := .inl (e1.rd hp)
        simp only [lowB] at q
        refine ⟨_, rfl, p, _, 0, _, rfl, rfl, hp1, rfl, _, _, rfl, rfl, decide (0 < a), rfl, ?_⟩
        by_cases za : 0 < a
        · rw [decide_eq_true za] at q ⊢
          rw [Bool.true_and] at q
          refine ⟨_, rfl, p, _, 1, _, rfl, rfl, hp1, rfl, _, _, rfl, rfl, decide (0 < b), rfl, ?_⟩
          by_cases zb : 0 < b
          · rw [decide_eq_true zb] at q ⊢
            rw [Bool.true_and] at q
            refine ⟨_, rfl, p, _, 0, _, rfl, rfl, hp1, rfl, _, rfl, p, _, 1, _, rfl, rfl, hp1, rfl, _, _, rfl, rfl, ?_⟩
            have g : decide (V.int ((Nat.gcd a.natAbs b.natAbs : Nat) : Int) = V.int 1) = decide (Nat.gcd a.natAbs b.natAbs = 1) := decide_eq_decide.mpr ⟨fun z => by injection z with z; exact Int.natCast_inj.mp z, fun z => by rw [z]; rfl⟩
            rw [g]
            exact q
          · rw [decide_eq_false zb] at q ⊢
            exact q
        · rw [decide_eq_false za] at q ⊢
          exact q
end
end Gl

namespace Gl
open PySem PySem.Spec PyProof.Rows L2
abbrev sLowL : Stmt := topS 29
theorem scLowL : FnScope ["_law_top", "_law_bottom", "_law_one", "_law_other"] ["_law_top", "_law_bottom"] (defScope sLowL) := ⟨rfl, rfl, rfl, by decide +kernel, rfl, by decide +kernel, by decide +kernel⟩
section
variable {P : Program} {w : World} {K : PySem.W.Frag} {mg : Str → Option Value} {base : Heap}
def oddV (x : Odds) : List V := [.int (x.1.1 : Nat), .int (x.1.2 : Nat)]
def spLowL : Sp := fun vs H Q _ => ∃ a b : Nat, vs = [.int a, .int b] ∧ 0 < a ∧ 0 < b ∧ a < 2 ^ 190 ∧ b < 2 ^ 190 ∧ ∀ (p : Addr) H' (h : Low (a / Nat.gcd a b) (b / Nat.gcd a b)), Ex H H' → H p = none → Rd H' p (.tup (oddV ⟨(a / Nat.gcd a b, b / Nat.gcd a b), h⟩)) → Q (.ref p) H'
theorem ok_lowL {f : Addr} {fd : FuncData} (F : Fun K "_law_lowest" "_law_lowest" sLowL f fd) (T : Blt mg) : FnG P w K mg base CX0 1 f fd ["_law_top", "_law_bottom"] spLowL := by
  refine okG F scLowL (fun vs H Q E h => ?_) (fun cdv A outer s H vs Q E hr h => ?_)
  · obtain ⟨a, b, rfl, _⟩ := h
    rfl
  · obtain ⟨a, b, rfl, ha, hb, la, lb, q⟩ := h
    have nd := scLowL.nd
    refine ⟨_, pss_cons (ps_par (i := 2) (j := 3) rfl nd rfl rfl (by decide) rfl rfl (pa_cons (pv 0) (pa_cons (pv 1) pa_nil)) (by rfl))
      (pss_cons (ps_while PassesOwn.never (pt_cmpR op_gt (pv 3) pe_int (nomark _)) (pss_one (ps_par (i := 2) (j := 3) rfl nd rfl rfl (by decide) rfl rfl (pa_cons (pv 3) (pa_cons (pe_op op_mod (pe_callTy call_int1 (by rfl) T.int (by decide +kernel) (pa_cons (pv 2) pa_nil)) (pv 3)) pa_nil)) (by rfl))))
      (pss_one (ps_ret (pe_tup (pa_cons (pe_op op_fdivW (pv 0) (pv 2)) (pa_cons (pe_op op_fdivW (pv 1) (pv 2)) pa_nil)))))), ?_⟩
    refine ⟨_, rfl, _, rfl, _, _, rfl, ?_⟩
    refine ⟨fun m σ H' => ∃ u v : Nat, σ = [some (.int a), some (.int b), some (.int u), some (.int v)] ∧ H' = H ∧ v = m ∧ Nat.gcd u v = Nat.gcd a b ∧ 0 < u ∧ u < 2 ^ 190 ∧ v < 2 ^ 190, ⟨b, a, b, rfl, rfl, rfl, rfl, ha, la, lb⟩, fun m σ H' h => ?_⟩
    obtain ⟨u, v, rfl, rfl, rfl, g, u0, ul, vl⟩ := h
    refine ⟨_, rfl, _, _, rfl, rfl, _, rfl, ?_⟩
    by_cases z : v = 0
    · subst z
      rw [decide_eq_false (show ¬ (0 : Int) < ((0 : Nat) : Int) by omega)]
      refine iteF ?_
      rw [Nat.gcd_zero_right] at g
      subst g
      refine ⟨_, rfl, _, rfl, _, _, rfl, rfl, wide_div (by omega) (show ((Nat.gcd a b : Nat) : Int).natAbs < 2 ^ 190 by rw [Int.natAbs_natCast]; exact ul) (by decide) (by decide), _, rfl, _, rfl, _, _, rfl, rfl, wide_div (by omega) (show ((Nat.gcd a b : Nat) : Int).natAbs < 2 ^ 190 by rw [Int.natAbs_natCast]; exact ul) (by decide) (by decide), by show 2 ≤ sizeLine; decide, fun p np => ?_⟩
      exact q p _ (low_div ha hb) (Ex.new np) np (.inl (by rw [upd_same]; rfl))
    · rw [decide_eq_true (show (0 : Int) < (v : Int) by omega)]
      refine iteT ?_
      refine ⟨fun σ' H'' => σ' = [some (.int a), some (.int b), some (.int v), some (.int (u % v : Nat))] ∧ H'' = H', fun σ' H'' h => ?_, ?_⟩
      · obtain ⟨rfl, rfl⟩ := h
        refine ⟨u % v, Nat.mod_lt _ (by omega), v, u % v, rfl, rfl, rfl, ?_, by omega, by omega, Nat.lt_trans (Nat.mod_lt _ (by omega)) vl⟩
        rw [← g, Nat.gcd_comm u v, Nat.gcd_rec v u, Nat.gcd_comm]
      · refine ⟨_, rfl, _, rfl, .inl ⟨_, rfl, _, rfl, _, _, rfl, rfl, (show (0 : Int) < v by omega), _, _, rfl, rfl, rfl⟩⟩
end
end Gl

namespace Gl
open PySem PySem.Spec PyProof.Rows L2
/-- tuple * 1: the tuple itself -/
theorem tuple_mul1 (l : Addr) (items : Array Value) (n : Nat) (dd : Option Addr) (sl : Array (Option Value)) (u : Tok) :
    Meets (Builtin.«tuple.__mul__» ⟨[.ref l, .int 1 u], []⟩) (fun _ R s => s.heap.get? l = some { cls := .type "tuple", dict := dd, data := .seq items n, slots := sl } ∧
      R (.ok (.ret (Value.ref l))) s) :=
  .of_wp fun prog w A R s h => by
    obtain ⟨hp, g, d, tk, os⟩ := s
    obtain ⟨hl, h⟩ := h
    have f1 := AutoSeq1.idx_int
    have c1 : (items.isEmpty || (1 : Int) == 1) = true := by rw [show ((1 : Int) == 1) = true from rfl, Bool.or_true]
    have c0 : (decide ((1 : Int) < -(2 ^ 63)) || decide ((1 : Int) ≥ 2 ^ 63)) = false := by decide
    wp_walk using wpAny_loadPart' hl
    exact ⟨_, rfl, h⟩
def rRepT1 (K : PySem.W.Frag) : R2 := fun x y H Q => ∃ l xs, x = .ref l ∧ y = .int 1 ∧ SqT K H l xs ∧ Q (.ref l) H
section
variable {X : Cx}
theorem op_repT1 : OpR X (binaryOp .Mult) (rRepT1 X.K) := by
  intro pins s σ H x y v u Q I rx ry h
  obtain ⟨l, xs, rfl, rfl, hT, q⟩ := h
  cases rx
  obtain ⟨t, rfl⟩ := ry
  obtain ⟨its, r, ⟨⟨cls, dd, data, sl⟩, ho, hc, n, hd⟩, hs⟩ := I.tuple hT
  simp only at hc hd
  subst hc hd
  refine wpAny_binaryOp_repeat_ref (T := "tuple") (U := "int") (by decide) ⟨_, ho, rfl⟩ (fun s' => typeIs_int s' 1 t) noFill_tuple_mul F.fills_int_mul F.slot_int_rmul repeat_tuple F.slot_int_index.lookup
    (call_meets F.slot_int_rmul (typeIs_int s 1 t) F.entry_int_rmul (F.args_int_rmul_2 _ _) (int_rmul_tuple 1 t l its.toArray n dd sl)
      ⟨ho, rfl, ⟨_, ho, rfl⟩, call_meets F.slot_tuple_mul ⟨_, ho, rfl⟩ F.entry_tuple_mul (F.args_tuple_mul_2 _ _) (tuple_mul1 l its.toArray n dd sl t) ⟨ho, ?_⟩⟩)
  exact ⟨.ref l, H, I, rfl, q⟩
end
end Gl

namespace Gl
open PySem PySem.Spec PyProof.Rows L2
abbrev sScaleL : Stmt := topS 28
theorem scScaleL : FnScope ["_law_dice_here"] ["_law_dice_here"] (defScope sScaleL) := ⟨rfl, rfl, rfl, by decide +kernel, rfl, by decide +kernel, by decide +kernel⟩
/-- the pair (word, size) -/
def MsV (H : Hp) (p : Addr) (m : Ms) : Prop := Rd H p (.tup [.str m.word, .int (m.size : Nat)])
/-- parts that fit a product -/
def Am.wide : Am → Prop
  | .o x => x.1.1 < 2 ^ 2000 ∧ x.1.2 < 2 ^ 2000
  | _ => True
theorem cmulW {a b : Nat} (h1 : a < 2 ^ 2000) (h2 : b < 2 ^ 2000) : CMulW a b := by
  unfold CMulW
  rw [Int.natAbs_natCast, Int.natAbs_natCast]
  have l : ∀ n : Nat, n < 2 ^ 2000 → n.log2 < 2001 := fun n h => by
    by_cases z : n = 0
    · subst z; decide
    · have := (Nat.log2_lt z).mpr h
      omega
  have := l a h1
  have := l b h2
  omega
theorem word_odds (m : Ms) : decide (V.str m.word = V.str "odds") = decide (m = .odds) := by
  cases m with
  | sums => decide +kernel
  | classes k =>
    rw [decide_eq_false (fun z => nomatch z)]
    exact (show decide (V.str "classes" = V.str "odds") = false by decide +kernel)
  | odds => decide +kernel
section
variable {P : Program} {w : World} {K : PySem.W.Frag} {mg : Str → Option Value} {base : Heap}
def spScaleL : Sp := fun vs H Q _ => ∃ a : Addr, vs = [.ref a] ∧ Dice H a ∧ ∀ (m : Ms) p H', m.ok → Gro a H H' → MsV H' p m → Q (.ref p) H'
theorem ok_scaleL {f : Addr} {fd : FuncData} (F : Fun K "_law_scale" "_law_scale" sScaleL f fd) (D : Dc P w K mg base) : FnG P w K mg base CX0 2 f fd ["_law_dice_here"] spScaleL := by
  refine okG F scScaleL (fun vs H Q E h => ?_) (fun cdv A outer s H vs Q E hr h => ?_)
  · obtain ⟨a, rfl, _⟩ := h
    rfl
  · obtain ⟨a, rfl, hd, q⟩ := h
    refine ⟨_, pss_one (ps_ret (pe_ix ix_list (pe_lst (pa_cons (pe_tup (pa_cons pe_str (pa_cons pe_int pa_nil))) (pa_cons (pe_tup (pa_cons pe_str (pa_cons (pe_op op_add pe_int (pe_callG D.G hr (by rfl) D.g D.kp D.b .nil pass0 (pa_cons (pv 0) (pa_cons pe_int pa_nil)))) pa_nil))) (pa_cons (pe_tup (pa_cons pe_str (pa_cons pe_int pa_nil))) pa_nil))))
      (pe_callG D.G hr (by rfl) D.g D.kp D.b .nil pass0 (pa_cons (pv 0) (pa_cons pe_int pa_nil))) (fun _ _ => rfl))), ?_⟩
    have s2 : 2 ≤ sizeLine := by decide
    refine ⟨s2, fun t1 n1 => ⟨_, rfl, a, 4, rfl, by decide, by decide, (Ex.new n1).dice hd, fun v H1 v0 v1 g1 => ?_⟩⟩
    have x1 := Ex.new (o := .tup [.str "sums", .int 1]) n1
    obtain ⟨n, rfl⟩ : ∃ n : Nat, v = n := ⟨v.toNat, by omega⟩
    have gA := (Gro.of x1 hd).trans g1
    refine ⟨_, _, rfl, rfl, s2, fun t2 n2 => ⟨s2, fun t3 n3 => ⟨by show 3 ≤ sizeLine; decide, fun L nL => ?_⟩⟩⟩
    have x2 := Ex.new (o := .tup [.str "classes", .int (1 + (n : Int))]) n2
    have x3 := Ex.new (o := .tup [.str "odds", .int 1]) n3
    have xL := Ex.new (o := .lst [.ref t1, .ref t2, .ref t3]) nL
    have gB := ((gA.ex x2).ex x3).ex xL
    have La := ((gA.ex x2).ex x3).di.ne nL
    refine ⟨_, rfl, a, 3, rfl, by decide, by decide, gB.di, fun v H2 w0 w1 g2 => ?_⟩
    have g := gB.trans g2
    have eL := g2.st L _ La upd_same
    have d0 := gB.di
    obtain ⟨m, rfl⟩ : ∃ m : Nat, v = m := ⟨v.toNat, by omega⟩
    match m, w1 with
    | 0, _ => exact ⟨L, _, 0, _, rfl, rfl, .inl (.inl eL), rfl, q .sums t1 H2 trivial g (g2.rd d0 ((x2.trans (x3.trans xL)).rd (g1.rd (x1.dice hd) (.inl upd_same))))⟩
    | 1, _ =>
      refine ⟨L, _, 1, _, rfl, rfl, .inl (.inl eL), rfl, q (.classes (1 + n)) t2 H2 ⟨by omega, by omega⟩ g (g2.rd d0 ((x3.trans xL).rd (.inl ?_)))⟩
      rw [upd_same]
      show some (HO.tup [.str "classes", .int (1 + (n : Int))]) = some (HO.tup [.str "classes", .int ((1 + n : Nat) : Int)])
      rw [show ((1 + n : Nat) : Int) = 1 + (n : Int) by omega]
    | 2, _ => exact ⟨L, _, 2, _, rfl, rfl, .inl (.inl eL), rfl, q .odds t3 H2 trivial g (g2.rd d0 (xL.rd (.inl upd_same)))⟩
    | m + 3, z => omega

end
end Gl

namespace Gl
open PySem PySem.Spec PyProof.Rows L2
abbrev sAmtL : Stmt := topS 32
theorem scAmtL : FnScope ["_law_dice_here", "_law_measure", "_law_found", "_law_big", "_law_turn"] ["_law_dice_here", "_law_measure"] (defScope sAmtL) := ⟨rfl, rfl, rfl, by decide +kernel, rfl, by decide +kernel, by decide +kernel⟩
theorem big40_lt : 0 < big40 ∧ big40 + 1 < 2 ^ 190 ∧ big40.natAbs < 2 ^ 200 := by unfold big40; decide +kernel
/-- not far from zero -/
def Am.near : Am → Prop
  | .n i => i.natAbs < 2 ^ 190
  | .c ns => ∀ n ∈ ns, n.natAbs < 2 ^ 190
  | .o x => x.1.1 < 2 ^ 190 ∧ x.1.2 < 2 ^ 190
theorem Am.near.wide {x : Am} (h : x.near) : x.wide := by
  cases x with
  | n _ => trivial
  | c _ => trivial
  | o x =>
    have l : (2 : Nat) ^ 190 ≤ 2 ^ 2000 := Nat.pow_le_pow_right (by decide) (by decide)
    exact ⟨Nat.lt_of_lt_of_le h.1 l, Nat.lt_of_lt_of_le h.2 l⟩
theorem word_sums (m : Ms) : decide (V.str m.word = V.str "sums") = decide (m = .sums) := by
  cases m with
  | sums => decide +kernel
  | classes k =>
    rw [decide_eq_false (show ¬ Ms.classes k = .sums from fun z => nomatch z)]
    exact (show decide (V.str "classes" = V.str "sums") = false by decide +kernel)
  | odds => decide +kernel
def Ms.isC : Ms → Bool
  | .classes _ => true
  | _ => false
theorem word_classes (m : Ms) : decide (V.str m.word = V.str "classes") = m.isC := by
  cases m with
  | sums => exact (show decide (V.str "sums" = V.str "classes") = false by decide +kernel)
  | classes k => exact (show decide (V.str "classes" = V.str "classes") = true by decide +kernel)
  | odds => exact (show decide (V.str "odds" = V.str "classes") = false by decide +kernel)
theorem Gro.msV {a p : Addr} {H H' : Hp} {m : Ms} (g : Gro a H H') (d : Dice H a) (h : MsV H p m) : MsV H' p m := g.rd d h
section
variable {P : Program} {w : World} {K : PySem.W.Frag} {mg : Str → Option Value} {base : Heap}
def spAmtL : Sp := fun vs H Q _ => ∃ (a p : Addr) (m : Ms), vs = [.ref a, .ref p] ∧ Dice H a ∧ MsV H p m ∧ m.ok ∧ ∀ (v : V) (x : Am) H', Gro a H H' → m.has x → x.near → AmV H' v x → Q v H'
theorem ok_amtL {f : Addr} {fd : FuncData} (F : Fun K "_law_amount" "_law_amount" sAmtL f fd) (T : Blt mg) (D : Dc P w K mg base) (Lo : DfG P w K mg base 1 "_law_lowest" ["_law_top", "_law_bottom"] spLowL) : FnG P w K mg base CX0 2 f fd ["_law_dice_here", "_law_measure"] spAmtL := by
  refine okG F scAmtL (fun vs H Q E h => ?_) (fun cdv A outer s H vs Q E hr h => ?_)
  · obtain ⟨a, p, m, rfl, _⟩ := h
    rfl
  · obtain ⟨a, p, m, rfl, hd, hm, mok, q⟩ := h
    have nd := scAmtL.nd
    refine ⟨_, pss_cons (ps_if (pt_cmpR op_eq (pe_ix ix_tup (pv 1) pe_int (fun _ _ => rfl)) pe_str (nomark _))
        (pss_cons (ps_set (i := 2) nd rfl (.inl rfl) (pe_callG D.G hr (by rfl) D.g D.kp D.b .nil pass0 (pa_cons (pv 0) (pa_cons (pe_ix ix_list (pe_lst (pa_cons pe_int (pa_cons pe_int (pa_cons (pe_op op_powW pe_int pe_int) pa_nil)))) (pe_callG D.G hr (by rfl) D.g D.kp D.b .nil pass0 (pa_cons (pv 0) (pa_cons pe_int pa_nil))) (fun _ _ => rfl)) pa_nil))))
        (pss_one (ps_ret (pe_op op_sub (pv 2) (pe_callG D.G hr (by rfl) D.g D.kp D.b .nil pass0 (pa_cons (pv 0) (pa_cons (pe_ix ix_list (pe_lst (pa_cons pe_int (pa_cons pe_int (pa_cons (pe_op op_powW pe_int pe_int) pa_nil)))) (pe_callG D.G hr (by rfl) D.g D.kp D.b .nil pass0 (pa_cons (pv 0) (pa_cons pe_int pa_nil))) (fun _ _ => rfl)) pa_nil))))))) pss_nil)
      (pss_cons (ps_if (pt_cmpR op_eq (pe_ix ix_tup (pv 1) pe_int (fun _ _ => rfl)) pe_str (nomark _))
        (pss_one (ps_ret (pe_callTy call_tupleF (by rfl) T.tuple (by decide +kernel) (pa_cons (pe_lc (own := [("_law_turn", 4)]) (g := gName 4) (tt := tYes) rfl nd (pi_range1 rfl T.range (pa_cons (pe_ix ix_tup (pv 1) pe_int (fun _ _ => rfl)) pa_nil)) (blkOk_by (N := ["_law_dice_here", "_law_measure", "_law_found", "_law_big", "_law_turn"]) (sc := defScope sAmtL) (by decide +kernel)) (fun _ _ _ _ _ => pg_name (i := 4) nd rfl (.inl rfl)) (fun _ _ _ _ _ => pts_nil)
          (fun _ _ _ _ _ => pe_op op_sub (pe_callG D.G hr (by rfl) D.g D.kp D.b .nil pass0 (pa_cons (pv 0) (pa_cons pe_int pa_nil))) (pe_callG D.G hr (by rfl) D.g D.kp D.b .nil pass0 (pa_cons (pv 0) (pa_cons pe_int pa_nil))))) pa_nil)))) pss_nil)
      (pss_cons (ps_set (i := 3) nd rfl (.inl rfl) (pe_ix ix_list (pe_lst (pa_cons pe_int (pa_cons pe_int (pa_cons (pe_op op_powW pe_int pe_int) pa_nil)))) (pe_callG D.G hr (by rfl) D.g D.kp D.b .nil pass0 (pa_cons (pv 0) (pa_cons pe_int pa_nil))) (fun _ _ => rfl)))
      (pss_one (ps_ret (pe_callG Lo.G hr (by rfl) Lo.g Lo.kp Lo.b .nil pass0 (pa_cons (pe_op op_add pe_int (pe_callG D.G hr (by rfl) D.g D.kp D.b .nil pass0 (pa_cons (pv 0) (pa_cons (pv 3) pa_nil)))) (pa_cons (pe_op op_add pe_int (pe_callG D.G hr (by rfl) D.g D.kp D.b .nil pass0 (pa_cons (pv 0) (pa_cons (pv 3) pa_nil)))) pa_nil))))))), ?_⟩
    have s3 : 3 ≤ sizeLine := by decide
    obtain ⟨b0, b1, b2⟩ := big40_lt
    have pick3 : ∀ (c d : Int) {j : Int}, 0 < c → c ≤ 100 → 0 < d → d ≤ 100 → 0 ≤ j → j < 3 → ∃ t : Int, atI [V.int c, .int d, .int big40] j = some (.int t) ∧ 0 < t ∧ t.natAbs < 2 ^ 200 ∧ t + 1 < 2 ^ 190 := by
      intro c d j c0 c1 d0 d1 j0 j1
      obtain ⟨j, rfl⟩ : ∃ k : Nat, j = k := ⟨j.toNat, by omega⟩
      match j, j1 with
      | 0, _ => exact ⟨c, rfl, c0, by omega, by omega⟩
      | 1, _ => exact ⟨d, rfl, d0, by omega, by omega⟩
      | 2, _ => exact ⟨big40, rfl, b0, b2, b1⟩
      | j + 3, z => omega
    refine ⟨_, rfl, p, _, 0, _, rfl, rfl, .inl hm, rfl, rfl, _, rfl, ?_⟩
    rw [word_sums]
    cases m with
    | sums =>
      refine ⟨_, rfl, _, _, rfl, rfl, cpw40, s3, fun L nL => ?_⟩
      have xL := Ex.new (o := .lst [.int 2, .int 5, .int ((10 : Int) ^ (40 : Int).toNat)]) nL
      refine ⟨_, rfl, a, 3, rfl, by decide, by decide, xL.dice hd, fun j H1 j0 j1 g1 => ?_⟩
      have gA := (Gro.of xL hd).trans g1
      have La := hd.ne nL
      obtain ⟨t, ht, t0, t1, t2⟩ := pick3 2 5 (by decide) (by decide) (by decide) (by decide) j0 j1
      refine ⟨L, _, j, _, rfl, rfl, .inl (.inl (g1.st L _ La upd_same)), ht, a, t, rfl, t0, t1, gA.di, fun i H2 i0 i1 g2 => ?_⟩
      have gB := gA.trans g2
      refine ⟨_, rfl, _, rfl, _, _, rfl, rfl, cpw40, s3, fun M nM => ?_⟩
      have xM := Ex.new (o := .lst [.int 2, .int 5, .int ((10 : Int) ^ (40 : Int).toNat)]) nM
      refine ⟨_, rfl, a, 3, rfl, by decide, by decide, xM.dice gB.di, fun k H3 k0 k1 g3 => ?_⟩
      have gC := (gB.ex xM).trans g3
      have Ma := gB.di.ne nM
      obtain ⟨u, hu, u0, u1, u2⟩ := pick3 2 5 (by decide) (by decide) (by decide) (by decide) k0 k1
      refine ⟨M, _, k, _, rfl, rfl, .inl (.inl (g3.st M _ Ma upd_same)), hu, a, u, rfl, u0, u1, gC.di, fun l H4 l0 l1 g4 => ?_⟩
      exact ⟨_, _, rfl, rfl, q _ (.n (i - l)) H4 (gC.trans g4) trivial (show (i - l).natAbs < 2 ^ 190 by omega) rfl⟩
    | classes k =>
      refine ⟨_, rfl, p, _, 0, _, rfl, rfl, .inl hm, rfl, rfl, _, rfl, ?_⟩
      rw [word_classes]
      refine ⟨_, rfl, p, _, 1, _, rfl, rfl, .inl hm, rfl, k, rfl, by have := mok.2; omega, by have := mok.2; omega, fun L nL => ?_⟩
      have La := hd.ne nL
      refine lc_range (n := k) (fun i H' => ∃ ns : List Int, Gro a H H' ∧ H' L = some (.lst (ns.map V.int)) ∧ ns.length = i ∧ ∀ n ∈ ns, n.natAbs < 2 ^ 190)
        ⟨[], Gro.of (Ex.new nL) hd, upd_same, rfl, fun _ z => (nomatch z)⟩ (fun i H1 hi h => ?_) (fun H1 h => ?_)
      · obtain ⟨ns, g, eL, len, bd⟩ := h
        refine ⟨rfl, _, rfl, a, 4, rfl, by decide, by decide, g.di, fun u H2 u0 u1 g2 => ?_⟩
        refine ⟨_, rfl, a, 4, rfl, by decide, by decide, g2.di, fun t H3 t0 t1 g3 => ?_⟩
        have g23 := g2.trans g3
        have := mok.2
        refine ⟨_, _, rfl, rfl, _, g23.st L _ La eL, ?_, ns ++ [u - t], (g.trans g23).mut nL La, by rw [upd_same, List.map_append]; rfl, by rw [List.length_append, len]; rfl, fun n hn => ?_⟩
        · rw [List.length_map, len]
          exact Nat.lt_of_lt_of_le (show i < 100 by omega) (by decide)
        · rcases List.mem_append.mp hn with z | z
          · exact bd n z
          · rw [List.mem_singleton.mp z]
            have : (u - t).natAbs < 4 := by omega
            exact Nat.lt_of_lt_of_le this (by decide)
      · obtain ⟨ns, g, eL, len, bd⟩ := h
        refine ⟨L, _, rfl, .inl (.inl eL), fun t o nt _ => ?_⟩
        exact q _ (.c ns) _ (g.ex (Ex.new nt)) len bd ⟨t, rfl, .inr ⟨o, upd_same⟩⟩
    | odds =>
      refine ⟨_, rfl, p, _, 0, _, rfl, rfl, .inl hm, rfl, rfl, _, rfl, ?_⟩
      rw [word_classes]
      refine ⟨_, _, rfl, rfl, cpw40, s3, fun L nL => ?_⟩
      have xL := Ex.new (o := .lst [.int 3, .int 12, .int ((10 : Int) ^ (40 : Int).toNat)]) nL
      refine ⟨_, rfl, a, 3, rfl, by decide, by decide, xL.dice hd, fun j H1 j0 j1 g1 => ?_⟩
      have gA := (Gro.of xL hd).trans g1
      obtain ⟨t, ht, t0, t1, t2⟩ := pick3 3 12 (by decide) (by decide) (by decide) (by decide) j0 j1
      refine ⟨L, _, j, _, rfl, rfl, .inl (.inl (g1.st L _ (hd.ne nL) upd_same)), ht, ?_⟩
      refine ⟨_, rfl, _, rfl, a, t, rfl, t0, t1, gA.di, fun u H2 u0 u1 g2 => ?_⟩
      have gB := gA.trans g2
      refine ⟨_, _, rfl, rfl, _, rfl, _, rfl, a, t, rfl, t0, t1, gB.di, fun v H3 v0 v1 g3 => ?_⟩
      obtain ⟨u, rfl⟩ : ∃ k : Nat, u = k := ⟨u.toNat, by omega⟩
      obtain ⟨v, rfl⟩ : ∃ k : Nat, v = k := ⟨v.toNat, by omega⟩
      refine ⟨_, _, rfl, rfl, 1 + u, 1 + v, by rw [Int.natCast_add, Int.natCast_add]; rfl, by omega, by omega, by omega, by omega, fun pt H4 lo e4 np rd => ?_⟩
      refine q _ (.o ⟨_, lo⟩) _ ((gB.trans g3).ex e4) trivial ⟨?_, ?_⟩ ⟨pt, rfl, rd⟩
      · exact Nat.lt_of_le_of_lt (Nat.div_le_self ..) (by omega)
      · exact Nat.lt_of_le_of_lt (Nat.div_le_self ..) (by omega)
end
end Gl

namespace Gl
open PySem PySem.Spec PyProof.Rows L2
abbrev sWgtL : Stmt := topS 30
theorem scWgtL : FnScope ["_law_dice_here", "_law_measure", "_law_found", "_law_bottom", "_law_turn", "_law_one"] ["_law_dice_here", "_law_measure"] (defScope sWgtL) := ⟨rfl, rfl, rfl, by decide +kernel, rfl, by decide +kernel, by decide +kernel⟩
section
variable {P : Program} {w : World} {K : PySem.W.Frag} {mg : Str → Option Value} {base : Heap}
theorem pick_small (xs : List Int) (hx : ∀ x ∈ xs, 0 < x ∧ x ≤ 10 ^ 30) {j : Int} (j0 : 0 ≤ j) (j1 : j < xs.length) : ∃ t : Int, atI (xs.map V.int) j = some (.int t) ∧ 0 < t ∧ t ≤ 10 ^ 30 := by
  obtain ⟨j, rfl⟩ : ∃ k : Nat, j = k := ⟨j.toNat, by omega⟩
  have l : j < xs.length := by omega
  exact ⟨xs[j], atI_nat (by rw [List.getElem?_map, List.getElem?_eq_getElem l]; rfl), hx _ (List.getElem_mem l)⟩
theorem cpw30 : CPw 10 30 := ⟨by decide, by decide +kernel⟩
theorem ok_wgtL {f : Addr} {fd : FuncData} (F : Fun K "_law_weight" "_law_weight" sWgtL f fd) (T : Blt mg) (D : Dc P w K mg base) (Lo : DfG P w K mg base 1 "_law_lowest" ["_law_top", "_law_bottom"] spLowL) : FnG P w K mg base CX0 2 f fd ["_law_dice_here", "_law_measure"] spAmtL := by
  refine okG F scWgtL (fun vs H Q E h => ?_) (fun cdv A outer s H vs Q E hr h => ?_)
  · obtain ⟨a, p, m, rfl, _⟩ := h
    rfl
  · obtain ⟨a, p, m, rfl, hd, hm, mok, q⟩ := h
    have nd := scWgtL.nd
    have hu : (A.deeper (envOfC "_law_weight" (defScope sWgtL) s.heap.objs.size f cdv)).units < cLine := by have := hr.rm.un; omega
    refine ⟨_, pss_cons (ps_if (pt_cmpR op_eq (pe_ix ix_tup (pv 1) pe_int (fun _ _ => rfl)) pe_str (nomark _))
        (pss_one (ps_ret (pe_op op_add pe_int (pe_callG D.G hr (by rfl) D.g D.kp D.b .nil pass0 (pa_cons (pv 0) (pa_cons (pe_ix ix_list (pe_lst (pa_cons pe_int (pa_cons pe_int (pa_cons pe_int (pa_cons (pe_op op_powW pe_int pe_int) pa_nil))))) (pe_callG D.G hr (by rfl) D.g D.kp D.b .nil pass0 (pa_cons (pv 0) (pa_cons pe_int pa_nil))) (fun _ _ => rfl)) pa_nil)))))) pss_nil)
      (pss_cons (ps_if (pt_cmpR op_eq (pe_ix ix_tup (pv 1) pe_int (fun _ _ => rfl)) pe_str (nomark _))
        (pss_cons (ps_setLc (i := 2) (own := [("_law_turn", 4)]) (g := gName 4) (tt := tYes) rfl nd rfl rfl (sw_true rfl rfl rfl (by decide +kernel)) (pi_range1 rfl T.range (pa_cons (pe_ix ix_tup (pv 1) pe_int (fun _ _ => rfl)) pa_nil)) (blkOk_by (N := ["_law_dice_here", "_law_measure", "_law_found", "_law_bottom", "_law_turn", "_law_one"]) (sc := defScope sWgtL) (by decide +kernel)) (fun _ _ _ _ _ => pg_name (i := 4) nd rfl (.inl rfl)) (fun _ _ _ _ _ => pts_nil)
          (fun _ _ _ _ _ => pe_callG D.G hr (by rfl) D.g D.kp D.b .nil pass0 (pa_cons (pv 0) (pa_cons (pe_ix (r := rIxL K) ix_list (pe_lst (pa_cons pe_int (pa_cons pe_int (pa_cons pe_int pa_nil)))) (pe_callG D.G hr (by rfl) D.g D.kp D.b .nil pass0 (pa_cons (pv 0) (pa_cons pe_int pa_nil))) (fun _ _ => rfl)) pa_nil))))
        (pss_cons (ps_if (pt_cmpR (op_eqNil hu) (pe_lc (own := [("_law_one", 5)]) (g := gName 5) rfl nd (pi_list (pv 2)) (blkOk_by (N := ["_law_dice_here", "_law_measure", "_law_found", "_law_bottom", "_law_turn", "_law_one"]) (sc := defScope sWgtL) (by decide +kernel)) (fun _ _ _ _ _ => pg_name (i := 5) nd rfl (.inl rfl)) (fun _ _ _ _ _ => pts_one (pt_cmpR op_gt (pv 5) pe_int (nomark _)))
            (fun _ _ _ _ _ => pv 5)) (pe_lst pa_nil) (nomark _))
          (pss_one (ps_asg pe_int (pg_sub (pv 2) (pe_callG D.G hr (by rfl) D.g D.kp D.b .nil pass0 (pa_cons (pv 0) (pa_cons (pe_callB call_len_seq (by rfl) T.len PySem.boot_len (pa_cons (pv 2) pa_nil)) pa_nil))) set_list))) pss_nil)
        (pss_one (ps_ret (pe_callTy call_tupleF (by rfl) T.tuple (by decide +kernel) (pa_cons (pv 2) pa_nil)))))) pss_nil)
      (pss_cons (ps_set (i := 3) nd rfl (.inl rfl) (pe_op op_add pe_int (pe_callG D.G hr (by rfl) D.g D.kp D.b .nil pass0 (pa_cons (pv 0) (pa_cons (pe_ix ix_list (pe_lst (pa_cons pe_int (pa_cons pe_int (pa_cons pe_int (pa_cons pe_int pa_nil))))) (pe_callG D.G hr (by rfl) D.g D.kp D.b .nil pass0 (pa_cons (pv 0) (pa_cons pe_int pa_nil))) (fun _ _ => rfl)) pa_nil)))))
      (pss_one (ps_ret (pe_callG Lo.G hr (by rfl) Lo.g Lo.kp Lo.b .nil pass0 (pa_cons (pe_op op_add (pe_op op_add (pv 3) pe_int) (pe_callG D.G hr (by rfl) D.g D.kp D.b .nil pass0 (pa_cons (pv 0) (pa_cons (pe_ix ix_list (pe_lst (pa_cons pe_int (pa_cons pe_int (pa_cons pe_int (pa_cons pe_int pa_nil))))) (pe_callG D.G hr (by rfl) D.g D.kp D.b .nil pass0 (pa_cons (pv 0) (pa_cons pe_int pa_nil))) (fun _ _ => rfl)) pa_nil)))) (pa_cons (pv 3) pa_nil))))))), ?_⟩
    have b200 : ∀ t : Int, 0 < t → t ≤ 10 ^ 30 → t.natAbs < 2 ^ 200 := fun t h0 h1 => by omega
    refine ⟨_, rfl, p, _, 0, _, rfl, rfl, .inl hm, rfl, rfl, _, rfl, ?_⟩
    rw [word_sums]
    cases m with
    | sums =>
      refine ⟨_, rfl, _, _, rfl, rfl, cpw30, by show 4 ≤ sizeLine; decide, fun L nL => ?_⟩
      have xL := Ex.new (o := .lst [.int 2, .int 3, .int 9, .int ((10 : Int) ^ (30 : Int).toNat)]) nL
      refine ⟨_, rfl, a, 4, rfl, by decide, by decide, xL.dice hd, fun j H1 j0 j1 g1 => ?_⟩
      have gA := (Gro.of xL hd).trans g1
      obtain ⟨t, ht, t0, t1⟩ := pick_small [2, 3, 9, 10 ^ 30] (by decide +kernel) j0 j1
      refine ⟨L, _, j, .int t, rfl, rfl, .inl (.inl (g1.st L _ (hd.ne nL) upd_same)), ht, a, t, rfl, t0, b200 t t0 t1, gA.di, fun i H2 i0 i1 g2 => ?_⟩
      exact ⟨_, _, rfl, rfl, q _ (.n (1 + i)) H2 (gA.trans g2) trivial (show (1 + i).natAbs < 2 ^ 190 by omega) rfl⟩
    | classes k =>
      refine ⟨_, rfl, p, _, 0, _, rfl, rfl, .inl hm, rfl, rfl, _, rfl, ?_⟩
      rw [word_classes]
      have k1 := mok.1
      have k4 := mok.2
      refine ⟨_, rfl, p, _, 1, _, rfl, rfl, .inl hm, rfl, k, rfl, by omega, by omega, fun L nL => ?_⟩
      have La := hd.ne nL
      refine lc_range (n := k) (fun i H' => ∃ ns : List Int, Gro a H H' ∧ H' L = some (.lst (ns.map V.int)) ∧ ns.length = i ∧ ∀ n ∈ ns, n.natAbs < 2 ^ 190)
        ⟨[], Gro.of (Ex.new nL) hd, upd_same, rfl, fun _ z => (nomatch z)⟩ (fun i H1 hi h => ?_) (fun H1 h => ?_)
      · obtain ⟨ns, g, eL, len, bd⟩ := h
        refine ⟨rfl, _, rfl, by show 3 ≤ sizeLine; decide, fun M nM => ?_⟩
        have xM := Ex.new (o := .lst [.int 2, .int 3, .int 9]) nM
        refine ⟨_, rfl, a, 3, rfl, by decide, by decide, xM.dice g.di, fun j H2 j0 j1 g2 => ?_⟩
        obtain ⟨t, ht, t0, t1⟩ := pick_small [2, 3, 9] (by decide +kernel) j0 j1
        refine ⟨M, _, j, .int t, rfl, rfl, .inl (.inl (g2.st M _ (g.di.ne nM) upd_same)), ht, a, t, rfl, t0, b200 t t0 t1, g2.di, fun u H3 u0 u1 g3 => ?_⟩
        have g23 := g2.trans g3
        refine ⟨_, g23.st L _ La (xM L _ eL), ?_, ns ++ [u], ((g.ex xM).trans g23).mut nL La, by rw [upd_same, List.map_append]; rfl, by rw [List.length_append, len]; rfl, fun n hn => ?_⟩
        · rw [List.length_map, len]
          exact Nat.lt_of_lt_of_le (show i < 100 by omega) (by decide)
        · rcases List.mem_append.mp hn with z | z
          · exact bd n z
          · rw [List.mem_singleton.mp z]; omega
      · obtain ⟨ns, g, eL, len, bd⟩ := h
        refine ⟨_, rfl, L, rfl, ⟨_, .inl (.inl eL)⟩, fun D2 nD2 => lc_list (xs := ns.map V.int) (fun i H' => ∃ ks : List V, Ex H1 H' ∧ H' D2 = some (.lst ks) ∧ ks.length ≤ i)
          ⟨[], Ex.new nD2, upd_same, Nat.le_refl _⟩ (fun i H' _ h => ?_) (fun i x H' hx h => ?_) (fun H2 h => ?_)⟩
        · obtain ⟨_, ex, _⟩ := h
          exact .inl (.inl (ex L _ eL))
        · obtain ⟨ks, ex, eD, lk⟩ := h
          rw [List.getElem?_map] at hx
          obtain ⟨n, hn, rfl⟩ := Option.map_eq_some_iff.mp hx
          have il := (List.getElem?_eq_some_iff.mp hn).1
          refine ⟨rfl, _, rfl, _, _, rfl, rfl, _, rfl, ite2 (fun _ => ?_) (fun _ => ?_)⟩
          · refine ⟨_, rfl, ks, eD, ?_, ks ++ [.int n], ex.mut nD2, upd_same, by rw [List.length_append]; exact Nat.succ_le_succ lk⟩
            exact Nat.lt_of_lt_of_le (show ks.length < 100 by omega) (by decide)
          · exact ⟨ks, ex, eD, by omega⟩
        · obtain ⟨ks, ex, eD, lk⟩ := h
          refine ⟨Nat.zero_le _, fun m nm => ⟨D2, m, _, rfl, rfl, .inl (.inl (Ex.new nm D2 _ eD)), upd_same, _, rfl, ?_⟩⟩
          have xm := Ex.new (o := .lst []) nm
          have e1 := ex.trans xm
          have gm := g.ex e1
          refine ite2 (fun _ => ?_) (fun _ => ?_)
          · refine ⟨_, rfl, _, rfl, _, rfl, L, _, rfl, .inl (.inl (.inl (e1 L _ eL))), a, _, rfl, by rw [List.length_map, len]; omega, Nat.lt_of_le_of_lt (show (((ns.map V.int).length : Nat) : Int).natAbs ≤ 1000 by rw [List.length_map, len]; omega) (by decide), gm.di, fun j H4 j0 j1 g4 => ?_⟩
            obtain ⟨j, rfl⟩ : ∃ k : Nat, j = k := ⟨j.toNat, by omega⟩
            refine ⟨L, _, j, j, rfl, rfl, g4.st L _ La (e1 L _ eL), (by unfold ixN; rw [if_pos (by omega), if_pos j1]; rfl), ?_⟩
            refine ⟨_, rfl, L, _, rfl, .inl (.inl upd_same), fun t o nt _ => ?_⟩
            refine q _ (.c (ns.set j 1)) _ (((gm.trans g4).mut nL La).ex (Ex.new nt)) (by show (ns.set j 1).length = k; rw [List.length_set, len]) (fun n hn => ?_) ⟨t, rfl, .inr ⟨o, by rw [upd_same, List.map_set]⟩⟩
            rcases List.mem_or_eq_of_mem_set hn with z | rfl
            · exact bd n z
            · decide
          · refine ⟨_, rfl, L, _, rfl, .inl (.inl (e1 L _ eL)), fun t o nt _ => ?_⟩
            exact q _ (.c ns) _ (gm.ex (Ex.new nt)) len bd ⟨t, rfl, .inr ⟨o, upd_same⟩⟩
    | odds =>
      refine ⟨_, rfl, p, _, 0, _, rfl, rfl, .inl hm, rfl, rfl, _, rfl, ?_⟩
      rw [word_classes]
      refine ⟨_, rfl, by show 4 ≤ sizeLine; decide, fun L nL => ?_⟩
      have xL := Ex.new (o := .lst [.int 1, .int 3, .int 12, .int 999]) nL
      refine ⟨_, rfl, a, 4, rfl, by decide, by decide, xL.dice hd, fun j H1 j0 j1 g1 => ?_⟩
      have gA := (Gro.of xL hd).trans g1
      obtain ⟨t, ht, t0, t1⟩ := pick_small [1, 3, 12, 999] (by decide +kernel) j0 j1
      refine ⟨L, _, j, .int t, rfl, rfl, .inl (.inl (g1.st L _ (hd.ne nL) upd_same)), ht, a, t, rfl, t0, b200 t t0 t1, gA.di, fun u H2 u0 u1 g2 => ?_⟩
      have gB := gA.trans g2
      obtain ⟨u, rfl⟩ : ∃ k : Nat, u = k := ⟨u.toNat, by omega⟩
      refine ⟨_, _, rfl, rfl, _, rfl, _, _, rfl, rfl, _, rfl, by show 4 ≤ sizeLine; decide, fun M nM => ?_⟩
      have xM := Ex.new (o := .lst [.int 1, .int 4, .int 20, .int 990000]) nM
      refine ⟨_, rfl, a, 4, rfl, by decide, by decide, xM.dice gB.di, fun i H3 i0 i1 g3 => ?_⟩
      have gC := (gB.ex xM).trans g3
      obtain ⟨r, hrr, r0, r1⟩ := pick_small [1, 4, 20, 990000] (by decide +kernel) i0 i1
      refine ⟨M, _, i, .int r, rfl, rfl, .inl (.inl (g3.st M _ (gB.di.ne nM) upd_same)), hrr, a, r, rfl, r0, b200 r r0 r1, gC.di, fun v H4 v0 v1 g4 => ?_⟩
      obtain ⟨v, rfl⟩ : ∃ k : Nat, v = k := ⟨v.toNat, by omega⟩
      refine ⟨_, _, rfl, rfl, _, rfl, 1 + u + 1 + v, 1 + u, by simp only [Int.natCast_add]; rfl, by omega, by omega, by omega, by omega, fun pt H5 lo e5 np rd => ?_⟩
      refine q _ (.o ⟨_, lo⟩) _ ((gC.trans g4).ex e5) trivial ⟨?_, ?_⟩ ⟨pt, rfl, rd⟩
      · exact Nat.lt_of_le_of_lt (Nat.div_le_self ..) (by omega)
      · exact Nat.lt_of_le_of_lt (Nat.div_le_self ..) (by omega)
end
end Gl

namespace Gl
open PySem PySem.Spec PyProof.Rows L2
def sgn (m : Ms) (x : Am) : Int := if amLt x m.zero then -1 else if amLt m.zero x then 1 else 0
theorem zero_wide (m : Ms) : m.zero.wide := by
  cases m with
  | sums => trivial
  | classes k => trivial
  | odds => exact ⟨Nat.one_lt_two_pow (by decide), Nat.one_lt_two_pow (by decide)⟩
theorem AmV.ex {H H' : Hp} (e : Ex H H') {v : V} : ∀ {x : Am}, AmV H v x → AmV H' v x
  | .n _, h => h
  | .c _, ⟨p, h, r⟩ => ⟨p, h, e.rd r⟩
  | .o _, ⟨p, h, r⟩ => ⟨p, h, e.rd r⟩
theorem AmV.gro {a : Addr} {H H' : Hp} (g : Gro a H H') (d : Dice H a) {v : V} : ∀ {x : Am}, AmV H v x → AmV H' v x
  | .n _, h => h
  | .c _, ⟨p, h, r⟩ => ⟨p, h, g.rd d r⟩
  | .o _, ⟨p, h, r⟩ => ⟨p, h, g.rd d r⟩
end Gl

namespace Gl
open PySem PySem.Spec PyProof.Rows L2
def clsS (i : Nat) : Stmt := match topS 17 with
  | .ClassDef _ _ _ body _ _ _ _ _ _ _ => body.getD i (.Pass ⟨0, 0, 0, 0⟩)
  | _ => .Pass ⟨0, 0, 0, 0⟩
/-- a scale of the program -/
def SclAt (H : Hp) (a C : Addr) (m : Ms) : Prop := ∃ dx fs, H a = some (.ins C dx fs) ∧ fs.lookup ("_word" : Str) = some (V.str m.word) ∧ fs.lookup ("_size" : Str) = some (V.int (m.size : Nat)) ∧ ∀ x : Str, x ≠ ("_word" : Str) → x ≠ ("_size" : Str) → fs.lookup x = none
theorem Ex.scl {H H' : Hp} {a C : Addr} {m : Ms} (e : Ex H H') (h : SclAt H a C m) : SclAt H' a C m := let ⟨dx, fs, h1, h2⟩ := h; ⟨dx, fs, e _ _ h1, h2⟩
/-- what is known of the class -/
structure ClsK (K : PySem.W.Frag) (C : Addr) : Prop where
  cls : Cls K C
  nw : NoAttr K C "_word"
  ns : NoAttr K C "_size"
section
variable {P : Program} {w : World} {K : PySem.W.Frag} {mg : Str → Option Value} {base : Heap} {C : Addr}
end
end Gl

namespace Gl
open PySem PySem.Spec PyProof.Rows L2
abbrev sInit : Stmt := clsS 0
abbrev sSums : Stmt := clsS 1
abbrev sClasses : Stmt := clsS 2
abbrev sOddsM : Stmt := clsS 3
abbrev sZero : Stmt := clsS 6
abbrev sMadeL : Stmt := topS 31
theorem scInit : FnScope ["self", "word", "size"] ["self", "word", "size"] (defScope sInit) := ⟨rfl, rfl, rfl, by decide +kernel, rfl, by decide +kernel, by decide +kernel⟩
theorem scSums : FnScope [] [] (defScope sSums) := ⟨rfl, rfl, rfl, by decide +kernel, rfl, by decide +kernel, by decide +kernel⟩
theorem scClasses : FnScope ["size"] ["size"] (defScope sClasses) := ⟨rfl, rfl, rfl, by decide +kernel, rfl, by decide +kernel, by decide +kernel⟩
theorem scOddsM : FnScope [] [] (defScope sOddsM) := ⟨rfl, rfl, rfl, by decide +kernel, rfl, by decide +kernel, by decide +kernel⟩
theorem scZero : FnScope ["self"] ["self"] (defScope sZero) := ⟨rfl, rfl, rfl, by decide +kernel, rfl, by decide +kernel, by decide +kernel⟩
theorem scMadeL : FnScope ["_law_measure"] ["_law_measure"] (defScope sMadeL) := ⟨rfl, rfl, rfl, by decide +kernel, rfl, by decide +kernel, by decide +kernel⟩
section
variable {P : Program} {w : World} {K : PySem.W.Frag} {mg : Str → Option Value} {base : Heap} {C : Addr}
def spInit (C : Addr) : Sp := fun vs H Q _ => ∃ (x dx : Addr) (m : Ms), vs = [.ref x, .str m.word, .int (m.size : Nat)] ∧ H x = some (.ins C dx []) ∧ ∀ H', (∀ b o, b ≠ x → H b = some o → H' b = some o) → SclAt H' x C m → Q .non H'
theorem ok_init {f : Addr} {fd : FuncData} (F : Fun K "__init__" "Scale.__init__" sInit f fd) (Z : ClsK K C) : FnOk P w K mg base CX0 1 f fd ["self", "word", "size"] (spInit C) := by
  refine F.ok scInit (fun vs H Q E h => ?_) (fun cdv A outer s H vs Q E hr h => ?_)
  · obtain ⟨x, dx, m, rfl, _⟩ := h
    rfl
  · obtain ⟨x, dx, m, rfl, hx, q⟩ := h
    refine ⟨_, pss_cons (ps_fld (pv 0) (pv 1) rfl) (pss_one (ps_fld (pv 0) (pv 2) rfl)), ?_⟩
    refine ⟨_, rfl, _, rfl, x, C, dx, [], rfl, hx, Z.cls, Z.nw, (by show 0 < 1000; decide), ?_⟩
    refine ⟨_, rfl, _, rfl, x, C, dx, _, rfl, upd_same, Z.cls, Z.ns, (by show 1 < 1000; decide), ?_⟩
    refine q _ (fun b o nb e => ?_) ⟨dx, _, upd_same, ?_, ?_, fun y n1 n2 => ?_⟩
    · rw [upd_ne nb, upd_ne nb]; exact e
    · rw [lookup_putF, if_neg (by decide +kernel), lookup_putF, if_pos rfl]
    · rw [lookup_putF, if_pos rfl]
    · rw [lookup_putF, if_neg n2, lookup_putF, if_neg n1]
      rfl
/-- the class as the module has it -/
structure SclD (P : Program) (w : World) (K : PySem.W.Frag) (mg : Str → Option Value) (base : Heap) (C : Addr) where
  k : ClsK K C
  f : Addr
  fd : FuncData
  G : FnOk P w K mg base CX0 1 f fd ["self", "word", "size"] (spInit C)
  made : Mk K C f
  g : mg "Scale" = some (.ref C)
  b : Binds K fd ["self", "word", "size"] []
def spNew (C : Addr) (m : Ms) : Sp := fun vs H Q _ => vs = [] ∧ ∀ a H', Ex H H' → H a = none → SclAt H' a C m → Q (.ref a) H'
def spClasses (C : Addr) : Sp := fun vs H Q _ => ∃ k : Nat, vs = [.int k] ∧ 1 ≤ k ∧ k ≤ 4 ∧ ∀ a H', Ex H H' → H a = none → SclAt H' a C (.classes k) → Q (.ref a) H'
theorem scl_made {H1 H2 : Hp} {x dx : Addr} (nx : H1 x = none) (nd : H1 dx = none) (hk : ∀ b o, b ≠ x → upd (upd H1 dx (.own x)) x (.ins C dx []) b = some o → H2 b = some o) : Ex H1 H2 := fun b o e => by
  have b1 := ne_of_none e nx
  have b2 := ne_of_none e nd
  refine hk b o b1 ?_
  rw [upd_ne b1, upd_ne b2]
  exact e
theorem ok_sums {f : Addr} {fd : FuncData} (F : Fun K "sums" "Scale.sums" sSums f fd) (Z : SclD P w K mg base C) : FnOk P w K mg base CX0 3 f fd [] (spNew C .sums) := by
  refine F.ok scSums (fun vs H Q E h => ?_) (fun cdv A outer s H vs Q E hr h => ?_)
  · obtain ⟨rfl, _⟩ := h
    rfl
  · obtain ⟨rfl, q⟩ := h
    refine ⟨_, pss_one (ps_ret (pe_make Z.made Z.G hr (by rfl) Z.g Z.b .nil pass0 (pa_cons pe_str (pa_cons pe_int pa_nil)))), ?_⟩
    refine fun x dx nx nd ne => ⟨x, dx, .sums, rfl, upd_same, fun H2 hk sa => ⟨rfl, q x H2 (scl_made nx nd hk) nx sa⟩⟩
theorem ok_oddsM {f : Addr} {fd : FuncData} (F : Fun K "odds" "Scale.odds" sOddsM f fd) (Z : SclD P w K mg base C) : FnOk P w K mg base CX0 3 f fd [] (spNew C .odds) := by
  refine F.ok scOddsM (fun vs H Q E h => ?_) (fun cdv A outer s H vs Q E hr h => ?_)
  · obtain ⟨rfl, _⟩ := h
    rfl
  · obtain ⟨rfl, q⟩ := h
    refine ⟨_, pss_one (ps_ret (pe_make Z.made Z.G hr (by rfl) Z.g Z.b .nil pass0 (pa_cons pe_str (pa_cons pe_int pa_nil)))), ?_⟩
    refine fun x dx nx nd ne => ⟨x, dx, .odds, rfl, upd_same, fun H2 hk sa => ⟨rfl, q x H2 (scl_made nx nd hk) nx sa⟩⟩
theorem ok_classes {f : Addr} {fd : FuncData} (F : Fun K "classes" "Scale.classes" sClasses f fd) (Z : SclD P w K mg base C) (I : Df P w K mg base 2 "is_index" ["value", "many"] spIndex) (ms : ∃ t, mg "MAX_SIZE" = some (.int 4 t)) : FnOk P w K mg base CX0 3 f fd ["size"] (spClasses C) := by
  refine F.ok scClasses (fun vs H Q E h => ?_) (fun cdv A outer s H vs Q E hr h => ?_)
  · obtain ⟨k, rfl, _⟩ := h
    rfl
  · obtain ⟨k, rfl, k1, k4, q⟩ := h
    obtain ⟨t, ms⟩ := ms
    refine ⟨_, pss_cons (ps_if (pw_or (pt_not (pt_val (pe_call I.G hr (by rfl) I.g I.kp I.b .nil pass0 (pa_cons (pv 0) (pa_cons (pe_op op_add (pe_glob (v := .int 4) (by rfl) ms ⟨t, rfl⟩) pe_int) pa_nil))))) (pw_or1 (pt_cmpR op_eq (pv 0) pe_int (nomark _)))).pt pss_never pss_nil)
      (pss_one (ps_ret (pe_make Z.made Z.G hr (by rfl) Z.g Z.b .nil pass0 (pa_cons pe_str (pa_cons (pv 0) pa_nil))))), ?_⟩
    refine ⟨_, rfl, _, _, rfl, rfl, k, _, rfl, by omega, by omega, ⟨_, rfl, ?_⟩⟩
    refine ⟨_, rfl, rfl, _, rfl, ?_⟩
    rw [decide_eq_false (show ¬ V.int (k : Nat) = V.int 0 from fun z => by injection z with z; omega)]
    refine ⟨_, rfl, fun x dx nx nd ne => ⟨x, dx, .classes k, rfl, upd_same, fun H2 hk sa => ⟨rfl, q x H2 (scl_made nx nd hk) nx sa⟩⟩⟩
end
end Gl

namespace Gl
open PySem PySem.Spec PyProof.Rows L2
/-- a method that the class has -/
structure Dm (P : Program) (w : World) (K : PySem.W.Frag) (mg : Str → Option Value) (base : Heap) (C : Addr) (k : Nat) (m : Str) (ps : List Str) (sp : Sp) where
  f : Addr
  fd : FuncData
  G : FnOk P w K mg base CX0 k f fd ps sp
  at_ : Meth K C m f
  b : Binds K fd ps []
/-- a tuple of amounts -/
def AmsT (H : Hp) (p : Addr) (m : Ms) (ps : List (V × Am)) : Prop := Rd H p (.tup (ps.map (·.1))) ∧ ∀ q ∈ ps, m.has q.2 ∧ q.2.wide ∧ AmV H q.1 q.2
theorem Ex.amsT {H H' : Hp} {p : Addr} {m : Ms} {ps : List (V × Am)} (e : Ex H H') (h : AmsT H p m ps) : AmsT H' p m ps := ⟨e.rd h.1, fun q hq => let ⟨a, b, c⟩ := h.2 q hq; ⟨a, b, c.ex e⟩⟩
section
variable {P : Program} {w : World} {K : PySem.W.Frag} {mg : Str → Option Value} {base : Heap} {C : Addr}
def spZero (C : Addr) : Sp := fun vs H Q _ => ∃ (a : Addr) (m : Ms), vs = [.ref a] ∧ SclAt H a C m ∧ m.ok ∧ ∀ v H', Ex H H' → AmV H' v m.zero → Q v H'
theorem zeros_rep (n : Nat) : (List.replicate n [V.int 0]).flatten = (List.replicate n (0 : Int)).map V.int := by
  induction n with
  | zero => rfl
  | succ n ih => rw [List.replicate_succ, List.replicate_succ, List.flatten_cons, ih]; rfl
theorem ok_zero {f : Addr} {fd : FuncData} (F : Fun K "zero" "Scale.zero" sZero f fd) (Z : ClsK K C) : FnOk P w K mg base CX0 1 f fd ["self"] (spZero C) := by
  refine F.ok scZero (fun vs H Q E h => ?_) (fun cdv A outer s H vs Q E hr h => ?_)
  · obtain ⟨a, m, rfl, _⟩ := h
    rfl
  · obtain ⟨a, m, rfl, ⟨dx, fs, ha, hw, hs, hn⟩, mok, q⟩ := h
    refine ⟨_, pss_cons (ps_if (pt_cmpR op_eq (pe_fld (pv 0) (by rfl)) pe_str (nomark _)) (pss_one (ps_ret pe_int)) pss_nil)
      (pss_cons (ps_if (pt_cmpR op_eq (pe_fld (pv 0) (by rfl)) pe_str (nomark _)) (pss_one (ps_ret (pe_tup (pa_cons pe_int (pa_cons pe_int pa_nil))))) pss_nil)
      (pss_one (ps_ret (pe_op (op_repT1.or op_repT) (pe_tup (pa_cons pe_int pa_nil)) (pe_fld (pv 0) (by rfl)))))), ?_⟩
    refine ⟨_, rfl, a, C, dx, fs, _, rfl, ha, Z.cls, Z.nw, hw, rfl, _, rfl, ?_⟩
    rw [word_sums]
    have other : m ≠ .sums → m ≠ .odds → ∃ k, m = .classes k := fun h1 h2 => by
      cases m with
      | sums => exact absurd rfl h1
      | classes k => exact ⟨k, rfl⟩
      | odds => exact absurd rfl h2
    by_cases e : m = .sums
    · subst e
      exact q _ H (Ex.refl H) rfl
    · rw [decide_eq_false e]
      refine ⟨_, rfl, a, C, dx, fs, _, rfl, ha, Z.cls, Z.nw, hw, rfl, _, rfl, ?_⟩
      rw [word_odds]
      by_cases e2 : m = .odds
      · subst e2
        exact ⟨by show 2 ≤ sizeLine; decide, fun t nt => q _ _ (Ex.new nt) ⟨t, rfl, .inl upd_same⟩⟩
      · rw [decide_eq_false e2]
        obtain ⟨k, rfl⟩ := other e e2
        have k1 := mok.1
        have k4 := mok.2
        refine ⟨by show 1 ≤ sizeLine; decide, fun t nt => ?_⟩
        have xt := Ex.new (o := .tup [.int 0]) nt
        refine ⟨_, rfl, a, C, dx, fs, _, rfl, xt a _ ha, Z.cls, Z.ns, hs, ?_⟩
        by_cases one : k = 1
        · subst one
          exact .inl ⟨t, _, rfl, rfl, .inl (.inl upd_same), q _ _ xt ⟨t, rfl, .inl upd_same⟩⟩
        · refine .inr ⟨t, (k : Int), [.int 0], rfl, rfl, .inl (.inl upd_same), by simp, by omega, by omega, by decide, fun z nz => ?_⟩
          refine q _ _ (xt.trans (Ex.new nz)) ⟨z, rfl, .inl ?_⟩
          rw [upd_same, Int.toNat_natCast, zeros_rep]
end
end Gl

namespace Gl
open PySem PySem.Spec PyProof.Rows L2
/-! ### amounts as data -/
def Few (n : Int) : Prop := n.natAbs < 2 ^ 200
section
variable {K : PySem.W.Frag} {H : Hp}
theorem dp_ints : ∀ ns : List Int, DpAll K H (ns.map V.int) (ns.map PyData.int)
  | [] => .nil
  | n :: ns => .cons (.int n) (dp_ints ns)
theorem dp_am {v : V} : ∀ {x : Am}, AmV H v x → Dp K H v x.data
  | .n i, h => by obtain rfl := h; exact .int i
  | .c ns, ⟨p, e, h⟩ => by subst e; exact .tup (.inl h) (dp_ints ns)
  | .o x, ⟨p, e, h⟩ => by subst e; exact .tup (.inl h) (.cons (.int _) (.cons (.int _) .nil))
theorem dp_ams : ∀ {ps : List (V × Am)}, (∀ q ∈ ps, AmV H q.1 q.2) → DpAll K H (ps.map (·.1)) (ps.map fun q => q.2.data)
  | [], _ => .nil
  | q :: ps, h => .cons (dp_am (h q (List.mem_cons_self ..))) (dp_ams fun r hr => h r (List.mem_cons_of_mem _ hr))
end
theorem eqv_int (i j : Int) : PyData.eqv (.int i) (.int j) = decide (i = j) := by simp only [PyData.eqv]; rfl
theorem eqv_ints : ∀ as bs : List Int, PyData.eqvAll (as.map PyData.int) (bs.map PyData.int) = decide (as = bs)
  | [], [] => by simp only [List.map_nil, PyData.eqvAll]; rfl
  | [], _ :: _ => by simp only [List.map_nil, List.map_cons, PyData.eqvAll]; rfl
  | _ :: _, [] => by simp only [List.map_nil, List.map_cons, PyData.eqvAll]; rfl
  | a :: as, b :: bs => by
    simp only [List.map_cons, PyData.eqvAll]
    rw [eqv_int, eqv_ints as bs]
    by_cases h1 : a = b
    · subst h1
      by_cases h2 : as = bs
      · subst h2; simp
      · rw [decide_eq_false h2, decide_eq_false (show ¬ a :: as = a :: bs from fun z => h2 (List.cons.inj z).2)]; simp
    · rw [decide_eq_false h1, decide_eq_false (show ¬ a :: as = b :: bs from fun z => h1 (List.cons.inj z).1)]; simp
theorem eqv_am {m : Ms} : ∀ {x y : Am}, m.has x → m.has y → PyData.eqv x.data y.data = decide (x = y)
  | .n i, .n j, _, _ => by
    show PyData.eqv (.int i) (.int j) = _
    rw [eqv_int]
    by_cases h : i = j
    · subst h; simp
    · rw [decide_eq_false h, decide_eq_false fun z => h (Am.n.inj z)]
  | .c as, .c bs, _, _ => by
    show PyData.eqv (.tuple _) (.tuple _) = _
    simp only [PyData.eqv]
    rw [eqv_ints]
    by_cases h : as = bs
    · subst h; simp
    · rw [decide_eq_false h, decide_eq_false fun z => h (Am.c.inj z)]
  | .o x, .o y, _, _ => by
    show PyData.eqv (.tuple ([((x.1.1 : Nat) : Int), ((x.1.2 : Nat) : Int)].map PyData.int)) (.tuple ([((y.1.1 : Nat) : Int), ((y.1.2 : Nat) : Int)].map PyData.int)) = _
    simp only [PyData.eqv]
    rw [eqv_ints]
    by_cases h : x = y
    · subst h; simp
    · rw [decide_eq_false fun z => h (Am.o.inj z), decide_eq_false fun z => h ?_]
      have h1 := (List.cons.inj z).1
      have h2 := (List.cons.inj (List.cons.inj z).2).1
      exact Subtype.ext (Prod.ext (by omega) (by omega))
  | .n _, .c _, h1, h2 => by cases m <;> first | exact h1.elim | exact h2.elim
  | .n _, .o _, h1, h2 => by cases m <;> first | exact h1.elim | exact h2.elim
  | .c _, .n _, h1, h2 => by cases m <;> first | exact h1.elim | exact h2.elim
  | .c _, .o _, h1, h2 => by cases m <;> first | exact h1.elim | exact h2.elim
  | .o _, .n _, h1, h2 => by cases m <;> first | exact h1.elim | exact h2.elim
  | .o _, .c _, h1, h2 => by cases m <;> first | exact h1.elim | exact h2.elim
theorem lay_ints : ∀ ns : List Int, PyData.canLayAll0 (ns.map PyData.int) = true
  | [] => by simp only [List.map_nil, PyData.canLayAll0]
  | n :: ns => by simp only [List.map_cons, PyData.canLayAll0, PyData.canLay0, lay_ints ns, Bool.and_self]
theorem dep_ints : ∀ ns : List Int, PyData.depthAll (ns.map PyData.int) = 0
  | [] => by simp only [List.map_nil, PyData.depthAll]
  | n :: ns => by simp only [List.map_cons, PyData.depthAll, PyData.depth, dep_ints ns, Nat.max_self]
theorem shaped_of {d : PyData} (h1 : d.canLay0 = true) (h2 : d.depth ≤ 64) : SeqAt.shaped d = true := by
  unfold SeqAt.shaped
  rw [h1, decide_eq_true h2]
  rfl
theorem Am.lay : ∀ x : Am, x.data.canLay0 = true
  | .n i => by simp only [Am.data, PyData.canLay0]
  | .c ns => by simp only [Am.data, PyData.canLay0, lay_ints]
  | .o x => by simp only [Am.data, PyData.canLay0, PyData.canLayAll0, Bool.and_self]
theorem Am.dep : ∀ x : Am, x.data.depth ≤ 1
  | .n i => by simp only [Am.data, PyData.depth]; decide
  | .c ns => by simp only [Am.data, PyData.depth, dep_ints]; decide
  | .o x => by simp only [Am.data, PyData.depth, PyData.depthAll]; decide
theorem Am.shaped (x : Am) : SeqAt.shaped x.data = true := shaped_of x.lay (Nat.le_trans x.dep (by decide))
/-- shown without trouble, in at most n signs -/
structure Shows (d : PyData) (n : Nat) : Prop where
  sh : d.showable = true
  dp : d.depth ≤ 3
  wt : wt d ≤ n
theorem Shows.ok {d : PyData} {n : Nat} (h : Shows d n) (hn : n ≤ 1000000) : d.showable = true ∧ d.depth ≤ 100 ∧ d.shown.length ≤ sizeLine :=
  ⟨h.sh, Nat.le_trans h.dp (by decide), Nat.le_trans (Nat.le_trans (shown_le d h.sh) h.wt) (Nat.le_trans hn (by decide))⟩
theorem show_int {n : Int} (h : Few n) : PyData.showable (.int n) = true := by
  simp only [PyData.showable]
  exact decide_eq_true (Nat.lt_trans (PySem.Flt.log2_lt_of (by decide) h) (by decide))
theorem show_ints : ∀ {ns : List Int}, (∀ n ∈ ns, Few n) → PyData.showableAll (ns.map PyData.int) = true
  | [], _ => by simp only [List.map_nil, PyData.showableAll]
  | n :: ns, h => by
    simp only [List.map_cons, PyData.showableAll]
    rw [show_int (h n (List.mem_cons_self ..)), show_ints fun x hx => h x (List.mem_cons_of_mem _ hx)]
    rfl
theorem wt_ints : ∀ ns : List Int, wtAll (ns.map PyData.int) = 1932 * ns.length
  | [] => by simp only [List.map_nil, wtAll]; rfl
  | n :: ns => by
    simp only [List.map_cons, wtAll, wt, List.length_cons]
    rw [wt_ints ns]
    omega
theorem few190 {n : Int} (h : n.natAbs < 2 ^ 190) : Few n := Nat.lt_trans h (by decide)
theorem Am.shows {m : Ms} : ∀ {x : Am}, m.ok → m.has x → x.near → x.data.showable = true ∧ wt x.data ≤ 8000
  | .n i, _, _, h => ⟨show_int (few190 h), by simp only [Am.data, wt]; decide⟩
  | .c ns, mok, hm, h => by
    have l : ns.length ≤ 4 := by
      cases m with
      | classes k =>
        have e : ns.length = k := hm
        have := mok.2
        omega
      | sums => exact hm.elim
      | odds => exact hm.elim
    refine ⟨by simp only [Am.data, PyData.showable]; exact show_ints fun n hn => few190 (h n hn), ?_⟩
    simp only [Am.data, wt]
    rw [wt_ints]
    omega
  | .o x, _, _, h => by
    have e : Am.data (.o x) = .tuple ([((x.1.1 : Nat) : Int), ((x.1.2 : Nat) : Int)].map PyData.int) := rfl
    have few : ∀ n ∈ [((x.1.1 : Nat) : Int), ((x.1.2 : Nat) : Int)], Few n := fun n hn => by
      rcases List.mem_cons.mp hn with rfl | hn
      · exact few190 (by rw [Int.natAbs_natCast]; exact h.1)
      · rw [List.mem_singleton.mp hn]
        exact few190 (by rw [Int.natAbs_natCast]; exact h.2)
    rw [e]
    exact ⟨by simp only [PyData.showable]; exact show_ints few, by simp only [wt]; rw [wt_ints]; show 1932 * 2 + 3 ≤ 8000; decide⟩
theorem Am.noDict : ∀ x : Am, x.data.hasDict = false
  | .n i => by simp only [Am.data, PyData.hasDict]
  | .c ns => by
    simp only [Am.data, PyData.hasDict]
    induction ns with
    | nil => simp only [List.map_nil, PyData.hasDictAll]
    | cons n ns ih => simp only [List.map_cons, PyData.hasDictAll, PyData.hasDict, ih, Bool.or_self]
  | .o x => by simp only [Am.data, PyData.hasDict, PyData.hasDictAll, Bool.or_self]
def dAms (ps : List (V × Am)) : PyData := .list (ps.map fun q => q.2.data)
theorem shows_ams {m : Ms} (mok : m.ok) : ∀ {ps : List (V × Am)}, (∀ q ∈ ps, m.has q.2 ∧ q.2.near) → PyData.showableAll (ps.map fun q => q.2.data) = true ∧ wtAll (ps.map fun q => q.2.data) ≤ 8002 * ps.length ∧ PyData.depthAll (ps.map fun q => q.2.data) ≤ 1
  | [], _ => ⟨by simp only [List.map_nil, PyData.showableAll], by simp only [List.map_nil, wtAll]; exact Nat.zero_le _, by simp only [List.map_nil, PyData.depthAll]; exact Nat.zero_le _⟩
  | q :: ps, h => by
    obtain ⟨h1, h2⟩ := h q (List.mem_cons_self ..)
    obtain ⟨a, b, c⟩ := shows_ams mok (ps := ps) fun r hr => h r (List.mem_cons_of_mem _ hr)
    obtain ⟨d, e⟩ := Am.shows mok h1 h2
    refine ⟨by simp only [List.map_cons, PyData.showableAll]; rw [d, a]; rfl, ?_, ?_⟩
    · simp only [List.map_cons, wtAll, List.length_cons]
      omega
    · simp only [List.map_cons, PyData.depthAll]
      exact Nat.max_le.mpr ⟨q.2.dep, c⟩
end Gl

namespace Gl
open PySem PySem.Spec PyProof.Rows L2

section
variable {prog : Program} {w : World} {A : Around} {E : Value → Shared → Prop} {s : Shared} {K : PySem.W.Frag} {x C L f : Addr} {h₀ : Heap} {m : Str → Option Value} {ox : Obj} {od : Option Obj} {b tb : Value}
/-- x != b by the class's own ==, where no __ne__ is told -/
theorem try_neO {Q : Option Value → Shared → Prop} (hu : A.units + 1 < cLine) (X : K.In s.heap) (I : PySem.W.InstAt s.heap x ox C od)
    (hn : PySem.W.findIn K (.ref C) "__ne__" = some (some (.builtin "object.__ne__"))) (ho : PySem.W.subIn K (.ref C) (.type "object") = some true)
    (hs : PySem.W.findIn K (.ref C) "__eq__" = some (some (.ref f))) (hf : PySem.W.isFn K (.ref f) = true)
    (h : wpAny (model prog w) A.in1 (call (.ref f) [.ref x, b]) (fun v s' => ∃ r, v = .bool r ∧ Q (some (.bool (!r))) s') E s) :
    wpAny (model prog w) A (tryCompare (.ref x) "__ne__" b) Q E s := by
  unfold tryCompare
  have hc : wpAny (model prog w) A (call (.builtin "object.__ne__") [.ref x, b]) (fun v s' => ∃ r, v = .bool r ∧ Q (some v) s') E s := by
    refine wpAny_call (codeAny_call_builtin PySem.F.cmp_object.ne.plain PySem.F.cmpEntry_ne ?_)
    simp only [checkBuiltinCall, PySem.F.cmpKind_ne, PySem.F.cmpSplit_ne]
    refine wpAny_bind (wpAny_bind ?_)
    refine I.type.here ?_
    refine (PySem.W.looks_subIn X ho).here ?_
    have fin : wpAny (model prog w) A.in1 (Builtin.«object.__ne__» ⟨[.ref x, b], []⟩) (GQ.FinOf prog w A (wants (fun v s' => ∃ r, v = .bool r ∧ Q (some v) s') E)) (fun e s' => E e s') s := by
      unfold Builtin.«object.__ne__»
      refine wpAny_bind (wpAny_pure ?_)
      refine wpAny_bind (wpAny_cRoomFor hu ?_)
      refine wpAny_bind (PySem.W.ifBound_K X I hs hf (wpAny_mono h (fun r s' hr => ?_) fun _ _ e => e))
      obtain ⟨r, rfl, hq⟩ := hr
      refine wpAny_bind (wpAny_truthy_bool ?_)
      exact wpAny_pure ⟨_, rfl, hq⟩
    have ha := PySem.F.cmpArgs_ne (.ref x) b
    show wpAny _ _ (match Manifest.signature? "object.__ne__" with | some sig => Bind.checkArgs "object.__ne__" sig ⟨[.ref x, b], []⟩ | _ => pure ()) _ _ _
    cases hsig : Manifest.signature? "object.__ne__" with
    | none => exact wpAny_pure fin
    | some sig =>
      simp only [argsOk, hsig] at ha
      have h2 : Bind.checkArgs "object.__ne__" sig ⟨[.ref x, b], []⟩ = pure () := ha
      show wpAny _ _ (Bind.checkArgs "object.__ne__" sig ⟨[.ref x, b], []⟩) _ _ _
      rw [h2]
      exact wpAny_pure fin
  simp only [callSpecialIfBound?, bindSpecialIfBound?]
  refine wpAny_bind (wpAny_holding (wpAny_bind (wpAny_bind (wpAny_bind (I.type.here ((PySem.W.looks_findIn X hn).here ?_))))))
  simp only [PySem.F.cmp_object.ne.bind]
  refine wpAny_bind (wpAny_askSetting (wpAny_ite ?_))
  have fin : wpAny (model prog w) A (call (.builtin "object.__ne__") ([.ref x] ++ [b]) >>= fun v => pure (some v)) (fun v s' => ∃ r, v = some (.bool r) ∧ Q v s') E s :=
    wpAny_bind (wpAny_mono hc (fun v s' ⟨r, e, q⟩ => wpAny_pure ⟨r, e ▸ rfl, q⟩) fun _ _ h' => h')
  split
  · refine wpAny_bind (wpAny_pure (wpAny_pure (wpAny_mono fin (fun v s' q => ?_) fun _ _ e => e)))
    obtain ⟨r, rfl, q⟩ := q
    exact wpAny_pure q
  · refine wpAny_tryCatch (wpAny_bind (wpAny_pure (wpAny_pure (wpAny_mono fin (fun v s' q => ?_) fun _ _ e => e))))
    obtain ⟨r, rfl, q⟩ := q
    exact wpAny_pure q
theorem ne_KO {Q : Value → Shared → Prop} (hu : A.units + 1 < cLine) (F : Fr h₀ L s.heap m) (X₀ : K.In h₀) (I : PySem.W.InstAt s.heap x ox C od) (hb : PySem.W.Looks (model prog w) s.heap (typeOf b) tb) (hnf : PySem.W.notFirst K C tb = true)
    (hn : PySem.W.findIn K (.ref C) "__ne__" = some (some (.builtin "object.__ne__"))) (ho : PySem.W.subIn K (.ref C) (.type "object") = some true)
    (hs : PySem.W.findIn K (.ref C) "__eq__" = some (some (.ref f))) (hf : PySem.W.isFn K (.ref f) = true)
    (h : wpAny (model prog w) A.in1 (call (.ref f) [.ref x, b]) (fun v s' => ∃ r, v = .bool r ∧ Q (.bool (!r)) s') E s) : wpAny (model prog w) A (richCompare .NotEq (.ref x) b) Q E s := by
  have X := X₀.keeps F.keep
  have one : wpAny (model prog w) A (tryCompare (.ref x) (cmpInfo .NotEq).2.1 b) (fun r s' => ∃ v, r = some v ∧ Q v s') E s :=
    try_neO hu X I hn ho hs hf (wpAny_mono h (fun v s' ⟨r, e, q⟩ => ⟨r, e, _, rfl, q⟩) fun _ _ e => e)
  unfold richCompare
  simp only [oneThing_ref]
  refine wpAny_holding (wpAny_bind (wpAny_cRoomFor (Nat.lt_of_succ_lt hu) ?_))
  refine wpAny_bind (I.type.here (wpAny_bind (hb.here ?_)))
  split
  · rename_i q
    have e : PySem.W.subIn K tb (.ref C) = some false := by
      rcases Bool.or_eq_true_iff.mp hnf with e | e
      · rw [beq_iff_eq.mp e] at q; simp at q
      · exact beq_iff_eq.mp e
    refine wpAny_bind ((PySem.W.looks_subIn X e).here ?_)
    simp only [Bool.false_eq_true, if_false]
    refine wpAny_bind (wpAny_mono one (fun r s' z => ?_) fun _ _ e => e)
    obtain ⟨v, rfl, hq⟩ := z
    exact wpAny_pure hq
  · refine wpAny_bind (wpAny_pure ?_)
    simp only [Bool.false_eq_true, if_false]
    refine wpAny_bind (wpAny_mono one (fun r s' z => ?_) fun _ _ e => e)
    obtain ⟨v, rfl, hq⟩ := z
    exact wpAny_pure hq
end

/-- the class at C has the def f under the name nm -/
structure OwnAt (K : PySem.W.Frag) (C f : Addr) (nm : Str) : Prop where
  find : PySem.W.findIn K (.ref C) nm = some (some (.ref f))
  fn : PySem.W.isFn K (.ref f) = true

section
variable {X : Cx} {A : Around} {pins : List (Addr × Obj)} {σ : L2.St} {H : Hp} {s : Shared} {CX : CXT} {C f : Addr} {n : Nat} {fd : FuncData} {ps : List Str} {sp : Sp} {E : XK}
/-- a def of the text, called from within an operation -/
theorem call_fnO (F : FnOk X.prog X.w X.K X.mg X.base CX n f fd ps sp) (hb : Binds X.K fd ps []) (hx : Passes CX X E) (sb : Sub X n A) (I : Inv X pins σ H s) {vs : List V} {us : List Value} {Q : VK} (r : Vals vs us)
    (hq : sp vs H Q E) : wpAny (model X.prog X.w) A (call (.ref f) us) (EP X pins σ Q) X.xe s := by
  have e0 : Env0 X.prog X.w X.K X.mg X.base A X.stack s H := by
    have e := I.env0
    exact ⟨by rw [sb.fr]; exact e.frames, e.mod, e.bs, e.bsz, e.funs, e.frf, e.hok, e.bare⟩
  have hl := F.len _ _ _ _ hq
  refine wpAny_call (codeAny_mono (F.run A X.stack s H ⟨us, []⟩ us vs _ E sb.room e0 (by
    have := hb s us I.kIn (by rw [List.append_nil, ← r.length]; exact hl)
    simpa using this) r hq) fun r s' hq => ?_)
  cases r with
  | error e => exact hx pins σ H s e s' I hq
  | ok fl =>
    cases fl with
    | ret w => exact I.after hq
    | next => exact False.elim hq
    | brk => exact False.elim hq
    | cont => exact False.elim hq

/-- x in c, c an instance with a __contains__ of its own -/
def rInO (C : Addr) (sp : Sp) (E : XK) (neg : Bool) : R2 := fun x y H Q => ∃ a d fs, y = .ref a ∧ H a = some (.ins C d fs) ∧ sp [.ref a, x] H (fun r H' => ∃ b, r = .bl b ∧ Q (.bl (xor neg b)) H') E
theorem op_inO (F : FnOk X.prog X.w X.K X.mg X.base CX n f fd ps sp) (c : OwnAt X.K C f "__contains__") (hb : Binds X.K fd ps []) (hx : Passes CX X E) (hr : Room n X.A) : OpR X (compareOp .In) (rInO C sp E false) := by
  intro pins s σ H x y v u Q I rx ry hq
  obtain ⟨a, d, fs, rfl, ha, q⟩ := hq
  obtain rfl : u = Value.ref a := ry
  obtain ⟨mA, J, _⟩ := ins_get I.hok ha
  obtain ⟨od, J, _⟩ := J.look
  obtain ⟨m, hF⟩ := I.fr
  refine PySem.W.in_K hF I.ok.mod.kin J c.find c.fn (wpAny_mono (call_fnO F hb hx ⟨hr, rfl⟩ I (vs := [.ref a, x]) (.cons rfl (.cons rx .nil)) q) (fun r s' z => ?_) fun _ _ e => e)
  obtain ⟨v', H', I', rv, b, rfl, q'⟩ := z
  obtain rfl : r = Value.bool b := rv
  refine wpAny_truthy_bool ⟨.bl b, H', I', rfl, ?_⟩
  simpa using q'
theorem op_notinO (F : FnOk X.prog X.w X.K X.mg X.base CX n f fd ps sp) (c : OwnAt X.K C f "__contains__") (hb : Binds X.K fd ps []) (hx : Passes CX X E) (hr : Room n X.A) : OpR X (compareOp .NotIn) (rInO C sp E true) := by
  intro pins s σ H x y v u Q I rx ry hq
  obtain ⟨a, d, fs, rfl, ha, q⟩ := hq
  obtain rfl : u = Value.ref a := ry
  obtain ⟨mA, J, _⟩ := ins_get I.hok ha
  obtain ⟨od, J, _⟩ := J.look
  obtain ⟨m, hF⟩ := I.fr
  refine PySem.W.notIn_K hF I.ok.mod.kin J c.find c.fn (wpAny_mono (call_fnO F hb hx ⟨hr, rfl⟩ I (vs := [.ref a, x]) (.cons rfl (.cons rx .nil)) q) (fun r s' z => ?_) fun _ _ e => e)
  obtain ⟨v', H', I', rv, b, rfl, q'⟩ := z
  obtain rfl : r = Value.bool b := rv
  refine wpAny_truthy_bool ⟨.bl (!b), H', I', rfl, ?_⟩
  simpa using q'

/-- y is of the type tb, as the heap stands -/
def TyO (X : Cx) (y : V) (tb : Value) (H : Hp) : Prop := ∀ (pins : List (Addr × Obj)) (s : Shared) (σ : L2.St) (u : Value), Inv X pins σ H s → RelV y u → PySem.W.Looks (model X.prog X.w) s.heap (typeOf u) tb
theorem TyO.non : TyO X .non (.type "NoneType") H := fun pins s σ u I r => by obtain rfl : u = Value.none := r; exact .now
theorem TyO.bl {b : Bool} : TyO X (.bl b) (.type "bool") H := fun pins s σ u I r => by obtain rfl : u = Value.bool b := r; exact .now
theorem TyO.int {i : Int} : TyO X (.int i) (.type "int") H := fun pins s σ u I r => by obtain ⟨t, rfl⟩ := r; exact .now
theorem TyO.str {x : Str} : TyO X (.str x) (.type "str") H := fun pins s σ u I r => by obtain ⟨t, rfl⟩ := r; exact .now
theorem TyO.tup {a : Addr} {xs : List V} (h : SqT X.K H a xs) : TyO X (.ref a) (.type "tuple") H := fun pins s σ u I r => by
  obtain rfl : u = Value.ref a := r
  obtain ⟨its, _, ⟨o, ho, hc, _⟩, _⟩ := I.tuple h
  exact hc ▸ (PySem.W.Looks.ld ho).andThen .now
theorem TyO.ins {a d C : Addr} {fs : List (Str × V)} (h : H a = some (.ins C d fs)) : TyO X (.ref a) (.ref C) H := fun pins s σ u I r => by
  obtain rfl : u = Value.ref a := r
  obtain ⟨mA, J, _⟩ := ins_get I.hok h
  obtain ⟨od, J, _⟩ := J.look
  exact J.type

/-- x == y, x an instance with an == of its own that tells a boolean -/
def rEqO (X : Cx) (C : Addr) (sp : Sp) (E : XK) (neg : Bool) : R2 := fun x y H Q => ∃ a d fs tb, x = .ref a ∧ H a = some (.ins C d fs) ∧ TyO X y tb H ∧ PySem.W.notFirst X.K C tb = true ∧
  sp [.ref a, y] H (fun r H' => ∃ b, r = .bl b ∧ Q (.bl (xor neg b)) H') E
theorem op_eqO (F : FnOk X.prog X.w X.K X.mg X.base CX n f fd ps sp) (c : OwnAt X.K C f "__eq__") (hb : Binds X.K fd ps []) (hx : Passes CX X E) (hr : Room n X.A) : OpR X (compareOp .Eq) (rEqO X C sp E false) := by
  intro pins s σ H x y v u Q I rx ry hq
  obtain ⟨a, d, fs, tb, rfl, ha, ht, hn, q⟩ := hq
  obtain rfl : v = Value.ref a := rx
  obtain ⟨mA, J, _⟩ := ins_get I.hok ha
  obtain ⟨od, J, _⟩ := J.look
  obtain ⟨m, hF⟩ := I.fr
  show wpAny (model X.prog X.w) X.A (richCompare .Eq (.ref a) u) _ _ _
  refine PySem.W.cmp_K (op := .Eq) (tb := tb) hr.units0 hF I.ok.mod.kin J (ht pins s σ u I ry) hn c.find c.fn (wpAny_mono (call_fnO F hb hx ⟨hr, rfl⟩ I (vs := [.ref a, y]) (.cons rfl (.cons ry .nil)) q) (fun r s' z => ?_) fun _ _ e => e)
  obtain ⟨v', H', I', rv, b, rfl, q'⟩ := z
  obtain rfl : r = Value.bool b := rv
  refine ⟨.bl b, H', I', rfl, ?_⟩
  simpa using q'
/-- x != y by the same -/
theorem op_neO (F : FnOk X.prog X.w X.K X.mg X.base CX n f fd ps sp) (c : OwnAt X.K C f "__eq__") (hne : PySem.W.findIn X.K (.ref C) "__ne__" = some (some (.builtin "object.__ne__"))) (ho : PySem.W.subIn X.K (.ref C) (.type "object") = some true)
    (hb : Binds X.K fd ps []) (hx : Passes CX X E) (hr : Room (n + 1) X.A) : OpR X (compareOp .NotEq) (rEqO X C sp E true) := by
  intro pins s σ H x y v u Q I rx ry hq
  obtain ⟨a, d, fs, tb, rfl, ha, ht, hn, q⟩ := hq
  obtain rfl : v = Value.ref a := rx
  obtain ⟨mA, J, _⟩ := ins_get I.hok ha
  obtain ⟨od, J, _⟩ := J.look
  obtain ⟨m, hF⟩ := I.fr
  have sb : Sub X (n + 1) X.A := ⟨hr, rfl⟩
  show wpAny (model X.prog X.w) X.A (richCompare .NotEq (.ref a) u) _ _ _
  refine ne_KO (tb := tb) hr.in1.units0 hF I.ok.mod.kin J (ht pins s σ u I ry) hn hne ho c.find c.fn (wpAny_mono (call_fnO F hb hx sb.in1 I (vs := [.ref a, y]) (.cons rfl (.cons ry .nil)) q) (fun r s' z => ?_) fun _ _ e => e)
  obtain ⟨v', H', I', rv, b, rfl, q'⟩ := z
  obtain rfl : r = Value.bool b := rv
  refine ⟨b, rfl, .bl (!b), H', I', rfl, ?_⟩
  simpa using q'

/-- len(c), c an instance with a __len__ of its own -/
def rLenO (C : Addr) (sp : Sp) (E : XK) : List V → Hp → VK → Prop := fun xs H Q => ∃ a d fs, xs = [.ref a] ∧ H a = some (.ins C d fs) ∧ sp [.ref a] H (fun r H' => ∃ i : Int, r = .int i ∧ 0 ≤ i ∧ i < 2 ^ 63 ∧ Q (.int i) H') E
theorem cr_lenO (F : FnOk X.prog X.w X.K X.mg X.base CX n f fd ps sp) (c : OwnAt X.K C f "__len__") (hb : Binds X.K fd ps []) (hx : Passes CX X E) (hr : Room (n + 1) X.A) : CallR X (.builtin "len") (rLenO C sp E) := by
  intro pins s σ H xs us Q I rs hq
  obtain ⟨a, d, fs, rfl, ha, q⟩ := hq
  cases rs with
  | cons r0 rs =>
    cases rs
    rename_i u
    obtain rfl : u = Value.ref a := r0
    obtain ⟨mA, J, _⟩ := ins_get I.hok ha
    obtain ⟨od, J, _⟩ := J.look
    obtain ⟨m, hF⟩ := I.fr
    have sb : Sub X (n + 1) X.A := ⟨hr, rfl⟩
    refine PySem.W.len_K hF I.ok.mod.kin J c.find c.fn (wpAny_mono (call_fnO F hb hx sb.in1 I (vs := [.ref a]) (.cons rfl .nil) q) (fun r s' z => ?_) fun _ _ e => e)
    obtain ⟨v', H', I', rv, i, rfl, h0, h1, q'⟩ := z
    obtain ⟨t, rfl⟩ := rv
    exact ⟨⟨h0, h1⟩, .int i, H', I'.tok _, ⟨_, rfl⟩, q'⟩

/-- str(c), c an instance with a __str__ of its own -/
def rStrO (C : Addr) (sp : Sp) (E : XK) : List V → Hp → VK → Prop := fun xs H Q => ∃ a d fs, xs = [.ref a] ∧ H a = some (.ins C d fs) ∧ sp [.ref a] H (fun r H' => ∃ z : Str, r = .str z ∧ Q (.str z) H') E
theorem cr_strO (F : FnOk X.prog X.w X.K X.mg X.base CX n f fd ps sp) (c : OwnAt X.K C f "__str__") (hb : Binds X.K fd ps []) (hx : Passes CX X E) (hr : Room (n + 2) X.A) : CallR X (.type "str") (rStrO C sp E) := by
  intro pins s σ H xs us Q I rs hq
  obtain ⟨a, d, fs, rfl, ha, q⟩ := hq
  cases rs with
  | cons r0 rs =>
    cases rs
    rename_i u
    obtain rfl : u = Value.ref a := r0
    obtain ⟨mA, J, _⟩ := ins_get I.hok ha
    obtain ⟨od, J, _⟩ := J.look
    obtain ⟨m, hF⟩ := I.fr
    have sb : Sub X (n + 2) X.A := ⟨hr, rfl⟩
    refine PySem.W.kso_call (A := X.A) hr.in1.in1.units0 (I.ok.mod.kin.keeps hF.keep) J c.find c.fn (wpAny_mono (call_fnO F hb hx (sb.in1 (n := n + 1)).in1 I (vs := [.ref a]) (.cons rfl .nil) q) (fun r s' z => ?_) fun _ _ e => e)
    obtain ⟨v', H', I', rv, y, rfl, q'⟩ := z
    obtain ⟨t, rfl⟩ := rv
    exact ⟨.str y, H', I', ⟨_, rfl⟩, q'⟩

/-- c[i], c an instance with a __getitem__ of its own -/
def rIxO (C : Addr) (sp : Sp) (E : XK) : R2 := fun x y H Q => ∃ a d fs, x = .ref a ∧ H a = some (.ins C d fs) ∧ sp [.ref a, y] H Q E
theorem pe_ixO {a b : Expr} {ta tb : TE} {pos : Pos} (ha : PE X a ta) (hb' : PE X b tb) (F : FnOk X.prog X.w X.K X.mg X.base CX n f fd ps sp) (c : OwnAt X.K C f "__getitem__") (hf : PySem.W.fnIn X.K f = true) (hb : Binds X.K fd ps []) (hx : Passes CX X E) (hr : Room (n + 1) X.A)
    (hs : ∀ o i, subscripted b true o i = runValue (.builtin "lifetime.subscript" ⟨[o, i], []⟩) := by intros; rfl) : PE X (.Subscript a b pos) (tOp (rIxO C sp E) ta tb) := by
  refine ⟨fun pins s σ H Q I h => ?_⟩
  refine Subscript_ (binT ha hb' I h fun v u s2 x y H2 I2 rx ry q => ?_)
  obtain ⟨a', d, fs, rfl, ha', q⟩ := q
  obtain rfl : v = Value.ref a' := rx
  obtain ⟨mA, J, _⟩ := ins_get I2.hok ha'
  obtain ⟨od, J, _⟩ := J.look
  obtain ⟨m, hF⟩ := I2.fr
  have sb : Sub X (n + 1) X.A := ⟨hr, rfl⟩
  exact PySem.W.sub_K hF I2.ok.mod.kin J c.find hf c.fn (call_fnO F hb hx sb.in1 I2 (vs := [.ref a', y]) (.cons rfl (.cons ry .nil)) q) (hs _ _)

/-- x op y, both instances of the class, whose own def tells an object -/
def rBinO (C : Addr) (sp : Sp) (E : XK) : R2 := fun x y H Q => ∃ a b d e fs gs, x = .ref a ∧ y = .ref b ∧ H a = some (.ins C d fs) ∧ H b = some (.ins C e gs) ∧ sp [.ref a, .ref b] H (fun r H' => ∃ z, r = .ref z ∧ Q (.ref z) H') E
theorem op_binO {op : Operator} (F : FnOk X.prog X.w X.K X.mg X.base CX n f fd ps sp) (c : OwnAt X.K C f (PySem.dunder op.info.2)) (hc : PySem.W.selfFirst X.K C = true) (hb : Binds X.K fd ps []) (hx : Passes CX X E) (hr : Room n X.A) : OpR X (binaryOp op) (rBinO C sp E) := by
  intro pins s σ H x y v u Q I rx ry hq
  obtain ⟨a, b, d, e, fs, gs, rfl, rfl, ha, hb', q⟩ := hq
  obtain rfl : v = Value.ref a := rx
  obtain rfl : u = Value.ref b := ry
  obtain ⟨mA, J, _⟩ := ins_get I.hok ha
  obtain ⟨od, J, _⟩ := J.look
  obtain ⟨mB, J', _⟩ := ins_get I.hok hb'
  obtain ⟨od', J', _⟩ := J'.look
  obtain ⟨m, hF⟩ := I.fr
  refine PySem.W.binop_K hF I.ok.mod.kin J J'.type hc c.find c.fn (wpAny_mono (call_fnO F hb hx ⟨hr, rfl⟩ I (vs := [.ref a, .ref b]) (.cons rfl (.cons rfl .nil)) q) (fun r s' z => ?_) fun _ _ e => e)
  obtain ⟨v', H', I', rv, z, rfl, q'⟩ := z
  obtain rfl : r = Value.ref z := rv
  exact ⟨.ref z, H', I', rfl, q'⟩
end
end Gl

namespace Gl
open PySem PySem.Spec PyProof.Rows L2
abbrev sIsWgt : Stmt := clsS 8
abbrev sIsAmt : Stmt := clsS 9
theorem scIsWgt : FnScope ["self", "value", "one"] ["self", "value"] (defScope sIsWgt) := ⟨rfl, rfl, rfl, by decide +kernel, rfl, by decide +kernel, by decide +kernel⟩
theorem scIsAmt : FnScope ["self", "value"] ["self", "value"] (defScope sIsAmt) := ⟨rfl, rfl, rfl, by decide +kernel, rfl, by decide +kernel, by decide +kernel⟩
/-- a property that the class has -/
structure Dp1 (P : Program) (w : World) (K : PySem.W.Frag) (mg : Str → Option Value) (base : Heap) (C : Addr) (k : Nat) (m : Str) (sp : Sp) where
  p : Addr
  f : Addr
  fd : FuncData
  G : FnOk P w K mg base CX0 k f fd ["self"] sp
  at_ : PropOf K C m p f
  b : Binds K fd ["self"] []
theorem SclAt.no {H : Hp} {a C : Addr} {m : Ms} (sa : SclAt H a C m) {x : Str} (h1 : x ≠ ("_word" : Str)) (h2 : x ≠ ("_size" : Str)) : ∃ dx fs, H a = some (.ins C dx fs) ∧ fs.lookup x = none :=
  let ⟨dx, fs, h, _, _, hn⟩ := sa; ⟨dx, fs, h, hn x h1 h2⟩
/-- the answers -/
def amtB : Ms → PyData → Bool
  | .sums, d => wholeB d
  | .odds, d => lowB d
  | .classes k, d => wholesB d k
def topOf : PyData → Int × Int
  | .tuple [.int a, .int b] => (a, b)
  | _ => (0, 0)
def posB : PyData → Bool
  | .int i => decide (0 < i)
  | _ => false
def zeroOf (n : Nat) : List PyData := List.replicate n (.int 0)
def partsB (n : Nat) : PyData → Bool
  | .tuple ds => ds.all partB && !PyData.eqvAll ds (zeroOf n)
  | _ => false
def wgtB : Ms → PyData → Bool
  | .sums, d => partB d && posB d
  | .odds, d => lowB d && oddsB (topOf d).1 (topOf d).2
  | .classes k, d => wholesB d k && partsB k d
section
variable {P : Program} {w : World} {K : PySem.W.Frag} {mg : Str → Option Value} {base : Heap} {C : Addr}
def spIsAmt (K : PySem.W.Frag) (C : Addr) : Sp := fun vs H Q _ => ∃ (a : Addr) (m : Ms) (v : V) (d : PyData), vs = [.ref a, v] ∧ SclAt H a C m ∧ m.ok ∧ Od K H v d ∧ Short d ∧ ∀ H', Ex H H' → Q (.bl (amtB m d)) H'
theorem ok_isAmt {f : Addr} {fd : FuncData} (F : Fun K "is_amount" "Scale.is_amount" sIsAmt f fd) (Z : ClsK K C) (Wh : Df P w K mg base 1 "is_whole" ["value"] (spWhole K)) (Ws : Df P w K mg base 2 "are_whole" ["value", "many"] (spWholes K)) (Lw : Df P w K mg base 3 "_is_lowest" ["value"] (spLowest K)) : FnOk P w K mg base CX0 4 f fd ["self", "value"] (spIsAmt K C) := by
  refine F.ok scIsAmt (fun vs H Q E h => ?_) (fun cdv A outer s H vs Q E hr h => ?_)
  · obtain ⟨a, m, v, d, rfl, _⟩ := h
    rfl
  · obtain ⟨a, m, v, d, rfl, ⟨dx, fs, ha, hw, hs, hn⟩, mok, hd, sh, q⟩ := h
    refine ⟨_, pss_cons (ps_if (pt_cmpR op_eq (pe_fld (pv 0) (by rfl)) pe_str (nomark _)) (pss_one (ps_ret (pe_call Wh.G (hr.mono (by decide)) (by rfl) Wh.g Wh.kp Wh.b .nil pass0 (pa_cons (pv 1) pa_nil)))) pss_nil)
      (pss_cons (ps_if (pt_cmpR op_eq (pe_fld (pv 0) (by rfl)) pe_str (nomark _)) (pss_one (ps_ret (pe_call Lw.G hr (by rfl) Lw.g Lw.kp Lw.b .nil pass0 (pa_cons (pv 1) pa_nil)))) pss_nil)
      (pss_one (ps_ret (pe_call Ws.G (hr.mono (by decide)) (by rfl) Ws.g Ws.kp Ws.b .nil pass0 (pa_cons (pv 1) (pa_cons (pe_fld (pv 0) (by rfl)) pa_nil)))))), ?_⟩
    refine ⟨_, rfl, a, C, dx, fs, _, rfl, ha, Z.cls, Z.nw, hw, rfl, _, rfl, ?_⟩
    rw [word_sums]
    cases m with
    | sums => exact ⟨_, rfl, _, d, rfl, hd, q H (Ex.refl H)⟩
    | classes k =>
      refine ⟨_, rfl, a, C, dx, fs, _, rfl, ha, Z.cls, Z.nw, hw, rfl, _, rfl, ?_⟩
      rw [word_odds]
      exact ⟨_, rfl, _, rfl, a, C, dx, fs, _, rfl, ha, Z.cls, Z.ns, hs, _, d, _, rfl, hd, sh, fun H1 e1 => q H1 e1⟩
    | odds =>
      refine ⟨_, rfl, a, C, dx, fs, _, rfl, ha, Z.cls, Z.nw, hw, rfl, _, rfl, ?_⟩
      rw [word_odds]
      exact ⟨_, rfl, _, d, rfl, hd, sh, fun H1 e1 => q H1 e1⟩
theorem low_two {d : PyData} (h : lowB d = true) : ∃ a b, d = .tuple [.int a, .int b] := by
  unfold lowB at h
  split at h
  · exact ⟨_, _, rfl⟩
  · cases h
theorem part_int {d : PyData} (h : partB d = true) : ∃ i, d = .int i := by
  cases d <;> first | cases h; done | skip
  exact ⟨_, rfl⟩
theorem whole_ints : ∀ {ds : List PyData}, ds.all wholeB = true → ∃ ns : List Int, ds = ns.map PyData.int
  | [], _ => ⟨[], rfl⟩
  | d :: ds, h => by
    rw [List.all_cons, Bool.and_eq_true] at h
    obtain ⟨ns, e⟩ := whole_ints h.2
    have h1 := h.1
    cases d <;> first | cases h1; done | skip
    exact ⟨_ :: ns, by rw [e]; rfl⟩
theorem dxs_ints {H : Hp} : ∀ {ns : List Int} {xs : List V}, DxAll K H xs (ns.map PyData.int) → xs = ns.map V.int
  | [], _, .nil => rfl
  | n :: ns, _, .cons h t => by
    cases h
    rw [dxs_ints t]
    rfl
theorem zero_data (k : Nat) : (List.replicate k (0 : Int)).map PyData.int = zeroOf k := by
  unfold zeroOf
  rw [List.map_replicate]
def spIsWgt (K : PySem.W.Frag) (C : Addr) : Sp := fun vs H Q _ => ∃ (a : Addr) (m : Ms) (v : V) (d : PyData), vs = [.ref a, v] ∧ SclAt H a C m ∧ m.ok ∧ Od K H v d ∧ Short d ∧ ∀ H', Ex H H' → Q (.bl (wgtB m d)) H'
theorem ok_isWgt {f : Addr} {fd : FuncData} (F : Fun K "is_weight" "Scale.is_weight" sIsWgt f fd) (Z : ClsK K C) (T : Blt mg) (Pa : Df P w K mg base 2 "_is_part" ["value"] (spPart K)) (Ao : Df P w K mg base 1 "_are_odds" ["right", "wrong"] spAreOdds) (Ws : Df P w K mg base 2 "are_whole" ["value", "many"] (spWholes K)) (Lw : Df P w K mg base 3 "_is_lowest" ["value"] (spLowest K)) (Ze : Dp1 P w K mg base C 1 "zero" (spZero C)) : FnOk P w K mg base CX0 4 f fd ["self", "value"] (spIsWgt K C) := by
  refine F.ok scIsWgt (fun vs H Q E h => ?_) (fun cdv A outer s H vs Q E hr h => ?_)
  · obtain ⟨a, m, v, d, rfl, _⟩ := h
    rfl
  · obtain ⟨a, m, v, d, rfl, sa, mok, hd, sh, q⟩ := h
    have nd := scIsWgt.nd
    have r1 := hr.mono (show 1 ≤ 3 by decide)
    have r2 := hr.mono (show 2 ≤ 3 by decide)
    have hu : (A.deeper (envOfC "Scale.is_weight" (defScope sIsWgt) s.heap.objs.size f cdv)).units + 64 < cLine := by have := hr.un; omega
    refine ⟨_, pss_cons (ps_if (pt_cmpR op_eq (pe_fld (pv 0) (by rfl)) pe_str (nomark _)) (pss_one (ps_ret (pe_and (pe_call Pa.G r2 (by rfl) Pa.g Pa.kp Pa.b .nil pass0 (pa_cons (pv 1) pa_nil)) (pe_one (pe_cmpR op_gt (pv 1) pe_int (nomark _)))))) pss_nil)
      (pss_cons (ps_if (pt_cmpR op_eq (pe_fld (pv 0) (by rfl)) pe_str (nomark _)) (pss_one (ps_ret (pe_and (pe_call Lw.G hr (by rfl) Lw.g Lw.kp Lw.b .nil pass0 (pa_cons (pv 1) pa_nil)) (pe_one (pe_call Ao.G r1 (by rfl) Ao.g Ao.kp Ao.b .nil pass0 (pa_cons (pe_ix ix_tup (pv 1) pe_int (fun _ _ => rfl)) (pa_cons (pe_ix ix_tup (pv 1) pe_int (fun _ _ => rfl)) pa_nil))))))) pss_nil)
      (pss_one (ps_ret (pe_and (pe_call Ws.G r2 (by rfl) Ws.g Ws.kp Ws.b .nil pass0 (pa_cons (pv 1) (pa_cons (pe_fld (pv 0) (by rfl)) pa_nil)))
        (pe_and (pe_callB (cr_all rfl) (by rfl) T.all (by decide +kernel) (pa_cons (pe_lc (own := [("one", 2)]) (g := gName 2) (tt := tYes) rfl nd (pi_tup (pv 1)) (blkOk_by (N := ["self", "value", "one"]) (sc := defScope sIsWgt) (by decide +kernel)) (fun _ _ _ _ _ => pg_name (i := 2) nd rfl (.inl rfl)) (fun _ _ _ _ _ => pts_nil)
          (fun _ _ _ _ _ => pe_call Pa.G r2 (by rfl) Pa.g Pa.kp Pa.b .nil pass0 (pa_cons (pv 2) pa_nil))) pa_nil))
        (pe_one (pe_cmpR (op_neD hu) (pv 1) (pe_prop (pv 0) Z.cls Ze.at_ Ze.G r2 Ze.b .nil pass0 rfl) (nomark _)))))))), ?_⟩
    obtain ⟨dx, fs, ha, hw, hs, hn⟩ := id sa
    refine ⟨_, rfl, a, C, dx, fs, _, rfl, ha, Z.cls, Z.nw, hw, rfl, _, rfl, ?_⟩
    rw [word_sums]
    cases m with
    | sums =>
      refine ⟨_, rfl, _, d, rfl, hd, _, rfl, ?_⟩
      have q : Q (.bl (partB d && posB d)) H := q H (Ex.refl H)
      cases hp : partB d with
      | false => rw [hp] at q; exact q
      | true =>
        rw [hp, Bool.true_and] at q
        obtain ⟨i, rfl⟩ := part_int hp
        rcases hd with hd | _
        cases hd
        exact ⟨_, rfl, _, _, rfl, rfl, q⟩
    | odds =>
      refine ⟨_, rfl, a, C, dx, fs, _, rfl, ha, Z.cls, Z.nw, hw, rfl, _, rfl, ?_⟩
      rw [word_odds]
      refine ⟨_, rfl, _, d, rfl, hd, sh, fun H1 e1 => ⟨_, rfl, ?_⟩⟩
      have q : Q (.bl (lowB d && oddsB (topOf d).1 (topOf d).2)) H1 := q H1 e1
      cases hp : lowB d with
      | false => rw [hp] at q; exact q
      | true =>
        rw [hp, Bool.true_and] at q
        obtain ⟨x, y, rfl⟩ := low_two hp
        rcases hd with hd | _
        cases hd with
        | @tup p xs _ hp ha =>
          cases ha with
          | cons h1 ha =>
          cases ha with
          | cons h2 ha =>
          cases ha
          cases h1
          cases h2
          have hp1 : SqT K H1 p [.int x, .int y] := .inl (e1.rd hp)
          exact ⟨_, rfl, p, _, 0, _, rfl, rfl, hp1, rfl, _, rfl, p, _, 1, _, rfl, rfl, hp1, rfl, x, y, rfl, q⟩
    | classes k =>
      refine ⟨_, rfl, a, C, dx, fs, _, rfl, ha, Z.cls, Z.nw, hw, rfl, _, rfl, ?_⟩
      rw [word_odds]
      refine ⟨_, rfl, _, rfl, a, C, dx, fs, _, rfl, ha, Z.cls, Z.ns, hs, _, d, _, rfl, hd, sh, fun H1 e1 => ⟨_, rfl, ?_⟩⟩
      have q : ∀ H', Ex H H' → Q (.bl (wholesB d (k : Nat) && partsB k d)) H' := q
      show if wholesB d ((k : Nat) : Int) = true then _ else _
      cases hp : wholesB d (k : Nat) with
      | false =>
        have q := q H1 e1
        rw [hp] at q
        exact iteF q
      | true =>
        rw [hp] at q
        refine iteT ?_
        cases d with
        | tuple ds =>
          simp only [wholesB, Bool.and_eq_true, decide_eq_true_eq] at hp
          obtain ⟨ns, rfl⟩ := whole_ints hp.2
          have ln : ns.length = k := by have := hp.1; rw [List.length_map] at this; omega
          have q : ∀ H', Ex H H' → Q (.bl ((ns.map PyData.int).all partB && !PyData.eqvAll (ns.map PyData.int) (zeroOf k))) H' := q
          rcases hd with hd | _
          cases hd with
          | @tup p xs _ hp ha' =>
            obtain rfl := dxs_ints ha'
            have k4 := mok.2
            refine ⟨_, rfl, p, rfl, ⟨_, .inl (e1.rd hp)⟩, fun D nD => lc_tup (xs := ns.map V.int) (fun i H' => Ex H1 H' ∧ H' D = some (.lst ((((ns.map PyData.int).take i).map partB).map V.bl)))
              ⟨Ex.new nD, upd_same⟩ (fun i H' _ h => .inl (h.1.rd (e1.rd hp))) (fun i x H' hx h => ?_) (fun H' h => ?_)⟩
            · obtain ⟨ex, eD⟩ := h
              have hx' := hx
              rw [List.getElem?_map] at hx'
              obtain ⟨n, hn, rfl⟩ := Option.map_eq_some_iff.mp hx'
              have hd1 : (ns.map PyData.int)[i]? = some (.int n) := by rw [List.getElem?_map, hn]; rfl
              refine ⟨rfl, _, rfl, _, .int n, rfl, .dx (.int n), _, eD, ?_, ex.mut nD, ?_⟩
              · rw [List.length_map, List.length_map, List.length_take, List.length_map]
                exact room1000 (by omega)
              · rw [upd_same, take_all hd1, List.map_append]
                rfl
            · obtain ⟨ex, eD⟩ := h
              have ex2 := e1.trans ex
              rw [List.length_map, ← List.length_map (f := PyData.int), List.take_length] at eD
              refine ⟨D, _, rfl, .inl (.inl eD), ?_⟩
              rw [all_id]
              cases hall : (ns.map PyData.int).all partB with
              | false =>
                have := q H' ex2
                rw [hall] at this
                exact ⟨_, rfl, this⟩
              | true =>
                have sa' := ex2.scl sa
                obtain ⟨dx', fs', ha2, n2⟩ := sa'.no (x := "zero") (by decide +kernel) (by decide +kernel)
                refine ⟨_, rfl, _, rfl, _, rfl, a, dx', fs', rfl, ha2, a, .classes k, rfl, sa', mok, fun z H2 e2 hz => ?_⟩
                have e3 := ex2.trans e2
                have vp : AmV H2 (.ref p) (.c ns) := ⟨p, rfl, e3.rd hp⟩
                refine ⟨_, _, dp_am vp, dp_am hz, Am.shaped _, Am.shaped _, ?_⟩
                have := q H2 e3
                rw [hall] at this
                have eq : PyData.eqv (Am.c ns).data (Ms.zero (.classes k)).data = PyData.eqvAll (ns.map PyData.int) (zeroOf k) := by
                  rw [← zero_data]
                  simp only [Am.data, Ms.zero, PyData.eqv]
                rw [eq]
                exact this
        | _ => cases hp
end
end Gl

namespace Gl
open PySem PySem.Spec PyProof.Rows L2
/-- tuple * 0: an empty tuple -/
theorem tuple_mul0 (l : Addr) (items : Array Value) (n : Nat) (dd : Option Addr) (sl : Array (Option Value)) (u : Tok) (hne : items.isEmpty = false) :
    Meets (Builtin.«tuple.__mul__» ⟨[.ref l, .int 0 u], []⟩) (fun _ R s => s.heap.get? l = some { cls := .type "tuple", dict := dd, data := .seq items n, slots := sl } ∧
      R (.ok (.ret (Value.ref s.heap.objs.size))) { s with heap := s.heap.push { cls := Value.type "tuple", data := Data.seq #[] }, toks := s.toks }) :=
  .of_wp fun prog w A R s h => by
    obtain ⟨hp, g, d, tk, os⟩ := s
    obtain ⟨hl, h⟩ := h
    have f1 := AutoSeq1.idx_int
    have c1 : (items.isEmpty || (0 : Int) == 1) = false := by rw [hne]; rfl
    have c2 : (decide ((0 : Int) ≤ 0) || items.isEmpty) = true := rfl
    have c0 : (decide ((0 : Int) < -(2 ^ 63)) || decide ((0 : Int) ≥ 2 ^ 63)) = false := by decide
    wp_walk using wpAny_loadPart' hl
    repeat (first
      | (refine wpAny_ite_false (decide_eq_false (by rw [c1]; exact Bool.false_ne_true)) ?_; wp_walk using wpAny_loadPart' hl))
    exact ⟨_, rfl, h⟩
def rRepT0 (K : PySem.W.Frag) : R2 := fun x y H Q => ∃ l xs, x = .ref l ∧ y = .int 0 ∧ SqT K H l xs ∧ xs ≠ [] ∧ ∀ p, H p = none → Q (.ref p) (upd H p (.tup []))
section
variable {X : Cx}
theorem op_repT0 : OpR X (binaryOp .Mult) (rRepT0 X.K) := by
  intro pins s σ H x y v u Q I rx ry h
  obtain ⟨l, xs, rfl, rfl, hT, hx, q⟩ := h
  cases rx
  obtain ⟨t, rfl⟩ := ry
  obtain ⟨its, r, ⟨⟨cls, dd, data, sl⟩, ho, hc, n, hd⟩, hs⟩ := I.tuple hT
  simp only at hc hd
  subst hc hd
  have hf : H s.heap.objs.size = none := I.hok.fresh (Nat.le_refl _)
  have hne : its.toArray.isEmpty = false := by
    cases r with
    | nil => exact absurd rfl hx
    | cons _ _ => rfl
  refine wpAny_binaryOp_repeat_ref (T := "tuple") (U := "int") (by decide) ⟨_, ho, rfl⟩ (fun s' => typeIs_int s' 0 t) noFill_tuple_mul F.fills_int_mul F.slot_int_rmul repeat_tuple F.slot_int_index.lookup
    (call_meets F.slot_int_rmul (typeIs_int s 0 t) F.entry_int_rmul (F.args_int_rmul_2 _ _) (int_rmul_tuple 0 t l its.toArray n dd sl)
      ⟨ho, rfl, ⟨_, ho, rfl⟩, call_meets F.slot_tuple_mul ⟨_, ho, rfl⟩ F.entry_tuple_mul (F.args_tuple_mul_2 _ _) (tuple_mul0 l its.toArray n dd sl t hne) ⟨ho, ?_⟩⟩)
  refine ⟨.ref s.heap.objs.size, _, I.laid (t' := s.toks) (o := .tup []) (fun b ob q => Heap.get?_push_of_some _ q) (Nat.le_refl _) ?_, rfl, q _ (I.hok.fresh (Nat.le_refl _))⟩
  exact ⟨Nat.zero_le _, _, .nil, IsTup.new _ _⟩
end
end Gl

namespace Gl
open PySem PySem.Spec PyProof.Rows L2
abbrev sWord : Stmt := clsS 4
abbrev sSize : Stmt := clsS 5
abbrev sOne : Stmt := clsS 7
abbrev sHas : Stmt := clsS 10
abbrev sEqM : Stmt := clsS 21
abbrev sStrM : Stmt := clsS 22
theorem scWord : FnScope ["self"] ["self"] (defScope sWord) := ⟨rfl, rfl, rfl, by decide +kernel, rfl, by decide +kernel, by decide +kernel⟩
theorem scSize : FnScope ["self"] ["self"] (defScope sSize) := ⟨rfl, rfl, rfl, by decide +kernel, rfl, by decide +kernel, by decide +kernel⟩
theorem scOne : FnScope ["self"] ["self"] (defScope sOne) := ⟨rfl, rfl, rfl, by decide +kernel, rfl, by decide +kernel, by decide +kernel⟩
theorem scHas : FnScope ["self", "x"] ["self", "x"] (defScope sHas) := ⟨rfl, rfl, rfl, by decide +kernel, rfl, by decide +kernel, by decide +kernel⟩
theorem scEqM : FnScope ["self", "other"] ["self", "other"] (defScope sEqM) := ⟨rfl, rfl, rfl, by decide +kernel, rfl, by decide +kernel, by decide +kernel⟩
theorem scStrM : FnScope ["self"] ["self"] (defScope sStrM) := ⟨rfl, rfl, rfl, by decide +kernel, rfl, by decide +kernel, by decide +kernel⟩
def Ms.one : Ms → Am
  | .sums => .n 1
  | .classes k => .c (1 :: List.replicate (k - 1) 0)
  | .odds => .o ⟨(2, 1), by first | decide | constructor <;> decide⟩
section
variable {P : Program} {w : World} {K : PySem.W.Frag} {mg : Str → Option Value} {base : Heap} {C : Addr}
def spWord (C : Addr) : Sp := fun vs H Q _ => ∃ (a : Addr) (m : Ms), vs = [.ref a] ∧ SclAt H a C m ∧ Q (.str m.word) H
theorem ok_word {f : Addr} {fd : FuncData} (F : Fun K "word" "Scale.word" sWord f fd) (Z : ClsK K C) : FnOk P w K mg base CX0 1 f fd ["self"] (spWord C) := by
  refine F.ok scWord (fun vs H Q E h => ?_) (fun cdv A outer s H vs Q E hr h => ?_)
  · obtain ⟨a, m, rfl, _⟩ := h
    rfl
  · obtain ⟨a, m, rfl, ⟨dx, fs, ha, hw, hs, hn⟩, q⟩ := h
    exact ⟨_, pss_one (ps_ret (pe_fld (pv 0) (by rfl))), _, rfl, a, C, dx, fs, _, rfl, ha, Z.cls, Z.nw, hw, q⟩
def spSize (C : Addr) : Sp := fun vs H Q _ => ∃ (a : Addr) (m : Ms), vs = [.ref a] ∧ SclAt H a C m ∧ Q (.int (m.size : Nat)) H
theorem ok_size {f : Addr} {fd : FuncData} (F : Fun K "size" "Scale.size" sSize f fd) (Z : ClsK K C) : FnOk P w K mg base CX0 1 f fd ["self"] (spSize C) := by
  refine F.ok scSize (fun vs H Q E h => ?_) (fun cdv A outer s H vs Q E hr h => ?_)
  · obtain ⟨a, m, rfl, _⟩ := h
    rfl
  · obtain ⟨a, m, rfl, ⟨dx, fs, ha, hw, hs, hn⟩, q⟩ := h
    exact ⟨_, pss_one (ps_ret (pe_fld (pv 0) (by rfl))), _, rfl, a, C, dx, fs, _, rfl, ha, Z.cls, Z.ns, hs, q⟩
def spOne (C : Addr) : Sp := fun vs H Q _ => ∃ (a : Addr) (m : Ms), vs = [.ref a] ∧ SclAt H a C m ∧ m.ok ∧ ∀ v H', Ex H H' → AmV H' v m.one → Q v H'
theorem ok_one {f : Addr} {fd : FuncData} (F : Fun K "one" "Scale.one" sOne f fd) (Z : ClsK K C) : FnOk P w K mg base CX0 1 f fd ["self"] (spOne C) := by
  refine F.ok scOne (fun vs H Q E h => ?_) (fun cdv A outer s H vs Q E hr h => ?_)
  · obtain ⟨a, m, rfl, _⟩ := h
    rfl
  · obtain ⟨a, m, rfl, ⟨dx, fs, ha, hw, hs, hn⟩, mok, q⟩ := h
    refine ⟨_, pss_cons (ps_if (pt_cmpR op_eq (pe_fld (pv 0) (by rfl)) pe_str (nomark _)) (pss_one (ps_ret pe_int)) pss_nil)
      (pss_cons (ps_if (pt_cmpR op_eq (pe_fld (pv 0) (by rfl)) pe_str (nomark _)) (pss_one (ps_ret (pe_tup (pa_cons pe_int (pa_cons pe_int pa_nil))))) pss_nil)
      (pss_one (ps_ret (pe_op op_catT (pe_tup (pa_cons pe_int pa_nil)) (pe_op (op_repT0.or (op_repT1.or op_repT)) (pe_tup (pa_cons pe_int pa_nil)) (pe_op op_sub (pe_fld (pv 0) (by rfl)) pe_int)))))), ?_⟩
    refine ⟨_, rfl, a, C, dx, fs, _, rfl, ha, Z.cls, Z.nw, hw, rfl, _, rfl, ?_⟩
    rw [word_sums]
    cases m with
    | sums => exact q _ H (Ex.refl H) rfl
    | odds =>
      refine ⟨_, rfl, a, C, dx, fs, _, rfl, ha, Z.cls, Z.nw, hw, rfl, _, rfl, ?_⟩
      rw [word_odds]
      exact ⟨by show 2 ≤ sizeLine; decide, fun t nt => q _ _ (Ex.new nt) ⟨t, rfl, .inl upd_same⟩⟩
    | classes k =>
      refine ⟨_, rfl, a, C, dx, fs, _, rfl, ha, Z.cls, Z.nw, hw, rfl, _, rfl, ?_⟩
      rw [word_odds]
      have k1 := mok.1
      have k4 := mok.2
      refine ⟨by show 1 ≤ sizeLine; decide, fun t nt => ⟨by show 1 ≤ sizeLine; decide, fun u nu => ?_⟩⟩
      have xt := Ex.new (o := .tup [.int 1]) nt
      have xu := Ex.new (o := .tup [.int 0]) nu
      have ht : upd (upd H t (.tup [.int 1])) u (.tup [.int 0]) t = some (.tup [.int 1]) := xu t _ upd_same
      refine ⟨_, rfl, a, C, dx, fs, _, rfl, xu a _ (xt a _ ha), Z.cls, Z.ns, hs, _, _, rfl, rfl, ?_⟩
      have hu : upd (upd H t (.tup [.int 1])) u (.tup [.int 0]) u = some (.tup [.int 0]) := upd_same
      have k' : k = 1 ∨ k = 2 ∨ k = 3 ∨ k = 4 := by omega
      rcases k' with rfl | rfl | rfl | rfl
      · refine .inl ⟨u, [.int 0], rfl, rfl, .inl (.inl hu), by simp, fun z nz => ?_⟩
        have xz := Ex.new (o := .tup []) nz
        refine ⟨t, z, [.int 1], [], rfl, rfl, .inl (.inl (xz t _ ht)), .inl (.inl upd_same), by simp, by decide, fun _ => ?_, fun h => absurd rfl h⟩
        exact q _ _ ((xt.trans xu).trans xz) ⟨t, rfl, .inl (xz t _ ht)⟩
      · refine .inr (.inl ⟨u, [.int 0], rfl, rfl, .inl (.inl hu), ?_⟩)
        refine ⟨t, u, [.int 1], [.int 0], rfl, rfl, .inl (.inl ht), .inl (.inl hu), by simp, by decide, (fun h => by simp at h), fun _ z nz => ?_⟩
        exact q _ _ ((xt.trans xu).trans (Ex.new nz)) ⟨z, rfl, .inl upd_same⟩
      · refine .inr (.inr ⟨u, 2, [.int 0], rfl, rfl, .inl (.inl hu), by simp, by decide, by decide, by decide, fun z nz => ?_⟩)
        have xz := Ex.new (o := .tup (List.replicate (2 : Int).toNat [V.int 0]).flatten) nz
        refine ⟨t, z, [.int 1], _, rfl, rfl, .inl (.inl (xz t _ ht)), .inl (.inl upd_same), by simp, by decide, (fun h => absurd h (by simp)), fun _ z' nz' => ?_⟩
        exact q _ _ (((xt.trans xu).trans xz).trans (Ex.new nz')) ⟨z', rfl, .inl upd_same⟩
      · refine .inr (.inr ⟨u, 3, [.int 0], rfl, rfl, .inl (.inl hu), by simp, by decide, by decide, by decide, fun z nz => ?_⟩)
        have xz := Ex.new (o := .tup (List.replicate (3 : Int).toNat [V.int 0]).flatten) nz
        refine ⟨t, z, [.int 1], _, rfl, rfl, .inl (.inl (xz t _ ht)), .inl (.inl upd_same), by simp, by decide, (fun h => absurd h (by simp)), fun _ z' nz' => ?_⟩
        exact q _ _ (((xt.trans xu).trans xz).trans (Ex.new nz')) ⟨z', rfl, .inl upd_same⟩
/-- x in scale -/
def spHas (K : PySem.W.Frag) (C : Addr) : Sp := fun vs H Q _ => ∃ (a : Addr) (m : Ms) (v : V) (d : PyData), vs = [.ref a, v] ∧ SclAt H a C m ∧ m.ok ∧ Od K H v d ∧ Short d ∧ ∀ H', Ex H H' → Q (.bl (amtB m d)) H'
theorem ok_has {f : Addr} {fd : FuncData} (F : Fun K "__contains__" "Scale.__contains__" sHas f fd) (Z : ClsK K C) (Am : Dm P w K mg base C 4 "is_amount" ["self", "value"] (spIsAmt K C)) : FnOk P w K mg base CX0 5 f fd ["self", "x"] (spHas K C) := by
  refine F.ok scHas (fun vs H Q E h => ?_) (fun cdv A outer s H vs Q E hr h => ?_)
  · obtain ⟨a, m, v, d, rfl, _⟩ := h
    rfl
  · obtain ⟨a, m, v, d, rfl, sa, mok, hd, sh, q⟩ := h
    obtain ⟨dx, fs, ha, n1⟩ := sa.no (x := "is_amount") (by decide +kernel) (by decide +kernel)
    refine ⟨_, pss_one (ps_ret (pe_meth (pv 0) Z.cls Am.at_ Am.G hr Am.b .nil pass0 (pa_cons (pv 1) pa_nil))), ?_⟩
    exact ⟨_, rfl, a, dx, fs, rfl, ha, n1, _, rfl, a, m, v, d, rfl, sa, mok, hd, sh, q⟩
/-- scale == other -/
def spEqM (K : PySem.W.Frag) (C : Addr) : Sp := fun vs H Q _ => (∃ (a b : Addr) (m n : Ms), vs = [.ref a, .ref b] ∧ SclAt H a C m ∧ SclAt H b C n ∧ Q (.bl (decide (m = n))) H) ∨ (∃ (a : Addr) (m : Ms) (v : V) (d : PyData), vs = [.ref a, v] ∧ SclAt H a C m ∧ Dx K H v d ∧ Q (.bl false) H)
theorem ms_eq (m n : Ms) : decide (m = n) = (decide (V.str m.word = V.str n.word) && decide (V.int ((m.size : Nat) : Int) = V.int ((n.size : Nat) : Int))) := by
  have sc : decide (V.str Ms.sums.word = V.str (Ms.classes 0).word) = false := by decide +kernel
  have so : decide (V.str Ms.sums.word = V.str Ms.odds.word) = false := by decide +kernel
  have co : decide (V.str (Ms.classes 0).word = V.str Ms.odds.word) = false := by decide +kernel
  have cs : decide (V.str (Ms.classes 0).word = V.str Ms.sums.word) = false := by decide +kernel
  have os : decide (V.str Ms.odds.word = V.str Ms.sums.word) = false := by decide +kernel
  have oc : decide (V.str Ms.odds.word = V.str (Ms.classes 0).word) = false := by decide +kernel
  have ts : decide (V.str Ms.sums.word = V.str Ms.sums.word) = true := decide_eq_true rfl
  have tc : decide (V.str (Ms.classes 0).word = V.str (Ms.classes 0).word) = true := decide_eq_true rfl
  have to : decide (V.str Ms.odds.word = V.str Ms.odds.word) = true := decide_eq_true rfl
  cases m with
  | sums =>
    cases n with
    | sums => rw [ts, decide_eq_true rfl, decide_eq_true rfl]; rfl
    | classes l => rw [decide_eq_false (fun z => nomatch z)]; exact (by rw [show decide (V.str Ms.sums.word = V.str (Ms.classes l).word) = false from sc, Bool.false_and])
    | odds => rw [decide_eq_false (fun z => nomatch z), so, Bool.false_and]
  | classes k =>
    cases n with
    | sums => rw [decide_eq_false (fun z => nomatch z), show decide (V.str (Ms.classes k).word = V.str Ms.sums.word) = false from cs, Bool.false_and]
    | classes l =>
      rw [show decide (V.str (Ms.classes k).word = V.str (Ms.classes l).word) = true from tc, Bool.true_and]
      exact decide_eq_decide.mpr ⟨fun z => by cases z; rfl, fun z => by injection z with z; exact congrArg Ms.classes (Int.natCast_inj.mp z)⟩
    | odds => rw [decide_eq_false (fun z => nomatch z), show decide (V.str (Ms.classes k).word = V.str Ms.odds.word) = false from co, Bool.false_and]
  | odds =>
    cases n with
    | sums => rw [decide_eq_false (fun z => nomatch z), os, Bool.false_and]
    | classes l => rw [decide_eq_false (fun z => nomatch z), show decide (V.str Ms.odds.word = V.str (Ms.classes l).word) = false from oc, Bool.false_and]
    | odds => rw [to, decide_eq_true rfl, decide_eq_true rfl]; rfl
theorem ok_eqM {f : Addr} {fd : FuncData} (F : Fun K "__eq__" "Scale.__eq__" sEqM f fd) (Z : ClsK K C) (T : Blt mg) (Zt : ClsT K C) (gC : mg "Scale" = some (.ref C)) (kc : PySem.W.kitOne K (.ref C) (.ref C) = some true) (kn : ∀ t ∈ tys, PySem.W.kitOne K (.type t) (.ref C) = some false) : FnOk P w K mg base CX0 1 f fd ["self", "other"] (spEqM K C) := by
  refine F.ok scEqM (fun vs H Q E h => ?_) (fun cdv A outer s H vs Q E hr h => ?_)
  · rcases h with ⟨a, b, m, n, rfl, _⟩ | ⟨a, m, v, d, rfl, _⟩ <;> rfl
  · refine ⟨_, pss_one (ps_ret (pe_and (pe_callB call_isi (by rfl) T.isinstance (by decide +kernel) (pa_cons (pv 1) (pa_cons (pe_glob (v := .ref C) (by rfl) gC rfl) pa_nil)))
      (pe_and (pe_cmpR op_eq (pe_fld (pv 0) (by rfl)) (pe_fld (pv 1) (by rfl)) (nomark _)) (pe_one (pe_cmpR op_eq (pe_fld (pv 0) (by rfl)) (pe_fld (pv 1) (by rfl)) (nomark _)))))), ?_⟩
    rcases h with ⟨a, b, m, n, rfl, ⟨dx, fs, ha, hw, hs, hn⟩, ⟨dy, gs, hb, hw', hs', hn'⟩, q⟩ | ⟨a, m, v, d, rfl, sa, hd, q⟩
    · refine ⟨_, rfl, _, _, _, _, _, rfl, .own C, .base (.ins hb Zt.c Zt.t1 Zt.t2 Zt.t3 Zt.t4), kc, true, rfl, ?_⟩
      refine ⟨_, rfl, a, C, dx, fs, _, rfl, ha, Z.cls, Z.nw, hw, _, rfl, b, C, dy, gs, _, rfl, hb, Z.cls, Z.nw, hw', rfl, _, rfl, ?_⟩
      rw [ms_eq] at q
      by_cases z : V.str m.word = V.str n.word
      · rw [decide_eq_true z] at q ⊢
        rw [Bool.true_and] at q
        exact ⟨_, rfl, a, C, dx, fs, _, rfl, ha, Z.cls, Z.ns, hs, _, rfl, b, C, dy, gs, _, rfl, hb, Z.cls, Z.ns, hs', rfl, q⟩
      · rw [decide_eq_false z] at q ⊢
        exact q
    · exact ⟨_, rfl, _, _, _, _, _, rfl, .own C, tyx hd, kn _ (tyName_in d), false, rfl, q⟩
/-- str(scale) -/
def Ms.text : Ms → Str
  | .sums => "sums"
  | .classes 1 => "classes of 1"
  | .classes 2 => "classes of 2"
  | .classes 3 => "classes of 3"
  | .classes _ => "classes of 4"
  | .odds => "odds"
def spStrM (C : Addr) : Sp := fun vs H Q _ => ∃ (a : Addr) (m : Ms), vs = [.ref a] ∧ SclAt H a C m ∧ m.ok ∧ Q (.str m.text) H
theorem ok_strM {f : Addr} {fd : FuncData} (F : Fun K "__str__" "Scale.__str__" sStrM f fd) (Z : ClsK K C) (T : Blt mg) (ts : mg "str" = none) : FnOk P w K mg base CX0 1 f fd ["self"] (spStrM C) := by
  refine F.ok scStrM (fun vs H Q E h => ?_) (fun cdv A outer s H vs Q E hr h => ?_)
  · obtain ⟨a, m, rfl, _⟩ := h
    rfl
  · obtain ⟨a, m, rfl, ⟨dx, fs, ha, hw, hs, hn⟩, mok, q⟩ := h
    refine ⟨_, pss_cons (ps_if (pt_cmpR op_eq (pe_fld (pv 0) (by rfl)) pe_str (nomark _)) (pss_one (ps_ret (pe_joined (.cons pe_str (.cons (pe_fmt (pe_fld (pv 0) (by rfl))) .nil))))) pss_nil)
      (pss_one (ps_ret (pe_callTy SkE.call_str_str (by rfl) ts (by decide +kernel) (pa_cons (pe_fld (pv 0) (by rfl)) pa_nil)))), ?_⟩
    refine ⟨_, rfl, a, C, dx, fs, _, rfl, ha, Z.cls, Z.nw, hw, rfl, _, rfl, ?_⟩
    rw [word_classes]
    cases m with
    | sums => exact ⟨_, rfl, a, C, dx, fs, _, rfl, ha, Z.cls, Z.nw, hw, _, rfl, q⟩
    | odds => exact ⟨_, rfl, a, C, dx, fs, _, rfl, ha, Z.cls, Z.nw, hw, _, rfl, q⟩
    | classes k =>
      have k1 := mok.1
      have k4 := mok.2
      have k' : k = 1 ∨ k = 2 ∨ k = 3 ∨ k = 4 := by omega
      rcases k' with rfl | rfl | rfl | rfl
      all_goals
        refine ⟨_, rfl, by decide +kernel, _, rfl, a, C, dx, fs, _, rfl, ha, Z.cls, Z.ns, hs, .inr ⟨_, rfl, by decide +kernel, _, rfl, by decide +kernel, ?_⟩⟩
        refine cast (congrArg (fun z => Q (V.str z) H) ?_) q
        decide +kernel
end
end Gl

namespace Gl
open PySem PySem.Spec PyProof.Rows L2 ClX
/-- C.m is a staticmethod: its record at p, its def at g -/
structure SMet (K : PySem.W.Frag) (C : Addr) (mc : Value) (m : Str) (p g : Addr) : Prop where
  at_ : PySem.W.findCls K (.ref C) mc m = some (.get (.builtin "staticmethod.__get__") (.ref p) .none (.ref C))
  rc : ∃ rest, PySem.W.recIn K p "staticmethod" = some (.ref g :: rest)
  kp : PySem.W.keepIn K (.ref g) = true
/-- e.m(..), e the class at C, m a staticmethod -/
def tSMeth (C : Addr) (sp : Sp) (dvs : List V) (E : XK) (ta : TE) (t : TA) : TE := fun σ H Q => ta σ H fun x H1 => x = .ref C ∧ t σ H1 fun vs H2 => sp (vs ++ dvs) H2 Q E
section
variable {X : Cx} {pins : List (Addr × Obj)} {σ : L2.St} {H : Hp} {s : Shared} {C p g : Addr} {mc : Value} {m : Str} {A : Around} {E' : Value → Shared → Prop}
theorem getsmet_ok {b : Bool} {Q : Value → Shared → Prop} (I : Inv X pins σ H s) (r : CRead X.K C mc) (k : SMet X.K C mc m p g)
    (h : ∀ s', Inv X pins σ H s' → Q (.ref g) s') : wpAny (model X.prog X.w) A (getAttr (.ref C) m b) Q E' s := by
  obtain ⟨rest, hp⟩ := k.rc
  refine PySem.W.cls_bind I.kIn r.rd k.at_ ?_
  refine wpAny_call (PySem.W.sm_get (s := { s with toks := s.toks + 1 }) I.kIn hp (PySem.W.handed_on rfl ?_))
  exact h _ (I.tok _)
theorem getmethsm_ok {pl : Sem Bool} {Q : Value × List Value → Shared → Prop} (I : Inv X pins σ H s) (r : CRead X.K C mc) (k : SMet X.K C mc m p g)
    (h : ∀ s', Inv X pins σ H s' → Q (.ref g, []) s') : wpAny (model X.prog X.w) A (getMethod (.ref C) m pl) Q E' s :=
  PySem.W.method_cls I.kIn r.ga (getsmet_ok I r k h)
variable {CX : CXT} {k : Nat} {sp : Sp} {E : XK} {fd : FuncData} {ps : List Str} {ds : List Value} {dvs : List V} {o e : Expr} {es : List Expr} {pos apos : Pos} {ta : TE} {t : TA} {pl : Sem Bool}
theorem pe_smeth (he : PE X o ta) (r : CRead X.K C mc) (c : SMet X.K C mc m p g) (F : FnOk X.prog X.w X.K X.mg X.base CX k g fd ps sp) (hr : Room k X.A) (hb : Binds X.K fd ps ds) (hd : Vals dvs ds) (hx : Passes CX X E) (ha : PA X (e :: es) t)
    (hst : starEach (e :: es) X.env = (false, eval e X.env) :: starEach es X.env := by rfl) (hpl : (backTo pos (starEach es X.env)).any (·.1) = false := by rfl)
    (ht : eval (.Call (.Attribute o m apos) (e :: es) [] pos) X.env = (do
      let ov ← eval o X.env
      standAt apos.atName
      let (f, first) ← holding [ov] (getMethod ov m pl)
      callWith pos f first (backTo pos (starEach (e :: es) X.env)) (backToKw pos (keywordEach [] X.env))) := by rfl) :
    PE X (.Call (.Attribute o m apos) (e :: es) [] pos) (tSMeth C sp dvs E ta t) := by
  refine ⟨fun pins s σ H Q I h => ?_⟩
  refine PySem.W.methodCall_KW (pl := pl) (thn (he.run pins s σ H _ I h) fun u s1 ⟨x, H1, I1, rx, ex, q⟩ => ?_) ht
  subst ex
  obtain rfl : u = Value.ref C := rx
  refine getmethsm_ok I1 r c fun s2 I2 => ?_
  refine PySem.W.callWith_K (h₀ := X.base) I2.ok.mod.kin c.kp (thn (ha.run pos pins s2 σ H1 _ I2 q) fun us s3 ⟨vs, H2, I3, rv, q2⟩ => ⟨I3.kIn, ?_⟩) hst hpl
  exact run_fn F hr hb hd hx I3 rv q2
theorem pe_smeth0 (he : PE X o ta) (r : CRead X.K C mc) (c : SMet X.K C mc m p g) (F : FnOk X.prog X.w X.K X.mg X.base CX k g fd ps sp) (hr : Room k X.A) (hb : Binds X.K fd ps ds) (hd : Vals dvs ds) (hx : Passes CX X E)
    (ht : eval (.Call (.Attribute o m apos) [] [] pos) X.env = (do
      let ov ← eval o X.env
      standAt apos.atName
      let (f, first) ← holding [ov] (getMethod ov m pl)
      callWith pos f first (backTo pos (starEach [] X.env)) (backToKw pos (keywordEach [] X.env))) := by rfl) :
    PE X (.Call (.Attribute o m apos) [] [] pos) (tSMeth C sp dvs E ta tNil) := by
  refine ⟨fun pins s σ H Q I h => ?_⟩
  refine PySem.W.methodCall_KW (pl := pl) (thn (he.run pins s σ H _ I h) fun u s1 ⟨x, H1, I1, rx, ex, q⟩ => ?_) ht
  subst ex
  obtain rfl : u = Value.ref C := rx
  refine getmethsm_ok I1 r c fun s2 I2 => ?_
  exact PySem.W.callWith_K0 I2.kIn c.kp (run_fn (us := []) F hr hb hd hx I2 .nil q)
end
end Gl

/-! enumerate(a tuple) -/
namespace Gl
open PySem PySem.Spec PyProof.Rows L2
open Sem (wp)
open AutoSeq1 (wpAny_loadPart')
theorem enum_newB {v : Value} {o : Obj} {G : Heap → Prop} (B : Begins v o G) : Meets (Builtin.«enumerate.__new__» ⟨[.type "enumerate", v], []⟩) (fun _ R s => G s.heap ∧
      R (.ok (.ret (.ref (s.heap.push o).objs.size))) { s with heap := (s.heap.push o).push { cls := .type "enumerate", data := .fields #[.none, .bool false, .ref s.heap.objs.size, rawInt 0, .none, .none] } }) :=
  .of_wp fun P w A R s h => by
    obtain ⟨m, g, d, tk, os⟩ := s
    obtain ⟨hl, h⟩ := h
    have sub := sub_enumerate
    have begin_ : ∀ {A : Around} {E : Value → Shared → Prop} {Q : Value → Shared → Prop}, Q (.ref m.objs.size) ⟨m.push o, g, d, tk, os⟩ → wpAny (model P w) A (pyIter v) Q E ⟨m, g, d, tk, os⟩ := fun q => B.iter P w _ _ ⟨m, g, d, tk, os⟩ _ hl q
    wp_walk
    refine wpAny_stack_any fun st => wpAny_pure ?_
    split
    · rename_i c _ _ _ _ _
      cases (c == Value.type "enumerate") <;> (wp_walk using begin_; exact ⟨_, rfl, h⟩)
    · wp_walk using begin_
      exact ⟨_, rfl, h⟩
section
variable {P : Program} {w : World} {A : Around} {E : Value → Shared → Prop} {s : Shared}
theorem enum_call {v : Value} {o : Obj} {G : Heap → Prop} {Q : Value → Shared → Prop} (B : Begins v o G) (hl : G s.heap)
    (h : ∀ m, IsEnum m (s.heap.objs.size + 1) s.heap.objs.size 0 .none → m.get? s.heap.objs.size = some o → m.objs.size = s.heap.objs.size + 2 →
      (∀ b u, s.heap.get? b = some u → m.get? b = some u) → Q (.ref (s.heap.objs.size + 1)) { s with heap := m }) :
    wpAny (model P w) A (call (.type "enumerate") [v]) Q E s := by
  have go := callType_new (prog := P) (w := w) (A := A) (E := E) (s := s) (Q := Q) F.called_enumerate (by decide) (F.typeCall_enumerate_1 v) (F.newCall_enumerate_1 v) (fun x => F.args_object_init_2 x _) F.entry_enumerate_new (enum_newB B)
  have hz : (s.heap.push o).objs.size = s.heap.objs.size + 1 := Heap.size_push ..
  refine go ⟨hl, ?_⟩
  rw [hz]
  have e1 := Heap.get?_push_size (s.heap.push o) (o := { cls := .type "enumerate", data := .fields #[.none, .bool false, .ref s.heap.objs.size, rawInt 0, .none, .none] }) rfl
  rw [hz] at e1
  exact ⟨⟨_, e1, rfl⟩, h _ e1 (Heap.get?_push_of_some _ (Heap.get?_push_size _ B.free)) (by rw [Heap.size_push, hz]) fun b u x => Heap.get?_push_of_some _ (Heap.get?_push_of_some _ x)⟩
end
/-- the tuple at a, each item in a new pair -/
def IteT (K : PySem.W.Frag) (a : Addr) : It :=
  ⟨fun i H => ∃ (xs : List V) (x : V), SqT K H a xs ∧ xs[i]? = some x, fun i H v H' => ∃ T x, v = .ref T ∧ H T = none ∧ H' = upd H T (.tup [.int (i : Nat), x]) ∧ ∀ xs, SqT K H a xs → xs[i]? = some x, fun i H => ∃ xs : List V, SqT K H a xs ∧ xs.length ≤ i⟩
theorem turn_enumT {P : Program} {w : World} {K : PySem.W.Frag} {elts : List Expr} {kk : Nat} {tpos : Pos} (a e it : Addr) :
    Turn P w K (.Tuple elts kk tpos) (IteT K a) [e, it] e (fun i h => (∃ old, IsEnum h e it ((i : Nat) : Int) old) ∧ h.IsTupleIter it a i ∧ e ≠ it ∧ a ≠ it ∧ e ≠ a) where
  mem := by simp
  obj := fun i h st b hb => by
    obtain ⟨⟨old, he⟩, ⟨o, ho, hc, hd⟩, _⟩ := st
    rcases (show b = e ∨ b = it by simpa using hb) with rfl | rfl
    · exact ⟨_, he, fun v q => nomatch q⟩
    · exact ⟨o, ho, fun v q => by rw [hd] at q; cases q⟩
  keep := fun i h h' st k => let ⟨⟨old, he⟩, hi, hne⟩ := st; ⟨⟨old, k e (by simp) _ he⟩, hi.at fun o q => k it (by simp) o q, hne⟩
  item := by
    intro X hP hw hK hc i pins s σ H E I hf st hg
    subst hP hw hK
    obtain ⟨⟨old, he⟩, hit, hne, hai, hea⟩ := st
    obtain ⟨xs, x, hq, hx⟩ := hg
    obtain ⟨its, rv, p, hz⟩ := I.tuple hq
    obtain ⟨u, hu, ru⟩ := rv.get hx
    have hel : e < s.heap.objs.size := Heap.lt_size he
    have hil : it < s.heap.objs.size := let ⟨_, q, _⟩ := hit; Heap.lt_size q
    have D := Draws.tuple (prog := X.prog) (w := X.w) (A := X.A.in1) (I.ok.hd hc) it a hai its.toArray
    have p' : s.heap.IsTuple a its.toArray := p
    have lt : i < its.toArray.size := by
      have := (List.getElem?_eq_some_iff.mp hu).1
      simpa using this
    refine wpAny_pyNext_enum_itemD D he ⟨hit, p'⟩ lt hne (by simp [hne, hea]) fun y h' tk hy ho hst' hT hsz hk => ?_
    obtain rfl : u = y := by
      have hy' : its[i]? = some y := by simpa using hy
      exact Option.some.inj (hu.symm.trans hy')
    refine ⟨_, rfl, wpAny_letOwnedTupleGo_enum (s := { s with heap := h', toks := tk + 1 }) ho fun h'' he' sb => ?_⟩
    have hT2 : h''.get? s.heap.objs.size = some { cls := .type "tuple", data := .seq #[.int i tk, u] } := (sb.2 _ (Nat.ne_of_gt hel)).trans hT
    have new : ObjOk X.prog X.w (upd H s.heap.objs.size (.tup [.int (i : Nat), x])) h'' s.heap.objs.size (.tup [.int (i : Nat), x]) :=
      ⟨by show 2 ≤ sizeLine; decide, [.int i tk, u], .cons ⟨_, rfl⟩ (.cons ru .nil), ⟨_, hT2, rfl, _, rfl⟩⟩
    have I1 : Inv X pins σ (upd H s.heap.objs.size (.tup [.int (i : Nat), x])) { s with heap := h'', toks := tk + 1 } :=
      I.turnedNew (ch := [e, it]) (t' := tk + 1) (fun b ob hb q => (sb.2 b (fun z => hb (by simp [z]))).trans (hk b ob (fun z => hb (by simp [z])) (fun z => hb (by simp [z])) q)) hf (Nat.le_refl _) new
    refine ⟨.ref s.heap.objs.size, _, I1, rfl, ⟨_, x, rfl, I.hok.fresh (Nat.le_refl _), rfl, fun ys hy => by rw [I.tuple_inj hy hq]; exact hx⟩, ⟨⟨u, ?_⟩, hst'.1.at fun o q => (sb.2 it (Ne.symm hne)).trans q, hne, hai, hea⟩, fun b hb => ?_⟩
    · rw [show ((i + 1 : Nat) : Int) = (i : Int) + 1 by omega]
      exact he'
    · have lb : b < s.heap.objs.size := by
        rcases (show b = e ∨ b = it by simpa using hb) with rfl | rfl
        · exact hel
        · exact hil
      rw [upd_ne (Nat.ne_of_lt lb)]
      exact (hf b hb).1
  done := by
    intro X hP hw hK hc i pins s σ H E I hf st hg
    subst hP hw hK
    obtain ⟨⟨old, he⟩, hit, hne, hai, hea⟩ := st
    obtain ⟨xs, hq, hx⟩ := hg
    obtain ⟨its, rv, p, hz⟩ := I.tuple hq
    obtain ⟨f0, f1, f2, f3, f4, f5⟩ := hf it (by simp)
    have hl := rv.length
    have p' : s.heap.IsTuple a its.toArray := p
    have D := Draws.tuple (prog := X.prog) (w := X.w) (A := X.A.in1) (I.ok.hd hc) it a hai its.toArray
    have hT : s.TypeIs (.ref e) "enumerate" := ⟨_, he, rfl⟩
    unfold pyNext
    refine wpAny_bind (wpAny_attempt (wpAny_callSpecial?_slot (name := Str.ofString "__next__") hT F.slot_enumerate_next (wpAny_call_entry F.slot_enumerate_next hT F.entry_enumerate_next ?_ (F.args_enumerate_next_1 _))))
    show wpAny _ _ (field (.ref e) 2 >>= _) _ _ _
    refine wpAny_bind (wpAny_field he rfl (x := .ref it) rfl ?_)
    refine wpAny_bind (wpAny_nextOf_tuple_end (I.ok.hd hc) hit p' (by rw [List.getElem?_toArray]; exact List.getElem?_eq_none (by omega)) fun h' x he' hx' => ?_)
    obtain ⟨o, ho, hc'⟩ := hx'
    refine wpAny_bind (wpAny_isInstance (T := "StopIteration") (b := true) ⟨o, ho, hc'⟩ isSubtype_stop ?_)
    exact wpAny_pure ⟨rfl, I.turned (t' := s.toks) (fun b o hb q => he' b o hb q) f0 f1 f3 f4 f5⟩
  self := fun A i s Q E st h => let ⟨⟨_, he⟩, _⟩ := st; wpAny_pyIter_enum he h
def iEnumT (K : PySem.W.Frag) (ta : TA) : TI := fun σ H R => ta σ H fun vs H1 => ∃ a xs, vs = [.ref a] ∧ SqT K H1 a xs ∧ R (IteT K a) H1
theorem pi_enumT {X : Cx} {e : Expr} {ta : TA} {p pos tpos : Pos} {elts : List Expr} {kk : Nat} (hg : Gl X "enumerate") (hm : X.mg "enumerate" = none) (ha : PA X [e] ta) (hs : starEach [e] X.env = [(false, eval e X.env)] := by rfl) :
    PI X (.Tuple elts kk tpos) (.Call (.Name "enumerate" p) [e] [] pos) (iEnumT X.K ta) := by
  refine ⟨fun pins s σ H R I h => ?_⟩
  refine Call_ (ld_blt I hg hm boot_enumerate (PyProof.Rows.callWith_type1 (thn (ha.run pos pins s σ H _ I h) fun us s1 ⟨vs, H1, I1, r1, a, xs, ex, hq, q⟩ => ?_) hs rfl))
  subst ex
  obtain ⟨u, rfl, r⟩ := vals1 r1
  obtain rfl : u = Value.ref a := r
  obtain ⟨its, rv, p', hz⟩ := I1.tuple hq
  have pt : s1.heap.IsTuple a its.toArray := p'
  have al : a < s1.heap.objs.size := let ⟨_, z, _⟩ := pt; Heap.lt_size z
  refine enum_call (begins_tuple a its.toArray) pt fun h' he hit hsz hk => wpAny_pyIter_enum he ?_
  have I2 : Inv X pins σ H1 { s1 with heap := h' } := I1.kept (t' := s1.toks) hk
  refine ⟨s1.heap.objs.size + 1, [s1.heap.objs.size + 1, s1.heap.objs.size], _, _, H1, rfl, I2, turn_enumT a (s1.heap.objs.size + 1) s1.heap.objs.size, ⟨⟨.none, he⟩, ⟨_, hit, rfl, rfl⟩, Nat.succ_ne_self _, Nat.ne_of_lt al, Nat.ne_of_gt (Nat.lt_succ_of_lt al)⟩, fun b hb => ?_, q⟩
  have le : s1.heap.objs.size ≤ b := by
    rcases (show b = s1.heap.objs.size + 1 ∨ b = s1.heap.objs.size by simpa using hb) with rfl | rfl
    · exact Nat.le_succ _
    · exact Nat.le_refl _
  exact I1.fpOk le (I1.hok.fresh le)
end Gl
namespace Gl
open PySem PySem.Spec PyProof.Rows L2
theorem for_enumT {K : PySem.W.Frag} {a : Addr} {xs : List V} {g : TG} {tb : TS} {D : Ends} {σ : L2.St} {H : Hp} (Pv : Nat → L2.St → Hp → Prop) (h0 : Pv 0 σ H) (hl : ∀ i σ H, i ≤ xs.length → Pv i σ H → SqT K H a xs)
    (hs : ∀ i x σ H T, xs[i]? = some x → Pv i σ H → H T = none → g (.ref T) σ (upd H T (.tup [.int (i : Nat), x])) fun σ2 H2 => tb { D with nx := Pv (i + 1), ct := Pv (i + 1), bk := D.nx } σ2 H2) (hd : ∀ σ H, Pv xs.length σ H → D.nx σ H) :
    ∃ W : Nat → Nat → L2.St → Hp → Prop, (∃ m, W 0 m σ H) ∧ ∀ i m σ H, W i m σ H →
      ((IteT K a).stop i H ∧ D.nx σ H) ∨ ((IteT K a).go i H ∧ ∃ N : L2.St → Hp → Prop, (∀ σ' H', N σ' H' → ∃ m', m' < m ∧ W (i + 1) m' σ' H') ∧ ∀ x H', (IteT K a).yld i H x H' → g x σ H' fun σ2 H2 => tb { D with nx := N, ct := N, bk := D.nx } σ2 H2) := by
  refine ⟨fun i m σ H => m + i = xs.length ∧ Pv i σ H, ⟨xs.length, rfl, h0⟩, fun i m σ H h => ?_⟩
  obtain ⟨e, p⟩ := h
  have q := hl i σ H (by omega) p
  by_cases lt : i < xs.length
  · refine .inr ⟨⟨xs, xs[i], q, List.getElem?_eq_getElem lt⟩, Pv (i + 1), fun σ' H' p' => ⟨m - 1, by omega, by omega, p'⟩, ?_⟩
    rintro v H' ⟨T, x, rfl, nT, rfl, hx⟩
    exact hs i x σ H T (hx xs q) p nT
  · have : i = xs.length := by omega
    subst this
    exact .inl ⟨⟨xs, q, Nat.le_refl _⟩, hd σ H p⟩
theorem for_enumL {K : PySem.W.Frag} {a : Addr} {xs : List V} {g : TG} {tb : TS} {D : Ends} {σ : L2.St} {H : Hp} (Pv : Nat → L2.St → Hp → Prop) (h0 : Pv 0 σ H) (hl : ∀ i σ H, i ≤ xs.length → Pv i σ H → SqL K H a xs)
    (hs : ∀ i x σ H T, xs[i]? = some x → Pv i σ H → H T = none → g (.ref T) σ (upd H T (.tup [.int (i : Nat), x])) fun σ2 H2 => tb { D with nx := Pv (i + 1), ct := Pv (i + 1), bk := D.nx } σ2 H2) (hd : ∀ σ H, Pv xs.length σ H → D.nx σ H) :
    ∃ W : Nat → Nat → L2.St → Hp → Prop, (∃ m, W 0 m σ H) ∧ ∀ i m σ H, W i m σ H →
      ((Ite K a).stop i H ∧ D.nx σ H) ∨ ((Ite K a).go i H ∧ ∃ N : L2.St → Hp → Prop, (∀ σ' H', N σ' H' → ∃ m', m' < m ∧ W (i + 1) m' σ' H') ∧ ∀ x H', (Ite K a).yld i H x H' → g x σ H' fun σ2 H2 => tb { D with nx := N, ct := N, bk := D.nx } σ2 H2) := by
  refine ⟨fun i m σ H => m + i = xs.length ∧ Pv i σ H, ⟨xs.length, rfl, h0⟩, fun i m σ H h => ?_⟩
  obtain ⟨e, p⟩ := h
  have q := hl i σ H (by omega) p
  by_cases lt : i < xs.length
  · refine .inr ⟨⟨xs, xs[i], q, List.getElem?_eq_getElem lt⟩, Pv (i + 1), fun σ' H' p' => ⟨m - 1, by omega, by omega, p'⟩, ?_⟩
    rintro v H' ⟨T, x, rfl, nT, rfl, hx⟩
    exact hs i x σ H T (hx xs q) p nT
  · have : i = xs.length := by omega
    subst this
    exact .inl ⟨⟨xs, q, Nat.le_refl _⟩, hd σ H p⟩
end Gl

namespace Gl
open PySem PySem.Spec PyProof.Rows L2 HT
theorem adjust_rev (n : Nat) : Builtin.Slice.sliceAdjust none none (-1) (n : Int) = ((n : Int) - 1, -1) := by
  unfold Builtin.Slice.sliceAdjust
  have h1 : ((-1 : Int) < 0) := by omega
  simp only [h1, if_true]
theorem places_rev (n : Nat) : Builtin.Slice.slicePlaces ((n : Int) - 1) (-1) (-1) = n := by
  unfold Builtin.Slice.slicePlaces
  have h1 : ¬ ((-1 : Int) > 0) := by omega
  simp only [h1, if_false]
  rw [show (- -1 : Int) = 1 by decide, Int.ediv_one]
  split <;> omega
theorem pick_rev (xs : Array Value) : ((List.range xs.size).filterMap fun (m : Nat) => xs[(((xs.size : Int) - 1) + (m : Int) * (-1)).toNat]?).toArray = xs.toList.reverse.toArray := by
  have e : (fun (m : Nat) => xs[(((xs.size : Int) - 1) + (m : Int) * (-1)).toNat]?) = (fun i => xs[i]?) ∘ fun (m : Nat) => (((xs.size : Int) - 1) + (m : Int) * (-1)).toNat := rfl
  rw [e, ← List.filterMap_map]
  have e2 : (List.range xs.size).map (fun (m : Nat) => (((xs.size : Int) - 1) + (m : Int) * (-1)).toNat) = (List.range xs.size).reverse := by
    refine Eq.trans (List.map_congr_left fun m hm => ?_) (PySem.W.krv_range xs.size)
    have := List.mem_range.mp hm
    omega
  rw [e2, List.filterMap_reverse, PySem.W.krv_all]
section
variable {prog : Program} {w : World} {A : Around} {E : Value → Shared → Prop} {s : Shared}
theorem sliceApplied_rev {sl : Addr} {vl vu vs : Value} {n : Nat} {Q : Int × Int × Nat → Shared → Prop} (hs : s.heap.IsSliceOf sl vl vu vs) (pl : IsPart vl none) (pu : IsPart vu none) (ps : IsPart vs (some (-1)))
    (h : Q ((n : Int) - 1, -1, n) s) : wpAny (model prog w) A (Builtin.Slice.sliceApplied (.ref sl) (pure (n : Int))) Q E s := by
  obtain ⟨os, hos, hcs, hds⟩ := id hs
  unfold Builtin.Slice.sliceApplied Builtin.Slice.sliceFields
  refine wpAny_bind (wpAny_bind (wpAny_field hos hds (x := vl) rfl (wpAny_bind (wpAny_field hos hds (x := vu) rfl (wpAny_bind (wpAny_field hos hds (x := vs) rfl (wpAny_pure ?_)))))))
  refine wpAny_bind (slicePart_ ps ?_)
  show wpAny _ _ (if ((-1 : Int) == 0) = true then _ else _) _ _ s
  rw [if_neg (by decide)]
  refine wpAny_bind (slicePart_ pl (wpAny_bind (slicePart_ pu (wpAny_bind (wpAny_pure ?_)))))
  show wpAny _ _ (match Builtin.Slice.sliceAdjust none none (-1) (n : Int) with | (lo, hi) => pure (lo, (-1 : Int), Builtin.Slice.slicePlaces lo hi (-1))) _ _ s
  rw [adjust_rev n]
  show wpAny _ _ (pure ((n : Int) - 1, (-1 : Int), Builtin.Slice.slicePlaces ((n : Int) - 1) (-1) (-1))) _ _ s
  rw [places_rev]
  exact wpAny_pure h
theorem getItem_tuple_rev {t sl : Addr} {items : Array Value} {vl vu vs : Value} {Q : Value → Shared → Prop} (ht : IsTup s.heap t items) (hs : s.heap.IsSliceOf sl vl vu vs) (pl : IsPart vl none) (pu : IsPart vu none) (ps : IsPart vs (some (-1)))
    (h : Q (.ref s.heap.objs.size) { s with heap := s.heap.push { cls := .type "tuple", data := .seq items.toList.reverse.toArray } })
    (hsz : items.size ≤ sizeLine) : wpAny (model prog w) A (getItem (.ref t) (.ref sl)) Q E s := by
  have htake : sizeOk (.seq items.toList.reverse.toArray) := by
    show items.toList.reverse.toArray.size ≤ sizeLine
    rw [List.size_toArray, List.length_reverse, Array.length_toList]
    exact hsz
  obtain ⟨os, hos, hcs, hds⟩ := id hs
  have hTs : s.TypeIs (.ref sl) "slice" := ⟨os, hos, hcs⟩
  unfold getItem
  try with_reducible refine wpAny_holding ?_
  first | refine wpAny_bind (wpAny_pure ?_) | skip
  refine wpAny_bind (wpAny_sequenceKey ht.typeIs (by decide) ?_)
  refine wpAny_bind (wpAny_callSpecial?_slot (name := Str.ofString "__getitem__") ht.typeIs PyProof.Rows.slot_tuple_getitem
    (wpAny_call_entry PyProof.Rows.slot_tuple_getitem ht.typeIs entry_tuple_getitem ?_ (args_tuple_getitem _ _)))
  show wpAny _ _ (Builtin.Tuple.tupleItemsOf (.ref t) >>= _) _ _ s
  refine wpAny_bind (tupleItemsOf_ ht ?_)
  refine wpAny_bind (wpAny_typeOf hTs ?_)
  rw [if_pos (by decide)]
  refine wpAny_bind (sliceApplied_rev hs pl pu ps ?_)
  have hno : ¬ ((((items.size : Int) - 1) == 0 && (-1 : Int) == 1 && items.size == items.size) = true) := by
    rw [show ((-1 : Int) == 1) = false from rfl, Bool.and_false, Bool.false_and]
    exact Bool.false_ne_true
  show wpAny _ _ (if (((items.size : Int) - 1) == 0 && (-1 : Int) == 1 && items.size == items.size) = true then _ else _) _ _ s
  rw [if_neg hno, pick_rev]
  first
    | exact wpAny_bind (m := Builtin.Tuple.tupleExact _) (wpAny_newObj_type (wpAny_pure ⟨_, rfl, wpAny_pure h⟩) htake)
    | exact wpAny_bind (m := Builtin.Tuple.tupleExact _) (wpAny_newObj_type (wpAny_bind (wpAny_pure (wpAny_pure ⟨_, rfl, wpAny_pure h⟩))) htake)
    | exact wpAny_bind (wpAny_bind (m := Builtin.Tuple.tupleExact _) (wpAny_newObj_type (wpAny_pure (wpAny_pure ⟨_, rfl, wpAny_pure h⟩)) htake))
    | exact wpAny_bind (wpAny_bind (m := Builtin.Tuple.tupleExact _) (wpAny_newObj_type (wpAny_pure ⟨_, rfl, wpAny_pure h⟩) htake))
end
/-- t[::-1] -/
def tRevT (K : PySem.W.Frag) (te : TE) : TE := fun σ H Q => te σ H fun x H1 => ∃ a xs, x = .ref a ∧ SqT K H1 a xs ∧ ∀ p, H1 p = none → Q (.ref p) (upd H1 p (.tup xs.reverse))
section
variable {X : Cx}
theorem pe_revT {e : Expr} {te : TE} {k : Nat} {p1 p2 p3 pos : Pos} (he : PE X e te) : PE X (.Subscript e (.Slice none none (some (.UnaryOp .USub (.Constant (.int 1) k p1) p2)) p3) pos) (tRevT X.K te) := by
  refine ⟨fun pins s σ H Q I h => ?_⟩
  refine Subscript_ (thn (he.run pins s σ H _ I h) fun v s1 ⟨x, H1, I1, r1, q1⟩ => ?_)
  obtain ⟨a, xs, ex, hx, q⟩ := q1
  subst ex
  cases r1
  have hst : PO X (some (.UnaryOp .USub (.Constant (.int 1) k p1) p2)) (tPart (tUn (rU fun i => .int (-i)) (tC (.int 1)))) := po_some (pe_un un_neg pe_int)
  refine wpAny_Slice (thn (po_none.run pins s1 σ H1 (fun o H2 => o = none ∧ H2 = H1) I1 ⟨rfl, rfl⟩) fun vl s2 ⟨l, H2, I2, pl, el, e2⟩ => ?_)
  subst el e2
  refine thn (po_none.run pins s2 σ H2 (fun o H3 => o = none ∧ H3 = H2) I2 ⟨rfl, rfl⟩) fun vu s3 ⟨u, H3, I3, pu, eu, e3⟩ => ?_
  subst eu e3
  refine thn (hst.run pins s3 σ H3 (fun o H4 => o = some (-1) ∧ H4 = H3) I3 ⟨1, rfl, -1, rfl, rfl, rfl⟩) fun vs s4 ⟨o, H4, I4, ps, eo, e4⟩ => ?_
  subst eo e4
  have I5 : Inv X pins σ H4 { s4 with heap := s4.heap.push { cls := .type "slice", data := .fields #[vl, vu, vs] } } := I4.kept (t' := s4.toks) fun b ob q => Heap.get?_push_of_some _ q
  obtain ⟨its, r, ht, hz⟩ := I5.tuple hx
  have hlen := r.length
  show wpAny (model X.prog X.w) X.A (subscriptTail e (.Slice none none (some (.UnaryOp .USub (.Constant (.int 1) k p1) p2)) p3) (.ref a) (.ref s4.heap.objs.size)) (EP X pins σ Q) X.xe { s4 with heap := s4.heap.push { cls := .type "slice", data := .fields #[vl, vu, vs] } }
  refine tail_any (ops := [.ref a, .ref s4.heap.objs.size]) ht.typeIs (PyProof.Rows.slot_tuple_getitem.lookup) ?_ (by with_unfolding_all rfl)
  refine getItem_tuple_rev ht (Heap.IsSliceOf.new _ vl vu vs) pl pu ps ?_ (by rw [List.size_toArray]; omega)
  refine ⟨.ref _, _, I5.laid (t' := s4.toks) (o := .tup xs.reverse) (fun b ob q => Heap.get?_push_of_some _ q) (Nat.le_refl _) ?_, rfl, q _ (I5.hok.fresh (Nat.le_refl _))⟩
  exact ⟨by rw [List.length_reverse]; exact hz, _, r.reverse, IsTup.new _ _⟩
end
end Gl

set_option exponentiation.threshold 10000
namespace Gl
open PySem PySem.Spec PyProof.Rows L2 ClX
abbrev sChkAll : Stmt := clsS 23
theorem scChkAll : FnScope ["self", "amounts", "amount"] ["self", "amounts"] (defScope sChkAll) := ⟨rfl, rfl, rfl, by decide +kernel, rfl, by decide +kernel, by decide +kernel⟩
abbrev sBelow : Stmt := clsS 27
theorem scBelow : FnScope ["self", "amount", "other"] ["self", "amount", "other"] (defScope sBelow) := ⟨rfl, rfl, rfl, by decide +kernel, rfl, by decide +kernel, by decide +kernel⟩
theorem tyRd {K : PySem.W.Frag} {H : Hp} {p : Addr} {xs : List V} (h : Rd H p (.tup xs)) : TyX K H (.ref p) (.type "tuple") := by
  rcases h with h | ⟨o, h⟩
  · exact .base (.tup h)
  · exact .fTuple h
/-- a method with a star argument -/
structure DmR (P : Program) (w : World) (K : PySem.W.Frag) (mg : Str → Option Value) (base : Heap) (C : Addr) (k : Nat) (m : Str) (sp : Sp) where
  f : Addr
  G : FnR P w K mg base CX0 k f sp
  at_ : Meth K C m f
theorem rd_updL {H : Hp} {p L : Addr} {xs ys zs : List V} (h : Rd H p (.tup xs)) (l : H L = some (.lst ys)) : Rd (upd H L (.lst zs)) p (.tup xs) := by
  have ne : p ≠ L := fun e => by
    subst e
    rcases h with h | ⟨o, h⟩
    · rw [l] at h; exact nomatch h
    · rw [l] at h; exact nomatch h
  rcases h with h | ⟨o, h⟩
  · exact .inl (by rw [upd_ne ne]; exact h)
  · exact .inr ⟨o, by rw [upd_ne ne]; exact h⟩
theorem AmV.updL {H : Hp} {L : Addr} {ys zs : List V} (l : H L = some (.lst ys)) {v : V} : ∀ {x : Am}, AmV H v x → AmV (upd H L (.lst zs)) v x
  | .n _, h => h
  | .c _, ⟨p, h, r⟩ => ⟨p, h, rd_updL r l⟩
  | .o _, ⟨p, h, r⟩ => ⟨p, h, rd_updL r l⟩
theorem cut_to (xs : List V) (k : Nat) : cutV xs none (some (k : Int)) = xs.take k := by
  unfold cutV
  rw [HT.sIx_none, HT.sIx_nat]
  simp
section
variable {X : Cx} {CX : CXT} {k : Nat} {C f : Addr} {sp : Sp} {E : XK} {m : Str} {o : Expr} {pos apos : Pos} {ta : TE} {pl : Sem Bool}
/-- o.m() of a method with a star argument -/
theorem pe_methR0 (he : PE X o ta) (c : Cls X.K C) (hm : Meth X.K C m f) (F : FnR X.prog X.w X.K X.mg X.base CX k f sp) (hr : Room k X.A) (hx : Passes CX X E)
    (ht : eval (.Call (.Attribute o m apos) [] [] pos) X.env = (do
      let ov ← eval o X.env
      standAt apos.atName
      let (f, first) ← holding [ov] (getMethod ov m pl)
      callWith pos f first (backTo pos (starEach [] X.env)) (backToKw pos (keywordEach [] X.env))) := by rfl) :
    PE X (.Call (.Attribute o m apos) [] [] pos) (tMethR C m sp E ta tNil) := by
  refine ⟨fun pins s σ H Q I h => ?_⟩
  refine PySem.W.methodCall_KW (pl := pl) (thn (he.run pins s σ H _ I h) fun u s1 ⟨x, H1, I1, rx, a, dx, fs, ex, ea, l, q⟩ => ?_) ht
  subst ex
  obtain rfl : u = Value.ref a := rx
  refine getmeth_ok I1 ea c hm l ?_
  exact PySem.W.callWith_K0 (first := [.ref a]) I1.kIn hm.kp (wpAny_call (run_fnR (us := [.ref a]) (vs := [.ref a]) F hr hx I1 (.cons rfl .nil) q))
/-- sum(a tuple of ints) -/
def rSumT (K : PySem.W.Frag) : List V → Hp → VK → Prop := fun vs H Q => ∃ (a : Addr) (ns : List Int), vs = [V.ref a] ∧ SqT K H a (ns.map V.int) ∧ Q (.int ns.sum) H
end
section
variable {P : Program} {w : World} {K : PySem.W.Frag} {mg : Str → Option Value} {base : Heap} {C : Addr} {mc : Value}
def spLowW : Sp := fun vs H Q _ => ∃ a b : Nat, vs = [.int a, .int b] ∧ 0 < a ∧ 0 < b ∧ a < 2 ^ 2000 ∧ b < 2 ^ 2000 ∧ ∀ (p : Addr) H' (h : Low (a / Nat.gcd a b) (b / Nat.gcd a b)), Ex H H' → H p = none → Rd H' p (.tup (oddV ⟨(a / Nat.gcd a b, b / Nat.gcd a b), h⟩)) → Q (.ref p) H'
theorem ok_lowW {f : Addr} {fd : FuncData} (F : Fun K "_law_lowest" "_law_lowest" sLowL f fd) (T : Blt mg) : FnG P w K mg base CX0 1 f fd ["_law_top", "_law_bottom"] spLowW := by
  refine okG F scLowL (fun vs H Q E h => ?_) (fun cdv A outer s H vs Q E hr h => ?_)
  · obtain ⟨a, b, rfl, _⟩ := h
    rfl
  · obtain ⟨a, b, rfl, ha, hb, la, lb, q⟩ := h
    have nd := scLowL.nd
    refine ⟨_, pss_cons (ps_par (i := 2) (j := 3) rfl nd rfl rfl (by decide) rfl rfl (pa_cons (pv 0) (pa_cons (pv 1) pa_nil)) (by rfl))
      (pss_cons (ps_while PassesOwn.never (pt_cmpR op_gt (pv 3) pe_int (nomark _)) (pss_one (ps_par (i := 2) (j := 3) rfl nd rfl rfl (by decide) rfl rfl (pa_cons (pv 3) (pa_cons (pe_op op_mod (pe_callTy call_int1 (by rfl) T.int (by decide +kernel) (pa_cons (pv 2) pa_nil)) (pv 3)) pa_nil)) (by rfl))))
      (pss_one (ps_ret (pe_tup (pa_cons (pe_op op_fdivW (pv 0) (pv 2)) (pa_cons (pe_op op_fdivW (pv 1) (pv 2)) pa_nil)))))), ?_⟩
    refine ⟨_, rfl, _, rfl, _, _, rfl, ?_⟩
    refine ⟨fun m σ H' => ∃ u v : Nat, σ = [some (.int a), some (.int b), some (.int u), some (.int v)] ∧ H' = H ∧ v = m ∧ Nat.gcd u v = Nat.gcd a b ∧ 0 < u ∧ u < 2 ^ 2000 ∧ v < 2 ^ 2000, ⟨b, a, b, rfl, rfl, rfl, rfl, ha, la, lb⟩, fun m σ H' h => ?_⟩
    obtain ⟨u, v, rfl, rfl, rfl, g, u0, ul, vl⟩ := h
    refine ⟨_, rfl, _, _, rfl, rfl, _, rfl, ?_⟩
    by_cases z : v = 0
    · subst z
      rw [decide_eq_false (show ¬ (0 : Int) < ((0 : Nat) : Int) by omega)]
      refine iteF ?_
      rw [Nat.gcd_zero_right] at g
      subst g
      refine ⟨_, rfl, _, rfl, _, _, rfl, rfl, wide_div (by omega) (show ((Nat.gcd a b : Nat) : Int).natAbs < 2 ^ 2000 by rw [Int.natAbs_natCast]; exact ul) (by decide) (by decide), _, rfl, _, rfl, _, _, rfl, rfl, wide_div (by omega) (show ((Nat.gcd a b : Nat) : Int).natAbs < 2 ^ 2000 by rw [Int.natAbs_natCast]; exact ul) (by decide) (by decide), by show 2 ≤ sizeLine; decide, fun p np => ?_⟩
      exact q p _ (low_div ha hb) (Ex.new np) np (.inl (by rw [upd_same]; rfl))
    · rw [decide_eq_true (show (0 : Int) < (v : Int) by omega)]
      refine iteT ?_
      refine ⟨fun σ' H'' => σ' = [some (.int a), some (.int b), some (.int v), some (.int (u % v : Nat))] ∧ H'' = H', fun σ' H'' h => ?_, ?_⟩
      · obtain ⟨rfl, rfl⟩ := h
        refine ⟨u % v, Nat.mod_lt _ (by omega), v, u % v, rfl, rfl, rfl, ?_, by omega, by omega, Nat.lt_trans (Nat.mod_lt _ (by omega)) vl⟩
        rw [← g, Nat.gcd_comm u v, Nat.gcd_rec v u, Nat.gcd_comm]
      · refine ⟨_, rfl, _, rfl, .inl ⟨_, rfl, _, rfl, _, _, rfl, rfl, (show (0 : Int) < v by omega), _, _, rfl, rfl, rfl⟩⟩
theorem lt190 {a : Nat} (h : a < 2 ^ 190) : a < 2 ^ 2000 := Nat.lt_of_lt_of_le h (Nat.pow_le_pow_right (by decide) (by decide))
/-- is_amount of amounts -/
def spAmtR (C : Addr) : Sp := fun vs H Q _ => ∃ (a : Addr) (m : Ms) (v : V) (x : Am), vs = [.ref a, v] ∧ SclAt H a C m ∧ m.ok ∧ m.has x ∧ AmV H v x ∧ ∀ H', Ex H H' → Q (.bl true) H'
def spBelow (C : Addr) : Sp := fun vs H Q _ => ∃ (a : Addr) (m : Ms) (v u : V) (x y : Am), vs = [.ref a, v, u] ∧ SclAt H a C m ∧ m.has x ∧ m.has y ∧ x.wide ∧ y.wide ∧ AmV H v x ∧ AmV H u y ∧ Q (.bl (decide (amLt x y))) H
theorem ok_below {f : Addr} {fd : FuncData} (F : Fun K "_below" "Scale._below" sBelow f fd) (Z : ClsK K C) : FnOk P w K mg base CX0 1 f fd ["self", "amount", "other"] (spBelow C) := by
  refine F.ok scBelow (fun vs H Q E h => ?_) (fun cdv A outer s H vs Q E hr h => ?_)
  · obtain ⟨a, m, v, u, x, y, rfl, _⟩ := h
    rfl
  · obtain ⟨a, m, v, u, x, y, rfl, ⟨dx, fs, ha, hw, hs, hn⟩, hx, hy, wx, wy, vx, uy, q⟩ := h
    have hu : (A.deeper (envOfC "Scale._below" (defScope sBelow) s.heap.objs.size f cdv)).units < cLine := by have := hr.un; omega
    refine ⟨_, pss_cons (ps_if (pt_cmpR op_eq (pe_fld (pv 0) (by rfl)) pe_str (nomark _)) (pss_one (ps_ret (pe_cmpR op_lt (pe_op op_mulW (pe_ix ix_tup (pv 1) pe_int (fun _ _ => rfl)) (pe_ix ix_tup (pv 2) pe_int (fun _ _ => rfl))) (pe_op op_mulW (pe_ix ix_tup (pv 2) pe_int (fun _ _ => rfl)) (pe_ix ix_tup (pv 1) pe_int (fun _ _ => rfl))) (nomark _)))) pss_nil)
      (pss_one (ps_ret (pe_cmpR (op_lt.or (op_ltT hu)) (pv 1) (pv 2) (nomark _)))), ?_⟩
    refine ⟨_, rfl, a, C, dx, fs, _, rfl, ha, Z.cls, Z.nw, hw, rfl, _, rfl, ?_⟩
    rw [word_odds]
    cases m with
    | sums =>
      cases x <;> first | exact hx.elim | skip
      cases y <;> first | exact hy.elim | skip
      obtain rfl := vx
      obtain rfl := uy
      exact ⟨_, rfl, _, rfl, .inl ⟨_, _, rfl, rfl, q⟩⟩
    | classes k =>
      cases x <;> first | exact hx.elim | skip
      cases y <;> first | exact hy.elim | skip
      obtain ⟨a, rfl, ha⟩ := vx
      obtain ⟨b, rfl, hb⟩ := uy
      refine ⟨_, rfl, _, rfl, .inr ⟨_, _, _, _, rfl, rfl, .inl ha, .inl hb, ?_⟩⟩
      rename_i as bs
      have : decide (amLt (.c as) (.c bs)) = HT.lexLt as bs := by
        by_cases z : HT.lexLt as bs = true
        · rw [z]; exact decide_eq_true z
        · rw [Bool.eq_false_iff.mpr z]; exact decide_eq_false z
      rw [this] at q
      exact q
    | odds =>
      cases x <;> first | exact hx.elim | skip
      cases y <;> first | exact hy.elim | skip
      obtain ⟨a, rfl, ha⟩ := vx
      obtain ⟨b, rfl, hb⟩ := uy
      rename_i x y
      refine ⟨_, rfl, a, _, 0, _, rfl, rfl, .inl ha, rfl, _, rfl, b, _, 1, _, rfl, rfl, .inl hb, rfl, _, _, rfl, rfl, cmulW wx.1 wy.2, _, rfl, b, _, 0, _, rfl, rfl, .inl hb, rfl, _, rfl, a, _, 1, _, rfl, rfl, .inl ha, rfl, _, _, rfl, rfl, cmulW wy.1 wx.2, _, _, rfl, rfl, ?_⟩
      have : decide (amLt (.o x) (.o y)) = decide (((x.1.1 : Nat) : Int) * ((y.1.2 : Nat) : Int) < ((y.1.1 : Nat) : Int) * ((x.1.2 : Nat) : Int)) := by
        show decide (x.1.1 * y.1.2 < y.1.1 * x.1.2) = _
        rw [← Int.natCast_mul, ← Int.natCast_mul]
        by_cases z : x.1.1 * y.1.2 < y.1.1 * x.1.2
        · rw [decide_eq_true z, decide_eq_true (Int.ofNat_lt.mpr z)]
        · rw [decide_eq_false z, decide_eq_false fun h => z (Int.ofNat_lt.mp h)]
      rw [this] at q
      exact q
/-- all of them are amounts: nothing is raised -/
def spChkAll (C : Addr) : Sp := fun vs H Q _ => ∃ (a p : Addr) (m : Ms) (ps : List (V × Am)), vs = [.ref a, .ref p] ∧ SclAt H a C m ∧ m.ok ∧ AmsT H p m ps ∧ ps.length ≤ 1000 ∧ ∀ H', Ex H H' → Q .non H'
theorem ok_chkAll {f : Addr} {fd : FuncData} (F : Fun K "_check_all" "Scale._check_all" sChkAll f fd) (Z : ClsK K C) (T : Blt mg) (Ia : Dm P w K mg base C 4 "is_amount" ["self", "value"] (spAmtR C)) : FnOk P w K mg base CX0 5 f fd ["self", "amounts"] (spChkAll C) := by
  refine F.ok scChkAll (fun vs H Q E h => ?_) (fun cdv A outer s H vs Q E hr h => ?_)
  · obtain ⟨a, p, m, ps, rfl, _⟩ := h
    rfl
  · obtain ⟨a, p, m, ps, rfl, sa, mok, hp, hl, q⟩ := h
    have nd := scChkAll.nd
    refine ⟨_, pss_one (ps_if (pw_or (pt_not (pt_val (pe_callB call_isi (by rfl) T.isinstance (by decide +kernel) (pa_cons (pv 1) (pa_cons (pe_bltn (v := .ty "tuple") (by rfl) T.tuple (by decide +kernel) rfl) pa_nil)))))
        (pw_or1 (pt_not (pt_val (pe_callB (cr_all rfl) (by rfl) T.all (by decide +kernel) (pa_cons (pe_lc (own := [("amount", 2)]) (g := gName 2) (tt := tYes) rfl nd (pi_tup (pv 1)) (blkOk_by (N := ["self", "amounts", "amount"]) (sc := defScope sChkAll) (by decide +kernel)) (fun _ _ _ _ _ => pg_name (i := 2) nd rfl (.inl rfl)) (fun _ _ _ _ _ => pts_nil)
          (fun _ _ _ _ _ => pe_meth (pv 0) Z.cls Ia.at_ Ia.G hr Ia.b .nil pass0 (pa_cons (pv 2) pa_nil))) pa_nil)))))).pt pss_never pss_nil), ?_⟩
    refine ⟨_, rfl, _, _, _, _, true, rfl, .ty _, tyRd hp.1, kit_ty (by decide +kernel), true, rfl, ?_⟩
    refine ⟨_, rfl, p, rfl, ⟨_, .inl hp.1⟩, fun D nD => lc_tup (xs := ps.map (·.1)) (fun i H' => Ex H H' ∧ H' D = some (.lst ((List.replicate i true).map V.bl)))
        ⟨Ex.new nD, upd_same⟩ (fun i H' _ h => .inl (h.1.rd hp.1)) (fun i x H' hx h => ?_) (fun H' h => ?_)⟩
    · obtain ⟨ex, eD⟩ := h
      rw [List.getElem?_map] at hx
      obtain ⟨r, hr, rfl⟩ := Option.map_eq_some_iff.mp hx
      obtain ⟨h1, h2, h3⟩ := hp.2 r (List.mem_of_getElem? hr)
      obtain ⟨dx, fs, ha, hw, hs, hn⟩ := id (ex.scl sa)
      refine ⟨rfl, _, rfl, a, dx, fs, rfl, ha, hn _ (by decide +kernel) (by decide +kernel), _, rfl, a, m, _, _, rfl, ex.scl sa, mok, h1, h3.ex ex, fun H2 e2 => ?_⟩
      refine ⟨_, e2 D _ eD, ?_, (ex.trans e2).mut nD, ?_⟩
      · rw [List.length_map, List.length_replicate]
        have := (List.getElem?_eq_some_iff.mp hr).1
        exact Nat.lt_of_lt_of_le (show i < 1001 by omega) (by decide)
      · rw [upd_same, List.replicate_succ', List.map_append]
        rfl
    · obtain ⟨ex, eD⟩ := h
      refine ⟨D, _, rfl, .inl (.inl eD), ?_⟩
      have : (List.replicate (List.map (fun q : V × Am => q.1) ps).length true).all id = true := by
        rw [List.all_eq_true]
        intro b hb
        exact (List.mem_replicate.mp hb).2
      rw [this]
      exact ⟨_, rfl, q _ ex⟩
end
/-- a staticmethod that the class has -/
structure Sm (P : Program) (w : World) (K : PySem.W.Frag) (mg : Str → Option Value) (base : Heap) (C : Addr) (mc : Value) (k : Nat) (m : Str) (ps : List Str) (sp : Sp) where
  p : Addr
  f : Addr
  fd : FuncData
  G : FnOk P w K mg base CX0 k f fd ps sp
  at_ : SMet K C mc m p f
  b : Binds K fd ps []
section
variable {P : Program} {w : World} {K : PySem.W.Frag} {mg : Str → Option Value} {base : Heap} {C : Addr} {mc : Value}
def spMadeL (C : Addr) : Sp := fun vs H Q _ => ∃ (p : Addr) (m : Ms), vs = [.ref p] ∧ MsV H p m ∧ m.ok ∧ ∀ a H', Ex H H' → H a = none → SclAt H' a C m → Q (.ref a) H'
theorem ok_madeL {f : Addr} {fd : FuncData} (F : Fun K "_law_made" "_law_made" sMadeL f fd) (gC : mg "Scale" = some (.ref C)) (rd : CRead K C mc) (Cs : Sm P w K mg base C mc 3 "classes" ["size"] (spClasses C)) (Ss : Sm P w K mg base C mc 3 "sums" [] (spNew C .sums)) (Os : Sm P w K mg base C mc 3 "odds" [] (spNew C .odds)) : FnG P w K mg base CX0 4 f fd ["_law_measure"] (spMadeL C) := by
  refine okG F scMadeL (fun vs H Q E h => ?_) (fun cdv A outer s H vs Q E hr h => ?_)
  · obtain ⟨p, m, rfl, _⟩ := h
    rfl
  · obtain ⟨p, m, rfl, hm, mok, q⟩ := h
    refine ⟨_, pss_cons (ps_if (pt_cmpR op_eq (pe_ix ix_tup (pv 0) pe_int (fun _ _ => rfl)) pe_str (nomark _)) (pss_one (ps_ret (pe_smeth (pe_glob (v := .ref C) (by rfl) gC rfl) rd Cs.at_ Cs.G hr.rm Cs.b .nil pass0 (pa_cons (pe_ix ix_tup (pv 0) pe_int (fun _ _ => rfl)) pa_nil)))) pss_nil)
      (pss_one (ps_ret (pe_ifExp (pt_cmpR op_eq (pe_ix ix_tup (pv 0) pe_int (fun _ _ => rfl)) pe_str (nomark _)) (pe_smeth0 (pe_glob (v := .ref C) (by rfl) gC rfl) rd Ss.at_ Ss.G hr.rm Ss.b .nil pass0) (pe_smeth0 (pe_glob (v := .ref C) (by rfl) gC rfl) rd Os.at_ Os.G hr.rm Os.b .nil pass0)))), ?_⟩
    refine ⟨_, rfl, p, _, 0, _, rfl, rfl, .inl hm, rfl, rfl, _, rfl, ?_⟩
    rw [word_classes]
    cases m with
    | sums =>
      refine ⟨_, rfl, p, _, 0, _, rfl, rfl, .inl hm, rfl, rfl, _, rfl, ?_⟩
      rw [word_sums]
      exact ⟨rfl, rfl, fun a H' e n s => q a H' e n s⟩
    | classes k =>
      exact ⟨rfl, _, rfl, p, _, 1, _, rfl, rfl, .inl hm, rfl, k, rfl, mok.1, mok.2, fun a H' e n s => q a H' e n s⟩
    | odds =>
      refine ⟨_, rfl, p, _, 0, _, rfl, rfl, .inl hm, rfl, rfl, _, rfl, ?_⟩
      rw [word_sums]
      exact ⟨rfl, rfl, fun a H' e n s => q a H' e n s⟩
end
end Gl

set_option exponentiation.threshold 10000
namespace Gl
open PySem PySem.Spec PyProof.Rows L2
/-! ### amounts added up -/
def Am.lim (b : Nat) : Am → Prop
  | .n i => i.natAbs < 2 ^ b
  | .c ns => ∀ n ∈ ns, n.natAbs < 2 ^ b
  | .o x => x.1.1 < 2 ^ b ∧ x.1.2 < 2 ^ b
theorem Am.near.lim : ∀ {x : Am}, x.near → x.lim 190
  | .n _, h => h
  | .c _, h => h
  | .o _, h => h
theorem Am.lim.near : ∀ {x : Am}, x.lim 190 → x.near
  | .n _, h => h
  | .c _, h => h
  | .o _, h => h
theorem pow_le2 {a b : Nat} (h : a ≤ b) : (2 : Nat) ^ a ≤ 2 ^ b := Nat.pow_le_pow_right (by decide) h
theorem Am.lim.mono {a b : Nat} (h : a ≤ b) : ∀ {x : Am}, x.lim a → x.lim b
  | .n _, z => Nat.lt_of_lt_of_le z (pow_le2 h)
  | .c _, z => fun n hn => Nat.lt_of_lt_of_le (z n hn) (pow_le2 h)
  | .o _, z => ⟨Nat.lt_of_lt_of_le z.1 (pow_le2 h), Nat.lt_of_lt_of_le z.2 (pow_le2 h)⟩
def red (a b : Nat) (ha : 0 < a) (hb : 0 < b) : Odds := ⟨(a / Nat.gcd a b, b / Nat.gcd a b), low_div ha hb⟩
theorem red_congr {a b c d : Nat} {ha : 0 < a} {hb : 0 < b} {hc : 0 < c} {hd : 0 < d} (e1 : a = c) (e2 : b = d) : red a b ha hb = red c d hc hd := by
  subst e1 e2
  rfl
def swapO (x : Odds) : Odds := ⟨(x.1.2, x.1.1), x.2.q0, x.2.p0, by rw [Nat.gcd_comm]; exact x.2.co⟩
def mulO (x y : Odds) : Odds := red (x.1.1 * y.1.1) (x.1.2 * y.1.2) (Nat.mul_pos x.2.p0 y.2.p0) (Nat.mul_pos x.2.q0 y.2.q0)
def Am.add : Am → Am → Am
  | .n i, .n j => .n (i + j)
  | .c a, .c b => .c (List.zipWith (· + ·) a b)
  | .o x, .o y => .o (mulO x y)
  | x, _ => x
def Am.neg : Am → Am
  | .n i => .n (-i)
  | .c a => .c (a.map fun x => -x)
  | .o x => .o (swapO x)
def Am.sub : Am → Am → Am
  | .n i, .n j => .n (i - j)
  | .c a, .c b => .c (List.zipWith (· - ·) a b)
  | .o x, .o y => .o (mulO x (swapO y))
  | x, _ => x
def sumA (m : Ms) (xs : List Am) : Am := xs.foldl Am.add m.zero
theorem red_val {a b : Nat} (ha : 0 < a) (hb : 0 < b) : (red a b ha hb).1.1 * b = a * (red a b ha hb).1.2 := by
  show a / Nat.gcd a b * b = a * (b / Nat.gcd a b)
  obtain ⟨c, hc⟩ := Nat.gcd_dvd_left a b
  obtain ⟨d, hd⟩ := Nat.gcd_dvd_right a b
  have g0 : 0 < Nat.gcd a b := Nat.gcd_pos_of_pos_left _ ha
  have e1 : a / Nat.gcd a b = c := Nat.div_eq_of_eq_mul_right g0 hc
  have e2 : b / Nat.gcd a b = d := Nat.div_eq_of_eq_mul_right g0 hd
  rw [e1, e2]
  calc c * b = c * (Nat.gcd a b * d) := by rw [← hd]
    _ = (Nat.gcd a b * c) * d := by rw [Nat.mul_left_comm, Nat.mul_assoc]
    _ = a * d := by rw [← hc]
theorem red_of {a b : Nat} (ha : 0 < a) (hb : 0 < b) {x : Odds} (h : x.1.1 * b = a * x.1.2) : x = red a b ha hb := by
  have r := red_val ha hb
  have : x.1.1 * (red a b ha hb).1.2 = (red a b ha hb).1.1 * x.1.2 := by
    apply Nat.eq_of_mul_eq_mul_right hb
    calc x.1.1 * (red a b ha hb).1.2 * b = (x.1.1 * b) * (red a b ha hb).1.2 := Nat.mul_right_comm ..
      _ = a * x.1.2 * (red a b ha hb).1.2 := by rw [h]
      _ = (a * (red a b ha hb).1.2) * x.1.2 := Nat.mul_right_comm ..
      _ = (red a b ha hb).1.1 * b * x.1.2 := by rw [r]
      _ = (red a b ha hb).1.1 * x.1.2 * b := Nat.mul_right_comm ..
  obtain ⟨e1, e2⟩ := low_eq x.2 (red a b ha hb).2 this
  exact Subtype.ext (Prod.ext e1 e2)
theorem red_low {p q : Nat} (h : Low p q) (hp : 0 < p) (hq : 0 < q) : red p q hp hq = ⟨(p, q), h⟩ := (red_of hp hq (x := ⟨(p, q), h⟩) rfl).symm
theorem mulO_one (x : Odds) : mulO one1 x = x := by
  unfold mulO
  exact (red_of _ _ (by show x.1.1 * (1 * x.1.2) = 1 * x.1.1 * x.1.2; rw [Nat.one_mul, Nat.one_mul])).symm
theorem zip_zero : ∀ (ns : List Int), List.zipWith (· + ·) (List.replicate ns.length (0 : Int)) ns = ns
  | [] => rfl
  | n :: ns => by
    rw [List.length_cons, List.replicate_succ, List.zipWith_cons_cons, zip_zero ns, Int.zero_add]
theorem zip_neg : ∀ (as bs : List Int), List.zipWith (· + ·) as (bs.map fun x => -x) = List.zipWith (· - ·) as bs
  | [], _ => by simp
  | _ :: _, [] => by simp
  | a :: as, b :: bs => by
    rw [List.map_cons, List.zipWith_cons_cons, List.zipWith_cons_cons, zip_neg as bs]
    rfl
theorem zip_zneg : ∀ (ns : List Int), List.zipWith (· - ·) (List.replicate ns.length (0 : Int)) ns = ns.map fun x => -x
  | [] => rfl
  | n :: ns => by
    rw [List.length_cons, List.replicate_succ, List.zipWith_cons_cons, zip_zneg ns, List.map_cons, Int.zero_sub]
section
variable {m : Ms}
theorem zero_add : ∀ {x : Am}, m.has x → m.zero.add x = x
  | .n i, h => by
    cases m with
    | sums => show Am.n (0 + i) = _; rw [Int.zero_add]
    | classes _ => exact h.elim
    | odds => exact h.elim
  | .c ns, h => by
    cases m with
    | sums => exact h.elim
    | classes k =>
      have e : ns.length = k := h
      subst e
      show Am.c _ = _
      rw [zip_zero]
    | odds => exact h.elim
  | .o x, h => by
    cases m with
    | sums => exact h.elim
    | classes _ => exact h.elim
    | odds => show Am.o (mulO one1 x) = _; rw [mulO_one]
theorem neg_has : ∀ {x : Am}, m.has x → m.has x.neg
  | .n i, h => by cases m <;> first | trivial | exact h.elim
  | .c ns, h => by
    cases m with
    | classes k => show (ns.map _).length = k; rw [List.length_map]; exact h
    | sums => exact h.elim
    | odds => exact h.elim
  | .o x, h => by cases m <;> first | trivial | exact h.elim
theorem add_has : ∀ {x y : Am}, m.has x → m.has y → m.has (x.add y)
  | .n i, .n j, h, _ => by cases m <;> first | trivial | exact h.elim
  | .c a, .c b, h, z => by
    cases m with
    | classes k =>
      show (List.zipWith _ a b).length = k
      have h1 : a.length = k := h
      have h2 : b.length = k := z
      rw [List.length_zipWith, h1, h2, Nat.min_self]
    | sums => exact h.elim
    | odds => exact h.elim
  | .o x, .o y, h, _ => by cases m <;> first | trivial | exact h.elim
  | .n _, .c _, h, _ => h
  | .n _, .o _, h, _ => h
  | .c _, .n _, h, _ => h
  | .c _, .o _, h, _ => h
  | .o _, .n _, h, _ => h
  | .o _, .c _, h, _ => h
theorem sub_is : ∀ {x y : Am}, m.has x → m.has y → x.sub y = x.add y.neg
  | .n i, .n j, _, _ => by show Am.n _ = Am.n _; rw [Int.sub_eq_add_neg]
  | .c a, .c b, _, _ => by show Am.c _ = Am.c _; rw [zip_neg]
  | .o x, .o y, _, _ => rfl
  | .n _, .c _, _, _ => rfl
  | .n _, .o _, _, _ => rfl
  | .c _, .n _, _, _ => rfl
  | .c _, .o _, _, _ => rfl
  | .o _, .n _, _, _ => rfl
  | .o _, .c _, _, _ => rfl
theorem sub_has {x y : Am} (hx : m.has x) (hy : m.has y) : m.has (x.sub y) := by rw [sub_is hx hy]; exact add_has hx (neg_has hy)
theorem neg_is {x : Am} (h : m.has x) : m.zero.sub x = x.neg := by rw [sub_is m.zero_has h, zero_add (neg_has h)]
theorem sum2 {x y : Am} (hx : m.has x) : sumA m [x, y] = x.add y := by
  show (m.zero.add x).add y = _
  rw [zero_add hx]
theorem neg_lim {b : Nat} : ∀ {x : Am}, x.lim b → x.neg.lim b
  | .n i, h => by show (-i).natAbs < _; rw [Int.natAbs_neg]; exact h
  | .c ns, h => fun n hn => by
    obtain ⟨y, hy, rfl⟩ := List.mem_map.mp hn
    rw [Int.natAbs_neg]
    exact h y hy
  | .o x, h => ⟨h.2, h.1⟩
theorem pow_add_le {a b : Nat} (ha : 1 ≤ a) (hb : 1 ≤ b) : (2 : Nat) ^ a + 2 ^ b ≤ 2 ^ (a + b) := by
  rw [Nat.pow_add]
  have h1 : 2 ≤ (2 : Nat) ^ a := by
    have := pow_le2 ha
    simpa using this
  have h2 : 2 ≤ (2 : Nat) ^ b := by
    have := pow_le2 hb
    simpa using this
  generalize (2 : Nat) ^ a = p at *
  generalize (2 : Nat) ^ b = q at *
  obtain ⟨p, rfl⟩ : ∃ k, p = k + 2 := ⟨p - 2, by omega⟩
  obtain ⟨q, rfl⟩ : ∃ k, q = k + 2 := ⟨q - 2, by omega⟩
  rw [Nat.add_mul, Nat.mul_add]
  have := Nat.zero_le (p * q)
  omega
theorem zip_mem {f : Int → Int → Int} : ∀ {as bs : List Int} {n : Int}, n ∈ List.zipWith f as bs → ∃ a ∈ as, ∃ b ∈ bs, n = f a b
  | [], _, _, h => by simp at h
  | _ :: _, [], _, h => by simp at h
  | a :: as, b :: bs, n, h => by
    rw [List.zipWith_cons_cons] at h
    rcases List.mem_cons.mp h with rfl | h
    · exact ⟨a, List.mem_cons_self .., b, List.mem_cons_self .., rfl⟩
    · obtain ⟨x, hx, y, hy, e⟩ := zip_mem h
      exact ⟨x, List.mem_cons_of_mem _ hx, y, List.mem_cons_of_mem _ hy, e⟩
theorem red_lt {p q c d : Nat} (hp : 0 < p) (hq : 0 < q) (h1 : p < c) (h2 : q < d) : (red p q hp hq).1.1 < c ∧ (red p q hp hq).1.2 < d :=
  ⟨Nat.lt_of_le_of_lt (Nat.div_le_self ..) h1, Nat.lt_of_le_of_lt (Nat.div_le_self ..) h2⟩
theorem add_lim {a b : Nat} (ha : 1 ≤ a) (hb : 1 ≤ b) : ∀ {x y : Am}, m.has x → m.has y → x.lim a → y.lim b → (x.add y).lim (a + b)
  | .n i, .n j, _, _, h1, h2 => by
    have h1 : i.natAbs < 2 ^ a := h1
    have h2 : j.natAbs < 2 ^ b := h2
    have := pow_add_le ha hb
    show (i + j).natAbs < _
    omega
  | .c xs, .c ys, _, _, h1, h2 => fun n hn => by
    obtain ⟨i, hi, j, hj, rfl⟩ := zip_mem hn
    have h1 := h1 i hi
    have h2 := h2 j hj
    have := pow_add_le ha hb
    omega
  | .o x, .o y, _, _, h1, h2 => by
    refine red_lt _ _ ?_ ?_
    · rw [Nat.pow_add]; exact Nat.mul_lt_mul'' h1.1 h2.1
    · rw [Nat.pow_add]; exact Nat.mul_lt_mul'' h1.2 h2.2
  | .n _, .c _, h, z, _, _ => by cases m <;> first | exact h.elim | exact z.elim
  | .n _, .o _, h, z, _, _ => by cases m <;> first | exact h.elim | exact z.elim
  | .c _, .n _, h, z, _, _ => by cases m <;> first | exact h.elim | exact z.elim
  | .c _, .o _, h, z, _, _ => by cases m <;> first | exact h.elim | exact z.elim
  | .o _, .n _, h, z, _, _ => by cases m <;> first | exact h.elim | exact z.elim
  | .o _, .c _, h, z, _, _ => by cases m <;> first | exact h.elim | exact z.elim
theorem sub_lim {a b : Nat} (ha : 1 ≤ a) (hb : 1 ≤ b) {x y : Am} (hx : m.has x) (hy : m.has y) (h1 : x.lim a) (h2 : y.lim b) : (x.sub y).lim (a + b) := by
  rw [sub_is hx hy]
  exact add_lim ha hb hx (neg_has hy) h1 (neg_lim h2)
theorem zero_lim (m : Ms) {b : Nat} (hb : 1 ≤ b) : m.zero.lim b := by
  have h := pow_le2 hb
  cases m with
  | sums => show (0 : Int).natAbs < 2 ^ b; simp; omega
  | classes k =>
    intro n hn
    rw [(List.mem_replicate.mp hn).2]
    simp; omega
  | odds => exact ⟨by show 1 < 2 ^ b; simp at h; omega, by show 1 < 2 ^ b; simp at h; omega⟩
theorem sum_has : ∀ {xs : List Am} {s : Am}, (∀ x ∈ xs, m.has x) → m.has s → m.has (xs.foldl Am.add s)
  | [], _, _, hs => hs
  | x :: xs, s, h, hs => sum_has (xs := xs) (fun y hy => h y (List.mem_cons_of_mem _ hy)) (add_has hs (h x (List.mem_cons_self ..)))
theorem sum_lim {a : Nat} (ha : 1 ≤ a) : ∀ {xs : List Am} {s : Am} {b : Nat}, 1 ≤ b → (∀ x ∈ xs, m.has x ∧ x.lim a) → m.has s → s.lim b → (xs.foldl Am.add s).lim (b + a * xs.length)
  | [], _, _, _, _, _, hs => hs
  | x :: xs, s, b, hb, h, ms, hs => by
    obtain ⟨h1, h2⟩ := h x (List.mem_cons_self ..)
    have := sum_lim ha (xs := xs) (b := b + a) (by omega) (fun y hy => h y (List.mem_cons_of_mem _ hy)) (add_has ms h1) (add_lim hb ha ms h1 hs h2)
    rw [List.length_cons, Nat.mul_succ, show b + (a * xs.length + a) = b + a + a * xs.length by omega]
    exact this
/-! the sums as the program finds them -/
theorem sum_n : ∀ (ns : List Int) (s : Int), (ns.map Am.n).foldl Am.add (.n s) = .n (s + ns.sum)
  | [], s => by simp
  | n :: ns, s => by
    rw [List.map_cons, List.foldl_cons]
    show (ns.map Am.n).foldl Am.add (.n (s + n)) = _
    rw [sum_n ns, List.sum_cons, Int.add_assoc]
theorem sum_c (k : Nat) : ∀ (rs : List (List Int)) (s : List Int), (∀ r ∈ rs, r.length = k) → s.length = k →
    (rs.map Am.c).foldl Am.add (.c s) = .c ((List.range k).map fun i => s.getD i 0 + (rs.map fun r => r.getD i 0).sum)
  | [], s, _, hs => by
    show Am.c s = _
    congr 1
    apply List.ext_getElem
    · rw [List.length_map, List.length_range, hs]
    · intro i h1 h2
      rw [List.getElem_map, List.getElem_range, List.getD_eq_getElem?_getD, List.getElem?_eq_getElem h1]
      simp
  | r :: rs, s, h, hs => by
    rw [List.map_cons, List.foldl_cons]
    show (rs.map Am.c).foldl Am.add (.c (List.zipWith (· + ·) s r)) = _
    have hr := h r (List.mem_cons_self ..)
    rw [sum_c k rs _ (fun y hy => h y (List.mem_cons_of_mem _ hy)) (by rw [List.length_zipWith, hs, hr, Nat.min_self])]
    congr 1
    apply List.map_congr_left
    intro i hi
    have il := List.mem_range.mp hi
    have e : (List.zipWith (· + ·) s r).getD i 0 = s.getD i 0 + r.getD i 0 := by
      rw [List.getD_eq_getElem?_getD, List.getD_eq_getElem?_getD, List.getD_eq_getElem?_getD, List.getElem?_zipWith, List.getElem?_eq_getElem (show i < s.length by omega), List.getElem?_eq_getElem (show i < r.length by omega)]
      rfl
    rw [e, List.map_cons, List.sum_cons, Int.add_assoc]
def prod (ns : List Nat) : Nat := ns.foldl (· * ·) 1
theorem foldl_mul : ∀ (ns : List Nat) (s : Nat), ns.foldl (· * ·) s = s * prod ns
  | [], s => by show s = s * 1; rw [Nat.mul_one]
  | n :: ns, s => by
    show ns.foldl (· * ·) (s * n) = s * ns.foldl (· * ·) (1 * n)
    rw [foldl_mul ns, foldl_mul ns, Nat.one_mul, Nat.mul_assoc]
theorem prod_cons (n : Nat) (ns : List Nat) : prod (n :: ns) = n * prod ns := by
  show ns.foldl (· * ·) (1 * n) = _
  rw [foldl_mul, Nat.one_mul]
theorem prod_pos : ∀ {ns : List Nat}, (∀ n ∈ ns, 0 < n) → 0 < prod ns
  | [], _ => Nat.one_pos
  | n :: ns, h => by
    rw [prod_cons]
    exact Nat.mul_pos (h n (List.mem_cons_self ..)) (prod_pos fun x hx => h x (List.mem_cons_of_mem _ hx))
theorem prod_lt {b : Nat} : ∀ {ns : List Nat}, (∀ n ∈ ns, n < 2 ^ b) → prod ns < 2 ^ (b * ns.length + 1)
  | [], _ => by show 1 < 2 ^ (b * 0 + 1); rw [Nat.mul_zero]; decide
  | n :: ns, h => by
    rw [prod_cons, List.length_cons, Nat.mul_succ, show b * ns.length + b + 1 = b + (b * ns.length + 1) by omega, Nat.pow_add]
    exact Nat.mul_lt_mul'' (h n (List.mem_cons_self ..)) (prod_lt fun x hx => h x (List.mem_cons_of_mem _ hx))
def tops (os : List Odds) : List Nat := os.map fun x => x.1.1
def bots (os : List Odds) : List Nat := os.map fun x => x.1.2
theorem tops_pos (os : List Odds) : 0 < prod (tops os) := prod_pos fun n hn => by obtain ⟨x, _, rfl⟩ := List.mem_map.mp hn; exact x.2.p0
theorem bots_pos (os : List Odds) : 0 < prod (bots os) := prod_pos fun n hn => by obtain ⟨x, _, rfl⟩ := List.mem_map.mp hn; exact x.2.q0
theorem sum_o : ∀ (os : List Odds) (s : Odds) (ha : 0 < s.1.1 * prod (tops os)) (hb : 0 < s.1.2 * prod (bots os)), (os.map Am.o).foldl Am.add (.o s) = .o (red (s.1.1 * prod (tops os)) (s.1.2 * prod (bots os)) ha hb)
  | [], s, ha, hb => by
    show Am.o s = _
    congr 1
    exact red_of _ _ (by show s.1.1 * (s.1.2 * 1) = s.1.1 * 1 * s.1.2; rw [Nat.mul_one, Nat.mul_one])
  | x :: os, s, ha, hb => by
    rw [List.map_cons, List.foldl_cons]
    show (os.map Am.o).foldl Am.add (.o (mulO s x)) = _
    have p1 := tops_pos os
    have p2 := bots_pos os
    rw [sum_o os (mulO s x) (Nat.mul_pos (mulO s x).2.p0 p1) (Nat.mul_pos (mulO s x).2.q0 p2)]
    congr 1
    apply red_of
    have v := red_val (Nat.mul_pos s.2.p0 x.2.p0) (Nat.mul_pos s.2.q0 x.2.q0)
    have v2 := red_val (Nat.mul_pos (mulO s x).2.p0 p1) (Nat.mul_pos (mulO s x).2.q0 p2)
    have e1 : prod (tops (x :: os)) = x.1.1 * prod (tops os) := prod_cons ..
    have e2 : prod (bots (x :: os)) = x.1.2 * prod (bots os) := prod_cons ..
    rw [e1, e2]
    generalize (red ((mulO s x).1.1 * prod (tops os)) ((mulO s x).1.2 * prod (bots os)) _ _).1.1 = p at *
    generalize (red ((mulO s x).1.1 * prod (tops os)) ((mulO s x).1.2 * prod (bots os)) _ _).1.2 = q at *
    have v' : (mulO s x).1.1 * (s.1.2 * x.1.2) = s.1.1 * x.1.1 * (mulO s x).1.2 := v
    have ht : 0 < (mulO s x).1.2 := (mulO s x).2.q0
    generalize (mulO s x).1.1 = u at *
    generalize (mulO s x).1.2 = t at *
    generalize prod (tops os) = A at *
    generalize prod (bots os) = B at *
    apply Nat.eq_of_mul_eq_mul_right ht
    calc p * (s.1.2 * (x.1.2 * B)) * t = (p * (t * B)) * (s.1.2 * x.1.2) := by ac_rfl
      _ = (u * A * q) * (s.1.2 * x.1.2) := by rw [v2]
      _ = (u * (s.1.2 * x.1.2)) * A * q := by ac_rfl
      _ = s.1.1 * x.1.1 * t * A * q := by rw [v']
      _ = s.1.1 * (x.1.1 * A) * q * t := by ac_rfl
end
end Gl

set_option exponentiation.threshold 10000
namespace Gl
open PySem PySem.Spec PyProof.Rows L2
abbrev sTimes : Stmt := topS 22
theorem scTimes : FnScope ["numbers", "product", "number"] ["numbers"] (defScope sTimes) := ⟨rfl, rfl, rfl, by decide +kernel, rfl, by decide +kernel, by decide +kernel⟩
abbrev sLowP : Stmt := topS 23
theorem scLowP : FnScope ["over", "under", "common"] ["over", "under"] (defScope sLowP) := ⟨rfl, rfl, rfl, by decide +kernel, rfl, by decide +kernel, by decide +kernel⟩
abbrev sOpp : Stmt := clsS 26
theorem scOpp : FnScope ["self", "amount", "part"] ["self", "amount"] (defScope sOpp) := ⟨rfl, rfl, rfl, by decide +kernel, rfl, by decide +kernel, by decide +kernel⟩
abbrev sSum : Stmt := clsS 25
theorem scSum : FnScope ["self", "amounts", "over", "under", "at", "part"] ["self", "amounts"] (defScope sSum) := ⟨rfl, rfl, rfl, by decide +kernel, rfl, by decide +kernel, by decide +kernel⟩
abbrev sPlusAll : Stmt := clsS 12
theorem scPlusAll : FnScope ["self", "amounts"] ["self", "amounts"] (defScope sPlusAll) := ⟨rfl, rfl, rfl, by decide +kernel, rfl, by decide +kernel, by decide +kernel⟩
abbrev sMinus : Stmt := clsS 13
theorem scMinus : FnScope ["self", "amount", "other"] ["self", "amount", "other"] (defScope sMinus) := ⟨rfl, rfl, rfl, by decide +kernel, rfl, by decide +kernel, by decide +kernel⟩
abbrev sNegM : Stmt := clsS 14
theorem scNegM : FnScope ["self", "amount"] ["self", "amount"] (defScope sNegM) := ⟨rfl, rfl, rfl, by decide +kernel, rfl, by decide +kernel, by decide +kernel⟩
abbrev sTwice : Stmt := clsS 15
theorem scTwice : FnScope ["self", "amount"] ["self", "amount"] (defScope sTwice) := ⟨rfl, rfl, rfl, by decide +kernel, rfl, by decide +kernel, by decide +kernel⟩
abbrev sPlus : Stmt := clsS 11
theorem scPlus : FnScope ["self", "amounts"] ((["self"] : List Str) ++ (["amounts"] : List Str)) (defScope sPlus) := ⟨rfl, rfl, rfl, by decide +kernel, rfl, by decide +kernel, by decide +kernel⟩
section
variable {X : Cx}
theorem cr_sumT (hc : X.calm = true) : CallR X (.builtin "sum") (rSumT X.K) := by
  rintro pins s σ H vs us Q I rv ⟨a, ns, rfl, hq, q⟩
  obtain ⟨u, rfl, ru⟩ := vals1 rv
  obtain rfl : u = Value.ref a := ru
  obtain ⟨its, r, ht, hz⟩ := I.tuple hq
  have ia := intsAre_of r
  obtain ⟨xs, e⟩ := ia.allInts.items
  have hn : numsOf (intItems xs).toList = ns := by rw [← e]; exact ia.numsOf
  rw [nums_intItems] at hn
  rw [e] at ht
  refine PySem.W.ktm_sumG (I.ok.hd hc) ht fun h' tk t' hk => ?_
  rw [preSum_eq, List.take_of_length_le (by simp), hn]
  exact ⟨.int _, H, I.kept (t' := tk) hk, ⟨_, rfl⟩, q⟩
end
section
variable {P : Program} {w : World} {K : PySem.W.Frag} {mg : Str → Option Value} {base : Heap} {C : Addr}
def natV (ns : List Nat) : List V := ns.map fun n => V.int (n : Nat)
def spTimes (K : PySem.W.Frag) : Sp := fun vs H Q _ => ∃ (L : Addr) (ns : List Nat) (b : Nat), vs = [.ref L] ∧ SqL K H L (natV ns) ∧ (∀ n ∈ ns, n < 2 ^ b) ∧ 1 ≤ b ∧ b * ns.length + 1 + b ≤ 900000 ∧ Q (.int (prod ns : Nat)) H
theorem prod_take {ns : List Nat} {i : Nat} {n : Nat} (h : ns[i]? = some n) : prod (ns.take (i + 1)) = prod (ns.take i) * n := by
  obtain ⟨l, e⟩ := List.getElem?_eq_some_iff.mp h
  unfold prod
  rw [List.take_succ, h, List.foldl_append]
  rfl
theorem ok_times {f : Addr} {fd : FuncData} (F : Fun K "_times" "_times" sTimes f fd) : FnOk P w K mg base CX0 1 f fd ["numbers"] (spTimes K) := by
  refine F.ok scTimes (fun vs H Q E h => ?_) (fun cdv A outer s H vs Q E hr h => ?_)
  · obtain ⟨L, ns, b, rfl, _⟩ := h
    rfl
  · obtain ⟨L, ns, b, rfl, hL, hb, b1, hz, q⟩ := h
    have nd := scTimes.nd
    refine ⟨_, pss_cons (ps_set (i := 1) nd rfl (.inl rfl) pe_int)
      (pss_cons (ps_for PassesOwn.never rfl (pi_list (pv 0)) (pg_name (i := 2) nd rfl (.inl rfl))
        (pss_one (ps_set (i := 1) nd rfl (.inl rfl) (pe_op op_mulW (pv 1) (pv 2)))))
      (pss_one (ps_ret (pv 1)))), ?_⟩
    refine ⟨_, rfl, L, rfl, ⟨_, hL⟩, ?_⟩
    refine for_list (xs := natV ns) (fun i σ H' => ∃ y2 : Option V, σ = [some (.ref L), some (.int (prod (ns.take i) : Nat)), y2] ∧ H' = H) ⟨none, rfl, rfl⟩ (fun i σ H' _ h => by obtain ⟨y, rfl, rfl⟩ := h; exact hL) (fun i x σ H' hx h => ?_) (fun σ H' h => ?_)
    · obtain ⟨y2, rfl, rfl⟩ := h
      unfold natV at hx
      rw [List.getElem?_map] at hx
      obtain ⟨n, hn, rfl⟩ := Option.map_eq_some_iff.mp hx
      refine ⟨_, rfl, _, rfl, _, _, rfl, rfl, ?_, some (.int (n : Nat)), ?_, rfl⟩
      · have h1 : prod (ns.take i) < 2 ^ (b * (ns.take i).length + 1) := prod_lt fun x hx => hb x (List.mem_of_mem_take hx)
        have h2 := hb n (List.mem_of_getElem? hn)
        have h3 : b * (ns.take i).length ≤ b * ns.length := Nat.mul_le_mul_left _ (by rw [List.length_take]; exact Nat.min_le_right _ _)
        exact wide_mul (a := b * (ns.take i).length + 1) (b := b) (by rw [Int.natAbs_natCast]; exact h1) (by rw [Int.natAbs_natCast]; exact h2) (by omega) (by omega) (by omega)
      · show [some (V.ref L), some (V.int ((prod (ns.take i) : Nat) * (n : Nat))), some (V.int (n : Nat))] = _
        rw [prod_take hn, Int.natCast_mul]
    · obtain ⟨y2, rfl, rfl⟩ := h
      refine ⟨_, rfl, ?_⟩
      unfold natV
      rw [List.length_map, List.take_length]
      exact q
def spLowP : Sp := fun vs H Q _ => ∃ (a b : Nat) (ha : 0 < a) (hb : 0 < b), vs = [.int (a : Nat), .int (b : Nat)] ∧ a < 2 ^ 8000 ∧ ∀ (p : Addr) H', Ex H H' → H p = none → Rd H' p (.tup (oddV (red a b ha hb))) → Q (.ref p) H'
theorem ok_lowP {f : Addr} {fd : FuncData} (F : Fun K "_lowest" "_lowest" sLowP f fd) (hg : mg "gcd" = some (.builtin "math.gcd")) : FnOk P w K mg base CX0 1 f fd ["over", "under"] spLowP := by
  refine F.ok scLowP (fun vs H Q E h => ?_) (fun cdv A outer s H vs Q E hr h => ?_)
  · obtain ⟨a, b, _, _, rfl, _⟩ := h
    rfl
  · obtain ⟨a, b, ha, hb, rfl, la, q⟩ := h
    have nd := scLowP.nd
    refine ⟨_, pss_cons (ps_set (i := 2) nd rfl (.inl rfl) (pe_callBfun cr_gcd (by rfl) hg (pa_cons (pv 0) (pa_cons (pv 1) pa_nil))))
      (pss_one (ps_ret (pe_tup (pa_cons (pe_op op_fdivW (pv 0) (pv 2)) (pa_cons (pe_op op_fdivW (pv 1) (pv 2)) pa_nil))))), ?_⟩
    have g0 : 0 < Nat.gcd a b := Nat.gcd_pos_of_pos_left _ ha
    have gl : Nat.gcd a b < 2 ^ 8000 := Nat.lt_of_le_of_lt (Nat.le_of_dvd ha (Nat.gcd_dvd_left ..)) la
    refine ⟨_, rfl, _, rfl, _, _, rfl, ?_⟩
    rw [Int.natAbs_natCast, Int.natAbs_natCast]
    have dv : ∀ i : Int, CDivW i ((Nat.gcd a b : Nat) : Int) := fun i => wide_div (b := 8000) (by omega) (by rw [Int.natAbs_natCast]; exact gl) (by decide) (by decide)
    refine ⟨_, rfl, _, rfl, _, _, rfl, rfl, dv _, _, rfl, _, rfl, _, _, rfl, rfl, dv _, by show 2 ≤ sizeLine; decide, fun p np => ?_⟩
    exact q p _ (Ex.new np) np (.inl (by rw [upd_same]; rfl))
def spOpp (C : Addr) : Sp := fun vs H Q _ => ∃ (a : Addr) (m : Ms) (v : V) (x : Am), vs = [.ref a, v] ∧ SclAt H a C m ∧ m.ok ∧ m.has x ∧ AmV H v x ∧ ∀ u H', Ex H H' → AmV H' u x.neg → Q u H'
theorem ok_opp {f : Addr} {fd : FuncData} (F : Fun K "_opposite" "Scale._opposite" sOpp f fd) (Z : ClsK K C) (T : Blt mg) : FnOk P w K mg base CX0 1 f fd ["self", "amount"] (spOpp C) := by
  refine F.ok scOpp (fun vs H Q E h => ?_) (fun cdv A outer s H vs Q E hr h => ?_)
  · obtain ⟨a, m, v, x, rfl, _⟩ := h
    rfl
  · obtain ⟨a, m, v, x, rfl, ⟨dx, fs, ha, hw, hs, hn⟩, mok, hx, vx, q⟩ := h
    have nd := scOpp.nd
    refine ⟨_, pss_cons (ps_if (pt_cmpR op_eq (pe_fld (pv 0) (by rfl)) pe_str (nomark _)) (pss_one (ps_ret (pe_un un_neg (pv 1)))) pss_nil)
      (pss_cons (ps_if (pt_cmpR op_eq (pe_fld (pv 0) (by rfl)) pe_str (nomark _)) (pss_one (ps_ret (pe_tup (pa_cons (pe_ix ix_tup (pv 1) pe_int (fun _ _ => rfl)) (pa_cons (pe_ix ix_tup (pv 1) pe_int (fun _ _ => rfl)) pa_nil))))) pss_nil)
      (pss_one (ps_ret (pe_callTy call_tupleF (by rfl) T.tuple (by decide +kernel) (pa_cons (pe_lc (own := [("part", 2)]) (g := gName 2) (tt := tYes) rfl nd (pi_tup (pv 1)) (blkOk_by (N := ["self", "amount", "part"]) (sc := defScope sOpp) (by decide +kernel)) (fun _ _ _ _ _ => pg_name (i := 2) nd rfl (.inl rfl)) (fun _ _ _ _ _ => pts_nil)
          (fun _ _ _ _ _ => pe_un un_neg (pv 2))) pa_nil))))), ?_⟩
    refine ⟨_, rfl, a, C, dx, fs, _, rfl, ha, Z.cls, Z.nw, hw, rfl, _, rfl, ?_⟩
    rw [word_sums]
    cases m with
    | sums =>
      cases x <;> first | exact hx.elim | skip
      obtain rfl := vx
      exact ⟨_, rfl, _, rfl, q _ H (Ex.refl H) rfl⟩
    | classes k =>
      refine ⟨_, rfl, a, C, dx, fs, _, rfl, ha, Z.cls, Z.nw, hw, rfl, _, rfl, ?_⟩
      rw [word_odds]
      cases x <;> first | exact hx.elim | skip
      rename_i ns
      obtain ⟨b, rfl, hb⟩ := vx
      have len : ns.length = k := hx
      have k4 := mok.2
      refine ⟨_, rfl, b, rfl, ⟨_, .inl hb⟩, fun D nD => lc_tup (xs := ns.map V.int) (fun i H' => Ex H H' ∧ H' D = some (.lst ((ns.take i).map fun n => V.int (-n))))
        ⟨Ex.new nD, upd_same⟩ (fun i H' _ h => .inl (h.1.rd hb)) (fun i y H' hy h => ?_) (fun H' h => ?_)⟩
      · obtain ⟨ex, eD⟩ := h
        rw [List.getElem?_map] at hy
        obtain ⟨n, hn, rfl⟩ := Option.map_eq_some_iff.mp hy
        refine ⟨rfl, _, rfl, _, rfl, _, eD, ?_, ex.mut nD, ?_⟩
        · rw [List.length_map, List.length_take]
          exact Nat.lt_of_lt_of_le (show min i ns.length < 100 by omega) (by decide)
        · rw [upd_same, List.take_succ, hn, List.map_append]
          rfl
      · obtain ⟨ex, eD⟩ := h
        refine ⟨D, _, rfl, .inl (.inl eD), fun t ob nt _ => ?_⟩
        refine q _ _ (ex.trans (Ex.new nt)) ⟨t, rfl, .inr ⟨ob, ?_⟩⟩
        rw [upd_same, List.length_map, List.take_length, List.map_map]
        rfl
    | odds =>
      refine ⟨_, rfl, a, C, dx, fs, _, rfl, ha, Z.cls, Z.nw, hw, rfl, _, rfl, ?_⟩
      rw [word_odds]
      cases x <;> first | exact hx.elim | skip
      rename_i x
      obtain ⟨b, rfl, hb⟩ := vx
      refine ⟨_, rfl, b, _, 1, _, rfl, rfl, .inl hb, rfl, _, rfl, b, _, 0, _, rfl, rfl, .inl hb, rfl, by show 2 ≤ sizeLine; decide, fun p np => ?_⟩
      exact q _ _ (Ex.new np) ⟨p, rfl, .inl upd_same⟩
end
end Gl

set_option exponentiation.threshold 10000
namespace Gl
open PySem PySem.Spec PyProof.Rows L2
/-- a tuple of amounts of at most b bits -/
def AmsL (H : Hp) (p : Addr) (m : Ms) (b : Nat) (ps : List (V × Am)) : Prop := Rd H p (.tup (ps.map (·.1))) ∧ ∀ q ∈ ps, m.has q.2 ∧ q.2.lim b ∧ AmV H q.1 q.2
theorem Ex.amsL {H H' : Hp} {p : Addr} {m : Ms} {b : Nat} {ps : List (V × Am)} (e : Ex H H') (h : AmsL H p m b ps) : AmsL H' p m b ps := ⟨e.rd h.1, fun q hq => let ⟨a, b, c⟩ := h.2 q hq; ⟨a, b, c.ex e⟩⟩
theorem Am.lim.wide : ∀ {x : Am}, x.lim 2000 → x.wide
  | .n _, _ => trivial
  | .c _, _ => trivial
  | .o _, h => h
theorem AmsL.t {H : Hp} {p : Addr} {m : Ms} {b : Nat} {ps : List (V × Am)} (h : AmsL H p m b ps) (hb : b ≤ 2000) : AmsT H p m ps := ⟨h.1, fun q hq => let ⟨x, y, z⟩ := h.2 q hq; ⟨x, (y.mono hb).wide, z⟩⟩
section
variable {H : Hp}
theorem as_n : ∀ {ps : List (V × Am)}, (∀ q ∈ ps, Ms.sums.has q.2 ∧ AmV H q.1 q.2) → ∃ ns : List Int, ps.map (·.1) = ns.map V.int ∧ ps.map (·.2) = ns.map Am.n
  | [], _ => ⟨[], rfl, rfl⟩
  | (v, x) :: ps, h => by
    obtain ⟨ns, e1, e2⟩ := as_n (ps := ps) fun q hq => h q (List.mem_cons_of_mem _ hq)
    obtain ⟨h1, h2⟩ := h (v, x) (List.mem_cons_self ..)
    cases x <;> first | exact h1.elim | skip
    rename_i i
    have h2 : v = .int i := h2
    subst h2
    exact ⟨i :: ns, by rw [List.map_cons, List.map_cons, e1], by rw [List.map_cons, List.map_cons, e2]⟩
theorem as_c {k : Nat} : ∀ {ps : List (V × Am)}, (∀ q ∈ ps, (Ms.classes k).has q.2 ∧ AmV H q.1 q.2) → ∃ rs : List (Addr × List Int), ps.map (·.1) = rs.map (fun r => V.ref r.1) ∧ ps.map (·.2) = (rs.map (·.2)).map Am.c ∧ ∀ r ∈ rs, r.2.length = k ∧ Rd H r.1 (.tup (r.2.map V.int))
  | [], _ => ⟨[], rfl, rfl, fun _ z => nomatch z⟩
  | (v, x) :: ps, h => by
    obtain ⟨rs, e1, e2, e3⟩ := as_c (ps := ps) fun q hq => h q (List.mem_cons_of_mem _ hq)
    obtain ⟨h1, h2⟩ := h (v, x) (List.mem_cons_self ..)
    cases x <;> first | exact h1.elim | skip
    rename_i ns
    obtain ⟨p, e, rd⟩ := h2
    have e : v = .ref p := e
    subst e
    refine ⟨(p, ns) :: rs, by rw [List.map_cons, List.map_cons, e1], by rw [List.map_cons, List.map_cons, List.map_cons, e2], fun r hr => ?_⟩
    rcases List.mem_cons.mp hr with rfl | hr
    · exact ⟨h1, rd⟩
    · exact e3 r hr
theorem as_o {b : Nat} : ∀ {ps : List (V × Am)}, (∀ q ∈ ps, Ms.odds.has q.2 ∧ q.2.lim b ∧ AmV H q.1 q.2) → ∃ rs : List (Addr × Odds), ps.map (·.1) = rs.map (fun r => V.ref r.1) ∧ ps.map (·.2) = (rs.map (·.2)).map Am.o ∧ ∀ r ∈ rs, Rd H r.1 (.tup (oddV r.2)) ∧ r.2.1.1 < 2 ^ b ∧ r.2.1.2 < 2 ^ b
  | [], _ => ⟨[], rfl, rfl, fun _ z => nomatch z⟩
  | (v, x) :: ps, h => by
    obtain ⟨rs, e1, e2, e3⟩ := as_o (ps := ps) fun q hq => h q (List.mem_cons_of_mem _ hq)
    obtain ⟨h1, h0, h2⟩ := h (v, x) (List.mem_cons_self ..)
    cases x <;> first | exact h1.elim | skip
    rename_i o
    obtain ⟨p, e, rd⟩ := h2
    have e : v = .ref p := e
    subst e
    refine ⟨(p, o) :: rs, by rw [List.map_cons, List.map_cons, e1], by rw [List.map_cons, List.map_cons, List.map_cons, e2], fun r hr => ?_⟩
    rcases List.mem_cons.mp hr with rfl | hr
    · exact ⟨rd, h0⟩
    · exact e3 r hr
end
section
variable {P : Program} {w : World} {K : PySem.W.Frag} {mg : Str → Option Value} {base : Heap} {C : Addr}
abbrev atScope : Scope := { kind := .function, names := [(".0", .local), ("at", .cell), ("sum", .globalImplicit), ("amounts", .cell)], isGenerator := false, isCoroutine := false }
def spSum (C : Addr) : Sp := fun vs H Q _ => ∃ (a p : Addr) (m : Ms) (b : Nat) (ps : List (V × Am)), vs = [.ref a, .ref p] ∧ SclAt H a C m ∧ m.ok ∧ AmsL H p m b ps ∧ 1 ≤ b ∧ b * ps.length + 1 + b ≤ 8000 ∧ ps.length ≤ 1000 ∧ ∀ v H', Ex H H' → AmV H' v (sumA m (ps.map (·.2))) → Q v H'
theorem ok_sum {f : Addr} {fd : FuncData} (F : Fun K "_sum" "Scale._sum" sSum f fd) (Z : ClsK K C) (T : Blt mg) (ts : mg "sum" = none) (Ti : Df P w K mg base 1 "_times" ["numbers"] (spTimes K)) (Lp : Df P w K mg base 1 "_lowest" ["over", "under"] spLowP) : FnOk P w K mg base CX0 2 f fd ["self", "amounts"] (spSum C) := by
  refine F.ok scSum (fun vs H Q E h => ?_) (fun cdv A outer s H vs Q E hr h => ?_)
  · obtain ⟨a, p, m, b, ps, rfl, _⟩ := h
    rfl
  · obtain ⟨a, p, m, b, ps, rfl, ⟨dx, fs, ha, hw, hs, hn⟩, mok, hp, b1, hz, hl, q⟩ := h
    have nd := scSum.nd
    have hr0 := hr.mono (show 1 ≤ 1 by decide)
    refine ⟨_, pss_cons (ps_if (pt_cmpR op_eq (pe_fld (pv 0) (by rfl)) pe_str (nomark _)) (pss_one (ps_ret (pe_callB (cr_sumT rfl) (by rfl) ts (by decide +kernel) (pa_cons (pv 1) pa_nil)))) pss_nil)
      (pss_cons (ps_if (pt_cmpR op_eq (pe_fld (pv 0) (by rfl)) pe_str (nomark _)) (pss_one (ps_ret (pe_callTy call_tupleF (by rfl) T.tuple (by decide +kernel) (pa_cons (pe_lc (own := [("at", 4)]) (g := gName 4) (tt := tYes) rfl nd (pi_range1 rfl T.range (pa_cons (pe_fld (pv 0) (by rfl)) pa_nil)) (blkOk_by (N := ["self", "amounts", "over", "under", "at", "part"]) (sc := defScope sSum) (by decide +kernel)) (fun _ _ _ _ _ => pg_name (i := 4) nd rfl (.inr rfl)) (fun _ _ _ _ _ => pts_nil)
          (fun _ _ _ _ _ => pe_callB (id := "sum") (r := rSum K) (cr_sum rfl) (by rfl) ts (by decide +kernel) (pa_cons (pe_lc (wi := iTup K (tVar 1)) (own := [("part", 5)]) (g := gName 5) (tt := tYes) rfl nd (pi_tup (pv 1)) (blkOk_by (N := ["self", "amounts", "over", "under", "at", "part"]) (sc := atScope) (by decide +kernel)) (fun _ _ _ _ _ => pg_name (i := 5) nd rfl (.inl rfl)) (fun _ _ _ _ _ => pts_nil)
          (fun _ _ _ _ _ => pe_ix (r := rIxT K) ix_tup (pv 5) (pv 4) (fun _ _ => rfl))) pa_nil))) pa_nil)))) pss_nil)
      (pss_cons (ps_set (i := 2) nd rfl (.inl rfl) (pe_call Ti.G hr0 (by rfl) Ti.g Ti.kp Ti.b .nil pass0 (pa_cons (pe_lc (own := [("part", 5)]) (g := gName 5) (tt := tYes) rfl nd (pi_tup (pv 1)) (blkOk_by (N := ["self", "amounts", "over", "under", "at", "part"]) (sc := defScope sSum) (by decide +kernel)) (fun _ _ _ _ _ => pg_name (i := 5) nd rfl (.inl rfl)) (fun _ _ _ _ _ => pts_nil)
          (fun _ _ _ _ _ => pe_ix (r := rIxT K) ix_tup (pv 5) pe_int (fun _ _ => rfl))) pa_nil)))
      (pss_cons (ps_set (i := 3) nd rfl (.inl rfl) (pe_call Ti.G hr0 (by rfl) Ti.g Ti.kp Ti.b .nil pass0 (pa_cons (pe_lc (own := [("part", 5)]) (g := gName 5) (tt := tYes) rfl nd (pi_tup (pv 1)) (blkOk_by (N := ["self", "amounts", "over", "under", "at", "part"]) (sc := defScope sSum) (by decide +kernel)) (fun _ _ _ _ _ => pg_name (i := 5) nd rfl (.inl rfl)) (fun _ _ _ _ _ => pts_nil)
          (fun _ _ _ _ _ => pe_ix (r := rIxT K) ix_tup (pv 5) pe_int (fun _ _ => rfl))) pa_nil)))
      (pss_one (ps_ret (pe_call Lp.G hr0 (by rfl) Lp.g Lp.kp Lp.b .nil pass0 (pa_cons (pv 2) (pa_cons (pv 3) pa_nil)))))))), ?_⟩
    refine ⟨_, rfl, a, C, dx, fs, _, rfl, ha, Z.cls, Z.nw, hw, rfl, _, rfl, ?_⟩
    rw [word_sums]
    cases m with
    | sums =>
      obtain ⟨ns, e1, e2⟩ := as_n fun q hq => ⟨(hp.2 q hq).1, (hp.2 q hq).2.2⟩
      refine ⟨_, rfl, p, ns, rfl, .inl (by rw [← e1]; exact hp.1), q _ H (Ex.refl H) ?_⟩
      rw [e2]
      show AmV H _ ((ns.map Am.n).foldl Am.add (.n 0))
      rw [sum_n, Int.zero_add]
      rfl
    | classes k =>
      refine ⟨_, rfl, a, C, dx, fs, _, rfl, ha, Z.cls, Z.nw, hw, rfl, _, rfl, ?_⟩
      rw [word_classes]
      obtain ⟨rs, e1, e2, e3⟩ := as_c fun q hq => ⟨(hp.2 q hq).1, (hp.2 q hq).2.2⟩
      have k1 := mok.1
      have k4 := mok.2
      have lr : rs.length = ps.length := by have := congrArg List.length e1; rw [List.length_map, List.length_map] at this; exact this.symm
      have rp : Rd H p (.tup (rs.map fun r => V.ref r.1)) := by rw [← e1]; exact hp.1
      refine ⟨_, rfl, a, C, dx, fs, _, rfl, ha, Z.cls, Z.ns, hs, k, rfl, by omega, by omega, fun D nD => ?_⟩
      refine lc_range (n := k) (fun i H' => Ex H H' ∧ H' D = some (.lst ((List.range i).map fun at_ => V.int (rs.map fun r => r.2.getD at_ 0).sum)))
        ⟨Ex.new nD, upd_same⟩ (fun i H1 hi h => ?_) (fun H1 h => ?_)
      · obtain ⟨ex, eD⟩ := h
        refine ⟨rfl, _, rfl, p, rfl, ⟨_, .inl (ex.rd rp)⟩, fun D2 nD2 => lc_tup (xs := rs.map fun r => V.ref r.1) (fun j H' => Ex H1 H' ∧ H' D2 = some (.lst ((rs.take j).map fun r => V.int (r.2.getD i 0))))
          ⟨Ex.new nD2, upd_same⟩ (fun j H' _ h => .inl ((ex.trans h.1).rd rp)) (fun j y H' hy h => ?_) (fun H' h => ?_)⟩
        · obtain ⟨ex2, eD2⟩ := h
          rw [List.getElem?_map] at hy
          obtain ⟨r, hr, rfl⟩ := Option.map_eq_some_iff.mp hy
          obtain ⟨l1, rd⟩ := e3 r (List.mem_of_getElem? hr)
          have il : i < r.2.length := by omega
          have jl := (List.getElem?_eq_some_iff.mp hr).1
          refine ⟨rfl, _, rfl, _, rfl, r.1, _, _, .int (r.2.getD i 0), rfl, rfl, .inl ((ex.trans ex2).rd rd), ?_, _, eD2, ?_, ex2.mut nD2, ?_⟩
          · rw [Int.zero_add]
            exact atI_nat (by rw [List.getElem?_map, List.getD_eq_getElem?_getD, List.getElem?_eq_getElem il]; rfl)
          · rw [List.length_map, List.length_take]
            exact Nat.lt_of_lt_of_le (show min j rs.length < 1001 by omega) (by decide)
          · rw [upd_same, List.take_succ, hr, List.map_append]
            rfl
        · obtain ⟨ex2, eD2⟩ := h
          rw [List.length_map, List.take_length] at eD2
          refine ⟨D2, rs.map fun r => r.2.getD i 0, rfl, .inl (.inl (by rw [List.map_map]; exact eD2)), _, ex2 D _ eD, ?_, (ex.trans ex2).mut nD, ?_⟩
          · rw [List.length_map, List.length_range]
            exact Nat.lt_of_lt_of_le (show i < 100 by omega) (by decide)
          · rw [upd_same, List.range_succ, List.map_append]
            rfl
      · obtain ⟨ex, eD⟩ := h
        refine ⟨D, _, rfl, .inl (.inl eD), fun t ob nt _ => ?_⟩
        refine q _ _ (ex.trans (Ex.new nt)) ?_
        rw [e2]
        show AmV _ _ (((rs.map (·.2)).map Am.c).foldl Am.add (.c (List.replicate k 0)))
        rw [sum_c k _ _ (fun r hr => by obtain ⟨z, hz, rfl⟩ := List.mem_map.mp hr; exact (e3 z hz).1) List.length_replicate]
        refine ⟨t, rfl, .inr ⟨ob, ?_⟩⟩
        rw [upd_same, List.map_map]
        congr 3
        apply List.map_congr_left
        intro i hi
        have il := List.mem_range.mp hi
        show V.int (rs.map fun r => r.2.getD i 0).sum = V.int ((List.replicate k (0 : Int)).getD i 0 + ((rs.map (·.2)).map fun r => r.getD i 0).sum)
        have e0 : (List.replicate k (0 : Int)).getD i 0 = 0 := by rw [List.getD_eq_getElem?_getD, List.getElem?_replicate, if_pos il]; rfl
        rw [e0, List.map_map, Int.zero_add]
        rfl
    | odds =>
      refine ⟨_, rfl, a, C, dx, fs, _, rfl, ha, Z.cls, Z.nw, hw, rfl, _, rfl, ?_⟩
      rw [word_classes]
      obtain ⟨rs, e1, e2, e3⟩ := as_o (b := b) fun q hq => hp.2 q hq
      have lr : rs.length = ps.length := by have := congrArg List.length e1; rw [List.length_map, List.length_map] at this; exact this.symm
      have rp : Rd H p (.tup (rs.map fun r => V.ref r.1)) := by rw [← e1]; exact hp.1
      have lt : (tops (rs.map (·.2))).length = ps.length := by unfold tops; rw [List.length_map, List.length_map, lr]
      have lb : (bots (rs.map (·.2))).length = ps.length := by unfold bots; rw [List.length_map, List.length_map, lr]
      have ht : ∀ n ∈ tops (rs.map (·.2)), n < 2 ^ b := fun n hn => by
        obtain ⟨x, hx, rfl⟩ := List.mem_map.mp hn
        obtain ⟨r, hr, rfl⟩ := List.mem_map.mp hx
        exact (e3 r hr).2.1
      have hb : ∀ n ∈ bots (rs.map (·.2)), n < 2 ^ b := fun n hn => by
        obtain ⟨x, hx, rfl⟩ := List.mem_map.mp hn
        obtain ⟨r, hr, rfl⟩ := List.mem_map.mp hx
        exact (e3 r hr).2.2
      refine ⟨_, rfl, p, rfl, ⟨_, .inl rp⟩, fun D nD => lc_tup (xs := rs.map fun r => V.ref r.1) (fun j H' => Ex H H' ∧ H' D = some (.lst ((rs.take j).map fun r => V.int (r.2.1.1 : Nat))))
          ⟨Ex.new nD, upd_same⟩ (fun j H' _ h => .inl (h.1.rd rp)) (fun j y H' hy h => ?_) (fun H1 h => ?_)⟩
      · obtain ⟨ex2, eD2⟩ := h
        rw [List.getElem?_map] at hy
        obtain ⟨r, hr, rfl⟩ := Option.map_eq_some_iff.mp hy
        have jl := (List.getElem?_eq_some_iff.mp hr).1
        refine ⟨rfl, _, rfl, r.1, _, 0, _, rfl, rfl, .inl (ex2.rd (e3 r (List.mem_of_getElem? hr)).1), rfl, _, eD2, ?_, ex2.mut nD, ?_⟩
        · rw [List.length_map, List.length_take]
          exact Nat.lt_of_lt_of_le (show min j rs.length < 1001 by omega) (by decide)
        · rw [upd_same, List.take_succ, hr, List.map_append]
          rfl
      · obtain ⟨ex1, eD1⟩ := h
        rw [List.length_map, List.take_length] at eD1
        refine ⟨D, tops (rs.map (·.2)), b, rfl, .inl (.inl (by rw [eD1]; unfold natV tops; rw [List.map_map, List.map_map]; rfl)), ht, b1, by rw [lt]; omega, ?_⟩
        refine ⟨_, rfl, p, rfl, ⟨_, .inl (ex1.rd rp)⟩, fun D2 nD2 => lc_tup (xs := rs.map fun r => V.ref r.1) (fun j H' => Ex H H' ∧ H' D2 = some (.lst ((rs.take j).map fun r => V.int (r.2.1.2 : Nat))))
          ⟨ex1.trans (Ex.new nD2), upd_same⟩ (fun j H' _ h => .inl (h.1.rd rp)) (fun j y H' hy h => ?_) (fun H2 h => ?_)⟩
        · obtain ⟨ex2, eD2⟩ := h
          rw [List.getElem?_map] at hy
          obtain ⟨r, hr, rfl⟩ := Option.map_eq_some_iff.mp hy
          have jl := (List.getElem?_eq_some_iff.mp hr).1
          refine ⟨rfl, _, rfl, r.1, _, 1, _, rfl, rfl, .inl (ex2.rd (e3 r (List.mem_of_getElem? hr)).1), rfl, _, eD2, ?_, ex2.mut (ex1.back nD2), ?_⟩
          · rw [List.length_map, List.length_take]
            exact Nat.lt_of_lt_of_le (show min j rs.length < 1001 by omega) (by decide)
          · rw [upd_same, List.take_succ, hr, List.map_append]
            rfl
        · obtain ⟨ex2, eD2⟩ := h
          rw [List.length_map, List.take_length] at eD2
          refine ⟨D2, bots (rs.map (·.2)), b, rfl, .inl (.inl (by rw [eD2]; unfold natV bots; rw [List.map_map, List.map_map]; rfl)), hb, b1, by rw [lb]; omega, ?_⟩
          refine ⟨_, rfl, _, rfl, prod (tops (rs.map (·.2))), prod (bots (rs.map (·.2))), tops_pos _, bots_pos _, rfl, ?_, fun pt H3 e3 np rd => ?_⟩
          · refine Nat.lt_of_lt_of_le (prod_lt ht) (pow_le2 ?_)
            rw [lt]; omega
          · refine q _ _ (ex2.trans e3) ?_
            rw [e2]
            show AmV _ _ (((rs.map (·.2)).map Am.o).foldl Am.add (.o one1))
            rw [sum_o _ one1 (by show 0 < 1 * _; rw [Nat.one_mul]; exact tops_pos _) (by show 0 < 1 * _; rw [Nat.one_mul]; exact bots_pos _)]
            have e : red (one1.1.1 * prod (tops (rs.map (·.2)))) (one1.1.2 * prod (bots (rs.map (·.2)))) (by show 0 < 1 * _; rw [Nat.one_mul]; exact tops_pos _) (by show 0 < 1 * _; rw [Nat.one_mul]; exact bots_pos _) = red (prod (tops (rs.map (·.2)))) (prod (bots (rs.map (·.2)))) (tops_pos _) (bots_pos _) := red_congr (Nat.one_mul _) (Nat.one_mul _)
            rw [e]
            exact ⟨pt, rfl, rd⟩
end
end Gl

set_option exponentiation.threshold 10000
namespace Gl
open PySem PySem.Spec PyProof.Rows L2
theorem amsL1 {H : Hp} {t : Addr} {m : Ms} {b : Nat} {v : V} {x : Am} (hx : m.has x) (lx : x.lim b) (vx : AmV H v x) (ht : Rd H t (.tup [v])) : AmsL H t m b [(v, x)] := ⟨ht, fun q hq => by
  rw [List.mem_singleton.mp hq]
  exact ⟨hx, lx, vx⟩⟩
theorem amsL2 {H : Hp} {t : Addr} {m : Ms} {b : Nat} {v u : V} {x y : Am} (hx : m.has x) (lx : x.lim b) (vx : AmV H v x) (hy : m.has y) (ly : y.lim b) (uy : AmV H u y) (ht : Rd H t (.tup [v, u])) : AmsL H t m b [(v, x), (u, y)] := ⟨ht, fun q hq => by
  rcases List.mem_cons.mp hq with rfl | hq
  · exact ⟨hx, lx, vx⟩
  · rw [List.mem_singleton.mp hq]
    exact ⟨hy, ly, uy⟩⟩
section
variable {P : Program} {w : World} {K : PySem.W.Frag} {mg : Str → Option Value} {base : Heap} {C : Addr}
def spPlusAll (C : Addr) : Sp := fun vs H Q _ => ∃ (a p : Addr) (m : Ms) (b : Nat) (ps : List (V × Am)), vs = [.ref a, .ref p] ∧ SclAt H a C m ∧ m.ok ∧ AmsL H p m b ps ∧ 1 ≤ b ∧ b ≤ 2000 ∧ b * ps.length + 1 + b ≤ 8000 ∧ ps.length ≤ 1000 ∧ ∀ v H', Ex H H' → AmV H' v (sumA m (ps.map (·.2))) → Q v H'
theorem ok_plusAll {f : Addr} {fd : FuncData} (F : Fun K "plus_all" "Scale.plus_all" sPlusAll f fd) (Z : ClsK K C) (Ca : Dm P w K mg base C 5 "_check_all" ["self", "amounts"] (spChkAll C)) (Su : Dm P w K mg base C 2 "_sum" ["self", "amounts"] (spSum C)) : FnOk P w K mg base CX0 6 f fd ["self", "amounts"] (spPlusAll C) := by
  refine F.ok scPlusAll (fun vs H Q E h => ?_) (fun cdv A outer s H vs Q E hr h => ?_)
  · obtain ⟨a, p, m, b, ps, rfl, _⟩ := h
    rfl
  · obtain ⟨a, p, m, b, ps, rfl, sa, mok, hp, b1, b2, hz, hl, q⟩ := h
    have r2 := hr.mono (show 2 ≤ 5 by decide)
    refine ⟨_, pss_cons (ps_expr (pe_meth (pv 0) Z.cls Ca.at_ Ca.G hr Ca.b .nil pass0 (pa_cons (pv 1) pa_nil)))
      (pss_one (ps_ret (pe_meth (pv 0) Z.cls Su.at_ Su.G r2 Su.b .nil pass0 (pa_cons (pv 1) pa_nil)))), ?_⟩
    obtain ⟨dx, fs, ha, n1⟩ := sa.no (x := "_check_all") (by decide +kernel) (by decide +kernel)
    refine ⟨_, rfl, a, dx, fs, rfl, ha, n1, _, rfl, a, p, m, ps, rfl, sa, mok, hp.t b2, hl, fun H1 e1 => ?_⟩
    obtain ⟨dx, fs, ha, n2⟩ := (e1.scl sa).no (x := "_sum") (by decide +kernel) (by decide +kernel)
    exact ⟨_, rfl, a, dx, fs, rfl, ha, n2, _, rfl, a, p, m, b, ps, rfl, e1.scl sa, mok, e1.amsL hp, b1, hz, hl, fun v H' e vv => q v H' (e1.trans e) vv⟩
def spPlus (C : Addr) : Sp := fun vs H Q _ => ∃ (a : Addr) (m : Ms) (b : Nat) (ps : List (V × Am)), vs = .ref a :: ps.map (·.1) ∧ SclAt H a C m ∧ m.ok ∧ (∀ q ∈ ps, m.has q.2 ∧ q.2.lim b ∧ AmV H q.1 q.2) ∧ 1 ≤ b ∧ b ≤ 2000 ∧ b * ps.length + 1 + b ≤ 8000 ∧ ps.length ≤ 1000 ∧ ∀ v H', Ex H H' → AmV H' v (sumA m (ps.map (·.2))) → Q v H'
theorem ok_plus {f : Addr} {fd : FuncData} (F : Fun K "plus" "Scale.plus" sPlus f fd) (Z : ClsK K C) (Pl : Dm P w K mg base C 6 "plus_all" ["self", "amounts"] (spPlusAll C)) : FnR P w K mg base CX0 7 f (spPlus C) := by
  obtain ⟨oc, od, kV, doc, pm, an, cdv, ct, osl, rfl, lk, hc⟩ := F.ex
  refine FnR.imp (StX.fn_star (sp := spPlusAll C) (ps := (["self"] : List Str)) (pv := "amounts") lk hc scPlus StX.cxUp_none (StX.bind_star1 (p1 := "self") (pv := "amounts") (B := fun us => bindArgs (PySem.W.fnOf _ _ _ _ _ _ kV doc pm an cdv ct) ⟨us, []⟩) (fun _ => rfl) (fun _ _ _ => rfl)) (fun A outer s H vs Q E hr h => ?_)) fun vs H Q E h => ?_
  · have sh := h
    obtain ⟨a, p, m, b, ps, rfl, sa, _⟩ := h
    refine ⟨_, pss_one (ps_ret (pe_meth (pv 0) Z.cls Pl.at_ Pl.G hr Pl.b .nil pass0 (pa_cons (pv 1) pa_nil))), ?_⟩
    obtain ⟨dx, fs, ha, n1⟩ := sa.no (x := "plus_all") (by decide +kernel) (by decide +kernel)
    exact ⟨_, rfl, a, dx, fs, rfl, ha, n1, _, rfl, sh⟩
  · obtain ⟨a, m, b, ps, rfl, sa, mok, hp, b1, b2, hz, hl, q⟩ := h
    refine ⟨[.ref a], ps.map (·.1), rfl, rfl, by rw [List.length_map]; exact Nat.le_trans hl (by decide), fun p np => ?_⟩
    have xt := Ex.new (o := .tup (ps.map (·.1))) np
    exact ⟨a, p, m, b, ps, rfl, xt.scl sa, mok, ⟨.inl upd_same, fun r hr => let ⟨h1, h2, h3⟩ := hp r hr; ⟨h1, h2, h3.ex xt⟩⟩, b1, b2, hz, hl, fun v H' e => q v H' (xt.trans e)⟩
def spMinus (C : Addr) : Sp := fun vs H Q _ => ∃ (a : Addr) (m : Ms) (b : Nat) (v u : V) (x y : Am), vs = [.ref a, v, u] ∧ SclAt H a C m ∧ m.ok ∧ 1 ≤ b ∧ b ≤ 2000 ∧ m.has x ∧ m.has y ∧ x.lim b ∧ y.lim b ∧ AmV H v x ∧ AmV H u y ∧ ∀ r H', Ex H H' → AmV H' r (x.sub y) → Q r H'
theorem ok_minus {f : Addr} {fd : FuncData} (F : Fun K "minus" "Scale.minus" sMinus f fd) (Z : ClsK K C) (Ca : Dm P w K mg base C 5 "_check_all" ["self", "amounts"] (spChkAll C)) (Su : Dm P w K mg base C 2 "_sum" ["self", "amounts"] (spSum C)) (Op : Dm P w K mg base C 1 "_opposite" ["self", "amount"] (spOpp C)) : FnOk P w K mg base CX0 6 f fd ["self", "amount", "other"] (spMinus C) := by
  refine F.ok scMinus (fun vs H Q E h => ?_) (fun cdv A outer s H vs Q E hr h => ?_)
  · obtain ⟨a, m, b, v, u, x, y, rfl, _⟩ := h
    rfl
  · obtain ⟨a, m, b, v, u, x, y, rfl, sa, mok, b1, b2, hx, hy, lx, ly, vx, uy, q⟩ := h
    have r1 := hr.mono (show 1 ≤ 5 by decide)
    have r2 := hr.mono (show 2 ≤ 5 by decide)
    refine ⟨_, pss_cons (ps_expr (pe_meth (pv 0) Z.cls Ca.at_ Ca.G hr Ca.b .nil pass0 (pa_cons (pe_tup (pa_cons (pv 1) (pa_cons (pv 2) pa_nil))) pa_nil)))
      (pss_one (ps_ret (pe_meth (pv 0) Z.cls Su.at_ Su.G r2 Su.b .nil pass0 (pa_cons (pe_tup (pa_cons (pv 1) (pa_cons (pe_meth (pv 0) Z.cls Op.at_ Op.G r1 Op.b .nil pass0 (pa_cons (pv 2) pa_nil)) pa_nil))) pa_nil)))), ?_⟩
    obtain ⟨dx, fs, ha, n1⟩ := sa.no (x := "_check_all") (by decide +kernel) (by decide +kernel)
    refine ⟨_, rfl, a, dx, fs, rfl, ha, n1, _, rfl, _, rfl, by show 2 ≤ sizeLine; decide, fun t nt => ?_⟩
    have xt := Ex.new (o := .tup [v, u]) nt
    refine ⟨a, t, m, [(v, x), (u, y)], rfl, xt.scl sa, mok, (amsL2 hx lx (vx.ex xt) hy ly (uy.ex xt) (.inl upd_same)).t b2, by show 2 ≤ 1000; decide, fun H1 e1 => ?_⟩
    have e2 := xt.trans e1
    obtain ⟨dx, fs, ha, n2⟩ := (e2.scl sa).no (x := "_sum") (by decide +kernel) (by decide +kernel)
    refine ⟨_, rfl, a, dx, fs, rfl, ha, n2, _, rfl, ?_⟩
    obtain ⟨dx, fs, ha, n3⟩ := (e2.scl sa).no (x := "_opposite") (by decide +kernel) (by decide +kernel)
    refine ⟨_, rfl, a, dx, fs, rfl, ha, n3, _, rfl, a, m, u, y, rfl, e2.scl sa, mok, hy, uy.ex e2, fun z H2 e3 vz => ?_⟩
    refine ⟨by show 2 ≤ sizeLine; decide, fun t2 nt2 => ?_⟩
    have e4 := e2.trans e3
    have xt2 := Ex.new (o := .tup [v, z]) nt2
    have e5 := e4.trans xt2
    refine ⟨a, t2, m, b, [(v, x), (z, y.neg)], rfl, e5.scl sa, mok, amsL2 hx lx (vx.ex e5) (neg_has hy) (neg_lim ly) (vz.ex xt2) (.inl upd_same), b1, by show b * 2 + 1 + b ≤ 8000; omega, by show 2 ≤ 1000; decide, fun r H' e vr => q r H' (e5.trans e) ?_⟩
    rw [sub_is hx hy]
    rw [show [(v, x), (z, y.neg)].map (·.2) = [x, y.neg] from rfl, sum2 hx] at vr
    exact vr
def spNegM (C : Addr) : Sp := fun vs H Q _ => ∃ (a : Addr) (m : Ms) (b : Nat) (v : V) (x : Am), vs = [.ref a, v] ∧ SclAt H a C m ∧ m.ok ∧ b ≤ 2000 ∧ m.has x ∧ x.lim b ∧ AmV H v x ∧ ∀ r H', Ex H H' → AmV H' r x.neg → Q r H'
theorem ok_negM {f : Addr} {fd : FuncData} (F : Fun K "negative" "Scale.negative" sNegM f fd) (Z : ClsK K C) (Ca : Dm P w K mg base C 5 "_check_all" ["self", "amounts"] (spChkAll C)) (Op : Dm P w K mg base C 1 "_opposite" ["self", "amount"] (spOpp C)) : FnOk P w K mg base CX0 6 f fd ["self", "amount"] (spNegM C) := by
  refine F.ok scNegM (fun vs H Q E h => ?_) (fun cdv A outer s H vs Q E hr h => ?_)
  · obtain ⟨a, m, b, v, x, rfl, _⟩ := h
    rfl
  · obtain ⟨a, m, b, v, x, rfl, sa, mok, b2, hx, lx, vx, q⟩ := h
    have r1 := hr.mono (show 1 ≤ 5 by decide)
    refine ⟨_, pss_cons (ps_expr (pe_meth (pv 0) Z.cls Ca.at_ Ca.G hr Ca.b .nil pass0 (pa_cons (pe_tup (pa_cons (pv 1) pa_nil)) pa_nil)))
      (pss_one (ps_ret (pe_meth (pv 0) Z.cls Op.at_ Op.G r1 Op.b .nil pass0 (pa_cons (pv 1) pa_nil)))), ?_⟩
    obtain ⟨dx, fs, ha, n1⟩ := sa.no (x := "_check_all") (by decide +kernel) (by decide +kernel)
    refine ⟨_, rfl, a, dx, fs, rfl, ha, n1, _, rfl, by show 1 ≤ sizeLine; decide, fun t nt => ?_⟩
    have xt := Ex.new (o := .tup [v]) nt
    refine ⟨a, t, m, [(v, x)], rfl, xt.scl sa, mok, (amsL1 hx lx (vx.ex xt) (.inl upd_same)).t b2, by show 1 ≤ 1000; decide, fun H1 e1 => ?_⟩
    have e2 := xt.trans e1
    obtain ⟨dx, fs, ha, n3⟩ := (e2.scl sa).no (x := "_opposite") (by decide +kernel) (by decide +kernel)
    exact ⟨_, rfl, a, dx, fs, rfl, ha, n3, _, rfl, a, m, v, x, rfl, e2.scl sa, mok, hx, vx.ex e2, fun z H2 e3 vz => q z H2 (e2.trans e3) vz⟩
def spTwice (C : Addr) : Sp := fun vs H Q _ => ∃ (a : Addr) (m : Ms) (b : Nat) (v : V) (x : Am), vs = [.ref a, v] ∧ SclAt H a C m ∧ m.ok ∧ 1 ≤ b ∧ b ≤ 2000 ∧ m.has x ∧ x.lim b ∧ AmV H v x ∧ ∀ r H', Ex H H' → AmV H' r (x.add x) → Q r H'
theorem ok_twice {f : Addr} {fd : FuncData} (F : Fun K "twice" "Scale.twice" sTwice f fd) (Z : ClsK K C) (Ca : Dm P w K mg base C 5 "_check_all" ["self", "amounts"] (spChkAll C)) (Su : Dm P w K mg base C 2 "_sum" ["self", "amounts"] (spSum C)) : FnOk P w K mg base CX0 6 f fd ["self", "amount"] (spTwice C) := by
  refine F.ok scTwice (fun vs H Q E h => ?_) (fun cdv A outer s H vs Q E hr h => ?_)
  · obtain ⟨a, m, b, v, x, rfl, _⟩ := h
    rfl
  · obtain ⟨a, m, b, v, x, rfl, sa, mok, b1, b2, hx, lx, vx, q⟩ := h
    have r2 := hr.mono (show 2 ≤ 5 by decide)
    refine ⟨_, pss_cons (ps_expr (pe_meth (pv 0) Z.cls Ca.at_ Ca.G hr Ca.b .nil pass0 (pa_cons (pe_tup (pa_cons (pv 1) pa_nil)) pa_nil)))
      (pss_one (ps_ret (pe_meth (pv 0) Z.cls Su.at_ Su.G r2 Su.b .nil pass0 (pa_cons (pe_tup (pa_cons (pv 1) (pa_cons (pv 1) pa_nil))) pa_nil)))), ?_⟩
    obtain ⟨dx, fs, ha, n1⟩ := sa.no (x := "_check_all") (by decide +kernel) (by decide +kernel)
    refine ⟨_, rfl, a, dx, fs, rfl, ha, n1, _, rfl, by show 1 ≤ sizeLine; decide, fun t nt => ?_⟩
    have xt := Ex.new (o := .tup [v]) nt
    refine ⟨a, t, m, [(v, x)], rfl, xt.scl sa, mok, (amsL1 hx lx (vx.ex xt) (.inl upd_same)).t b2, by show 1 ≤ 1000; decide, fun H1 e1 => ?_⟩
    have e2 := xt.trans e1
    obtain ⟨dx, fs, ha, n2⟩ := (e2.scl sa).no (x := "_sum") (by decide +kernel) (by decide +kernel)
    refine ⟨_, rfl, a, dx, fs, rfl, ha, n2, _, rfl, _, rfl, by show 2 ≤ sizeLine; decide, fun t2 nt2 => ?_⟩
    have xt2 := Ex.new (o := .tup [v, v]) nt2
    have e5 := e2.trans xt2
    refine ⟨a, t2, m, b, [(v, x), (v, x)], rfl, e5.scl sa, mok, amsL2 hx lx (vx.ex e5) hx lx (vx.ex e5) (.inl upd_same), b1, by show b * 2 + 1 + b ≤ 8000; omega, by show 2 ≤ 1000; decide, fun r H' e vr => q r H' (e5.trans e) ?_⟩
    rw [show [(v, x), (v, x)].map (·.2) = [x, x] from rfl, sum2 hx] at vr
    exact vr
end
end Gl

namespace Gl
open PySem PySem.Spec PyProof.Rows L2
abbrev sOrder : Stmt := clsS 28
theorem scOrder : FnScope ["self", "amounts", "order", "index", "amount", "low", "high", "middle"] ["self", "amounts"] (defScope sOrder) := ⟨rfl, rfl, rfl, by decide +kernel, rfl, by decide +kernel, by decide +kernel⟩
def keyOf (ps : List (V × Am)) (i : Nat) : Am := (ps.getD i (.non, .n 0)).2
theorem keyOf_eq {ps : List (V × Am)} {i : Nat} {r : V × Am} (h : ps[i]? = some r) : keyOf ps i = r.2 := by
  unfold keyOf
  rw [List.getD_eq_getElem?_getD, h]
  rfl
def nats (o : List Nat) : List V := o.map fun j => V.int (j : Nat)
abbrev OrdP (ps : List (V × Am)) (i : Nat) (o : List Nat) : Prop := Ord (lt := amLt) (k := keyOf ps) i o
theorem nats_at {o : List Nat} {m j : Nat} (h : o[m]? = some j) : atI (nats o) (m : Nat) = some (.int (j : Nat)) := atI_nat (by unfold nats; rw [List.getElem?_map, h]; rfl)
section
variable {P : Program} {w : World} {K : PySem.W.Frag} {mg : Str → Option Value} {base : Heap} {C : Addr}
def spOrder (C : Addr) : Sp := fun vs H Q _ => ∃ (a p : Addr) (m : Ms) (ps : List (V × Am)), vs = [.ref a, .ref p] ∧ SclAt H a C m ∧ m.ok ∧ AmsT H p m ps ∧ ps.length ≤ 1000 ∧
  ∀ (L : Addr) H' (o : List Nat), Ex H H' → H L = none → H' L = some (.lst (nats o)) → OrdP ps ps.length o → Q (.ref L) H'
theorem ok_order {f : Addr} {fd : FuncData} (F : Fun K "_order" "Scale._order" sOrder f fd) (Z : ClsK K C) (T : Blt mg) (te : mg "enumerate" = none) (Be : Dm P w K mg base C 1 "_below" ["self", "amount", "other"] (spBelow C)) : FnOk P w K mg base CX0 2 f fd ["self", "amounts"] (spOrder C) := by
  refine F.ok scOrder (fun vs H Q E h => ?_) (fun cdv A outer s H vs Q E hr h => ?_)
  · obtain ⟨a, p, m, ps, rfl, _⟩ := h
    rfl
  · obtain ⟨a, p, m, ps, rfl, sa, mok, hp, hl, q⟩ := h
    have nd := scOrder.nd
    refine ⟨_, pss_cons (ps_set (i := 2) nd rfl (.inl rfl) (pe_lst pa_nil))
      (pss_cons (ps_for PassesOwn.never rfl (pi_enumT (by rfl) te (pa_cons (pv 1) pa_nil)) (pg_tup rfl (pgs_cons (pg_name (i := 3) nd rfl (.inl rfl)) (pgs_cons (pg_name (i := 4) nd rfl (.inl rfl)) pgs_nil)))
        (pss_cons (ps_set (i := 5) nd rfl (.inl rfl) pe_int)
        (pss_cons (ps_set (i := 6) nd rfl (.inl rfl) (pe_callB call_len_seq (by rfl) T.len PySem.boot_len (pa_cons (pv 2) pa_nil)))
        (pss_cons (ps_while PassesOwn.never (pt_cmpR op_lt (pv 5) (pv 6) (nomark _))
          (pss_cons (ps_set (i := 7) nd rfl (.inl rfl) (pe_op op_fdiv (pe_op op_add (pv 5) (pv 6)) pe_int))
          (pss_one (ps_if (pt_val (pe_meth (pv 0) Z.cls Be.at_ Be.G hr Be.b .nil pass0 (pa_cons (pe_ix ix_tup (pv 1) (pe_ix ix_list (pv 2) (pv 7) (fun _ _ => rfl)) (fun _ _ => rfl)) (pa_cons (pv 4) pa_nil))))
            (pss_one (ps_set (i := 6) nd rfl (.inl rfl) (pv 7)))
            (pss_one (ps_set (i := 5) nd rfl (.inl rfl) (pe_op op_add (pv 7) pe_int)))))))
        (pss_one (ps_expr (pe_bm PySem.F.plainAttrs_list PySem.F.slot_list_insert PySem.F.type_list_insert mt_insert (pv 2) (pa_cons (pv 5) (pa_cons (pv 3) pa_nil)))))))))
      (pss_one (ps_ret (pv 2)))), ?_⟩
    refine ⟨by show 0 ≤ sizeLine; decide, fun L nL => ?_⟩
    have xL := Ex.new (o := .lst []) nL
    refine ⟨_, rfl, p, ps.map (·.1), rfl, .inl (xL.rd hp.1), ?_⟩
    refine for_enumT (xs := ps.map (·.1)) (fun i σ H' => ∃ (o : List Nat) (y3 y4 y5 y6 y7 : Option V), σ = [some (.ref a), some (.ref p), some (.ref L), y3, y4, y5, y6, y7] ∧ Ex H H' ∧ H' L = some (.lst (nats o)) ∧ OrdP ps i o)
      ⟨[], none, none, none, none, none, rfl, xL, upd_same, Ord.nil⟩ (fun i σ H' _ h => ?_) (fun i x σ H1 t hx h nt => ?_) (fun σ H' h => ?_)
    · obtain ⟨o, y3, y4, y5, y6, y7, rfl, ex, eL, ord⟩ := h
      exact .inl (ex.rd hp.1)
    · obtain ⟨o, y3, y4, y5, y6, y7, rfl, ex, eL, ord⟩ := h
      rw [List.getElem?_map] at hx
      obtain ⟨r, hr, rfl⟩ := Option.map_eq_some_iff.mp hx
      have il : i < ps.length := (List.getElem?_eq_some_iff.mp hr).1
      obtain ⟨r1, r2, r3⟩ := hp.2 r (List.mem_of_getElem? hr)
      have xt := Ex.new (o := .tup [.int (i : Nat), r.1]) nt
      have ext := ex.trans xt
      have eL2 := xt L _ eL
      have ki := keyOf_eq hr
      refine ⟨t, _, rfl, .inl (.inl upd_same), rfl, _, _, rfl, _, _, rfl, rfl, ?_⟩
      refine ⟨_, rfl, L, _, rfl, .inl (.inl (.inl eL2)), ?_⟩
      have ol : (nats o).length = o.length := List.length_map ..
      rw [ol]
      refine ⟨fun n σ' H' => ∃ (low high : Nat) (y7 : Option V), σ' = [some (.ref a), some (.ref p), some (.ref L), some (.int (i : Nat)), some r.1, some (.int (low : Nat)), some (.int (high : Nat)), y7] ∧ H' = upd H1 t (.tup [.int (i : Nat), r.1]) ∧ n = high - low ∧ low ≤ high ∧ high ≤ o.length ∧
          (∀ p x, p < low → o[p]? = some x → ¬ amLt (keyOf ps x) (keyOf ps i)) ∧ (∀ p x, high ≤ p → o[p]? = some x → amLt (keyOf ps x) (keyOf ps i)),
        ⟨_, 0, o.length, y7, rfl, rfl, rfl, Nat.zero_le _, Nat.le_refl _, fun p x z => absurd z (Nat.not_lt_zero _), fun p x z e => absurd (List.getElem?_eq_some_iff.mp e).1 (Nat.not_lt.mpr z)⟩, fun n σ' H' h => ?_⟩
      obtain ⟨low, high, y7, rfl, rfl, rfl, lh, ho, h1, h2⟩ := h
      refine ⟨_, rfl, _, rfl, _, _, rfl, rfl, _, rfl, ?_⟩
      by_cases c : low < high
      · rw [decide_eq_true (show (low : Int) < high by omega)]
        refine iteT ?_
        refine ⟨fun σ' H'' => ∃ (low' high' : Nat) (y7 : Option V), σ' = [some (.ref a), some (.ref p), some (.ref L), some (.int (i : Nat)), some r.1, some (.int (low' : Nat)), some (.int (high' : Nat)), y7] ∧ H'' = upd H1 t (.tup [.int (i : Nat), r.1]) ∧ high' - low' < high - low ∧ low' ≤ high' ∧ high' ≤ o.length ∧
          (∀ p x, p < low' → o[p]? = some x → ¬ amLt (keyOf ps x) (keyOf ps i)) ∧ (∀ p x, high' ≤ p → o[p]? = some x → amLt (keyOf ps x) (keyOf ps i)), fun σ' H'' h => ?_, ?_⟩
        · obtain ⟨low', high', y7, rfl, rfl, l, r⟩ := h
          exact ⟨_, l, low', high', y7, rfl, rfl, rfl, r⟩
        · refine ⟨_, rfl, _, rfl, _, _, rfl, rfl, _, _, rfl, rfl, ⟨by decide, by decide⟩, ?_⟩
          have ml : (low + high) / 2 < o.length := by omega
          generalize mid : (low + high) / 2 = mi at ml
          have em : ((low : Int) + (high : Int)) / 2 = (mi : Int) := by omega
          dsimp only
          rw [em]
          have eo : o[mi]? = some o[mi] := List.getElem?_eq_getElem ml
          generalize o[mi] = j at eo
          have ji := ord.lt_of (List.mem_of_getElem? eo)
          have ej : ps[j]? = some ps[j] := List.getElem?_eq_getElem (by omega)
          obtain ⟨j1, j2, j3⟩ := hp.2 _ (List.mem_of_getElem? ej)
          have kj := keyOf_eq ej
          obtain ⟨dx, fs, ha, hw, hs, hn⟩ := id (ext.scl sa)
          refine ⟨_, rfl, a, dx, fs, rfl, ha, hn _ (by decide +kernel) (by decide +kernel), ?_⟩
          refine ⟨_, rfl, _, rfl, _, rfl, L, _, (mi : Nat), _, rfl, rfl, .inl (.inl eL2), nats_at eo, ?_⟩
          refine ⟨p, _, (j : Nat), ps[j].1, rfl, rfl, .inl (ext.rd hp.1), atI_nat (by rw [List.getElem?_map, ej]; rfl), ?_⟩
          refine ⟨_, rfl, a, m, _, _, ps[j].2, r.2, rfl, ext.scl sa, j1, r1, j2, r2, j3.ex ext, r3.ex ext, ?_⟩
          rw [← kj, ← ki]
          refine ⟨_, rfl, ?_⟩
          -- all behind are not greater, all ahead not less
          have behind : ∀ q x, mi < q → o[q]? = some x → Bef amLt (keyOf ps) j x := fun q x z e => by
            obtain ⟨ql, e'⟩ := List.getElem?_eq_some_iff.mp e
            obtain ⟨ml', eo'⟩ := List.getElem?_eq_some_iff.mp eo
            have := List.pairwise_iff_getElem.mp ord.pw mi q ml' ql z
            rw [eo', e'] at this
            exact this
          have ahead : ∀ q x, q < mi → o[q]? = some x → Bef amLt (keyOf ps) x j := fun q x z e => by
            obtain ⟨ql, e'⟩ := List.getElem?_eq_some_iff.mp e
            obtain ⟨ml', eo'⟩ := List.getElem?_eq_some_iff.mp eo
            have := List.pairwise_iff_getElem.mp ord.pw q mi ql ml' z
            rw [eo', e'] at this
            exact this
          by_cases b : amLt (keyOf ps j) (keyOf ps i)
          · rw [decide_eq_true b]
            refine iteT ⟨_, rfl, low, mi, _, rfl, rfl, by omega, by omega, by omega, h1, fun q x z e => ?_⟩
            rcases Nat.lt_or_eq_of_le z with z | z
            · rcases behind q x z e with y | ⟨y, _⟩
              · exact am_lin.tr _ _ _ y b
              · rw [← y]; exact b
            · subst z
              rw [Option.some.inj (e.symm.trans eo)]; exact b
          · rw [decide_eq_false b]
            refine iteF ⟨_, rfl, _, _, rfl, rfl, mi + 1, high, _, rfl, rfl, by omega, by omega, ho, fun q x z e => ?_, h2⟩
            rcases Nat.lt_or_eq_of_le (Nat.lt_succ_iff.mp z) with z | z
            · rcases ahead q x z e with y | ⟨y, _⟩
              · exact fun t => b (am_lin.tr _ _ _ y t)
              · rw [y]; exact b
            · subst z
              rw [Option.some.inj (e.symm.trans eo)]; exact b
      · rw [decide_eq_false (show ¬ (low : Int) < high by omega)]
        refine iteF ?_
        have el : high = low := by omega
        subst el
        have len := ord.length
        refine ⟨_, rfl, .inl ⟨rfl, _, .inl (.inl eL2)⟩, _, rfl, _, rfl, L, _, (high : Nat), .int (i : Nat), rfl, rfl, eL2, ?_, by omega, by omega, ?_⟩
        · rw [ol]; exact Nat.lt_of_lt_of_le (show o.length < 1001 by omega) (by decide)
        · refine ⟨o.take high ++ i :: o.drop high, _, _, _, _, _, rfl, ext.mut nL, ?_, ord.put am_lin ho h1 h2⟩
          rw [upd_same, Int.toNat_natCast]
          unfold nats
          rw [List.map_append, List.map_cons, List.map_take, List.map_drop, List.append_assoc]
          rfl
    · obtain ⟨o, y3, y4, y5, y6, y7, rfl, ex, eL, ord⟩ := h
      rw [List.length_map] at ord
      exact ⟨_, rfl, q L H' o ex nL eL ord⟩
end
end Gl

namespace Gl
open PySem PySem.Spec PyProof.Rows L2
abbrev sIsLess : Stmt := clsS 16
abbrev sSignM : Stmt := clsS 17
abbrev sGreatest : Stmt := clsS 18
abbrev sRanked : Stmt := clsS 20
abbrev sRanks : Stmt := clsS 24
theorem scIsLess : FnScope ["self", "amount", "other"] ["self", "amount", "other"] (defScope sIsLess) := ⟨rfl, rfl, rfl, by decide +kernel, rfl, by decide +kernel, by decide +kernel⟩
theorem scSignM : FnScope ["self", "amount"] ["self", "amount"] (defScope sSignM) := ⟨rfl, rfl, rfl, by decide +kernel, rfl, by decide +kernel, by decide +kernel⟩
theorem scGreatest : FnScope ["self", "amounts"] ((["self"] : List Str) ++ (["amounts"] : List Str)) (defScope sGreatest) := ⟨rfl, rfl, rfl, by decide +kernel, rfl, by decide +kernel, by decide +kernel⟩
theorem scRanked : FnScope ["self", "amounts"] ["self", "amounts"] (defScope sRanked) := ⟨rfl, rfl, rfl, by decide +kernel, rfl, by decide +kernel, by decide +kernel⟩
theorem scRanks : FnScope ["self", "amounts"] ["self", "amounts"] (defScope sRanks) := ⟨rfl, rfl, rfl, by decide +kernel, rfl, by decide +kernel, by decide +kernel⟩
theorem ord_first {ps : List (V × Am)} {n j : Nat} {o : List Nat} (h : OrdP ps n o) (e : o[0]? = some j) {x : Nat} (l : x < n) : ¬ amLt (keyOf ps j) (keyOf ps x) := by
  obtain ⟨q, hq⟩ := h.has l
  obtain ⟨ql, e'⟩ := List.getElem?_eq_some_iff.mp hq
  obtain ⟨zl, e0⟩ := List.getElem?_eq_some_iff.mp e
  rcases Nat.eq_zero_or_pos q with rfl | z
  · rw [e0] at e'
    rw [e']
    exact am_lin.irr _
  · have b := List.pairwise_iff_getElem.mp h.pw 0 q zl ql z
    rw [e0, e'] at b
    rcases b with b | ⟨b, _⟩
    · exact am_lin.asym b
    · rw [b]; exact am_lin.irr _
theorem ord_last {ps : List (V × Am)} {n j : Nat} {o : List Nat} (h : OrdP ps n o) (e : o[n - 1]? = some j) {x : Nat} (l : x < n) : ¬ amLt (keyOf ps x) (keyOf ps j) := by
  obtain ⟨q, hq⟩ := h.has l
  obtain ⟨ql, e'⟩ := List.getElem?_eq_some_iff.mp hq
  obtain ⟨zl, e0⟩ := List.getElem?_eq_some_iff.mp e
  have len := h.length
  rcases Nat.lt_or_ge q (n - 1) with z | z
  · have b := List.pairwise_iff_getElem.mp h.pw q (n - 1) ql zl z
    rw [e0, e'] at b
    rcases b with b | ⟨b, _⟩
    · exact am_lin.asym b
    · rw [b]; exact am_lin.irr _
  · have : q = n - 1 := by omega
    subst this
    rw [e0] at e'
    rw [e']
    exact am_lin.irr _
theorem keyOf_mem {ps : List (V × Am)} {q : V × Am} (h : q ∈ ps) : ∃ i, i < ps.length ∧ keyOf ps i = q.2 := by
  obtain ⟨i, e⟩ := List.getElem?_of_mem h
  exact ⟨i, (List.getElem?_eq_some_iff.mp e).1, keyOf_eq e⟩
section
variable {P : Program} {w : World} {K : PySem.W.Frag} {mg : Str → Option Value} {base : Heap} {C : Addr}
def spRanks (C : Addr) : Sp := fun vs H Q _ => ∃ (a p : Addr) (m : Ms) (ps : List (V × Am)), vs = [.ref a, .ref p] ∧ SclAt H a C m ∧ m.ok ∧ AmsT H p m ps ∧ 1 ≤ ps.length ∧ ps.length ≤ 1000 ∧
  ∀ (L : Addr) H' (o : List Nat), Ex H H' → H L = none → H' L = some (.lst (nats o)) → OrdP ps ps.length o → Q (.ref L) H'
theorem ok_ranks {f : Addr} {fd : FuncData} (F : Fun K "_ranks" "Scale._ranks" sRanks f fd) (Z : ClsK K C) (T : Blt mg) (Ca : Dm P w K mg base C 5 "_check_all" ["self", "amounts"] (spChkAll C)) (Od : Dm P w K mg base C 2 "_order" ["self", "amounts"] (spOrder C)) : FnOk P w K mg base CX0 6 f fd ["self", "amounts"] (spRanks C) := by
  refine F.ok scRanks (fun vs H Q E h => ?_) (fun cdv A outer s H vs Q E hr h => ?_)
  · obtain ⟨a, p, m, ps, rfl, _⟩ := h
    rfl
  · obtain ⟨a, p, m, ps, rfl, sa, mok, hp, l1, hl, q⟩ := h
    refine ⟨_, pss_cons (ps_expr (pe_meth (pv 0) Z.cls Ca.at_ Ca.G hr Ca.b .nil pass0 (pa_cons (pv 1) pa_nil)))
      (pss_cons (ps_if (pt_cmpR op_eq (pe_callB call_len_seq (by rfl) T.len PySem.boot_len (pa_cons (pv 1) pa_nil)) pe_int (nomark _)) pss_never pss_nil)
      (pss_one (ps_ret (pe_meth (pv 0) Z.cls Od.at_ Od.G (hr.mono (by decide)) Od.b .nil pass0 (pa_cons (pv 1) pa_nil))))), ?_⟩
    obtain ⟨dx, fs, ha, n1⟩ := sa.no (x := "_check_all") (by decide +kernel) (by decide +kernel)
    refine ⟨_, rfl, a, dx, fs, rfl, ha, n1, _, rfl, a, p, m, ps, rfl, sa, mok, hp, hl, fun H1 e1 => ?_⟩
    refine ⟨_, rfl, p, _, rfl, .inr (.inl (e1.rd hp.1)), rfl, _, rfl, ?_⟩
    rw [decide_eq_false (show ¬ V.int (((ps.map (·.1)).length : Nat) : Int) = V.int 0 from fun z => by injection z with z; rw [List.length_map] at z; omega)]
    obtain ⟨dx, fs, ha, n2⟩ := (e1.scl sa).no (x := "_order") (by decide +kernel) (by decide +kernel)
    exact ⟨_, rfl, a, dx, fs, rfl, ha, n2, _, rfl, a, p, m, ps, rfl, e1.scl sa, mok, e1.amsT hp, hl, fun L H2 o e2 nL eL ord => q L H2 o (e1.trans e2) (e1.back nL) eL ord⟩
def spRanked (C : Addr) : Sp := fun vs H Q _ => ∃ (a p : Addr) (m : Ms) (ps : List (V × Am)), vs = [.ref a, .ref p] ∧ SclAt H a C m ∧ m.ok ∧ AmsT H p m ps ∧ ps.length ≤ 1000 ∧
  ∀ (t : Addr) H' (o : List Nat), Ex H H' → H t = none → Rd H' t (.tup (nats o)) → OrdP ps ps.length o → Q (.ref t) H'
theorem ok_ranked {f : Addr} {fd : FuncData} (F : Fun K "ranked" "Scale.ranked" sRanked f fd) (Z : ClsK K C) (T : Blt mg) (Ca : Dm P w K mg base C 5 "_check_all" ["self", "amounts"] (spChkAll C)) (Od : Dm P w K mg base C 2 "_order" ["self", "amounts"] (spOrder C)) : FnOk P w K mg base CX0 6 f fd ["self", "amounts"] (spRanked C) := by
  refine F.ok scRanked (fun vs H Q E h => ?_) (fun cdv A outer s H vs Q E hr h => ?_)
  · obtain ⟨a, p, m, ps, rfl, _⟩ := h
    rfl
  · obtain ⟨a, p, m, ps, rfl, sa, mok, hp, hl, q⟩ := h
    refine ⟨_, pss_cons (ps_expr (pe_meth (pv 0) Z.cls Ca.at_ Ca.G hr Ca.b .nil pass0 (pa_cons (pv 1) pa_nil)))
      (pss_one (ps_ret (pe_callTy call_tupleF (by rfl) T.tuple (by decide +kernel) (pa_cons (pe_meth (pv 0) Z.cls Od.at_ Od.G (hr.mono (by decide)) Od.b .nil pass0 (pa_cons (pv 1) pa_nil)) pa_nil)))), ?_⟩
    obtain ⟨dx, fs, ha, n1⟩ := sa.no (x := "_check_all") (by decide +kernel) (by decide +kernel)
    refine ⟨_, rfl, a, dx, fs, rfl, ha, n1, _, rfl, a, p, m, ps, rfl, sa, mok, hp, hl, fun H1 e1 => ?_⟩
    obtain ⟨dx, fs, ha, n2⟩ := (e1.scl sa).no (x := "_order") (by decide +kernel) (by decide +kernel)
    refine ⟨_, rfl, a, dx, fs, rfl, ha, n2, _, rfl, a, p, m, ps, rfl, e1.scl sa, mok, e1.amsT hp, hl, fun L H2 o e2 nL eL ord => ?_⟩
    refine ⟨L, _, rfl, .inl (.inl eL), fun t ob nt hd => ?_⟩
    have e12 := e1.trans e2
    exact q t _ o (e12.trans (Ex.new nt)) (e12.back nt) (.inr ⟨ob, upd_same⟩) ord
def spIsLess (C : Addr) : Sp := fun vs H Q _ => ∃ (a : Addr) (m : Ms) (v u : V) (x y : Am), vs = [.ref a, v, u] ∧ SclAt H a C m ∧ m.ok ∧ m.has x ∧ m.has y ∧ x.wide ∧ y.wide ∧ AmV H v x ∧ AmV H u y ∧ ∀ H', Ex H H' → Q (.bl (decide (amLt x y))) H'
theorem ok_isLess {f : Addr} {fd : FuncData} (F : Fun K "is_less" "Scale.is_less" sIsLess f fd) (Z : ClsK K C) (Ca : Dm P w K mg base C 5 "_check_all" ["self", "amounts"] (spChkAll C)) (Be : Dm P w K mg base C 1 "_below" ["self", "amount", "other"] (spBelow C)) : FnOk P w K mg base CX0 6 f fd ["self", "amount", "other"] (spIsLess C) := by
  refine F.ok scIsLess (fun vs H Q E h => ?_) (fun cdv A outer s H vs Q E hr h => ?_)
  · obtain ⟨a, m, v, u, x, y, rfl, _⟩ := h
    rfl
  · obtain ⟨a, m, v, u, x, y, rfl, sa, mok, hx, hy, wx, wy, vx, uy, q⟩ := h
    refine ⟨_, pss_cons (ps_expr (pe_meth (pv 0) Z.cls Ca.at_ Ca.G hr Ca.b .nil pass0 (pa_cons (pe_tup (pa_cons (pv 1) (pa_cons (pv 2) pa_nil))) pa_nil)))
      (pss_one (ps_ret (pe_meth (pv 0) Z.cls Be.at_ Be.G (hr.mono (by decide)) Be.b .nil pass0 (pa_cons (pv 1) (pa_cons (pv 2) pa_nil))))), ?_⟩
    obtain ⟨dx, fs, ha, n1⟩ := sa.no (x := "_check_all") (by decide +kernel) (by decide +kernel)
    refine ⟨_, rfl, a, dx, fs, rfl, ha, n1, _, rfl, _, rfl, by show 2 ≤ sizeLine; decide, fun t nt => ?_⟩
    have xt := Ex.new (o := .tup [v, u]) nt
    refine ⟨a, t, m, [(v, x), (u, y)], rfl, xt.scl sa, mok, ⟨.inl upd_same, fun q hq => ?_⟩, by show 2 ≤ 1000; decide, fun H1 e1 => ?_⟩
    · rcases List.mem_cons.mp hq with rfl | hq
      · exact ⟨hx, wx, vx.ex xt⟩
      · rw [List.mem_singleton.mp hq]
        exact ⟨hy, wy, uy.ex xt⟩
    · have e2 := xt.trans e1
      obtain ⟨dx, fs, ha, n2⟩ := (e2.scl sa).no (x := "_below") (by decide +kernel) (by decide +kernel)
      exact ⟨_, rfl, a, dx, fs, rfl, ha, n2, _, rfl, _, rfl, a, m, v, u, x, y, rfl, e2.scl sa, hx, hy, wx, wy, vx.ex e2, uy.ex e2, q _ e2⟩
def spSignM (C : Addr) : Sp := fun vs H Q _ => ∃ (a : Addr) (m : Ms) (v : V) (x : Am), vs = [.ref a, v] ∧ SclAt H a C m ∧ m.ok ∧ m.has x ∧ x.wide ∧ AmV H v x ∧ ∀ H', Ex H H' → Q (.int (sgn m x)) H'
theorem ok_signM {f : Addr} {fd : FuncData} (F : Fun K "sign" "Scale.sign" sSignM f fd) (Z : ClsK K C) (Ca : Dm P w K mg base C 5 "_check_all" ["self", "amounts"] (spChkAll C)) (Be : Dm P w K mg base C 1 "_below" ["self", "amount", "other"] (spBelow C)) (Ze : Dp1 P w K mg base C 1 "zero" (spZero C)) : FnOk P w K mg base CX0 6 f fd ["self", "amount"] (spSignM C) := by
  refine F.ok scSignM (fun vs H Q E h => ?_) (fun cdv A outer s H vs Q E hr h => ?_)
  · obtain ⟨a, m, v, x, rfl, _⟩ := h
    rfl
  · obtain ⟨a, m, v, x, rfl, sa, mok, hx, wx, vx, q⟩ := h
    have r1 := hr.mono (show 1 ≤ 5 by decide)
    have r2 := hr.mono (show 2 ≤ 5 by decide)
    refine ⟨_, pss_cons (ps_expr (pe_meth (pv 0) Z.cls Ca.at_ Ca.G hr Ca.b .nil pass0 (pa_cons (pe_tup (pa_cons (pv 1) pa_nil)) pa_nil)))
      (pss_cons (ps_if (pt_val (pe_meth (pv 0) Z.cls Be.at_ Be.G r1 Be.b .nil pass0 (pa_cons (pv 1) (pa_cons (pe_prop (pv 0) Z.cls Ze.at_ Ze.G r2 Ze.b .nil pass0 rfl) pa_nil)))) (pss_one (ps_ret (pe_un un_neg pe_int))) pss_nil)
      (pss_one (ps_ret (pe_ifExp (pt_val (pe_meth (pv 0) Z.cls Be.at_ Be.G r1 Be.b .nil pass0 (pa_cons (pe_prop (pv 0) Z.cls Ze.at_ Ze.G r2 Ze.b .nil pass0 rfl) (pa_cons (pv 1) pa_nil)))) pe_int pe_int)))), ?_⟩
    obtain ⟨dx, fs, ha, n1⟩ := sa.no (x := "_check_all") (by decide +kernel) (by decide +kernel)
    refine ⟨_, rfl, a, dx, fs, rfl, ha, n1, _, rfl, by show 1 ≤ sizeLine; decide, fun t nt => ?_⟩
    have xt := Ex.new (o := .tup [v]) nt
    refine ⟨a, t, m, [(v, x)], rfl, xt.scl sa, mok, ⟨.inl upd_same, fun q hq => ?_⟩, by show 1 ≤ 1000; decide, fun H1 e1 => ?_⟩
    · rw [List.mem_singleton.mp hq]
      exact ⟨hx, wx, vx.ex xt⟩
    · have e2 := xt.trans e1
      have wz := zero_wide m
      obtain ⟨dx, fs, ha, n2⟩ := (e2.scl sa).no (x := "_below") (by decide +kernel) (by decide +kernel)
      refine ⟨_, rfl, a, dx, fs, rfl, ha, n2, _, rfl, _, rfl, a, dx, fs, rfl, ha, a, m, rfl, e2.scl sa, mok, fun z H2 e3 vz => ?_⟩
      have e4 := e2.trans e3
      refine ⟨a, m, v, z, x, m.zero, rfl, e4.scl sa, hx, m.zero_has, wx, wz, vx.ex e4, vz, _, rfl, ?_⟩
      by_cases c : amLt x m.zero
      · rw [decide_eq_true c]
        have := q _ e4
        rw [show sgn m x = -1 from if_pos c] at this
        exact iteT ⟨_, rfl, this⟩
      · rw [decide_eq_false c]
        obtain ⟨dx, fs, ha, n3⟩ := (e4.scl sa).no (x := "_below") (by decide +kernel) (by decide +kernel)
        refine iteF ⟨_, rfl, a, dx, fs, rfl, ha, n3, _, rfl, a, dx, fs, rfl, ha, a, m, rfl, e4.scl sa, mok, fun z' H3 e5 vz' => ?_⟩
        have e6 := e4.trans e5
        refine ⟨_, rfl, a, m, z', v, m.zero, x, rfl, e6.scl sa, m.zero_has, hx, wz, wx, vz', vx.ex e6, _, rfl, ?_⟩
        have := q _ e6
        by_cases d : amLt m.zero x
        · rw [show sgn m x = 1 by unfold sgn; rw [if_neg c, if_pos d]] at this
          rw [decide_eq_true d]
          exact iteT this
        · rw [show sgn m x = 0 by unfold sgn; rw [if_neg c, if_neg d]] at this
          rw [decide_eq_false d]
          exact iteF this
/-- one of the amounts, and none is greater -/
def spEnd (C : Addr) (ok : Am → Am → Prop) : Sp := fun vs H Q _ => ∃ (a p : Addr) (m : Ms) (ps : List (V × Am)), vs = [.ref a, .ref p] ∧ SclAt H a C m ∧ m.ok ∧ AmsT H p m ps ∧ 1 ≤ ps.length ∧ ps.length ≤ 1000 ∧
  ∀ r H', Ex H H' → r ∈ ps → (∀ q ∈ ps, ok r.2 q.2) → Q r.1 H'
def spEnds (C : Addr) (ok : Am → Am → Prop) : Sp := fun vs H Q _ => ∃ (a : Addr) (m : Ms) (ps : List (V × Am)), vs = .ref a :: ps.map (·.1) ∧ SclAt H a C m ∧ m.ok ∧ (∀ q ∈ ps, m.has q.2 ∧ q.2.wide ∧ AmV H q.1 q.2) ∧ 1 ≤ ps.length ∧ ps.length ≤ 1000 ∧
  ∀ r H', Ex H H' → r ∈ ps → (∀ q ∈ ps, ok r.2 q.2) → Q r.1 H'
theorem spEnds_imp {ok : Am → Am → Prop} {vs : List V} {H : Hp} {Q : VK} {E : XK} (h : spEnds C ok vs H Q E) :
    ∃ ws rest, vs = ws ++ rest ∧ ws.length = (["self"] : List Str).length ∧ rest.length ≤ sizeLine ∧ ∀ p, H p = none → spEnd C ok (ws ++ [V.ref p]) (upd H p (.tup rest)) Q E := by
  obtain ⟨a, m, ps, rfl, sa, mok, hp, l1, hl, q⟩ := h
  refine ⟨[.ref a], ps.map (·.1), rfl, rfl, by rw [List.length_map]; exact Nat.le_trans hl (by decide), fun p np => ?_⟩
  have xt := Ex.new (o := .tup (ps.map (·.1))) np
  exact ⟨a, p, m, ps, rfl, xt.scl sa, mok, ⟨.inl upd_same, fun r hr => let ⟨h1, h2, h3⟩ := hp r hr; ⟨h1, h2, h3.ex xt⟩⟩, l1, hl, fun r H' e => q r H' (xt.trans e)⟩
theorem ok_greatest {f : Addr} {fd : FuncData} (F : Fun K "greatest" "Scale.greatest" sGreatest f fd) (Z : ClsK K C) (Ra : Dm P w K mg base C 6 "_ranks" ["self", "amounts"] (spRanks C)) : FnR P w K mg base CX0 7 f (spEnds C fun r q => ¬ amLt r q) := by
  obtain ⟨oc, od, kV, doc, pm, an, cdv, ct, osl, rfl, lk, hc⟩ := F.ex
  refine FnR.imp (StX.fn_star (sp := spEnd C fun r q => ¬ amLt r q) (ps := (["self"] : List Str)) (pv := "amounts") lk hc scGreatest StX.cxUp_none (StX.bind_star1 (p1 := "self") (pv := "amounts") (B := fun us => bindArgs (PySem.W.fnOf _ _ _ _ _ _ kV doc pm an cdv ct) ⟨us, []⟩) (fun _ => rfl) (fun _ _ _ => rfl)) (fun A outer s H vs Q E hr h => ?_)) fun vs H Q E h => spEnds_imp h
  obtain ⟨a, p, m, ps, rfl, sa, mok, hp, l1, hl, q⟩ := h
  refine ⟨_, pss_one (ps_ret (pe_ix ix_tup (pv 1) (pe_ix ix_list (pe_meth (pv 0) Z.cls Ra.at_ Ra.G hr Ra.b .nil pass0 (pa_cons (pv 1) pa_nil)) pe_int (fun _ _ => rfl)) (fun _ _ => rfl))), ?_⟩
  obtain ⟨dx, fs, ha, n1⟩ := sa.no (x := "_ranks") (by decide +kernel) (by decide +kernel)
  refine ⟨_, rfl, _, rfl, a, dx, fs, rfl, ha, n1, _, rfl, a, p, m, ps, rfl, sa, mok, hp, l1, hl, fun L H1 o e1 nL eL ord => ?_⟩
  have len := ord.length
  have e0 : o[0]? = some o[0] := List.getElem?_eq_getElem (by omega)
  have jl := ord.lt_of (List.mem_of_getElem? e0)
  have ej : ps[o[0]]? = some ps[o[0]] := List.getElem?_eq_getElem jl
  refine ⟨L, _, (0 : Nat), _, rfl, rfl, .inl (.inl eL), nats_at e0, p, _, (o[0] : Nat), ps[o[0]].1, rfl, rfl, .inl (e1.rd hp.1), atI_nat (by rw [List.getElem?_map, ej]; rfl), ?_⟩
  refine q _ H1 e1 (List.mem_of_getElem? ej) fun r hr => ?_
  obtain ⟨i, il, ki⟩ := keyOf_mem hr
  rw [← ki, ← keyOf_eq ej]
  exact ord_first ord e0 il
end
end Gl

set_option exponentiation.threshold 10000
namespace Gl
open PySem PySem.Spec PyProof.Rows L2
/-! ### one ordered group -/
theorem frac_lt {p q r s A B C D : Nat} (q0 : 0 < q) (s0 : 0 < s) (B0 : 0 < B) (D0 : 0 < D) (e1 : p * B = A * q) (e2 : r * D = C * s) : p * s < r * q ↔ A * D < C * B := by
  have h1 : p * s * (B * D) = A * D * (q * s) := by
    calc p * s * (B * D) = (p * B) * (s * D) := by ac_rfl
      _ = A * q * (s * D) := by rw [e1]
      _ = A * D * (q * s) := by ac_rfl
  have h2 : r * q * (B * D) = C * B * (q * s) := by
    calc r * q * (B * D) = (r * D) * (q * B) := by ac_rfl
      _ = C * s * (q * B) := by rw [e2]
      _ = C * B * (q * s) := by ac_rfl
  have BD : 0 < B * D := Nat.mul_pos B0 D0
  have qs : 0 < q * s := Nat.mul_pos q0 s0
  constructor
  · intro h
    have := Nat.mul_lt_mul_of_pos_right h BD
    rw [h1, h2] at this
    exact Nat.lt_of_mul_lt_mul_right this
  · intro h
    have := Nat.mul_lt_mul_of_pos_right h qs
    rw [← h1, ← h2] at this
    exact Nat.lt_of_mul_lt_mul_right this
theorem mul_val (x y : Odds) : (mulO x y).1.1 * (x.1.2 * y.1.2) = x.1.1 * y.1.1 * (mulO x y).1.2 := red_val _ _
theorem mulO_comm (x y : Odds) : mulO x y = mulO y x := red_congr (Nat.mul_comm ..) (Nat.mul_comm ..)
theorem odds_ext {x y : Odds} (h : x.1.1 * y.1.2 = y.1.1 * x.1.2) : x = y := by
  obtain ⟨e1, e2⟩ := low_eq x.2 y.2 h
  exact Subtype.ext (Prod.ext e1 e2)
theorem mulO_assoc (x y z : Odds) : mulO (mulO x y) z = mulO x (mulO y z) := by
  apply odds_ext
  have v1 := mul_val x y
  have v2 := mul_val y z
  have v3 := mul_val (mulO x y) z
  have v4 := mul_val x (mulO y z)
  have q1 := (mulO x y).2.q0
  have q2 := (mulO y z).2.q0
  have qx := x.2.q0
  have qy := y.2.q0
  have qz := z.2.q0
  generalize (mulO (mulO x y) z).1.1 = p at *
  generalize (mulO (mulO x y) z).1.2 = q at *
  generalize (mulO x (mulO y z)).1.1 = r at *
  generalize (mulO x (mulO y z)).1.2 = s at *
  generalize (mulO x y).1.1 = a at *
  generalize (mulO x y).1.2 = b at *
  generalize (mulO y z).1.1 = c at *
  generalize (mulO y z).1.2 = d at *
  generalize x.1.1 = x1 at *
  generalize x.1.2 = x2 at *
  generalize y.1.1 = y1 at *
  generalize y.1.2 = y2 at *
  generalize z.1.1 = z1 at *
  generalize z.1.2 = z2 at *
  -- p/q = x1 y1 z1 / x2 y2 z2 = r/s
  have e1 : p * (x2 * y2 * z2) = x1 * y1 * z1 * q := by
    apply Nat.eq_of_mul_eq_mul_right q1
    calc p * (x2 * y2 * z2) * b = (p * (b * z2)) * (x2 * y2) := by ac_rfl
      _ = a * z1 * q * (x2 * y2) := by rw [v3]
      _ = (a * (x2 * y2)) * z1 * q := by ac_rfl
      _ = x1 * y1 * b * z1 * q := by rw [v1]
      _ = x1 * y1 * z1 * q * b := by ac_rfl
  have e2 : r * (x2 * y2 * z2) = x1 * y1 * z1 * s := by
    apply Nat.eq_of_mul_eq_mul_right q2
    calc r * (x2 * y2 * z2) * d = (r * (x2 * d)) * (y2 * z2) := by ac_rfl
      _ = x1 * c * s * (y2 * z2) := by rw [v4]
      _ = x1 * (c * (y2 * z2)) * s := by ac_rfl
      _ = x1 * (y1 * z1 * d) * s := by rw [v2]
      _ = x1 * y1 * z1 * s * d := by ac_rfl
  have W : 0 < x2 * y2 * z2 := Nat.mul_pos (Nat.mul_pos qx qy) qz
  apply Nat.eq_of_mul_eq_mul_right W
  calc p * s * (x2 * y2 * z2) = (p * (x2 * y2 * z2)) * s := by ac_rfl
    _ = x1 * y1 * z1 * q * s := by rw [e1]
    _ = (x1 * y1 * z1 * s) * q := by ac_rfl
    _ = r * (x2 * y2 * z2) * q := by rw [e2]
    _ = r * q * (x2 * y2 * z2) := by ac_rfl
theorem mulO_swap (x : Odds) : mulO x (swapO x) = one1 := by
  apply odds_ext
  have v := mul_val x (swapO x)
  have h : 0 < x.1.1 * x.1.2 := Nat.mul_pos x.2.p0 x.2.q0
  show (mulO x (swapO x)).1.1 * 1 = 1 * (mulO x (swapO x)).1.2
  have v : (mulO x (swapO x)).1.1 * (x.1.2 * x.1.1) = x.1.1 * x.1.2 * (mulO x (swapO x)).1.2 := v
  rw [Nat.mul_comm x.1.2 x.1.1] at v
  rw [Nat.mul_one, Nat.one_mul]
  apply Nat.eq_of_mul_eq_mul_right h
  rw [v, Nat.mul_comm]
theorem oddsLt_mul (x y z : Odds) : oddsLt (mulO x z) (mulO y z) ↔ oddsLt x y := by
  unfold oddsLt
  have z1 := z.2.p0
  have z2 := z.2.q0
  rw [frac_lt (mulO x z).2.q0 (mulO y z).2.q0 (Nat.mul_pos x.2.q0 z2) (Nat.mul_pos y.2.q0 z2) (mul_val x z) (mul_val y z)]
  have h : 0 < z.1.1 * z.1.2 := Nat.mul_pos z1 z2
  rw [show x.1.1 * z.1.1 * (y.1.2 * z.1.2) = x.1.1 * y.1.2 * (z.1.1 * z.1.2) by ac_rfl, show y.1.1 * z.1.1 * (x.1.2 * z.1.2) = y.1.1 * x.1.2 * (z.1.1 * z.1.2) by ac_rfl]
  exact ⟨fun g => Nat.lt_of_mul_lt_mul_right g, fun g => Nat.mul_lt_mul_of_pos_right g h⟩
theorem zip_comm : ∀ (as bs : List Int), List.zipWith (· + ·) as bs = List.zipWith (· + ·) bs as
  | [], bs => by simp
  | a :: as, [] => by simp
  | a :: as, b :: bs => by rw [List.zipWith_cons_cons, List.zipWith_cons_cons, zip_comm as bs, Int.add_comm]
theorem zip_assoc : ∀ (as bs cs : List Int), List.zipWith (· + ·) (List.zipWith (· + ·) as bs) cs = List.zipWith (· + ·) as (List.zipWith (· + ·) bs cs)
  | [], bs, cs => by simp
  | a :: as, [], cs => by simp
  | a :: as, b :: bs, [] => by simp
  | a :: as, b :: bs, c :: cs => by
    simp only [List.zipWith_cons_cons]
    rw [zip_assoc as bs cs, Int.add_assoc]
theorem zip_self : ∀ (as : List Int), List.zipWith (· - ·) as as = List.replicate as.length 0
  | [] => rfl
  | a :: as => by rw [List.zipWith_cons_cons, zip_self as, Int.sub_self, List.length_cons, List.replicate_succ]
theorem lex_add : ∀ (as bs cs : List Int), as.length = bs.length → bs.length = cs.length → HT.lexLt (List.zipWith (· + ·) as cs) (List.zipWith (· + ·) bs cs) = HT.lexLt as bs
  | [], [], _, _, _ => by simp
  | a :: as, b :: bs, [], _, h => by simp at h
  | [], _ :: _, _, h, _ => by simp at h
  | _ :: _, [], _, h, _ => by simp at h
  | a :: as, b :: bs, c :: cs, h1, h2 => by
    simp only [List.zipWith_cons_cons]
    rw [HT.lexLt_cons, HT.lexLt_cons]
    have ih := lex_add as bs cs (by simpa using h1) (by simpa using h2)
    by_cases e : a = b
    · subst e
      rw [if_pos rfl, if_pos rfl, ih]
    · rw [if_neg e, if_neg (show ¬ a + c = b + c by omega)]
      exact decide_eq_decide.mpr ⟨fun h => by omega, fun h => by omega⟩
theorem lex_neg : ∀ (as bs : List Int), as.length = bs.length → HT.lexLt (bs.map fun x => -x) (as.map fun x => -x) = HT.lexLt as bs
  | [], [], _ => rfl
  | [], _ :: _, h => by simp at h
  | _ :: _, [], h => by simp at h
  | a :: as, b :: bs, h => by
    rw [List.map_cons, List.map_cons, HT.lexLt_cons, HT.lexLt_cons]
    have ih := lex_neg as bs (by simpa using h)
    by_cases e : a = b
    · subst e
      rw [if_pos rfl, if_pos rfl, ih]
    · rw [if_neg e, if_neg (show ¬ -b = -a by omega)]
      exact decide_eq_decide.mpr ⟨fun h => by omega, fun h => by omega⟩
section
variable {m : Ms}
theorem add_comm' : ∀ {x y : Am}, m.has x → m.has y → x.add y = y.add x
  | .n i, .n j, _, _ => by show Am.n _ = Am.n _; rw [Int.add_comm]
  | .c a, .c b, _, _ => by show Am.c _ = Am.c _; rw [zip_comm]
  | .o x, .o y, _, _ => by show Am.o _ = Am.o _; rw [mulO_comm]
  | .n _, .c _, h, z => by cases m <;> first | exact h.elim | exact z.elim
  | .n _, .o _, h, z => by cases m <;> first | exact h.elim | exact z.elim
  | .c _, .n _, h, z => by cases m <;> first | exact h.elim | exact z.elim
  | .c _, .o _, h, z => by cases m <;> first | exact h.elim | exact z.elim
  | .o _, .n _, h, z => by cases m <;> first | exact h.elim | exact z.elim
  | .o _, .c _, h, z => by cases m <;> first | exact h.elim | exact z.elim
theorem add_assoc' {x y z : Am} (hx : m.has x) (hy : m.has y) (hz : m.has z) : (x.add y).add z = x.add (y.add z) := by
  cases m with
  | sums =>
    cases x <;> first | exact hx.elim | skip
    cases y <;> first | exact hy.elim | skip
    cases z <;> first | exact hz.elim | skip
    show Am.n _ = Am.n _
    rw [Int.add_assoc]
  | classes k =>
    cases x <;> first | exact hx.elim | skip
    cases y <;> first | exact hy.elim | skip
    cases z <;> first | exact hz.elim | skip
    show Am.c _ = Am.c _
    rw [zip_assoc]
  | odds =>
    cases x <;> first | exact hx.elim | skip
    cases y <;> first | exact hy.elim | skip
    cases z <;> first | exact hz.elim | skip
    show Am.o _ = Am.o _
    rw [mulO_assoc]
theorem add_zero' {x : Am} (hx : m.has x) : x.add m.zero = x := by rw [add_comm' hx m.zero_has, zero_add hx]
theorem add_neg' {x : Am} (hx : m.has x) : x.add x.neg = m.zero := by
  cases m with
  | sums =>
    cases x <;> first | exact hx.elim | skip
    show Am.n _ = Am.n 0
    rw [Int.add_right_neg]
  | classes k =>
    cases x <;> first | exact hx.elim | skip
    have e : List.length _ = k := hx
    show Am.c _ = Am.c _
    rw [zip_neg, zip_self, e]
  | odds =>
    cases x <;> first | exact hx.elim | skip
    show Am.o _ = Am.o one1
    rw [mulO_swap]
theorem neg_neg' : ∀ {x : Am}, x.neg.neg = x
  | .n i => by show Am.n _ = _; rw [Int.neg_neg]
  | .c a => by
    show Am.c _ = _
    rw [List.map_map]
    congr 1
    exact (List.map_congr_left fun x _ => by show - -x = x; omega).trans (List.map_id' a)
  | .o x => rfl
theorem sub_add' {x y : Am} (hx : m.has x) (hy : m.has y) : (x.sub y).add y = x := by
  rw [sub_is hx hy, add_assoc' hx (neg_has hy) hy, add_comm' (neg_has hy) hy, add_neg' hy, add_zero' hx]
theorem lt_add {x y z : Am} (hx : m.has x) (hy : m.has y) (hz : m.has z) : amLt (x.add z) (y.add z) ↔ amLt x y := by
  cases m with
  | sums =>
    cases x <;> first | exact hx.elim | skip
    cases y <;> first | exact hy.elim | skip
    cases z <;> first | exact hz.elim | skip
    show _ + _ < _ + _ ↔ _ < _
    omega
  | classes k =>
    cases x <;> first | exact hx.elim | skip
    cases y <;> first | exact hy.elim | skip
    cases z <;> first | exact hz.elim | skip
    have e1 : List.length _ = k := hx
    have e2 : List.length _ = k := hy
    have e3 : List.length _ = k := hz
    show HT.lexLt _ _ = true ↔ HT.lexLt _ _ = true
    rw [lex_add _ _ _ (by rw [e1, e2]) (by rw [e2, e3])]
  | odds =>
    cases x <;> first | exact hx.elim | skip
    cases y <;> first | exact hy.elim | skip
    cases z <;> first | exact hz.elim | skip
    exact oddsLt_mul ..
theorem lt_neg {x y : Am} (hx : m.has x) (hy : m.has y) : amLt y.neg x.neg ↔ amLt x y := by
  cases m with
  | sums =>
    cases x <;> first | exact hx.elim | skip
    cases y <;> first | exact hy.elim | skip
    show -_ < -_ ↔ _ < _
    omega
  | classes k =>
    cases x <;> first | exact hx.elim | skip
    cases y <;> first | exact hy.elim | skip
    have e1 : List.length _ = k := hx
    have e2 : List.length _ = k := hy
    show HT.lexLt _ _ = true ↔ HT.lexLt _ _ = true
    rw [lex_neg _ _ (by rw [e1, e2])]
  | odds =>
    cases x <;> first | exact hx.elim | skip
    cases y <;> first | exact hy.elim | skip
    show _ * _ < _ * _ ↔ _ * _ < _ * _
    rw [Nat.mul_comm, Nat.mul_comm (swapO _).1.1]
    exact Iff.rfl
theorem sgn_sub {x y : Am} (hx : m.has x) (hy : m.has y) : sgn m (x.sub y) = (if amLt y x then 1 else 0) - (if amLt x y then 1 else 0) := by
  have h1 : amLt (x.sub y) m.zero ↔ amLt x y := by
    have := lt_add (sub_has hx hy) m.zero_has hy
    rw [sub_add' hx hy, zero_add hy] at this
    exact this.symm
  have h2 : amLt m.zero (x.sub y) ↔ amLt y x := by
    have := lt_add m.zero_has (sub_has hx hy) hy
    rw [sub_add' hx hy, zero_add hy] at this
    exact this.symm
  unfold sgn
  by_cases a : amLt x y
  · rw [if_pos (h1.mpr a), if_pos a, if_neg (am_lin.asym a)]; rfl
  · rw [if_neg (fun z => a (h1.mp z)), if_neg a]
    by_cases b : amLt y x
    · rw [if_pos (h2.mpr b), if_pos b]; rfl
    · rw [if_neg (fun z => b (h2.mp z)), if_neg b]; rfl
theorem sum3 {x y z : Am} (hx : m.has x) : sumA m [x, y, z] = (x.add y).add z := by
  show ((m.zero.add x).add y).add z = _
  rw [zero_add hx]
end
end Gl

/-! list.count of a boolean, in a list of booleans. -/
namespace Gl
open PySem PySem.Spec PyProof.Rows L2
theorem bools_of : ∀ {bs : List Bool} {us : List Value}, Vals (bs.map V.bl) us → us = bs.map Value.bool
  | [], _, .nil => rfl
  | b :: bs, _, .cons (b := u) r t => by
    obtain rfl : u = Value.bool b := r
    rw [bools_of t]
    rfl
theorem count_bools (k : Bool) : ∀ bs : List Bool, (bs.map Value.bool).countP (isBoolOf k) = bs.count k
  | [] => rfl
  | b :: bs => by
    rw [List.map_cons, List.countP_cons, List.count_cons, count_bools k bs]
    rfl
section
variable {X : Cx}
def rCntB (K : PySem.W.Frag) : V → List V → Hp → VK → Prop := fun x xs H Q => ∃ (p : Addr) (bs : List Bool) (k : Bool), x = .ref p ∧ xs = [.bl k] ∧ SqL K H p (bs.map V.bl) ∧ Q (.int (bs.count k : Nat)) H
theorem mt_countB : MtR X "list.count" (rCntB X.K) := by
  intro pins s σ H x xs v us Q I rx rxs h
  obtain ⟨p, bs, k, rfl, rfl, hs, q⟩ := h
  cases rx
  obtain ⟨u, rfl, ru⟩ := rxs.one
  obtain rfl : u = Value.bool k := ru
  obtain ⟨its, rv, ⟨⟨cls, dd, data, sl⟩, n, ho, hc, hdn, hd⟩, hlen⟩ := I.list hs
  simp only at hc hd
  subst hc hd
  obtain rfl := bools_of rv
  refine call_meets PySem.F.slot_list_count ⟨_, ho, rfl⟩ PySem.F.entry_list_count (PySem.F.args_list_count_2 _ _)
    (SeqAt.list_countAt p (bs.map Value.bool).toArray n dd sl (.bool k) (isBoolOf k)) ⟨ho, fun y hy => ?_, ?_⟩
  · have hy' : y ∈ bs.map Value.bool := by simpa using hy
    obtain ⟨b, _, rfl⟩ := List.mem_map.mp hy'
    exact SeqAt.EqAt.bool_bool b k
  · have ec : (bs.map Value.bool).toArray.toList.countP (isBoolOf k) = bs.count k := count_bools k bs
    refine ⟨.int (bs.count k : Nat), H, I.tok _, ⟨s.toks, ?_⟩, q⟩
    show Value.int (((bs.map Value.bool).toArray.toList.countP (isBoolOf k) : Nat) : Int) s.toks = Value.int ((bs.count k : Nat) : Int) s.toks
    rw [ec]
end
end Gl

/-! == and != by an own __eq__, the right side's type told without the frame (for comprehensions). -/
namespace Gl
open PySem PySem.Spec PyProof.Rows L2
inductive TyK (K : PySem.W.Frag) (H : Hp) : V → Value → Prop
  | non : TyK K H .non (.type "NoneType")
  | bl (b : Bool) : TyK K H (.bl b) (.type "bool")
  | int (i : Int) : TyK K H (.int i) (.type "int")
  | str (x : Str) : TyK K H (.str x) (.type "str")
  | tup {a : Addr} {xs : List V} : SqT K H a xs → TyK K H (.ref a) (.type "tuple")
  | ins {a d C : Addr} {fs : List (Str × V)} : H a = some (.ins C d fs) → TyK K H (.ref a) (.ref C)
theorem TyK.o {X : Cx} {H : Hp} {y : V} {tb : Value} (h : TyK X.K H y tb) : TyO X y tb H := by
  cases h with
  | non => exact .non
  | bl b => exact .bl
  | int i => exact .int
  | str x => exact .str
  | tup h => exact .tup h
  | ins h => exact .ins h
def rEqK (K : PySem.W.Frag) (C : Addr) (sp : Sp) (E : XK) (neg : Bool) : R2 := fun x y H Q => ∃ a d fs tb, x = .ref a ∧ H a = some (.ins C d fs) ∧ TyK K H y tb ∧ PySem.W.notFirst K C tb = true ∧
  sp [.ref a, y] H (fun r H' => ∃ b, r = .bl b ∧ Q (.bl (xor neg b)) H') E
section
variable {X : Cx} {CX : CXT} {C f : Addr} {n : Nat} {fd : FuncData} {ps : List Str} {sp : Sp} {E : XK}
theorem op_eqK (F : FnOk X.prog X.w X.K X.mg X.base CX n f fd ps sp) (c : OwnAt X.K C f "__eq__") (hb : Binds X.K fd ps []) (hx : Passes CX X E) (hr : Room n X.A) : OpR X (compareOp .Eq) (rEqK X.K C sp E false) := by
  intro pins s σ H x y v u Q I rx ry hq
  obtain ⟨a, d, fs, tb, e, ha, ht, hn, q⟩ := hq
  exact op_eqO F c hb hx hr pins s σ H x y v u Q I rx ry ⟨a, d, fs, tb, e, ha, ht.o, hn, q⟩
theorem op_neK (F : FnOk X.prog X.w X.K X.mg X.base CX n f fd ps sp) (c : OwnAt X.K C f "__eq__") (hne : PySem.W.findIn X.K (.ref C) "__ne__" = some (some (.builtin "object.__ne__"))) (ho : PySem.W.subIn X.K (.ref C) (.type "object") = some true)
    (hb : Binds X.K fd ps []) (hx : Passes CX X E) (hr : Room (n + 1) X.A) : OpR X (compareOp .NotEq) (rEqK X.K C sp E true) := by
  intro pins s σ H x y v u Q I rx ry hq
  obtain ⟨a, d, fs, tb, e, ha, ht, hn, q⟩ := hq
  exact op_neO F c hne ho hb hx hr pins s σ H x y v u Q I rx ry ⟨a, d, fs, tb, e, ha, ht.o, hn, q⟩
end
end Gl

namespace Gl
open PySem PySem.Spec PyProof.Rows L2 ClX
abbrev sThr : Stmt := topS 33
theorem scThr : FnScope ["_law_meter", "_law_a", "_law_b", "_law_c", "_law_three"] ["_law_meter", "_law_a", "_law_b", "_law_c"] (defScope sThr) := ⟨rfl, rfl, rfl, by decide +kernel, rfl, by decide +kernel, by decide +kernel⟩
theorem eqv_self : ∀ x : Am, PyData.eqv x.data x.data = true
  | .n i => by show PyData.eqv (.int i) (.int i) = true; rw [eqv_int]; simp
  | .c ns => by
    show PyData.eqv (.tuple _) (.tuple _) = true
    simp only [PyData.eqv]
    rw [eqv_ints]; simp
  | .o x => by
    show PyData.eqv (.tuple ([((x.1.1 : Nat) : Int), ((x.1.2 : Nat) : Int)].map PyData.int)) (.tuple ([((x.1.1 : Nat) : Int), ((x.1.2 : Nat) : Int)].map PyData.int)) = true
    simp only [PyData.eqv]
    rw [eqv_ints]; simp
theorem dx_ints {K : PySem.W.Frag} {H : Hp} : ∀ ns : List Int, DxAll K H (ns.map V.int) (ns.map PyData.int)
  | [] => .nil
  | c :: cs => .cons (.int c) (dx_ints cs)
theorem low_odds (x : Odds) : lowB (Am.data (.o x)) = true := by
  show (decide ((0 : Int) < ((x.1.1 : Nat) : Int)) && (decide ((0 : Int) < ((x.1.2 : Nat) : Int)) && decide (Nat.gcd ((x.1.1 : Nat) : Int).natAbs ((x.1.2 : Nat) : Int).natAbs = 1))) = true
  rw [Int.natAbs_natCast, Int.natAbs_natCast, decide_eq_true (show (0 : Int) < ((x.1.1 : Nat) : Int) by have := x.2.p0; omega), decide_eq_true (show (0 : Int) < ((x.1.2 : Nat) : Int) by have := x.2.q0; omega), decide_eq_true x.2.co]
  rfl
theorem dx_am {K : PySem.W.Frag} {H : Hp} {v : V} : ∀ {x : Am}, AmV H v x → Dx K H v x.data
  | .n i, h => by obtain rfl := h; exact .int i
  | .c ns, ⟨p, e, h⟩ => by subst e; exact .tup h (dx_ints ns)
  | .o x, ⟨p, e, h⟩ => by subst e; exact .tup h (.cons (.int _) (.cons (.int _) .nil))
theorem am_short {m : Ms} : ∀ {x : Am}, m.ok → m.has x → Short x.data
  | .n i, _, _ => trivial
  | .c ns, mok, hx => ⟨by
    cases m with
    | classes k =>
      have l : ns.length = k := hx
      have := mok.2
      rw [List.length_map]
      omega
    | sums => exact hx.elim
    | odds => exact hx.elim, trivial⟩
  | .o x, _, _ => ⟨by show 2 ≤ 1000; decide, trivial⟩
theorem amt_has {m : Ms} : ∀ {x : Am}, m.ok → m.has x → amtB m x.data = true
  | .n i, _, hx => by cases m <;> first | rfl | exact hx.elim
  | .c ns, mok, hx => by
    cases m with
    | classes k =>
      have l : ns.length = k := hx
      show (decide (((ns.map PyData.int).length : Int) = k) && (ns.map PyData.int).all wholeB) = true
      rw [List.length_map, l, decide_eq_true rfl, Bool.true_and, List.all_map]
      exact List.all_eq_true.mpr fun _ _ => rfl
    | sums => exact hx.elim
    | odds => exact hx.elim
  | .o x, _, hx => by
    cases m with
    | odds => exact low_odds x
    | sums => exact hx.elim
    | classes k => exact hx.elim
theorem new_at {H : Hp} {p : Addr} {o : HO} (_ : Ex H (upd H p o)) : upd H p o p = some o := upd_same
theorem mem1 {α : Type} {p : α → Prop} {a : α} (h1 : p a) : ∀ q ∈ [a], p q := fun q hq => by rw [List.mem_singleton.mp hq]; exact h1
theorem mem2 {α : Type} {p : α → Prop} {a b : α} (h1 : p a) (h2 : p b) : ∀ q ∈ [a, b], p q := fun q hq => by
  rcases List.mem_cons.mp hq with rfl | hq
  · exact h1
  · rw [List.mem_singleton.mp hq]; exact h2
theorem mem3 {α : Type} {p : α → Prop} {a b c : α} (h1 : p a) (h2 : p b) (h3 : p c) : ∀ q ∈ [a, b, c], p q := fun q hq => by
  rcases List.mem_cons.mp hq with rfl | hq
  · exact h1
  · exact mem2 h2 h3 q hq
theorem one_of_three (x y : Am) : [decide (amLt x y), decide (x = y), decide (amLt y x)].count true = 1 := by
  by_cases a : amLt x y
  · rw [decide_eq_true a, decide_eq_false (fun e => by subst e; exact am_lin.irr _ a), decide_eq_false (am_lin.asym a)]; rfl
  · rw [decide_eq_false a]
    by_cases b : x = y
    · rw [decide_eq_true b, decide_eq_false (fun c => by subst b; exact am_lin.irr _ c)]; rfl
    · rw [decide_eq_false b]
      rcases am_lin.tot x y with h | h | h
      · exact absurd h a
      · exact absurd h b
      · rw [decide_eq_true h]; rfl
/-- an own def under a special name of the class -/
structure Do1 (P : Program) (w : World) (K : PySem.W.Frag) (mg : Str → Option Value) (base : Heap) (C : Addr) (k : Nat) (m : Str) (ps : List Str) (sp : Sp) where
  f : Addr
  fd : FuncData
  G : FnOk P w K mg base CX0 k f fd ps sp
  o : OwnAt K C f m
  b : Binds K fd ps []
section
variable {P : Program} {w : World} {K : PySem.W.Frag} {mg : Str → Option Value} {base : Heap} {C : Addr}
def spThr (C : Addr) : Sp := fun vs H Q _ => ∃ (g : Addr) (m : Ms) (v u t : V) (x y z : Am), vs = [.ref g, v, u, t] ∧ SclAt H g C m ∧ m.ok ∧ m.has x ∧ m.has y ∧ m.has z ∧ x.near ∧ y.near ∧ z.near ∧ AmV H v x ∧ AmV H u y ∧ AmV H t z ∧ ∀ H', Ex H H' → Q (.bl true) H'
theorem ok_thr {f : Addr} {fd : FuncData} (F : Fun K "_law_threes_right" "_law_threes_right" sThr f fd) (T : Blt mg) (Z : ClsK K C)
    (Pm : DmR P w K mg base C 7 "plus" (spPlus C)) (Pl : Dm P w K mg base C 6 "plus_all" ["self", "amounts"] (spPlusAll C))
    (Mi : Dm P w K mg base C 6 "minus" ["self", "amount", "other"] (spMinus C)) (Ne : Dm P w K mg base C 6 "negative" ["self", "amount"] (spNegM C)) (Tw : Dm P w K mg base C 6 "twice" ["self", "amount"] (spTwice C))
    (Ls : Dm P w K mg base C 6 "is_less" ["self", "amount", "other"] (spIsLess C)) (Sg : Dm P w K mg base C 6 "sign" ["self", "amount"] (spSignM C)) (Gt : DmR P w K mg base C 7 "greatest" (spEnds C fun r q => ¬ amLt r q)) (Rk : Dm P w K mg base C 6 "ranked" ["self", "amounts"] (spRanked C))
    (Ze : Dp1 P w K mg base C 1 "zero" (spZero C)) (Hs : Do1 P w K mg base C 5 "__contains__" ["self", "x"] (spHas K C)) : FnG P w K mg base CX0 8 f fd ["_law_meter", "_law_a", "_law_b", "_law_c"] (spThr C) := by
  refine okG F scThr (fun vs H Q E h => ?_) (fun cdv A outer s H vs Q E hr h => ?_)
  · obtain ⟨g, m, v, u, t, x, y, z, rfl, _⟩ := h
    rfl
  · obtain ⟨g, m, v, u, t, x, y, z, rfl, sa, mok, hx, hy, hz, nx, ny, nz, vx, uy, tz, q⟩ := h
    have nd := scThr.nd
    have r1 := hr.mono (show 1 ≤ 7 by decide)
    have r2 := hr.mono (show 2 ≤ 7 by decide)
    have r5 := hr.mono (show 5 ≤ 7 by decide)
    have r6 := hr.mono (show 6 ≤ 7 by decide)
    have r7 := hr
    have hu : (A.deeper (envOfC "_law_threes_right" (defScope sThr) s.heap.objs.size f cdv)).units + 64 < cLine := by have := hr.rm.un; omega
    refine ⟨_, pss_cons (ps_if (PW.pt (pw_or (pt_cmpR (op_neD hu) (pe_methR (pv 0) Z.cls Pm.at_ Pm.G r7.rm pass0 (pa_cons (pv 1) (pa_cons (pv 2) (pa_cons (pv 3) pa_nil)))) (pe_methR (pv 0) Z.cls Pm.at_ Pm.G r7.rm pass0 (pa_cons (pe_methR (pv 0) Z.cls Pm.at_ Pm.G r7.rm pass0 (pa_cons (pv 3) (pa_cons (pv 1) pa_nil))) (pa_cons (pv 2) pa_nil))) (nomark _)) (pw_or1 (pt_cmpR (op_neD hu) (pe_methR (pv 0) Z.cls Pm.at_ Pm.G r7.rm pass0 (pa_cons (pv 1) (pa_cons (pv 2) pa_nil))) (pe_methR (pv 0) Z.cls Pm.at_ Pm.G r7.rm pass0 (pa_cons (pv 2) (pa_cons (pv 1) pa_nil))) (nomark _))))) pss_never pss_nil)
      (pss_cons (ps_if (PW.pt (pw_or (pt_cmpR (op_neD hu) (pe_methR (pv 0) Z.cls Pm.at_ Pm.G r7.rm pass0 (pa_cons (pv 1) (pa_cons (pe_meth (pv 0) Z.cls Ne.at_ Ne.G r6.rm Ne.b .nil pass0 (pa_cons (pv 1) pa_nil)) pa_nil))) (pe_prop (pv 0) Z.cls Ze.at_ Ze.G r2.rm Ze.b .nil pass0 rfl) (nomark _)) (pw_or1 (pt_cmpR (op_neD hu) (pe_methR (pv 0) Z.cls Pm.at_ Pm.G r7.rm pass0 (pa_cons (pv 1) (pa_cons (pe_prop (pv 0) Z.cls Ze.at_ Ze.G r2.rm Ze.b .nil pass0 rfl) pa_nil))) (pv 1) (nomark _))))) pss_never pss_nil)
      (pss_cons (ps_if (PW.pt (pw_or (pt_cmpR (op_neD hu) (pe_meth (pv 0) Z.cls Mi.at_ Mi.G r6.rm Mi.b .nil pass0 (pa_cons (pv 1) (pa_cons (pv 2) pa_nil))) (pe_methR (pv 0) Z.cls Pm.at_ Pm.G r7.rm pass0 (pa_cons (pv 1) (pa_cons (pe_meth (pv 0) Z.cls Ne.at_ Ne.G r6.rm Ne.b .nil pass0 (pa_cons (pv 2) pa_nil)) pa_nil))) (nomark _)) (pw_or1 (pt_cmpR (op_neD hu) (pe_methR (pv 0) Z.cls Pm.at_ Pm.G r7.rm pass0 (pa_cons (pe_meth (pv 0) Z.cls Mi.at_ Mi.G r6.rm Mi.b .nil pass0 (pa_cons (pv 1) (pa_cons (pv 2) pa_nil))) (pa_cons (pv 2) pa_nil))) (pv 1) (nomark _))))) pss_never pss_nil)
      (pss_cons (ps_if (PW.pt (pw_or (pt_cmpR (op_neD hu) (pe_meth (pv 0) Z.cls Ne.at_ Ne.G r6.rm Ne.b .nil pass0 (pa_cons (pe_meth (pv 0) Z.cls Ne.at_ Ne.G r6.rm Ne.b .nil pass0 (pa_cons (pv 1) pa_nil)) pa_nil)) (pv 1) (nomark _)) (pw_or1 (pt_cmpR (op_neD hu) (pe_meth (pv 0) Z.cls Tw.at_ Tw.G r6.rm Tw.b .nil pass0 (pa_cons (pv 1) pa_nil)) (pe_meth (pv 0) Z.cls Pl.at_ Pl.G r6.rm Pl.b .nil pass0 (pa_cons (pe_tup (pa_cons (pv 1) (pa_cons (pv 1) pa_nil))) pa_nil)) (nomark _))))) pss_never pss_nil)
      (pss_cons (ps_if (pt_cmpR op_ne (pe_bm PySem.F.plainAttrs_list PySem.F.slot_list_count PySem.F.type_list_count mt_countB (pe_lst (pa_cons (pe_meth (pv 0) Z.cls Ls.at_ Ls.G r6.rm Ls.b .nil pass0 (pa_cons (pv 1) (pa_cons (pv 2) pa_nil))) (pa_cons (pe_cmpR (op_eqD hu) (pv 1) (pv 2) (nomark _)) (pa_cons (pe_meth (pv 0) Z.cls Ls.at_ Ls.G r6.rm Ls.b .nil pass0 (pa_cons (pv 2) (pa_cons (pv 1) pa_nil))) pa_nil)))) (pa_cons pe_bl pa_nil)) pe_int (nomark _)) pss_never pss_nil)
      (pss_cons (ps_if (pt_cmpR op_ne (pe_meth (pv 0) Z.cls Ls.at_ Ls.G r6.rm Ls.b .nil pass0 (pa_cons (pv 1) (pa_cons (pv 2) pa_nil))) (pe_meth (pv 0) Z.cls Ls.at_ Ls.G r6.rm Ls.b .nil pass0 (pa_cons (pe_methR (pv 0) Z.cls Pm.at_ Pm.G r7.rm pass0 (pa_cons (pv 1) (pa_cons (pv 3) pa_nil))) (pa_cons (pe_methR (pv 0) Z.cls Pm.at_ Pm.G r7.rm pass0 (pa_cons (pv 2) (pa_cons (pv 3) pa_nil))) pa_nil))) (nomark _)) pss_never pss_nil)
      (pss_cons (ps_if (pt_cmpR op_ne (pe_meth (pv 0) Z.cls Ls.at_ Ls.G r6.rm Ls.b .nil pass0 (pa_cons (pv 1) (pa_cons (pv 2) pa_nil))) (pe_meth (pv 0) Z.cls Ls.at_ Ls.G r6.rm Ls.b .nil pass0 (pa_cons (pe_meth (pv 0) Z.cls Ne.at_ Ne.G r6.rm Ne.b .nil pass0 (pa_cons (pv 2) pa_nil)) (pa_cons (pe_meth (pv 0) Z.cls Ne.at_ Ne.G r6.rm Ne.b .nil pass0 (pa_cons (pv 1) pa_nil)) pa_nil))) (nomark _)) pss_never pss_nil)
      (pss_cons (ps_if (PW.pt (pw_and (pt_val (pe_meth (pv 0) Z.cls Ls.at_ Ls.G r6.rm Ls.b .nil pass0 (pa_cons (pv 1) (pa_cons (pv 2) pa_nil)))) (pw_and (pt_val (pe_meth (pv 0) Z.cls Ls.at_ Ls.G r6.rm Ls.b .nil pass0 (pa_cons (pv 2) (pa_cons (pv 3) pa_nil)))) (pw_and1 (pt_not (pt_val (pe_meth (pv 0) Z.cls Ls.at_ Ls.G r6.rm Ls.b .nil pass0 (pa_cons (pv 1) (pa_cons (pv 3) pa_nil))))))))) pss_never pss_nil)
      (pss_cons (ps_if (pt_cmpR op_ne (pe_meth (pv 0) Z.cls Sg.at_ Sg.G r6.rm Sg.b .nil pass0 (pa_cons (pe_meth (pv 0) Z.cls Mi.at_ Mi.G r6.rm Mi.b .nil pass0 (pa_cons (pv 1) (pa_cons (pv 2) pa_nil))) pa_nil)) (pe_op op_sub (pe_callTy call_int1 (by rfl) T.int (by decide +kernel) (pa_cons (pe_meth (pv 0) Z.cls Ls.at_ Ls.G r6.rm Ls.b .nil pass0 (pa_cons (pv 2) (pa_cons (pv 1) pa_nil))) pa_nil)) (pe_callTy call_int1 (by rfl) T.int (by decide +kernel) (pa_cons (pe_meth (pv 0) Z.cls Ls.at_ Ls.G r6.rm Ls.b .nil pass0 (pa_cons (pv 1) (pa_cons (pv 2) pa_nil))) pa_nil))) (nomark _)) pss_never pss_nil)
      (pss_cons (ps_set (i := 4) nd rfl (.inl rfl) (pe_tup (pa_cons (pv 1) (pa_cons (pv 2) (pa_cons (pv 3) pa_nil)))))
      (pss_cons (ps_if (pt_cmpR (op_notinO Hs.G Hs.o Hs.b pass0 r5.rm) (pe_meth (pv 0) Z.cls Pl.at_ Pl.G r6.rm Pl.b .nil pass0 (pa_cons (pv 4) pa_nil)) (pv 0) rfl) pss_never pss_nil)
      (pss_one (ps_ret (pe_cmpR (op_eqD hu) (pe_methR (pv 0) Z.cls Gt.at_ Gt.G r7.rm pass0 (pa_cons (pv 1) (pa_cons (pv 2) (pa_cons (pv 3) pa_nil)))) (pe_ix ix_tup (pv 4) (pe_ix ix_tup (pe_meth (pv 0) Z.cls Rk.at_ Rk.G r6.rm Rk.b .nil pass0 (pa_cons (pv 4) pa_nil)) pe_int (fun _ _ => rfl)) (fun _ _ => rfl)) (nomark _)))))))))))))), ?_⟩
    have lx := nx.lim
    have ly := ny.lim
    have lz := nz.lim
    obtain ⟨dg1, fs1, hg1, hn1⟩ := sa.no (x := "plus") (by decide +kernel) (by decide +kernel)
    refine ⟨_, rfl, g, dg1, fs1, rfl, hg1, hn1, _, rfl, _, rfl, _, rfl, g, m, 190, [(v, x), (u, y), (t, z)], rfl, sa, mok, (mem3 ⟨hx, lx, vx⟩ ⟨hy, ly, uy⟩ ⟨hz, lz, tz⟩), by decide, by decide, (by show 190 * 3 + 1 + 190 ≤ 8000; decide), (by show 3 ≤ 1000; decide), fun v2 H2 f2 a2 => ?_⟩
    have sa3 := (f2).scl sa
    have E3 := f2
    have av_v_3 := vx.ex f2
    have av_u_3 := uy.ex f2
    have av_t_3 := tz.ex f2
    rw [show [(v, x), (u, y), (t, z)].map (·.2) = [x, y, z] from rfl, sum3 (m := m) hx] at a2
    have hs4 : m.has ((x.add (y)).add (z)) := add_has (add_has (hx) hy) hz
    have lm4 : ((x.add (y)).add (z) : Am).lim 570 := add_lim (m := m) (by decide) (by decide) (add_has (hx) hy) hz (add_lim (m := m) (by decide) (by decide) (hx) hy (lx) ly) lz
    have av4 := a2
    obtain ⟨dg5, fs5, hg5, hn5⟩ := sa3.no (x := "plus") (by decide +kernel) (by decide +kernel)
    obtain ⟨dg6, fs6, hg6, hn6⟩ := sa3.no (x := "plus") (by decide +kernel) (by decide +kernel)
    refine ⟨_, rfl, g, dg5, fs5, rfl, hg5, hn5, _, rfl, g, dg6, fs6, rfl, hg6, hn6, _, rfl, _, rfl, g, m, 190, [(t, z), (v, x)], rfl, sa3, mok, (mem2 ⟨hz, lz, av_t_3⟩ ⟨hx, lx, av_v_3⟩), by decide, by decide, (by show 190 * 2 + 1 + 190 ≤ 8000; decide), (by show 2 ≤ 1000; decide), fun v7 H7 f7 a7 => ?_⟩
    have sa8 := (f7).scl sa3
    have E8 := E3.trans f7
    have av_v_8 := av_v_3.ex f7
    have av_u_8 := av_u_3.ex f7
    have av_t_8 := av_t_3.ex f7
    have av4_8 := av4.ex f7
    rw [show [(t, z), (v, x)].map (·.2) = [z, x] from rfl, sum2 (m := m) hz] at a7
    have hs9 : m.has (z.add (x)) := add_has (hz) hx
    have lm9 : (z.add (x) : Am).lim 380 := add_lim (m := m) (by decide) (by decide) (hz) hx (lz) lx
    have av9 := a7
    refine ⟨_, rfl, g, m, 380, [(v7, z.add (x)), (u, y)], rfl, sa8, mok, (mem2 ⟨hs9, lm9, av9⟩ ⟨hy, (Am.lim.mono (by decide) ly), av_u_8⟩), by decide, by decide, (by show 380 * 2 + 1 + 380 ≤ 8000; decide), (by show 2 ≤ 1000; decide), fun v10 H10 f10 a10 => ?_⟩
    have sa11 := (f10).scl sa8
    have E11 := E8.trans f10
    have av_v_11 := av_v_8.ex f10
    have av_u_11 := av_u_8.ex f10
    have av_t_11 := av_t_8.ex f10
    have av4_11 := av4_8.ex f10
    rw [show [(v7, z.add (x)), (u, y)].map (·.2) = [z.add (x), y] from rfl, sum2 (m := m) hs9] at a10
    have hs12 : m.has ((z.add (x)).add (y)) := add_has (hs9) hy
    have lm12 : ((z.add (x)).add (y) : Am).lim 570 := add_lim (m := m) (by decide) (by decide) (hs9) hy (lm9) ly
    have av12 := a10
    have eq13 : ((x.add (y)).add (z) : Am) = (z.add (x)).add (y) := (add_comm' (add_has hx hy) hz).trans (add_assoc' hz hx hy).symm
    have dx13 := dp_am (K := K) av4_11
    rw [eq13] at dx13
    refine ⟨_, _, dx13, dp_am av12, Am.shaped _, Am.shaped _, ?_⟩
    rw [eqv_self]
    refine ⟨_, rfl, ?_⟩
    obtain ⟨dg14, fs14, hg14, hn14⟩ := sa11.no (x := "plus") (by decide +kernel) (by decide +kernel)
    refine ⟨_, rfl, g, dg14, fs14, rfl, hg14, hn14, _, rfl, _, rfl, g, m, 190, [(v, x), (u, y)], rfl, sa11, mok, (mem2 ⟨hx, lx, av_v_11⟩ ⟨hy, ly, av_u_11⟩), by decide, by decide, (by show 190 * 2 + 1 + 190 ≤ 8000; decide), (by show 2 ≤ 1000; decide), fun v15 H15 f15 a15 => ?_⟩
    have sa16 := (f15).scl sa11
    have E16 := E11.trans f15
    have av_v_16 := av_v_11.ex f15
    have av_u_16 := av_u_11.ex f15
    have av_t_16 := av_t_11.ex f15
    rw [show [(v, x), (u, y)].map (·.2) = [x, y] from rfl, sum2 (m := m) hx] at a15
    have hs17 : m.has (x.add (y)) := add_has (hx) hy
    have lm17 : (x.add (y) : Am).lim 380 := add_lim (m := m) (by decide) (by decide) (hx) hy (lx) ly
    have av17 := a15
    obtain ⟨dg18, fs18, hg18, hn18⟩ := sa16.no (x := "plus") (by decide +kernel) (by decide +kernel)
    refine ⟨_, rfl, g, dg18, fs18, rfl, hg18, hn18, _, rfl, _, rfl, g, m, 190, [(u, y), (v, x)], rfl, sa16, mok, (mem2 ⟨hy, ly, av_u_16⟩ ⟨hx, lx, av_v_16⟩), by decide, by decide, (by show 190 * 2 + 1 + 190 ≤ 8000; decide), (by show 2 ≤ 1000; decide), fun v19 H19 f19 a19 => ?_⟩
    have sa20 := (f19).scl sa16
    have E20 := E16.trans f19
    have av_v_20 := av_v_16.ex f19
    have av_u_20 := av_u_16.ex f19
    have av_t_20 := av_t_16.ex f19
    have av17_20 := av17.ex f19
    rw [show [(u, y), (v, x)].map (·.2) = [y, x] from rfl, sum2 (m := m) hy] at a19
    have hs21 : m.has (y.add (x)) := add_has (hy) hx
    have lm21 : (y.add (x) : Am).lim 380 := add_lim (m := m) (by decide) (by decide) (hy) hx (ly) lx
    have av21 := a19
    have eq22 : (x.add (y) : Am) = y.add (x) := add_comm' hx hy
    have dx22 := dp_am (K := K) av17_20
    rw [eq22] at dx22
    refine ⟨_, _, dx22, dp_am av21, Am.shaped _, Am.shaped _, ?_⟩
    rw [eqv_self]
    refine ⟨_, rfl, ?_⟩
    obtain ⟨dg23, fs23, hg23, hn23⟩ := sa20.no (x := "plus") (by decide +kernel) (by decide +kernel)
    obtain ⟨dg24, fs24, hg24, hn24⟩ := sa20.no (x := "negative") (by decide +kernel) (by decide +kernel)
    refine ⟨_, rfl, g, dg23, fs23, rfl, hg23, hn23, _, rfl, _, rfl, g, dg24, fs24, rfl, hg24, hn24, _, rfl, g, m, 190, v, x, rfl, sa20, mok, by decide, hx, lx, av_v_20, fun v25 H25 f25 a25 => ?_⟩
    have sa26 := (f25).scl sa20
    have E26 := E20.trans f25
    have av_v_26 := av_v_20.ex f25
    have av_u_26 := av_u_20.ex f25
    have av_t_26 := av_t_20.ex f25
    have hs27 : m.has ((x).neg) := neg_has hx
    have lm27 : ((x).neg : Am).lim 190 := neg_lim lx
    have av27 := a25
    refine ⟨g, m, 190, [(v, x), (v25, (x).neg)], rfl, sa26, mok, (mem2 ⟨hx, lx, av_v_26⟩ ⟨hs27, lm27, av27⟩), by decide, by decide, (by show 190 * 2 + 1 + 190 ≤ 8000; decide), (by show 2 ≤ 1000; decide), fun v28 H28 f28 a28 => ?_⟩
    have sa29 := (f28).scl sa26
    have E29 := E26.trans f28
    have av_v_29 := av_v_26.ex f28
    have av_u_29 := av_u_26.ex f28
    have av_t_29 := av_t_26.ex f28
    rw [show [(v, x), (v25, (x).neg)].map (·.2) = [x, (x).neg] from rfl, sum2 (m := m) hx] at a28
    have hs30 : m.has (x.add ((x).neg)) := add_has (hx) hs27
    have lm30 : (x.add ((x).neg) : Am).lim 380 := add_lim (m := m) (by decide) (by decide) (hx) hs27 (lx) lm27
    have av30 := a28
    obtain ⟨dg31, fs31, hg31, _⟩ := id sa29
    refine ⟨_, rfl, g, dg31, fs31, rfl, hg31, g, m, rfl, sa29, mok, fun v31 H31 f31 a31 => ?_⟩
    have sa32 := (f31).scl sa29
    have E32 := E29.trans f31
    have av_v_32 := av_v_29.ex f31
    have av_u_32 := av_u_29.ex f31
    have av_t_32 := av_t_29.ex f31
    have av30_32 := av30.ex f31
    have hs33 : m.has (m.zero) := m.zero_has
    have lm33 : (m.zero : Am).lim 1 := zero_lim m (by decide)
    have av33 := a31
    have eq34 : (x.add ((x).neg) : Am) = m.zero := add_neg' hx
    have dx34 := dp_am (K := K) av30_32
    rw [eq34] at dx34
    refine ⟨_, _, dx34, dp_am av33, Am.shaped _, Am.shaped _, ?_⟩
    rw [eqv_self]
    refine ⟨_, rfl, ?_⟩
    obtain ⟨dg35, fs35, hg35, hn35⟩ := sa32.no (x := "plus") (by decide +kernel) (by decide +kernel)
    obtain ⟨dg36, fs36, hg36, _⟩ := id sa32
    refine ⟨_, rfl, g, dg35, fs35, rfl, hg35, hn35, _, rfl, _, rfl, g, dg36, fs36, rfl, hg36, g, m, rfl, sa32, mok, fun v36 H36 f36 a36 => ?_⟩
    have sa37 := (f36).scl sa32
    have E37 := E32.trans f36
    have av_v_37 := av_v_32.ex f36
    have av_u_37 := av_u_32.ex f36
    have av_t_37 := av_t_32.ex f36
    have hs38 : m.has (m.zero) := m.zero_has
    have lm38 : (m.zero : Am).lim 1 := zero_lim m (by decide)
    have av38 := a36
    refine ⟨g, m, 190, [(v, x), (v36, m.zero)], rfl, sa37, mok, (mem2 ⟨hx, lx, av_v_37⟩ ⟨hs38, (Am.lim.mono (by decide) lm38), av38⟩), by decide, by decide, (by show 190 * 2 + 1 + 190 ≤ 8000; decide), (by show 2 ≤ 1000; decide), fun v39 H39 f39 a39 => ?_⟩
    have sa40 := (f39).scl sa37
    have E40 := E37.trans f39
    have av_v_40 := av_v_37.ex f39
    have av_u_40 := av_u_37.ex f39
    have av_t_40 := av_t_37.ex f39
    rw [show [(v, x), (v36, m.zero)].map (·.2) = [x, m.zero] from rfl, sum2 (m := m) hx] at a39
    have hs41 : m.has (x.add (m.zero)) := add_has (hx) hs38
    have lm41 : (x.add (m.zero) : Am).lim 191 := add_lim (m := m) (by decide) (by decide) (hx) hs38 (lx) lm38
    have av41 := a39
    have eq42 : (x.add (m.zero) : Am) = x := add_zero' hx
    have dx42 := dp_am (K := K) av41
    rw [eq42] at dx42
    refine ⟨_, rfl, _, _, dx42, dp_am av_v_40, Am.shaped _, Am.shaped _, ?_⟩
    rw [eqv_self]
    refine ⟨_, rfl, ?_⟩
    obtain ⟨dg43, fs43, hg43, hn43⟩ := sa40.no (x := "minus") (by decide +kernel) (by decide +kernel)
    refine ⟨_, rfl, g, dg43, fs43, rfl, hg43, hn43, _, rfl, _, rfl, g, m, 190, v, u, x, y, rfl, sa40, mok, by decide, by decide, hx, hy, lx, ly, av_v_40, av_u_40, fun v44 H44 f44 a44 => ?_⟩
    have sa45 := (f44).scl sa40
    have E45 := E40.trans f44
    have av_v_45 := av_v_40.ex f44
    have av_u_45 := av_u_40.ex f44
    have av_t_45 := av_t_40.ex f44
    have hs46 : m.has ((x).sub (y)) := sub_has hx hy
    have lm46 : ((x).sub (y) : Am).lim 380 := sub_lim (m := m) (by decide) (by decide) hx hy lx ly
    have av46 := a44
    obtain ⟨dg47, fs47, hg47, hn47⟩ := sa45.no (x := "plus") (by decide +kernel) (by decide +kernel)
    obtain ⟨dg48, fs48, hg48, hn48⟩ := sa45.no (x := "negative") (by decide +kernel) (by decide +kernel)
    refine ⟨_, rfl, g, dg47, fs47, rfl, hg47, hn47, _, rfl, _, rfl, g, dg48, fs48, rfl, hg48, hn48, _, rfl, g, m, 190, u, y, rfl, sa45, mok, by decide, hy, ly, av_u_45, fun v49 H49 f49 a49 => ?_⟩
    have sa50 := (f49).scl sa45
    have E50 := E45.trans f49
    have av_v_50 := av_v_45.ex f49
    have av_u_50 := av_u_45.ex f49
    have av_t_50 := av_t_45.ex f49
    have av46_50 := av46.ex f49
    have hs51 : m.has ((y).neg) := neg_has hy
    have lm51 : ((y).neg : Am).lim 190 := neg_lim ly
    have av51 := a49
    refine ⟨g, m, 190, [(v, x), (v49, (y).neg)], rfl, sa50, mok, (mem2 ⟨hx, lx, av_v_50⟩ ⟨hs51, lm51, av51⟩), by decide, by decide, (by show 190 * 2 + 1 + 190 ≤ 8000; decide), (by show 2 ≤ 1000; decide), fun v52 H52 f52 a52 => ?_⟩
    have sa53 := (f52).scl sa50
    have E53 := E50.trans f52
    have av_v_53 := av_v_50.ex f52
    have av_u_53 := av_u_50.ex f52
    have av_t_53 := av_t_50.ex f52
    have av46_53 := av46_50.ex f52
    rw [show [(v, x), (v49, (y).neg)].map (·.2) = [x, (y).neg] from rfl, sum2 (m := m) hx] at a52
    have hs54 : m.has (x.add ((y).neg)) := add_has (hx) hs51
    have lm54 : (x.add ((y).neg) : Am).lim 380 := add_lim (m := m) (by decide) (by decide) (hx) hs51 (lx) lm51
    have av54 := a52
    have eq55 : ((x).sub (y) : Am) = x.add ((y).neg) := sub_is hx hy
    have dx55 := dp_am (K := K) av46_53
    rw [eq55] at dx55
    refine ⟨_, _, dx55, dp_am av54, Am.shaped _, Am.shaped _, ?_⟩
    rw [eqv_self]
    refine ⟨_, rfl, ?_⟩
    obtain ⟨dg56, fs56, hg56, hn56⟩ := sa53.no (x := "plus") (by decide +kernel) (by decide +kernel)
    obtain ⟨dg57, fs57, hg57, hn57⟩ := sa53.no (x := "minus") (by decide +kernel) (by decide +kernel)
    refine ⟨_, rfl, g, dg56, fs56, rfl, hg56, hn56, _, rfl, g, dg57, fs57, rfl, hg57, hn57, _, rfl, _, rfl, g, m, 190, v, u, x, y, rfl, sa53, mok, by decide, by decide, hx, hy, lx, ly, av_v_53, av_u_53, fun v58 H58 f58 a58 => ?_⟩
    have sa59 := (f58).scl sa53
    have E59 := E53.trans f58
    have av_v_59 := av_v_53.ex f58
    have av_u_59 := av_u_53.ex f58
    have av_t_59 := av_t_53.ex f58
    have hs60 : m.has ((x).sub (y)) := sub_has hx hy
    have lm60 : ((x).sub (y) : Am).lim 380 := sub_lim (m := m) (by decide) (by decide) hx hy lx ly
    have av60 := a58
    refine ⟨_, rfl, g, m, 380, [(v58, (x).sub (y)), (u, y)], rfl, sa59, mok, (mem2 ⟨hs60, lm60, av60⟩ ⟨hy, (Am.lim.mono (by decide) ly), av_u_59⟩), by decide, by decide, (by show 380 * 2 + 1 + 380 ≤ 8000; decide), (by show 2 ≤ 1000; decide), fun v61 H61 f61 a61 => ?_⟩
    have sa62 := (f61).scl sa59
    have E62 := E59.trans f61
    have av_v_62 := av_v_59.ex f61
    have av_u_62 := av_u_59.ex f61
    have av_t_62 := av_t_59.ex f61
    rw [show [(v58, (x).sub (y)), (u, y)].map (·.2) = [(x).sub (y), y] from rfl, sum2 (m := m) hs60] at a61
    have hs63 : m.has (((x).sub (y)).add (y)) := add_has (hs60) hy
    have lm63 : (((x).sub (y)).add (y) : Am).lim 570 := add_lim (m := m) (by decide) (by decide) (hs60) hy (lm60) ly
    have av63 := a61
    have eq64 : (((x).sub (y)).add (y) : Am) = x := sub_add' hx hy
    have dx64 := dp_am (K := K) av63
    rw [eq64] at dx64
    refine ⟨_, rfl, _, _, dx64, dp_am av_v_62, Am.shaped _, Am.shaped _, ?_⟩
    rw [eqv_self]
    refine ⟨_, rfl, ?_⟩
    obtain ⟨dg65, fs65, hg65, hn65⟩ := sa62.no (x := "negative") (by decide +kernel) (by decide +kernel)
    obtain ⟨dg66, fs66, hg66, hn66⟩ := sa62.no (x := "negative") (by decide +kernel) (by decide +kernel)
    refine ⟨_, rfl, g, dg65, fs65, rfl, hg65, hn65, _, rfl, g, dg66, fs66, rfl, hg66, hn66, _, rfl, g, m, 190, v, x, rfl, sa62, mok, by decide, hx, lx, av_v_62, fun v67 H67 f67 a67 => ?_⟩
    have sa68 := (f67).scl sa62
    have E68 := E62.trans f67
    have av_v_68 := av_v_62.ex f67
    have av_u_68 := av_u_62.ex f67
    have av_t_68 := av_t_62.ex f67
    have hs69 : m.has ((x).neg) := neg_has hx
    have lm69 : ((x).neg : Am).lim 190 := neg_lim lx
    have av69 := a67
    refine ⟨g, m, 190, v67, (x).neg, rfl, sa68, mok, by decide, hs69, lm69, av69, fun v70 H70 f70 a70 => ?_⟩
    have sa71 := (f70).scl sa68
    have E71 := E68.trans f70
    have av_v_71 := av_v_68.ex f70
    have av_u_71 := av_u_68.ex f70
    have av_t_71 := av_t_68.ex f70
    have hs72 : m.has (((x).neg).neg) := neg_has hs69
    have lm72 : (((x).neg).neg : Am).lim 190 := neg_lim lm69
    have av72 := a70
    have eq73 : (((x).neg).neg : Am) = x := neg_neg'
    have dx73 := dp_am (K := K) av72
    rw [eq73] at dx73
    refine ⟨_, rfl, _, _, dx73, dp_am av_v_71, Am.shaped _, Am.shaped _, ?_⟩
    rw [eqv_self]
    refine ⟨_, rfl, ?_⟩
    obtain ⟨dg74, fs74, hg74, hn74⟩ := sa71.no (x := "twice") (by decide +kernel) (by decide +kernel)
    refine ⟨_, rfl, g, dg74, fs74, rfl, hg74, hn74, _, rfl, g, m, 190, v, x, rfl, sa71, mok, by decide, by decide, hx, lx, av_v_71, fun v75 H75 f75 a75 => ?_⟩
    have sa76 := (f75).scl sa71
    have E76 := E71.trans f75
    have av_v_76 := av_v_71.ex f75
    have av_u_76 := av_u_71.ex f75
    have av_t_76 := av_t_71.ex f75
    have hs77 : m.has ((x).add (x)) := add_has hx hx
    have lm77 : ((x).add (x) : Am).lim 380 := (add_lim (m := m) (by decide) (by decide) hx hx lx lx)
    have av77 := a75
    obtain ⟨dg78, fs78, hg78, hn78⟩ := sa76.no (x := "plus_all") (by decide +kernel) (by decide +kernel)
    refine ⟨_, rfl, g, dg78, fs78, rfl, hg78, hn78, _, rfl, _, rfl, by show 2 ≤ sizeLine; decide, fun t79 n79 => ?_⟩
    have x79 := Ex.new (o := .tup [v, v]) n79
    have sa80 := (x79).scl sa76
    have E80 := E76.trans x79
    have av_v_80 := av_v_76.ex x79
    have av_u_80 := av_u_76.ex x79
    have av_t_80 := av_t_76.ex x79
    have av77_80 := av77.ex x79
    have rd79 : Rd _ t79 _ := .inl (new_at x79)
    refine ⟨g, t79, m, 190, [(v, x), (v, x)], rfl, sa80, mok, ⟨rd79, (mem2 ⟨hx, lx, av_v_80⟩ ⟨hx, lx, av_v_80⟩)⟩, by decide, by decide, (by show 190 * 2 + 1 + 190 ≤ 8000; decide), (by show 2 ≤ 1000; decide), fun v81 H81 f81 a81 => ?_⟩
    have sa82 := (f81).scl sa80
    have E82 := E80.trans f81
    have av_v_82 := av_v_80.ex f81
    have av_u_82 := av_u_80.ex f81
    have av_t_82 := av_t_80.ex f81
    have av77_82 := av77_80.ex f81
    have rd79r_82 := (f81).rd rd79
    rw [show [(v, x), (v, x)].map (·.2) = [x, x] from rfl, sum2 (m := m) hx] at a81
    have hs83 : m.has (x.add (x)) := add_has (hx) hx
    have lm83 : (x.add (x) : Am).lim 380 := add_lim (m := m) (by decide) (by decide) (hx) hx (lx) lx
    have av83 := a81
    have eq84 : ((x).add (x) : Am) = x.add (x) := rfl
    have dx84 := dp_am (K := K) av77_82
    rw [eq84] at dx84
    refine ⟨_, _, dx84, dp_am av83, Am.shaped _, Am.shaped _, ?_⟩
    rw [eqv_self]
    refine ⟨_, rfl, ?_⟩
    obtain ⟨dg85, fs85, hg85, hn85⟩ := sa82.no (x := "is_less") (by decide +kernel) (by decide +kernel)
    refine ⟨_, rfl, g, dg85, fs85, rfl, hg85, hn85, _, rfl, _, rfl, g, m, v, u, x, y, rfl, sa82, mok, hx, hy, (Am.lim.wide (Am.lim.mono (by decide) lx)), (Am.lim.wide (Am.lim.mono (by decide) ly)), av_v_82, av_u_82, fun H86 f86 => ?_⟩
    have sa87 := (f86).scl sa82
    have E87 := E82.trans f86
    have av_v_87 := av_v_82.ex f86
    have av_u_87 := av_u_82.ex f86
    have av_t_87 := av_t_82.ex f86
    have rd79r_87 := (f86).rd rd79r_82
    refine ⟨_, rfl, _, rfl, _, _, dp_am (K := K) av_v_87, dp_am av_u_87, Am.shaped _, Am.shaped _, ?_⟩
    rw [eqv_am (m := m) hx hy]
    obtain ⟨dg88, fs88, hg88, hn88⟩ := sa87.no (x := "is_less") (by decide +kernel) (by decide +kernel)
    refine ⟨_, rfl, g, dg88, fs88, rfl, hg88, hn88, _, rfl, _, rfl, g, m, u, v, y, x, rfl, sa87, mok, hy, hx, (Am.lim.wide (Am.lim.mono (by decide) ly)), (Am.lim.wide (Am.lim.mono (by decide) lx)), av_u_87, av_v_87, fun H89 f89 => ?_⟩
    have sa90 := (f89).scl sa87
    have E90 := E87.trans f89
    have av_v_90 := av_v_87.ex f89
    have av_u_90 := av_u_87.ex f89
    have av_t_90 := av_t_87.ex f89
    have rd79r_90 := (f89).rd rd79r_87
    refine ⟨by show 3 ≤ sizeLine; decide, fun L0 nL0 => ?_⟩
    have xL0 := Ex.new (o := .lst [.bl (decide (amLt x y)), .bl (decide (x = y)), .bl (decide (amLt y x))]) nL0
    have sa91 := (xL0).scl sa90
    have E91 := E90.trans xL0
    have av_v_91 := av_v_90.ex xL0
    have av_u_91 := av_u_90.ex xL0
    have av_t_91 := av_t_90.ex xL0
    have rd79r_91 := (xL0).rd rd79r_90
    have cn : [decide (amLt x y), decide (x = y), decide (amLt y x)].count true = 1 := one_of_three x y
    refine ⟨.inl ⟨rfl, _, .inl (.inl (new_at xL0))⟩, L0, [decide (amLt x y), decide (x = y), decide (amLt y x)], true, rfl, rfl, .inl (.inl (new_at xL0)), ?_⟩
    rw [cn]
    refine ⟨rfl, ?_⟩
    rw [decide_eq_true (show V.int ((1 : Nat) : Int) = V.int 1 from rfl)]
    refine ⟨_, rfl, ?_⟩
    obtain ⟨dg92, fs92, hg92, hn92⟩ := sa91.no (x := "is_less") (by decide +kernel) (by decide +kernel)
    refine ⟨_, rfl, g, dg92, fs92, rfl, hg92, hn92, _, rfl, _, rfl, g, m, v, u, x, y, rfl, sa91, mok, hx, hy, (Am.lim.wide (Am.lim.mono (by decide) lx)), (Am.lim.wide (Am.lim.mono (by decide) ly)), av_v_91, av_u_91, fun H93 f93 => ?_⟩
    have sa94 := (f93).scl sa91
    have E94 := E91.trans f93
    have av_v_94 := av_v_91.ex f93
    have av_u_94 := av_u_91.ex f93
    have av_t_94 := av_t_91.ex f93
    have rd79r_94 := (f93).rd rd79r_91
    obtain ⟨dg95, fs95, hg95, hn95⟩ := sa94.no (x := "is_less") (by decide +kernel) (by decide +kernel)
    obtain ⟨dg96, fs96, hg96, hn96⟩ := sa94.no (x := "plus") (by decide +kernel) (by decide +kernel)
    refine ⟨_, rfl, g, dg95, fs95, rfl, hg95, hn95, _, rfl, g, dg96, fs96, rfl, hg96, hn96, _, rfl, _, rfl, g, m, 190, [(v, x), (t, z)], rfl, sa94, mok, (mem2 ⟨hx, lx, av_v_94⟩ ⟨hz, lz, av_t_94⟩), by decide, by decide, (by show 190 * 2 + 1 + 190 ≤ 8000; decide), (by show 2 ≤ 1000; decide), fun v97 H97 f97 a97 => ?_⟩
    have sa98 := (f97).scl sa94
    have E98 := E94.trans f97
    have av_v_98 := av_v_94.ex f97
    have av_u_98 := av_u_94.ex f97
    have av_t_98 := av_t_94.ex f97
    have rd79r_98 := (f97).rd rd79r_94
    rw [show [(v, x), (t, z)].map (·.2) = [x, z] from rfl, sum2 (m := m) hx] at a97
    have hs99 : m.has (x.add (z)) := add_has (hx) hz
    have lm99 : (x.add (z) : Am).lim 380 := add_lim (m := m) (by decide) (by decide) (hx) hz (lx) lz
    have av99 := a97
    obtain ⟨dg100, fs100, hg100, hn100⟩ := sa98.no (x := "plus") (by decide +kernel) (by decide +kernel)
    refine ⟨_, rfl, g, dg100, fs100, rfl, hg100, hn100, _, rfl, _, rfl, g, m, 190, [(u, y), (t, z)], rfl, sa98, mok, (mem2 ⟨hy, ly, av_u_98⟩ ⟨hz, lz, av_t_98⟩), by decide, by decide, (by show 190 * 2 + 1 + 190 ≤ 8000; decide), (by show 2 ≤ 1000; decide), fun v101 H101 f101 a101 => ?_⟩
    have sa102 := (f101).scl sa98
    have E102 := E98.trans f101
    have av_v_102 := av_v_98.ex f101
    have av_u_102 := av_u_98.ex f101
    have av_t_102 := av_t_98.ex f101
    have rd79r_102 := (f101).rd rd79r_98
    have av99_102 := av99.ex f101
    rw [show [(u, y), (t, z)].map (·.2) = [y, z] from rfl, sum2 (m := m) hy] at a101
    have hs103 : m.has (y.add (z)) := add_has (hy) hz
    have lm103 : (y.add (z) : Am).lim 380 := add_lim (m := m) (by decide) (by decide) (hy) hz (ly) lz
    have av103 := a101
    refine ⟨g, m, v97, v101, x.add (z), y.add (z), rfl, sa102, mok, hs99, hs103, (Am.lim.wide (Am.lim.mono (by decide) lm99)), (Am.lim.wide (Am.lim.mono (by decide) lm103)), av99_102, av103, fun H104 f104 => ?_⟩
    have sa105 := (f104).scl sa102
    have E105 := E102.trans f104
    have av_v_105 := av_v_102.ex f104
    have av_u_105 := av_u_102.ex f104
    have av_t_105 := av_t_102.ex f104
    have rd79r_105 := (f104).rd rd79r_102
    refine ⟨rfl, ?_⟩
    rw [decide_eq_true (show V.bl (decide (amLt (x) (y))) = V.bl (decide (amLt (x.add (z)) (y.add (z)))) from congrArg V.bl (decide_eq_decide.mpr (lt_add hx hy hz).symm))]
    refine ⟨_, rfl, ?_⟩
    obtain ⟨dg106, fs106, hg106, hn106⟩ := sa105.no (x := "is_less") (by decide +kernel) (by decide +kernel)
    refine ⟨_, rfl, g, dg106, fs106, rfl, hg106, hn106, _, rfl, _, rfl, g, m, v, u, x, y, rfl, sa105, mok, hx, hy, (Am.lim.wide (Am.lim.mono (by decide) lx)), (Am.lim.wide (Am.lim.mono (by decide) ly)), av_v_105, av_u_105, fun H107 f107 => ?_⟩
    have sa108 := (f107).scl sa105
    have E108 := E105.trans f107
    have av_v_108 := av_v_105.ex f107
    have av_u_108 := av_u_105.ex f107
    have av_t_108 := av_t_105.ex f107
    have rd79r_108 := (f107).rd rd79r_105
    obtain ⟨dg109, fs109, hg109, hn109⟩ := sa108.no (x := "is_less") (by decide +kernel) (by decide +kernel)
    obtain ⟨dg110, fs110, hg110, hn110⟩ := sa108.no (x := "negative") (by decide +kernel) (by decide +kernel)
    refine ⟨_, rfl, g, dg109, fs109, rfl, hg109, hn109, _, rfl, g, dg110, fs110, rfl, hg110, hn110, _, rfl, g, m, 190, u, y, rfl, sa108, mok, by decide, hy, ly, av_u_108, fun v111 H111 f111 a111 => ?_⟩
    have sa112 := (f111).scl sa108
    have E112 := E108.trans f111
    have av_v_112 := av_v_108.ex f111
    have av_u_112 := av_u_108.ex f111
    have av_t_112 := av_t_108.ex f111
    have rd79r_112 := (f111).rd rd79r_108
    have hs113 : m.has ((y).neg) := neg_has hy
    have lm113 : ((y).neg : Am).lim 190 := neg_lim ly
    have av113 := a111
    obtain ⟨dg114, fs114, hg114, hn114⟩ := sa112.no (x := "negative") (by decide +kernel) (by decide +kernel)
    refine ⟨_, rfl, g, dg114, fs114, rfl, hg114, hn114, _, rfl, g, m, 190, v, x, rfl, sa112, mok, by decide, hx, lx, av_v_112, fun v115 H115 f115 a115 => ?_⟩
    have sa116 := (f115).scl sa112
    have E116 := E112.trans f115
    have av_v_116 := av_v_112.ex f115
    have av_u_116 := av_u_112.ex f115
    have av_t_116 := av_t_112.ex f115
    have rd79r_116 := (f115).rd rd79r_112
    have av113_116 := av113.ex f115
    have hs117 : m.has ((x).neg) := neg_has hx
    have lm117 : ((x).neg : Am).lim 190 := neg_lim lx
    have av117 := a115
    refine ⟨g, m, v111, v115, (y).neg, (x).neg, rfl, sa116, mok, hs113, hs117, (Am.lim.wide (Am.lim.mono (by decide) lm113)), (Am.lim.wide (Am.lim.mono (by decide) lm117)), av113_116, av117, fun H118 f118 => ?_⟩
    have sa119 := (f118).scl sa116
    have E119 := E116.trans f118
    have av_v_119 := av_v_116.ex f118
    have av_u_119 := av_u_116.ex f118
    have av_t_119 := av_t_116.ex f118
    have rd79r_119 := (f118).rd rd79r_116
    refine ⟨rfl, ?_⟩
    rw [decide_eq_true (show V.bl (decide (amLt (x) (y))) = V.bl (decide (amLt ((y).neg) ((x).neg))) from congrArg V.bl (decide_eq_decide.mpr (lt_neg hx hy).symm))]
    refine ⟨_, rfl, ?_⟩
    obtain ⟨dg120, fs120, hg120, hn120⟩ := sa119.no (x := "is_less") (by decide +kernel) (by decide +kernel)
    refine ⟨_, rfl, g, dg120, fs120, rfl, hg120, hn120, _, rfl, _, rfl, g, m, v, u, x, y, rfl, sa119, mok, hx, hy, (Am.lim.wide (Am.lim.mono (by decide) lx)), (Am.lim.wide (Am.lim.mono (by decide) ly)), av_v_119, av_u_119, fun H121 f121 => ?_⟩
    have sa122 := (f121).scl sa119
    have E122 := E119.trans f121
    have av_v_122 := av_v_119.ex f121
    have av_u_122 := av_u_119.ex f121
    have av_t_122 := av_t_119.ex f121
    have rd79r_122 := (f121).rd rd79r_119
    refine ⟨_, rfl, ?_⟩
    by_cases c1 : amLt x y
    · rw [decide_eq_true c1]
      refine iteT ?_
      obtain ⟨dg123, fs123, hg123, hn123⟩ := sa122.no (x := "is_less") (by decide +kernel) (by decide +kernel)
      refine ⟨_, rfl, g, dg123, fs123, rfl, hg123, hn123, _, rfl, _, rfl, g, m, u, t, y, z, rfl, sa122, mok, hy, hz, (Am.lim.wide (Am.lim.mono (by decide) ly)), (Am.lim.wide (Am.lim.mono (by decide) lz)), av_u_122, av_t_122, fun H124 f124 => ?_⟩
      have sa125 := (f124).scl sa122
      have E125 := E122.trans f124
      have av_v_125 := av_v_122.ex f124
      have av_u_125 := av_u_122.ex f124
      have av_t_125 := av_t_122.ex f124
      have rd79r_125 := (f124).rd rd79r_122
      refine ⟨_, rfl, ?_⟩
      by_cases c2 : amLt y z
      · rw [decide_eq_true c2]
        refine iteT ?_
        obtain ⟨dg126, fs126, hg126, hn126⟩ := sa125.no (x := "is_less") (by decide +kernel) (by decide +kernel)
        refine ⟨_, rfl, g, dg126, fs126, rfl, hg126, hn126, _, rfl, _, rfl, g, m, v, t, x, z, rfl, sa125, mok, hx, hz, (Am.lim.wide (Am.lim.mono (by decide) lx)), (Am.lim.wide (Am.lim.mono (by decide) lz)), av_v_125, av_t_125, fun H127 f127 => ?_⟩
        have sa128 := (f127).scl sa125
        have E128 := E125.trans f127
        have av_v_128 := av_v_125.ex f127
        have av_u_128 := av_u_125.ex f127
        have av_t_128 := av_t_125.ex f127
        have rd79r_128 := (f127).rd rd79r_125
        refine ⟨_, rfl, ?_⟩
        rw [decide_eq_true (am_lin.tr _ _ _ c1 c2)]
        obtain ⟨dg129, fs129, hg129, hn129⟩ := sa128.no (x := "sign") (by decide +kernel) (by decide +kernel)
        obtain ⟨dg130, fs130, hg130, hn130⟩ := sa128.no (x := "minus") (by decide +kernel) (by decide +kernel)
        refine ⟨_, rfl, g, dg129, fs129, rfl, hg129, hn129, _, rfl, g, dg130, fs130, rfl, hg130, hn130, _, rfl, _, rfl, g, m, 190, v, u, x, y, rfl, sa128, mok, by decide, by decide, hx, hy, lx, ly, av_v_128, av_u_128, fun v131 H131 f131 a131 => ?_⟩
        have sa132 := (f131).scl sa128
        have E132 := E128.trans f131
        have av_v_132 := av_v_128.ex f131
        have av_u_132 := av_u_128.ex f131
        have av_t_132 := av_t_128.ex f131
        have rd79r_132 := (f131).rd rd79r_128
        have hs133 : m.has ((x).sub (y)) := sub_has hx hy
        have lm133 : ((x).sub (y) : Am).lim 380 := sub_lim (m := m) (by decide) (by decide) hx hy lx ly
        have av133 := a131
        refine ⟨g, m, v131, (x).sub (y), rfl, sa132, mok, hs133, (Am.lim.wide (Am.lim.mono (by decide) lm133)), av133, fun H134 f134 => ?_⟩
        have sa135 := (f134).scl sa132
        have E135 := E132.trans f134
        have av_v_135 := av_v_132.ex f134
        have av_u_135 := av_u_132.ex f134
        have av_t_135 := av_t_132.ex f134
        have rd79r_135 := (f134).rd rd79r_132
        obtain ⟨dg136, fs136, hg136, hn136⟩ := sa135.no (x := "is_less") (by decide +kernel) (by decide +kernel)
        refine ⟨_, rfl, g, dg136, fs136, rfl, hg136, hn136, _, rfl, _, rfl, g, m, u, v, y, x, rfl, sa135, mok, hy, hx, (Am.lim.wide (Am.lim.mono (by decide) ly)), (Am.lim.wide (Am.lim.mono (by decide) lx)), av_u_135, av_v_135, fun H137 f137 => ?_⟩
        have sa138 := (f137).scl sa135
        have E138 := E135.trans f137
        have av_v_138 := av_v_135.ex f137
        have av_u_138 := av_u_135.ex f137
        have av_t_138 := av_t_135.ex f137
        have rd79r_138 := (f137).rd rd79r_135
        refine .inr ⟨_, rfl, ?_⟩
        obtain ⟨dg139, fs139, hg139, hn139⟩ := sa138.no (x := "is_less") (by decide +kernel) (by decide +kernel)
        refine ⟨_, rfl, g, dg139, fs139, rfl, hg139, hn139, _, rfl, _, rfl, g, m, v, u, x, y, rfl, sa138, mok, hx, hy, (Am.lim.wide (Am.lim.mono (by decide) lx)), (Am.lim.wide (Am.lim.mono (by decide) ly)), av_v_138, av_u_138, fun H140 f140 => ?_⟩
        have sa141 := (f140).scl sa138
        have E141 := E138.trans f140
        have av_v_141 := av_v_138.ex f140
        have av_u_141 := av_u_138.ex f140
        have av_t_141 := av_t_138.ex f140
        have rd79r_141 := (f140).rd rd79r_138
        refine .inr ⟨_, rfl, ?_⟩
        refine ⟨_, _, rfl, rfl, rfl, ?_⟩
        rw [decide_eq_true (show V.int (sgn m (x.sub y)) = V.int ((if decide (amLt y x) = true then 1 else 0) - (if decide (amLt x y) = true then 1 else 0)) from congrArg V.int (by rw [sgn_sub hx hy]; simp))]
        refine ⟨_, rfl, ?_⟩
        refine ⟨_, rfl, _, rfl, _, rfl, by show 3 ≤ sizeLine; decide, fun t142 n142 => ?_⟩
        have x142 := Ex.new (o := .tup [v, u, t]) n142
        have sa143 := (x142).scl sa141
        have E143 := E141.trans x142
        have av_v_143 := av_v_141.ex x142
        have av_u_143 := av_u_141.ex x142
        have av_t_143 := av_t_141.ex x142
        have rd79r_143 := (x142).rd rd79r_141
        have rd142 : Rd _ t142 _ := .inl (new_at x142)
        obtain ⟨dg144, fs144, hg144, hn144⟩ := sa143.no (x := "plus_all") (by decide +kernel) (by decide +kernel)
        refine ⟨_, rfl, g, dg144, fs144, rfl, hg144, hn144, _, rfl, g, t142, m, 190, [(v, x), (u, y), (t, z)], rfl, sa143, mok, ⟨rd142, (mem3 ⟨hx, lx, av_v_143⟩ ⟨hy, ly, av_u_143⟩ ⟨hz, lz, av_t_143⟩)⟩, by decide, by decide, (by show 190 * 3 + 1 + 190 ≤ 8000; decide), (by show 3 ≤ 1000; decide), fun v145 H145 f145 a145 => ?_⟩
        have sa146 := (f145).scl sa143
        have E146 := E143.trans f145
        have av_v_146 := av_v_143.ex f145
        have av_u_146 := av_u_143.ex f145
        have av_t_146 := av_t_143.ex f145
        have rd79r_146 := (f145).rd rd79r_143
        have rd142r_146 := (f145).rd rd142
        rw [show [(v, x), (u, y), (t, z)].map (·.2) = [x, y, z] from rfl, sum3 (m := m) hx] at a145
        have hs147 : m.has ((x.add (y)).add (z)) := add_has (add_has (hx) hy) hz
        have lm147 : ((x.add (y)).add (z) : Am).lim 570 := add_lim (m := m) (by decide) (by decide) (add_has (hx) hy) hz (add_lim (m := m) (by decide) (by decide) (hx) hy (lx) ly) lz
        have av147 := a145
        obtain ⟨dg148, fs148, hg148, _⟩ := id sa146
        refine ⟨_, rfl, g, dg148, fs148, rfl, hg148, g, m, v145, _, rfl, sa146, mok, .dx (dx_am av147), am_short mok hs147, fun H148 f148 => ⟨_, rfl, ?_⟩⟩
        rw [amt_has mok hs147]
        refine ⟨_, rfl, ?_⟩
        have sa149 := (f148).scl sa146
        have E149 := E146.trans f148
        have av_v_149 := av_v_146.ex f148
        have av_u_149 := av_u_146.ex f148
        have av_t_149 := av_t_146.ex f148
        have rd79r_149 := (f148).rd rd79r_146
        have rd142r_149 := (f148).rd rd142r_146
        obtain ⟨dg150, fs150, hg150, hn150⟩ := sa149.no (x := "greatest") (by decide +kernel) (by decide +kernel)
        refine ⟨_, rfl, g, dg150, fs150, rfl, hg150, hn150, _, rfl, _, rfl, _, rfl, g, m, [(v, x), (u, y), (t, z)], rfl, sa149, mok, (mem3 ⟨hx, (Am.lim.wide (Am.lim.mono (by decide) lx)), av_v_149⟩ ⟨hy, (Am.lim.wide (Am.lim.mono (by decide) ly)), av_u_149⟩ ⟨hz, (Am.lim.wide (Am.lim.mono (by decide) lz)), av_t_149⟩), (by show 1 ≤ 3; decide), (by show 3 ≤ 1000; decide), fun r H151 f151 mem no => ?_⟩
        have ar : AmV H151 r.1 r.2 := mem3 (p := fun q : V × Am => AmV H151 q.1 q.2) (av_v_149.ex f151) (av_u_149.ex f151) (av_t_149.ex f151) r mem
        have sa152 := (f151).scl sa149
        have E152 := E149.trans f151
        have av_v_152 := av_v_149.ex f151
        have av_u_152 := av_u_149.ex f151
        have av_t_152 := av_t_149.ex f151
        have rd79r_152 := (f151).rd rd79r_149
        have rd142r_152 := (f151).rd rd142r_149
        obtain ⟨dg153, fs153, hg153, hn153⟩ := sa152.no (x := "ranked") (by decide +kernel) (by decide +kernel)
        refine ⟨_, rfl, _, rfl, g, dg153, fs153, rfl, hg153, hn153, _, rfl, g, t142, m, [(v, x), (u, y), (t, z)], rfl, sa152, mok, ⟨rd142r_152, (mem3 ⟨hx, (Am.lim.wide (Am.lim.mono (by decide) lx)), av_v_152⟩ ⟨hy, (Am.lim.wide (Am.lim.mono (by decide) ly)), av_u_152⟩ ⟨hz, (Am.lim.wide (Am.lim.mono (by decide) lz)), av_t_152⟩)⟩, (by show 3 ≤ 1000; decide), fun t9 H154 o f154 nt9 rt ord => ?_⟩
        have sa155 := (f154).scl sa152
        have E155 := E152.trans f154
        have av_v_155 := av_v_152.ex f154
        have av_u_155 := av_u_152.ex f154
        have av_t_155 := av_t_152.ex f154
        have rd79r_155 := (f154).rd rd79r_152
        have rd142r_155 := (f154).rd rd142r_152
        have len := ord.length
        have ol : 0 < o.length := by rw [len]; show 0 < 3; decide
        have e0 : o[0]? = some o[0] := List.getElem?_eq_getElem ol
        have jl := ord.lt_of (List.mem_of_getElem? e0)
        have ej : [(v, x), (u, y), (t, z)][o[0]]? = some [(v, x), (u, y), (t, z)][o[0]] := List.getElem?_eq_getElem jl
        have same : r.2 = ([(v, x), (u, y), (t, z)][o[0]]).2 := by
          obtain ⟨i, il, ki⟩ := keyOf_mem mem
          have n1 := ord_first ord e0 il
          rw [ki, keyOf_eq ej] at n1
          rcases am_lin.tot r.2 ([(v, x), (u, y), (t, z)][o[0]]).2 with h | h | h
          · exact absurd h (no _ (List.mem_of_getElem? ej))
          · exact h
          · exact absurd h n1
        have aj := mem3 (p := fun q : V × Am => AmV H154 q.1 q.2) av_v_155 av_u_155 av_t_155 _ (List.mem_of_getElem? ej)
        refine ⟨t9, _, (0 : Nat), _, rfl, rfl, .inl rt, nats_at e0, t142, _, (o[0] : Nat), ([(v, x), (u, y), (t, z)][o[0]]).1, rfl, rfl, .inl rd142r_155, atI_nat (by rw [show [v, u, t] = [(v, x), (u, y), (t, z)].map (·.1) from rfl, List.getElem?_map, ej]; rfl), ?_⟩
        have ar2 := dp_am (K := K) (ar.ex f154)
        rw [same] at ar2
        refine ⟨_, _, ar2, dp_am aj, Am.shaped _, Am.shaped _, ?_⟩
        rw [eqv_self]
        exact q _ E155
      · rw [decide_eq_false c2]
        refine iteF ?_
        obtain ⟨dg126, fs126, hg126, hn126⟩ := sa125.no (x := "sign") (by decide +kernel) (by decide +kernel)
        obtain ⟨dg127, fs127, hg127, hn127⟩ := sa125.no (x := "minus") (by decide +kernel) (by decide +kernel)
        refine ⟨_, rfl, g, dg126, fs126, rfl, hg126, hn126, _, rfl, g, dg127, fs127, rfl, hg127, hn127, _, rfl, _, rfl, g, m, 190, v, u, x, y, rfl, sa125, mok, by decide, by decide, hx, hy, lx, ly, av_v_125, av_u_125, fun v128 H128 f128 a128 => ?_⟩
        have sa129 := (f128).scl sa125
        have E129 := E125.trans f128
        have av_v_129 := av_v_125.ex f128
        have av_u_129 := av_u_125.ex f128
        have av_t_129 := av_t_125.ex f128
        have rd79r_129 := (f128).rd rd79r_125
        have hs130 : m.has ((x).sub (y)) := sub_has hx hy
        have lm130 : ((x).sub (y) : Am).lim 380 := sub_lim (m := m) (by decide) (by decide) hx hy lx ly
        have av130 := a128
        refine ⟨g, m, v128, (x).sub (y), rfl, sa129, mok, hs130, (Am.lim.wide (Am.lim.mono (by decide) lm130)), av130, fun H131 f131 => ?_⟩
        have sa132 := (f131).scl sa129
        have E132 := E129.trans f131
        have av_v_132 := av_v_129.ex f131
        have av_u_132 := av_u_129.ex f131
        have av_t_132 := av_t_129.ex f131
        have rd79r_132 := (f131).rd rd79r_129
        obtain ⟨dg133, fs133, hg133, hn133⟩ := sa132.no (x := "is_less") (by decide +kernel) (by decide +kernel)
        refine ⟨_, rfl, g, dg133, fs133, rfl, hg133, hn133, _, rfl, _, rfl, g, m, u, v, y, x, rfl, sa132, mok, hy, hx, (Am.lim.wide (Am.lim.mono (by decide) ly)), (Am.lim.wide (Am.lim.mono (by decide) lx)), av_u_132, av_v_132, fun H134 f134 => ?_⟩
        have sa135 := (f134).scl sa132
        have E135 := E132.trans f134
        have av_v_135 := av_v_132.ex f134
        have av_u_135 := av_u_132.ex f134
        have av_t_135 := av_t_132.ex f134
        have rd79r_135 := (f134).rd rd79r_132
        refine .inr ⟨_, rfl, ?_⟩
        obtain ⟨dg136, fs136, hg136, hn136⟩ := sa135.no (x := "is_less") (by decide +kernel) (by decide +kernel)
        refine ⟨_, rfl, g, dg136, fs136, rfl, hg136, hn136, _, rfl, _, rfl, g, m, v, u, x, y, rfl, sa135, mok, hx, hy, (Am.lim.wide (Am.lim.mono (by decide) lx)), (Am.lim.wide (Am.lim.mono (by decide) ly)), av_v_135, av_u_135, fun H137 f137 => ?_⟩
        have sa138 := (f137).scl sa135
        have E138 := E135.trans f137
        have av_v_138 := av_v_135.ex f137
        have av_u_138 := av_u_135.ex f137
        have av_t_138 := av_t_135.ex f137
        have rd79r_138 := (f137).rd rd79r_135
        refine .inr ⟨_, rfl, ?_⟩
        refine ⟨_, _, rfl, rfl, rfl, ?_⟩
        rw [decide_eq_true (show V.int (sgn m (x.sub y)) = V.int ((if decide (amLt y x) = true then 1 else 0) - (if decide (amLt x y) = true then 1 else 0)) from congrArg V.int (by rw [sgn_sub hx hy]; simp))]
        refine ⟨_, rfl, ?_⟩
        refine ⟨_, rfl, _, rfl, _, rfl, by show 3 ≤ sizeLine; decide, fun t139 n139 => ?_⟩
        have x139 := Ex.new (o := .tup [v, u, t]) n139
        have sa140 := (x139).scl sa138
        have E140 := E138.trans x139
        have av_v_140 := av_v_138.ex x139
        have av_u_140 := av_u_138.ex x139
        have av_t_140 := av_t_138.ex x139
        have rd79r_140 := (x139).rd rd79r_138
        have rd139 : Rd _ t139 _ := .inl (new_at x139)
        obtain ⟨dg141, fs141, hg141, hn141⟩ := sa140.no (x := "plus_all") (by decide +kernel) (by decide +kernel)
        refine ⟨_, rfl, g, dg141, fs141, rfl, hg141, hn141, _, rfl, g, t139, m, 190, [(v, x), (u, y), (t, z)], rfl, sa140, mok, ⟨rd139, (mem3 ⟨hx, lx, av_v_140⟩ ⟨hy, ly, av_u_140⟩ ⟨hz, lz, av_t_140⟩)⟩, by decide, by decide, (by show 190 * 3 + 1 + 190 ≤ 8000; decide), (by show 3 ≤ 1000; decide), fun v142 H142 f142 a142 => ?_⟩
        have sa143 := (f142).scl sa140
        have E143 := E140.trans f142
        have av_v_143 := av_v_140.ex f142
        have av_u_143 := av_u_140.ex f142
        have av_t_143 := av_t_140.ex f142
        have rd79r_143 := (f142).rd rd79r_140
        have rd139r_143 := (f142).rd rd139
        rw [show [(v, x), (u, y), (t, z)].map (·.2) = [x, y, z] from rfl, sum3 (m := m) hx] at a142
        have hs144 : m.has ((x.add (y)).add (z)) := add_has (add_has (hx) hy) hz
        have lm144 : ((x.add (y)).add (z) : Am).lim 570 := add_lim (m := m) (by decide) (by decide) (add_has (hx) hy) hz (add_lim (m := m) (by decide) (by decide) (hx) hy (lx) ly) lz
        have av144 := a142
        obtain ⟨dg145, fs145, hg145, _⟩ := id sa143
        refine ⟨_, rfl, g, dg145, fs145, rfl, hg145, g, m, v142, _, rfl, sa143, mok, .dx (dx_am av144), am_short mok hs144, fun H145 f145 => ⟨_, rfl, ?_⟩⟩
        rw [amt_has mok hs144]
        refine ⟨_, rfl, ?_⟩
        have sa146 := (f145).scl sa143
        have E146 := E143.trans f145
        have av_v_146 := av_v_143.ex f145
        have av_u_146 := av_u_143.ex f145
        have av_t_146 := av_t_143.ex f145
        have rd79r_146 := (f145).rd rd79r_143
        have rd139r_146 := (f145).rd rd139r_143
        obtain ⟨dg147, fs147, hg147, hn147⟩ := sa146.no (x := "greatest") (by decide +kernel) (by decide +kernel)
        refine ⟨_, rfl, g, dg147, fs147, rfl, hg147, hn147, _, rfl, _, rfl, _, rfl, g, m, [(v, x), (u, y), (t, z)], rfl, sa146, mok, (mem3 ⟨hx, (Am.lim.wide (Am.lim.mono (by decide) lx)), av_v_146⟩ ⟨hy, (Am.lim.wide (Am.lim.mono (by decide) ly)), av_u_146⟩ ⟨hz, (Am.lim.wide (Am.lim.mono (by decide) lz)), av_t_146⟩), (by show 1 ≤ 3; decide), (by show 3 ≤ 1000; decide), fun r H148 f148 mem no => ?_⟩
        have ar : AmV H148 r.1 r.2 := mem3 (p := fun q : V × Am => AmV H148 q.1 q.2) (av_v_146.ex f148) (av_u_146.ex f148) (av_t_146.ex f148) r mem
        have sa149 := (f148).scl sa146
        have E149 := E146.trans f148
        have av_v_149 := av_v_146.ex f148
        have av_u_149 := av_u_146.ex f148
        have av_t_149 := av_t_146.ex f148
        have rd79r_149 := (f148).rd rd79r_146
        have rd139r_149 := (f148).rd rd139r_146
        obtain ⟨dg150, fs150, hg150, hn150⟩ := sa149.no (x := "ranked") (by decide +kernel) (by decide +kernel)
        refine ⟨_, rfl, _, rfl, g, dg150, fs150, rfl, hg150, hn150, _, rfl, g, t139, m, [(v, x), (u, y), (t, z)], rfl, sa149, mok, ⟨rd139r_149, (mem3 ⟨hx, (Am.lim.wide (Am.lim.mono (by decide) lx)), av_v_149⟩ ⟨hy, (Am.lim.wide (Am.lim.mono (by decide) ly)), av_u_149⟩ ⟨hz, (Am.lim.wide (Am.lim.mono (by decide) lz)), av_t_149⟩)⟩, (by show 3 ≤ 1000; decide), fun t9 H151 o f151 nt9 rt ord => ?_⟩
        have sa152 := (f151).scl sa149
        have E152 := E149.trans f151
        have av_v_152 := av_v_149.ex f151
        have av_u_152 := av_u_149.ex f151
        have av_t_152 := av_t_149.ex f151
        have rd79r_152 := (f151).rd rd79r_149
        have rd139r_152 := (f151).rd rd139r_149
        have len := ord.length
        have ol : 0 < o.length := by rw [len]; show 0 < 3; decide
        have e0 : o[0]? = some o[0] := List.getElem?_eq_getElem ol
        have jl := ord.lt_of (List.mem_of_getElem? e0)
        have ej : [(v, x), (u, y), (t, z)][o[0]]? = some [(v, x), (u, y), (t, z)][o[0]] := List.getElem?_eq_getElem jl
        have same : r.2 = ([(v, x), (u, y), (t, z)][o[0]]).2 := by
          obtain ⟨i, il, ki⟩ := keyOf_mem mem
          have n1 := ord_first ord e0 il
          rw [ki, keyOf_eq ej] at n1
          rcases am_lin.tot r.2 ([(v, x), (u, y), (t, z)][o[0]]).2 with h | h | h
          · exact absurd h (no _ (List.mem_of_getElem? ej))
          · exact h
          · exact absurd h n1
        have aj := mem3 (p := fun q : V × Am => AmV H151 q.1 q.2) av_v_152 av_u_152 av_t_152 _ (List.mem_of_getElem? ej)
        refine ⟨t9, _, (0 : Nat), _, rfl, rfl, .inl rt, nats_at e0, t139, _, (o[0] : Nat), ([(v, x), (u, y), (t, z)][o[0]]).1, rfl, rfl, .inl rd139r_152, atI_nat (by rw [show [v, u, t] = [(v, x), (u, y), (t, z)].map (·.1) from rfl, List.getElem?_map, ej]; rfl), ?_⟩
        have ar2 := dp_am (K := K) (ar.ex f151)
        rw [same] at ar2
        refine ⟨_, _, ar2, dp_am aj, Am.shaped _, Am.shaped _, ?_⟩
        rw [eqv_self]
        exact q _ E152
    · rw [decide_eq_false c1]
      refine iteF ?_
      obtain ⟨dg123, fs123, hg123, hn123⟩ := sa122.no (x := "sign") (by decide +kernel) (by decide +kernel)
      obtain ⟨dg124, fs124, hg124, hn124⟩ := sa122.no (x := "minus") (by decide +kernel) (by decide +kernel)
      refine ⟨_, rfl, g, dg123, fs123, rfl, hg123, hn123, _, rfl, g, dg124, fs124, rfl, hg124, hn124, _, rfl, _, rfl, g, m, 190, v, u, x, y, rfl, sa122, mok, by decide, by decide, hx, hy, lx, ly, av_v_122, av_u_122, fun v125 H125 f125 a125 => ?_⟩
      have sa126 := (f125).scl sa122
      have E126 := E122.trans f125
      have av_v_126 := av_v_122.ex f125
      have av_u_126 := av_u_122.ex f125
      have av_t_126 := av_t_122.ex f125
      have rd79r_126 := (f125).rd rd79r_122
      have hs127 : m.has ((x).sub (y)) := sub_has hx hy
      have lm127 : ((x).sub (y) : Am).lim 380 := sub_lim (m := m) (by decide) (by decide) hx hy lx ly
      have av127 := a125
      refine ⟨g, m, v125, (x).sub (y), rfl, sa126, mok, hs127, (Am.lim.wide (Am.lim.mono (by decide) lm127)), av127, fun H128 f128 => ?_⟩
      have sa129 := (f128).scl sa126
      have E129 := E126.trans f128
      have av_v_129 := av_v_126.ex f128
      have av_u_129 := av_u_126.ex f128
      have av_t_129 := av_t_126.ex f128
      have rd79r_129 := (f128).rd rd79r_126
      obtain ⟨dg130, fs130, hg130, hn130⟩ := sa129.no (x := "is_less") (by decide +kernel) (by decide +kernel)
      refine ⟨_, rfl, g, dg130, fs130, rfl, hg130, hn130, _, rfl, _, rfl, g, m, u, v, y, x, rfl, sa129, mok, hy, hx, (Am.lim.wide (Am.lim.mono (by decide) ly)), (Am.lim.wide (Am.lim.mono (by decide) lx)), av_u_129, av_v_129, fun H131 f131 => ?_⟩
      have sa132 := (f131).scl sa129
      have E132 := E129.trans f131
      have av_v_132 := av_v_129.ex f131
      have av_u_132 := av_u_129.ex f131
      have av_t_132 := av_t_129.ex f131
      have rd79r_132 := (f131).rd rd79r_129
      refine .inr ⟨_, rfl, ?_⟩
      obtain ⟨dg133, fs133, hg133, hn133⟩ := sa132.no (x := "is_less") (by decide +kernel) (by decide +kernel)
      refine ⟨_, rfl, g, dg133, fs133, rfl, hg133, hn133, _, rfl, _, rfl, g, m, v, u, x, y, rfl, sa132, mok, hx, hy, (Am.lim.wide (Am.lim.mono (by decide) lx)), (Am.lim.wide (Am.lim.mono (by decide) ly)), av_v_132, av_u_132, fun H134 f134 => ?_⟩
      have sa135 := (f134).scl sa132
      have E135 := E132.trans f134
      have av_v_135 := av_v_132.ex f134
      have av_u_135 := av_u_132.ex f134
      have av_t_135 := av_t_132.ex f134
      have rd79r_135 := (f134).rd rd79r_132
      refine .inr ⟨_, rfl, ?_⟩
      refine ⟨_, _, rfl, rfl, rfl, ?_⟩
      rw [decide_eq_true (show V.int (sgn m (x.sub y)) = V.int ((if decide (amLt y x) = true then 1 else 0) - (if decide (amLt x y) = true then 1 else 0)) from congrArg V.int (by rw [sgn_sub hx hy]; simp))]
      refine ⟨_, rfl, ?_⟩
      refine ⟨_, rfl, _, rfl, _, rfl, by show 3 ≤ sizeLine; decide, fun t136 n136 => ?_⟩
      have x136 := Ex.new (o := .tup [v, u, t]) n136
      have sa137 := (x136).scl sa135
      have E137 := E135.trans x136
      have av_v_137 := av_v_135.ex x136
      have av_u_137 := av_u_135.ex x136
      have av_t_137 := av_t_135.ex x136
      have rd79r_137 := (x136).rd rd79r_135
      have rd136 : Rd _ t136 _ := .inl (new_at x136)
      obtain ⟨dg138, fs138, hg138, hn138⟩ := sa137.no (x := "plus_all") (by decide +kernel) (by decide +kernel)
      refine ⟨_, rfl, g, dg138, fs138, rfl, hg138, hn138, _, rfl, g, t136, m, 190, [(v, x), (u, y), (t, z)], rfl, sa137, mok, ⟨rd136, (mem3 ⟨hx, lx, av_v_137⟩ ⟨hy, ly, av_u_137⟩ ⟨hz, lz, av_t_137⟩)⟩, by decide, by decide, (by show 190 * 3 + 1 + 190 ≤ 8000; decide), (by show 3 ≤ 1000; decide), fun v139 H139 f139 a139 => ?_⟩
      have sa140 := (f139).scl sa137
      have E140 := E137.trans f139
      have av_v_140 := av_v_137.ex f139
      have av_u_140 := av_u_137.ex f139
      have av_t_140 := av_t_137.ex f139
      have rd79r_140 := (f139).rd rd79r_137
      have rd136r_140 := (f139).rd rd136
      rw [show [(v, x), (u, y), (t, z)].map (·.2) = [x, y, z] from rfl, sum3 (m := m) hx] at a139
      have hs141 : m.has ((x.add (y)).add (z)) := add_has (add_has (hx) hy) hz
      have lm141 : ((x.add (y)).add (z) : Am).lim 570 := add_lim (m := m) (by decide) (by decide) (add_has (hx) hy) hz (add_lim (m := m) (by decide) (by decide) (hx) hy (lx) ly) lz
      have av141 := a139
      obtain ⟨dg142, fs142, hg142, _⟩ := id sa140
      refine ⟨_, rfl, g, dg142, fs142, rfl, hg142, g, m, v139, _, rfl, sa140, mok, .dx (dx_am av141), am_short mok hs141, fun H142 f142 => ⟨_, rfl, ?_⟩⟩
      rw [amt_has mok hs141]
      refine ⟨_, rfl, ?_⟩
      have sa143 := (f142).scl sa140
      have E143 := E140.trans f142
      have av_v_143 := av_v_140.ex f142
      have av_u_143 := av_u_140.ex f142
      have av_t_143 := av_t_140.ex f142
      have rd79r_143 := (f142).rd rd79r_140
      have rd136r_143 := (f142).rd rd136r_140
      obtain ⟨dg144, fs144, hg144, hn144⟩ := sa143.no (x := "greatest") (by decide +kernel) (by decide +kernel)
      refine ⟨_, rfl, g, dg144, fs144, rfl, hg144, hn144, _, rfl, _, rfl, _, rfl, g, m, [(v, x), (u, y), (t, z)], rfl, sa143, mok, (mem3 ⟨hx, (Am.lim.wide (Am.lim.mono (by decide) lx)), av_v_143⟩ ⟨hy, (Am.lim.wide (Am.lim.mono (by decide) ly)), av_u_143⟩ ⟨hz, (Am.lim.wide (Am.lim.mono (by decide) lz)), av_t_143⟩), (by show 1 ≤ 3; decide), (by show 3 ≤ 1000; decide), fun r H145 f145 mem no => ?_⟩
      have ar : AmV H145 r.1 r.2 := mem3 (p := fun q : V × Am => AmV H145 q.1 q.2) (av_v_143.ex f145) (av_u_143.ex f145) (av_t_143.ex f145) r mem
      have sa146 := (f145).scl sa143
      have E146 := E143.trans f145
      have av_v_146 := av_v_143.ex f145
      have av_u_146 := av_u_143.ex f145
      have av_t_146 := av_t_143.ex f145
      have rd79r_146 := (f145).rd rd79r_143
      have rd136r_146 := (f145).rd rd136r_143
      obtain ⟨dg147, fs147, hg147, hn147⟩ := sa146.no (x := "ranked") (by decide +kernel) (by decide +kernel)
      refine ⟨_, rfl, _, rfl, g, dg147, fs147, rfl, hg147, hn147, _, rfl, g, t136, m, [(v, x), (u, y), (t, z)], rfl, sa146, mok, ⟨rd136r_146, (mem3 ⟨hx, (Am.lim.wide (Am.lim.mono (by decide) lx)), av_v_146⟩ ⟨hy, (Am.lim.wide (Am.lim.mono (by decide) ly)), av_u_146⟩ ⟨hz, (Am.lim.wide (Am.lim.mono (by decide) lz)), av_t_146⟩)⟩, (by show 3 ≤ 1000; decide), fun t9 H148 o f148 nt9 rt ord => ?_⟩
      have sa149 := (f148).scl sa146
      have E149 := E146.trans f148
      have av_v_149 := av_v_146.ex f148
      have av_u_149 := av_u_146.ex f148
      have av_t_149 := av_t_146.ex f148
      have rd79r_149 := (f148).rd rd79r_146
      have rd136r_149 := (f148).rd rd136r_146
      have len := ord.length
      have ol : 0 < o.length := by rw [len]; show 0 < 3; decide
      have e0 : o[0]? = some o[0] := List.getElem?_eq_getElem ol
      have jl := ord.lt_of (List.mem_of_getElem? e0)
      have ej : [(v, x), (u, y), (t, z)][o[0]]? = some [(v, x), (u, y), (t, z)][o[0]] := List.getElem?_eq_getElem jl
      have same : r.2 = ([(v, x), (u, y), (t, z)][o[0]]).2 := by
        obtain ⟨i, il, ki⟩ := keyOf_mem mem
        have n1 := ord_first ord e0 il
        rw [ki, keyOf_eq ej] at n1
        rcases am_lin.tot r.2 ([(v, x), (u, y), (t, z)][o[0]]).2 with h | h | h
        · exact absurd h (no _ (List.mem_of_getElem? ej))
        · exact h
        · exact absurd h n1
      have aj := mem3 (p := fun q : V × Am => AmV H148 q.1 q.2) av_v_149 av_u_149 av_t_149 _ (List.mem_of_getElem? ej)
      refine ⟨t9, _, (0 : Nat), _, rfl, rfl, .inl rt, nats_at e0, t136, _, (o[0] : Nat), ([(v, x), (u, y), (t, z)][o[0]]).1, rfl, rfl, .inl rd136r_149, atI_nat (by rw [show [v, u, t] = [(v, x), (u, y), (t, z)].map (·.1) from rfl, List.getElem?_map, ej]; rfl), ?_⟩
      have ar2 := dp_am (K := K) (ar.ex f148)
      rw [same] at ar2
      refine ⟨_, _, ar2, dp_am aj, Am.shaped _, Am.shaped _, ?_⟩
      rw [eqv_self]
      exact q _ E149
end
end Gl

namespace Gl
open PySem PySem.Spec PyProof.Rows L2
/-- a weight -/
def Wt : Ms → Am → Prop
  | .sums, .n i => 0 < i ∧ i < 10 ^ 40
  | .classes _, .c ns => (∀ n ∈ ns, 0 ≤ n ∧ n < 10 ^ 40) ∧ ∃ n ∈ ns, 0 < n
  | .odds, .o x => x.1.2 < x.1.1 ∧ x.1.1 ≤ 1000000
  | _, _ => False
theorem lex_zero : ∀ ns : List Int, (∀ n ∈ ns, 0 ≤ n) → (∃ n ∈ ns, 0 < n) → HT.lexLt (List.replicate ns.length 0) ns = true
  | [], _, h => by obtain ⟨_, z, _⟩ := h; simp at z
  | n :: ns, h, p => by
    rw [List.length_cons, List.replicate_succ, HT.lexLt_cons]
    by_cases e : (0 : Int) = n
    · subst e
      rw [if_pos rfl]
      refine lex_zero ns (fun x hx => h x (List.mem_cons_of_mem _ hx)) ?_
      obtain ⟨x, hx, x0⟩ := p
      rcases List.mem_cons.mp hx with rfl | hx
      · omega
      · exact ⟨x, hx, x0⟩
    · rw [if_neg e]
      have := h n (List.mem_cons_self ..)
      exact decide_eq_true (by omega)
theorem wt_pos {m : Ms} : ∀ {x : Am}, m.has x → Wt m x → amLt m.zero x
  | .n i, hx, h => by cases m <;> first | exact h.1 | exact hx.elim
  | .c ns, hx, h => by
    cases m with
    | classes k =>
      have e : ns.length = k := hx
      subst e
      exact lex_zero ns (fun n hn => (h.1 n hn).1) h.2
    | sums => exact hx.elim
    | odds => exact hx.elim
  | .o x, hx, h => by
    cases m with
    | odds => show 1 * x.1.2 < x.1.1 * 1; have := h.1; omega
    | sums => exact hx.elim
    | classes k => exact hx.elim
theorem wt_odds {x : Odds} (h : Wt .odds (.o x)) : wgtB .odds (Am.data (.o x)) = true := by
  show (lowB _ && oddsB ((x.1.1 : Nat) : Int) ((x.1.2 : Nat) : Int)) = true
  rw [low_odds, Bool.true_and]
  have h1 : x.1.2 < x.1.1 := h.1
  have h2 : x.1.1 ≤ 1000000 := h.2
  unfold oddsB
  rw [decide_eq_true (by omega), decide_eq_true (by omega)]
  rfl
theorem pick_le (B : Int) (xs : List Int) (hx : ∀ x ∈ xs, 0 < x ∧ x ≤ B) {j : Int} (j0 : 0 ≤ j) (j1 : j < xs.length) : ∃ t : Int, atI (xs.map V.int) j = some (.int t) ∧ 0 < t ∧ t ≤ B := by
  obtain ⟨j, rfl⟩ : ∃ k : Nat, j = k := ⟨j.toNat, by omega⟩
  have l : j < xs.length := by omega
  exact ⟨xs[j], atI_nat (by rw [List.getElem?_map, List.getElem?_eq_getElem l]; rfl), hx _ (List.getElem_mem l)⟩
section
variable {P : Program} {w : World} {K : PySem.W.Frag} {mg : Str → Option Value} {base : Heap}
def spWgtR : Sp := fun vs H Q _ => ∃ (a p : Addr) (m : Ms), vs = [.ref a, .ref p] ∧ Dice H a ∧ MsV H p m ∧ m.ok ∧ ∀ (v : V) (x : Am) H', Gro a H H' → m.has x → x.near → Wt m x → AmV H' v x → Q v H'
theorem ok_wgtR {f : Addr} {fd : FuncData} (F : Fun K "_law_weight" "_law_weight" sWgtL f fd) (T : Blt mg) (D : Dc P w K mg base) (Lo : DfG P w K mg base 1 "_law_lowest" ["_law_top", "_law_bottom"] spLowL) : FnG P w K mg base CX0 2 f fd ["_law_dice_here", "_law_measure"] spWgtR := by
  refine okG F scWgtL (fun vs H Q E h => ?_) (fun cdv A outer s H vs Q E hr h => ?_)
  · obtain ⟨a, p, m, rfl, _⟩ := h
    rfl
  · obtain ⟨a, p, m, rfl, hd, hm, mok, q⟩ := h
    have nd := scWgtL.nd
    have hu : (A.deeper (envOfC "_law_weight" (defScope sWgtL) s.heap.objs.size f cdv)).units < cLine := by have := hr.rm.un; omega
    refine ⟨_, pss_cons (ps_if (pt_cmpR op_eq (pe_ix ix_tup (pv 1) pe_int (fun _ _ => rfl)) pe_str (nomark _))
        (pss_one (ps_ret (pe_op op_add pe_int (pe_callG D.G hr (by rfl) D.g D.kp D.b .nil pass0 (pa_cons (pv 0) (pa_cons (pe_ix ix_list (pe_lst (pa_cons pe_int (pa_cons pe_int (pa_cons pe_int (pa_cons (pe_op op_powW pe_int pe_int) pa_nil))))) (pe_callG D.G hr (by rfl) D.g D.kp D.b .nil pass0 (pa_cons (pv 0) (pa_cons pe_int pa_nil))) (fun _ _ => rfl)) pa_nil)))))) pss_nil)
      (pss_cons (ps_if (pt_cmpR op_eq (pe_ix ix_tup (pv 1) pe_int (fun _ _ => rfl)) pe_str (nomark _))
        (pss_cons (ps_setLc (i := 2) (own := [("_law_turn", 4)]) (g := gName 4) (tt := tYes) rfl nd rfl rfl (sw_true rfl rfl rfl (by decide +kernel)) (pi_range1 rfl T.range (pa_cons (pe_ix ix_tup (pv 1) pe_int (fun _ _ => rfl)) pa_nil)) (blkOk_by (N := ["_law_dice_here", "_law_measure", "_law_found", "_law_bottom", "_law_turn", "_law_one"]) (sc := defScope sWgtL) (by decide +kernel)) (fun _ _ _ _ _ => pg_name (i := 4) nd rfl (.inl rfl)) (fun _ _ _ _ _ => pts_nil)
          (fun _ _ _ _ _ => pe_callG D.G hr (by rfl) D.g D.kp D.b .nil pass0 (pa_cons (pv 0) (pa_cons (pe_ix (r := rIxL K) ix_list (pe_lst (pa_cons pe_int (pa_cons pe_int (pa_cons pe_int pa_nil)))) (pe_callG D.G hr (by rfl) D.g D.kp D.b .nil pass0 (pa_cons (pv 0) (pa_cons pe_int pa_nil))) (fun _ _ => rfl)) pa_nil))))
        (pss_cons (ps_if (pt_cmpR (op_eqNil hu) (pe_lc (own := [("_law_one", 5)]) (g := gName 5) rfl nd (pi_list (pv 2)) (blkOk_by (N := ["_law_dice_here", "_law_measure", "_law_found", "_law_bottom", "_law_turn", "_law_one"]) (sc := defScope sWgtL) (by decide +kernel)) (fun _ _ _ _ _ => pg_name (i := 5) nd rfl (.inl rfl)) (fun _ _ _ _ _ => pts_one (pt_cmpR op_gt (pv 5) pe_int (nomark _)))
            (fun _ _ _ _ _ => pv 5)) (pe_lst pa_nil) (nomark _))
          (pss_one (ps_asg pe_int (pg_sub (pv 2) (pe_callG D.G hr (by rfl) D.g D.kp D.b .nil pass0 (pa_cons (pv 0) (pa_cons (pe_callB call_len_seq (by rfl) T.len PySem.boot_len (pa_cons (pv 2) pa_nil)) pa_nil))) set_list))) pss_nil)
        (pss_one (ps_ret (pe_callTy call_tupleF (by rfl) T.tuple (by decide +kernel) (pa_cons (pv 2) pa_nil)))))) pss_nil)
      (pss_cons (ps_set (i := 3) nd rfl (.inl rfl) (pe_op op_add pe_int (pe_callG D.G hr (by rfl) D.g D.kp D.b .nil pass0 (pa_cons (pv 0) (pa_cons (pe_ix ix_list (pe_lst (pa_cons pe_int (pa_cons pe_int (pa_cons pe_int (pa_cons pe_int pa_nil))))) (pe_callG D.G hr (by rfl) D.g D.kp D.b .nil pass0 (pa_cons (pv 0) (pa_cons pe_int pa_nil))) (fun _ _ => rfl)) pa_nil)))))
      (pss_one (ps_ret (pe_callG Lo.G hr (by rfl) Lo.g Lo.kp Lo.b .nil pass0 (pa_cons (pe_op op_add (pe_op op_add (pv 3) pe_int) (pe_callG D.G hr (by rfl) D.g D.kp D.b .nil pass0 (pa_cons (pv 0) (pa_cons (pe_ix ix_list (pe_lst (pa_cons pe_int (pa_cons pe_int (pa_cons pe_int (pa_cons pe_int pa_nil))))) (pe_callG D.G hr (by rfl) D.g D.kp D.b .nil pass0 (pa_cons (pv 0) (pa_cons pe_int pa_nil))) (fun _ _ => rfl)) pa_nil)))) (pa_cons (pv 3) pa_nil))))))), ?_⟩
    have b200 : ∀ t : Int, 0 < t → t ≤ 10 ^ 30 → t.natAbs < 2 ^ 200 := fun t h0 h1 => by omega
    refine ⟨_, rfl, p, _, 0, _, rfl, rfl, .inl hm, rfl, rfl, _, rfl, ?_⟩
    rw [word_sums]
    cases m with
    | sums =>
      refine ⟨_, rfl, _, _, rfl, rfl, cpw30, by show 4 ≤ sizeLine; decide, fun L nL => ?_⟩
      have xL := Ex.new (o := .lst [.int 2, .int 3, .int 9, .int ((10 : Int) ^ (30 : Int).toNat)]) nL
      refine ⟨_, rfl, a, 4, rfl, by decide, by decide, xL.dice hd, fun j H1 j0 j1 g1 => ?_⟩
      have gA := (Gro.of xL hd).trans g1
      obtain ⟨t, ht, t0, t1⟩ := pick_le (10 ^ 30) [2, 3, 9, 10 ^ 30] (by decide +kernel) j0 j1
      refine ⟨L, _, j, .int t, rfl, rfl, .inl (.inl (g1.st L _ (hd.ne nL) upd_same)), ht, a, t, rfl, t0, b200 t t0 t1, gA.di, fun i H2 i0 i1 g2 => ?_⟩
      exact ⟨_, _, rfl, rfl, q _ (.n (1 + i)) H2 (gA.trans g2) trivial (show (1 + i).natAbs < 2 ^ 190 by omega) (show 0 < 1 + i ∧ 1 + i < 10 ^ 40 by omega) rfl⟩
    | classes k =>
      refine ⟨_, rfl, p, _, 0, _, rfl, rfl, .inl hm, rfl, rfl, _, rfl, ?_⟩
      rw [word_classes]
      have k1 := mok.1
      have k4 := mok.2
      refine ⟨_, rfl, p, _, 1, _, rfl, rfl, .inl hm, rfl, k, rfl, by omega, by omega, fun L nL => ?_⟩
      have La := hd.ne nL
      refine lc_range (n := k) (fun i H' => ∃ ns : List Int, Gro a H H' ∧ H' L = some (.lst (ns.map V.int)) ∧ ns.length = i ∧ ∀ n ∈ ns, 0 ≤ n ∧ n < 10 ^ 30)
        ⟨[], Gro.of (Ex.new nL) hd, upd_same, rfl, fun _ z => (nomatch z)⟩ (fun i H1 hi h => ?_) (fun H1 h => ?_)
      · obtain ⟨ns, g, eL, len, bd⟩ := h
        refine ⟨rfl, _, rfl, by show 3 ≤ sizeLine; decide, fun M nM => ?_⟩
        have xM := Ex.new (o := .lst [.int 2, .int 3, .int 9]) nM
        refine ⟨_, rfl, a, 3, rfl, by decide, by decide, xM.dice g.di, fun j H2 j0 j1 g2 => ?_⟩
        obtain ⟨t, ht, t0, t1⟩ := pick_le 9 [2, 3, 9] (by decide +kernel) j0 j1
        refine ⟨M, _, j, .int t, rfl, rfl, .inl (.inl (g2.st M _ (g.di.ne nM) upd_same)), ht, a, t, rfl, t0, b200 t t0 (by omega), g2.di, fun u H3 u0 u1 g3 => ?_⟩
        have g23 := g2.trans g3
        refine ⟨_, g23.st L _ La (xM L _ eL), ?_, ns ++ [u], ((g.ex xM).trans g23).mut nL La, by rw [upd_same, List.map_append]; rfl, by rw [List.length_append, len]; rfl, fun n hn => ?_⟩
        · rw [List.length_map, len]
          exact Nat.lt_of_lt_of_le (show i < 100 by omega) (by decide)
        · rcases List.mem_append.mp hn with z | z
          · exact bd n z
          · rw [List.mem_singleton.mp z]; omega
      · obtain ⟨ns, g, eL, len, bd⟩ := h
        refine ⟨_, rfl, L, rfl, ⟨_, .inl (.inl eL)⟩, fun D2 nD2 => lc_list (xs := ns.map V.int) (fun i H' => ∃ ks : List V, Ex H1 H' ∧ H' D2 = some (.lst ks) ∧ ks.length ≤ i ∧ (ks ≠ [] → ∃ n ∈ ns, 0 < n))
          ⟨[], Ex.new nD2, upd_same, Nat.le_refl _, fun z => absurd rfl z⟩ (fun i H' _ h => ?_) (fun i x H' hx h => ?_) (fun H2 h => ?_)⟩
        · obtain ⟨_, ex, _⟩ := h
          exact .inl (.inl (ex L _ eL))
        · obtain ⟨ks, ex, eD, lk, ps⟩ := h
          rw [List.getElem?_map] at hx
          obtain ⟨n, hn, rfl⟩ := Option.map_eq_some_iff.mp hx
          have il := (List.getElem?_eq_some_iff.mp hn).1
          refine ⟨rfl, _, rfl, _, _, rfl, rfl, _, rfl, ite2 (fun c => ?_) (fun _ => ?_)⟩
          · refine ⟨_, rfl, ks, eD, ?_, ks ++ [.int n], ex.mut nD2, upd_same, by rw [List.length_append]; exact Nat.succ_le_succ lk, fun _ => ⟨n, List.mem_of_getElem? hn, of_decide_eq_true c⟩⟩
            exact Nat.lt_of_lt_of_le (show ks.length < 100 by omega) (by decide)
          · exact ⟨ks, ex, eD, by omega, ps⟩
        · obtain ⟨ks, ex, eD, lk, ps⟩ := h
          refine ⟨Nat.zero_le _, fun m nm => ⟨D2, m, _, rfl, rfl, .inl (.inl (Ex.new nm D2 _ eD)), upd_same, _, rfl, ?_⟩⟩
          have xm := Ex.new (o := .lst []) nm
          have e1 := ex.trans xm
          have gm := g.ex e1
          refine ite2 (fun _ => ?_) (fun c => ?_)
          · refine ⟨_, rfl, _, rfl, _, rfl, L, _, rfl, .inl (.inl (.inl (e1 L _ eL))), a, _, rfl, by rw [List.length_map, len]; omega, Nat.lt_of_le_of_lt (show (((ns.map V.int).length : Nat) : Int).natAbs ≤ 1000 by rw [List.length_map, len]; omega) (by decide), gm.di, fun j H4 j0 j1 g4 => ?_⟩
            obtain ⟨j, rfl⟩ : ∃ k : Nat, j = k := ⟨j.toNat, by omega⟩
            refine ⟨L, _, j, j, rfl, rfl, g4.st L _ La (e1 L _ eL), (by unfold ixN; rw [if_pos (by omega), if_pos j1]; rfl), ?_⟩
            refine ⟨_, rfl, L, _, rfl, .inl (.inl upd_same), fun t o nt _ => ?_⟩
            refine q _ (.c (ns.set j 1)) _ (((gm.trans g4).mut nL La).ex (Ex.new nt)) (by show (ns.set j 1).length = k; rw [List.length_set, len]) (fun n hn => ?_) ⟨fun n hn => ?_, 1, List.mem_set (by have := j1; rw [List.length_map] at this; omega) 1, by decide⟩ ⟨t, rfl, .inr ⟨o, by rw [upd_same, List.map_set]⟩⟩
            · rcases List.mem_or_eq_of_mem_set hn with z | rfl
              · have := bd n z; omega
              · decide
            · rcases List.mem_or_eq_of_mem_set hn with z | rfl
              · have := bd n z; omega
              · decide
          · refine ⟨_, rfl, L, _, rfl, .inl (.inl (e1 L _ eL)), fun t o nt _ => ?_⟩
            exact q _ (.c ns) _ (gm.ex (Ex.new nt)) len (fun n hn => by have := bd n hn; omega) ⟨fun n hn => by have := bd n hn; omega, ps fun z => c (decide_eq_true z)⟩ ⟨t, rfl, .inr ⟨o, upd_same⟩⟩
    | odds =>
      refine ⟨_, rfl, p, _, 0, _, rfl, rfl, .inl hm, rfl, rfl, _, rfl, ?_⟩
      rw [word_classes]
      refine ⟨_, rfl, by show 4 ≤ sizeLine; decide, fun L nL => ?_⟩
      have xL := Ex.new (o := .lst [.int 1, .int 3, .int 12, .int 999]) nL
      refine ⟨_, rfl, a, 4, rfl, by decide, by decide, xL.dice hd, fun j H1 j0 j1 g1 => ?_⟩
      have gA := (Gro.of xL hd).trans g1
      obtain ⟨t, ht, t0, t1⟩ := pick_le 999 [1, 3, 12, 999] (by decide +kernel) j0 j1
      refine ⟨L, _, j, .int t, rfl, rfl, .inl (.inl (g1.st L _ (hd.ne nL) upd_same)), ht, a, t, rfl, t0, b200 t t0 (by omega), gA.di, fun u H2 u0 u1 g2 => ?_⟩
      have gB := gA.trans g2
      obtain ⟨u, rfl⟩ : ∃ k : Nat, u = k := ⟨u.toNat, by omega⟩
      refine ⟨_, _, rfl, rfl, _, rfl, _, _, rfl, rfl, _, rfl, by show 4 ≤ sizeLine; decide, fun M nM => ?_⟩
      have xM := Ex.new (o := .lst [.int 1, .int 4, .int 20, .int 990000]) nM
      refine ⟨_, rfl, a, 4, rfl, by decide, by decide, xM.dice gB.di, fun i H3 i0 i1 g3 => ?_⟩
      have gC := (gB.ex xM).trans g3
      obtain ⟨r, hrr, r0, r1⟩ := pick_le 990000 [1, 4, 20, 990000] (by decide +kernel) i0 i1
      refine ⟨M, _, i, .int r, rfl, rfl, .inl (.inl (g3.st M _ (gB.di.ne nM) upd_same)), hrr, a, r, rfl, r0, b200 r r0 (by omega), gC.di, fun v H4 v0 v1 g4 => ?_⟩
      obtain ⟨v, rfl⟩ : ∃ k : Nat, v = k := ⟨v.toNat, by omega⟩
      refine ⟨_, _, rfl, rfl, _, rfl, 1 + u + 1 + v, 1 + u, by simp only [Int.natCast_add]; rfl, by omega, by omega, by omega, by omega, fun pt H5 lo e5 np rd => ?_⟩
      refine q _ (.o ⟨_, lo⟩) _ ((gC.trans g4).ex e5) trivial ⟨?_, ?_⟩ ⟨?_, ?_⟩ ⟨pt, rfl, rd⟩
      · exact Nat.lt_of_le_of_lt (Nat.div_le_self ..) (by omega)
      · exact Nat.lt_of_le_of_lt (Nat.div_le_self ..) (by omega)
      · exact Nat.div_lt_div_of_lt_of_dvd (Nat.gcd_dvd_left ..) (by omega)
      · exact Nat.le_trans (Nat.div_le_self ..) (by omega)
end
end Gl

namespace Gl
open PySem PySem.Spec PyProof.Rows L2 ClX
abbrev sLds : Stmt := topS 34
theorem scLds : FnScope ["_law_meter", "_law_loads", "_law_many", "_law_load"] ["_law_meter", "_law_loads"] (defScope sLds) := ⟨rfl, rfl, rfl, by decide +kernel, rfl, by decide +kernel, by decide +kernel⟩
theorem cutV_whole {xs : List V} {lo hi : Option Int} (h : HT.sIx xs.length 0 lo = 0 ∧ HT.sIx xs.length xs.length hi = xs.length) : cutV xs lo hi = xs := by
  unfold cutV
  rw [h.1, h.2, List.drop_zero, Nat.sub_zero, List.take_length]
section
variable {K : PySem.W.Frag} {H : Hp} {t a b : Addr} {xs ys : List V} {lo hi : Option Int} {Q : VK}
theorem slA_any (h : Rd H t (.tup xs)) (q : ∀ p H', Ex H H' → Rd H' p (.tup (cutV xs lo hi)) → Q (.ref p) H') : rSlA K (.ref t) lo hi H Q :=
  ⟨t, xs, rfl, .inl h, fun wh => q t H (Ex.refl H) (by rw [cutV_whole wh]; exact h), fun _ p np => q p _ (Ex.new np) (.inl upd_same)⟩
theorem catA_any (h1 : Rd H a (.tup xs)) (h2 : Rd H b (.tup ys)) (l : xs.length + ys.length ≤ sizeLine) (q : ∀ p H', Ex H H' → Rd H' p (.tup (xs ++ ys)) → Q (.ref p) H') : rCatA K (.ref a) (.ref b) H Q :=
  ⟨a, b, xs, ys, rfl, rfl, .inl h1, .inl h2, l, fun e => q b H (Ex.refl H) (by subst e; exact h2), fun _ e => q a H (Ex.refl H) (by rw [e, List.append_nil]; exact h1), fun _ _ p np => q p _ (Ex.new np) (.inl upd_same)⟩
end
theorem cut_to' (xs : List V) (k : Nat) : cutV xs none (some (k : Int)) = xs.take k := by
  unfold cutV
  rw [HT.sIx_none, HT.sIx_nat]
  simp
theorem foldl_take' {xs : List Am} {s : Am} {i : Nat} {x : Am} (h : xs[i]? = some x) : (xs.take (i + 1)).foldl Am.add s = ((xs.take i).foldl Am.add s).add x := by
  rw [List.take_succ, h, List.foldl_append]
  rfl
theorem fold_swap {m : Ms} : ∀ {xs : List Am} {s a : Am}, (∀ x ∈ xs, m.has x) → m.has s → m.has a → xs.foldl Am.add (s.add a) = (xs.foldl Am.add s).add a
  | [], _, _, _, _, _ => rfl
  | x :: xs, s, a, h, hs, ha => by
    have hx := h x (List.mem_cons_self ..)
    rw [List.foldl_cons, List.foldl_cons, add_assoc' hs ha hx, add_comm' ha hx, ← add_assoc' hs hx ha]
    exact fold_swap (fun y hy => h y (List.mem_cons_of_mem _ hy)) (add_has hs hx) ha
theorem sum_rev {m : Ms} : ∀ {xs : List Am} {s : Am}, (∀ x ∈ xs, m.has x) → m.has s → xs.reverse.foldl Am.add s = xs.foldl Am.add s
  | [], _, _, _ => rfl
  | x :: xs, s, h, hs => by
    have h' := fun y hy => h y (List.mem_cons_of_mem x hy)
    rw [List.reverse_cons, List.foldl_append, sum_rev h' hs]
    exact (fold_swap h' hs (h x (List.mem_cons_self ..))).symm
theorem sum_grows {m : Ms} {xs : List Am} {i : Nat} {x : Am} (hx : ∀ x ∈ xs, m.has x ∧ Wt m x) (h : xs[i]? = some x) : amLt (sumA m (xs.take i)) (sumA m (xs.take (i + 1))) := by
  obtain ⟨h1, h2⟩ := hx x (List.mem_of_getElem? h)
  have hs : m.has (sumA m (xs.take i)) := sum_has (fun y hy => (hx y (List.mem_of_mem_take hy)).1) m.zero_has
  have e : sumA m (xs.take (i + 1)) = x.add (sumA m (xs.take i)) := (foldl_take' h).trans (add_comm' hs h1)
  rw [e]
  have := (lt_add m.zero_has h1 hs).mpr (wt_pos h1 h2)
  rw [zero_add hs] at this
  exact this
theorem sgn_wt {m : Ms} {x : Am} (h1 : m.has x) (h2 : Wt m x) : sgn m x = 1 := by
  have := wt_pos h1 h2
  unfold sgn
  rw [if_neg (am_lin.asym this), if_pos this]
theorem sum_lim6 {m : Ms} {xs : List Am} (h : ∀ x ∈ xs, m.has x ∧ x.near) (l : xs.length ≤ 7) : m.has (sumA m xs) ∧ (sumA m xs).lim 1900 :=
  ⟨sum_has (fun x hx => (h x hx).1) m.zero_has, (sum_lim (a := 190) (b := 1) (by decide) (by decide) (fun x hx => ⟨(h x hx).1, (h x hx).2.lim⟩) m.zero_has (zero_lim m (by decide))).mono (by omega)⟩
/-- a tuple of weights -/
def WtsT (H : Hp) (p : Addr) (m : Ms) (ps : List (V × Am)) : Prop := Rd H p (.tup (ps.map (·.1))) ∧ ∀ q ∈ ps, m.has q.2 ∧ q.2.near ∧ Wt m q.2 ∧ AmV H q.1 q.2
theorem Ex.wtsT {H H' : Hp} {p : Addr} {m : Ms} {ps : List (V × Am)} (e : Ex H H') (h : WtsT H p m ps) : WtsT H' p m ps := ⟨e.rd h.1, fun q hq => let ⟨a, b, c, d⟩ := h.2 q hq; ⟨a, b, c, d.ex e⟩⟩
section
variable {P : Program} {w : World} {K : PySem.W.Frag} {mg : Str → Option Value} {base : Heap} {C : Addr}
def spLds (C : Addr) : Sp := fun vs H Q _ => ∃ (g p : Addr) (m : Ms) (ps : List (V × Am)), vs = [.ref g, .ref p] ∧ SclAt H g C m ∧ m.ok ∧ WtsT H p m ps ∧ ps.length ≤ 6 ∧ ∀ H', Ex H H' → Q (.bl true) H'
theorem ok_lds {f : Addr} {fd : FuncData} (F : Fun K "_law_loads_right" "_law_loads_right" sLds f fd) (T : Blt mg) (Z : ClsK K C) (Pl : Dm P w K mg base C 6 "plus_all" ["self", "amounts"] (spPlusAll C)) (Mi : Dm P w K mg base C 6 "minus" ["self", "amount", "other"] (spMinus C))
    (Ls : Dm P w K mg base C 6 "is_less" ["self", "amount", "other"] (spIsLess C)) (Sg : Dm P w K mg base C 6 "sign" ["self", "amount"] (spSignM C)) (Ze : Dp1 P w K mg base C 1 "zero" (spZero C)) (Hs : Do1 P w K mg base C 5 "__contains__" ["self", "x"] (spHas K C)) : FnG P w K mg base CX0 7 f fd ["_law_meter", "_law_loads"] (spLds C) := by
  refine okG F scLds (fun vs H Q E h => ?_) (fun cdv A outer s H vs Q E hr h => ?_)
  · obtain ⟨g, p, m, ps, rfl, _⟩ := h
    rfl
  · obtain ⟨g, p, m, ps, rfl, sa, mok, hp, l6, q⟩ := h
    have nd := scLds.nd
    have r2 := hr.mono (show 2 ≤ 6 by decide)
    have r5 := hr.mono (show 5 ≤ 6 by decide)
    have r6 := hr
    have hu : (A.deeper (envOfC "_law_loads_right" (defScope sLds) s.heap.objs.size f cdv)).units + 64 < cLine := by have := hr.rm.un; omega
    have hu0 : (A.deeper (envOfC "_law_loads_right" (defScope sLds) s.heap.objs.size f cdv)).units < cLine := by omega
    refine ⟨_, pss_cons (ps_if (pt_cmpR (op_neNil hu0) (pe_lc (own := [("_law_load", 3)]) (g := gName 3) rfl nd (pi_tup (pv 1)) (blkOk_by (N := ["_law_meter", "_law_loads", "_law_many", "_law_load"]) (sc := defScope sLds) (by decide +kernel)) (fun _ _ _ _ _ => pg_name (i := 3) nd rfl (.inl rfl)) (fun _ _ _ _ _ => pts_one (PW.pt (pw_or (pt_cmpR op_ne (pe_meth (pv 0) Z.cls Sg.at_ Sg.G r6.rm Sg.b .nil pass0 (pa_cons (pv 3) pa_nil)) pe_int (nomark _)) (pw_or1 (pt_cmpR (r := rInO C (spHas K C) E0 true) (op_notinO Hs.G Hs.o Hs.b pass0 r5.rm) (pv 3) (pv 0) rfl)))))
          (fun _ _ _ _ _ => pv 3)) (pe_lst pa_nil) (nomark _)) pss_never pss_nil)
      (pss_cons (ps_for PassesOwn.never rfl (pi_range1 rfl T.range (pa_cons (pe_callB call_len_seq (by rfl) T.len PySem.boot_len (pa_cons (pv 1) pa_nil)) pa_nil)) (pg_name (i := 2) nd rfl (.inl rfl))
        (pss_one (ps_if (pt_not (pt_val (pe_meth (pv 0) Z.cls Ls.at_ Ls.G r6.rm Ls.b .nil pass0 (pa_cons (pe_meth (pv 0) Z.cls Pl.at_ Pl.G r6.rm Pl.b .nil pass0 (pa_cons (pe_slice sl_tupA (pv 1) po_none (po_some (pv 2))) pa_nil)) (pa_cons (pe_meth (pv 0) Z.cls Pl.at_ Pl.G r6.rm Pl.b .nil pass0 (pa_cons (pe_slice sl_tupA (pv 1) po_none (po_some (pe_op op_add (pv 2) pe_int))) pa_nil)) pa_nil))))) pss_never pss_nil)))
      (pss_one (ps_ret (pe_cmpR (op_eqD hu) (pe_meth (pv 0) Z.cls Mi.at_ Mi.G r6.rm Mi.b .nil pass0 (pa_cons (pe_meth (pv 0) Z.cls Pl.at_ Pl.G r6.rm Pl.b .nil pass0 (pa_cons (pv 1) pa_nil)) (pa_cons (pe_meth (pv 0) Z.cls Pl.at_ Pl.G r6.rm Pl.b .nil pass0 (pa_cons (pe_revT (pv 1)) pa_nil)) pa_nil))) (pe_prop (pv 0) Z.cls Ze.at_ Ze.G r2.rm Ze.b .nil pass0 rfl) (nomark _))))), ?_⟩
    refine ⟨_, rfl, p, rfl, ⟨_, .inl hp.1⟩, fun D nD => lc_tup (xs := ps.map (·.1)) (fun i H' => Ex H H' ∧ H' D = some (.lst [])) ⟨Ex.new nD, upd_same⟩ (fun i H' _ h => .inl (h.1.rd hp.1)) (fun i x H' hx h => ?_) (fun H1 h => ?_)⟩
    · obtain ⟨ex, eD⟩ := h
      rw [List.getElem?_map] at hx
      obtain ⟨r, hr', rfl⟩ := Option.map_eq_some_iff.mp hx
      obtain ⟨h1, h2, h3, h4⟩ := hp.2 r (List.mem_of_getElem? hr')
      obtain ⟨dg, fs, hg, hn⟩ := (ex.scl sa).no (x := "sign") (by decide +kernel) (by decide +kernel)
      refine ⟨rfl, _, rfl, g, dg, fs, rfl, hg, hn, _, rfl, g, m, r.1, r.2, rfl, ex.scl sa, mok, h1, h2.wide, h4.ex ex, fun H2 f2 => ?_⟩
      rw [sgn_wt h1 h3]
      refine ⟨rfl, ?_⟩
      rw [decide_eq_true rfl]
      refine ⟨_, rfl, ?_⟩
      have e2 := ex.trans f2
      obtain ⟨dg, fs, hg, _⟩ := e2.scl sa
      refine ⟨_, rfl, _, rfl, g, dg, fs, rfl, hg, g, m, r.1, _, rfl, e2.scl sa, mok, .dx (dx_am (h4.ex e2)), am_short mok h1, fun H3 f3 => ⟨_, rfl, ?_⟩⟩
      rw [amt_has mok h1]
      exact ⟨_, rfl, e2.trans f3, f3 D _ (f2 D _ eD)⟩
    · obtain ⟨ex, eD⟩ := h
      refine ⟨Nat.zero_le _, fun L nL => ⟨D, L, [], rfl, rfl, .inl (.inl ((Ex.new nL) D _ eD)), upd_same, _, rfl, ?_⟩⟩
      have e1 := ex.trans (Ex.new (o := .lst []) nL)
      have all : ∀ x ∈ ps.map (·.2), m.has x ∧ Wt m x := fun x hx => by
        obtain ⟨c, hc, rfl⟩ := List.mem_map.mp hx
        obtain ⟨c1, _, c3, _⟩ := hp.2 c hc
        exact ⟨c1, c3⟩
      have part : ∀ k, m.has (sumA m ((ps.take k).map (·.2))) ∧ (sumA m ((ps.take k).map (·.2))).lim 1900 := fun k => sum_lim6 (fun x hx => by
        obtain ⟨c, hc, rfl⟩ := List.mem_map.mp hx
        obtain ⟨c1, c2, _, _⟩ := hp.2 c (List.mem_of_mem_take hc)
        exact ⟨c1, c2⟩) (by rw [List.length_map, List.length_take]; omega)
      have facts : ∀ {H' : Hp} (k : Nat), Ex H H' → ∀ q ∈ ps.take k, m.has q.2 ∧ q.2.lim 190 ∧ AmV H' q.1 q.2 := fun k e q hq => by
        obtain ⟨c1, c2, _, c4⟩ := hp.2 q (List.mem_of_mem_take hq)
        exact ⟨c1, c2.lim, c4.ex e⟩
      refine ⟨_, rfl, p, _, rfl, .inr (.inl (e1.rd hp.1)), (ps.length : Nat), by rw [List.length_map], by omega, by omega, ?_⟩
      refine for_range (n := ps.length) (fun i σ H' => ∃ y2 : Option V, σ = [some (.ref g), some (.ref p), y2, none] ∧ Ex H H') ⟨_, rfl, e1⟩ (fun i σ H2 hi h => ?_) (fun σ H2 h => ?_)
      · obtain ⟨y2, rfl, e2⟩ := h
        obtain ⟨dg, fs, hg, hn⟩ := (e2.scl sa).no (x := "is_less") (by decide +kernel) (by decide +kernel)
        obtain ⟨dg', fs', hg', hn'⟩ := (e2.scl sa).no (x := "plus_all") (by decide +kernel) (by decide +kernel)
        refine ⟨_, rfl, g, dg, fs, rfl, hg, hn, _, rfl, g, dg', fs', rfl, hg', hn', _, rfl, _, rfl, _, rfl, slA_any (e2.rd hp.1) fun p3 H3 e3 h3 => ?_⟩
        rw [show cutV (ps.map (·.1)) none (some (0 + (i : Int))) = (ps.take i).map (·.1) by rw [Int.zero_add, cut_to, List.map_take]] at h3
        have e23 := e2.trans e3
        have lk : ∀ k, (ps.take k).length ≤ 6 := fun k => by rw [List.length_take]; omega
        have lk1 := lk i
        refine ⟨g, p3, m, 190, ps.take i, rfl, e23.scl sa, mok, ⟨h3, facts i e23⟩, by decide, by decide, by omega, by omega, fun v4 H4 e4 a4 => ?_⟩
        have e24 := e23.trans e4
        obtain ⟨dg', fs', hg', hn'⟩ := (e24.scl sa).no (x := "plus_all") (by decide +kernel) (by decide +kernel)
        refine ⟨_, rfl, g, dg', fs', rfl, hg', hn', _, rfl, _, rfl, _, _, rfl, rfl, _, rfl, slA_any (e24.rd hp.1) fun p5 H5 e5 h5 => ?_⟩
        rw [show cutV (ps.map (·.1)) none (some (0 + (i : Int) + 1)) = (ps.take (i + 1)).map (·.1) by rw [Int.zero_add, show ((i : Int) + 1) = ((i + 1 : Nat) : Int) from rfl, cut_to, List.map_take]] at h5
        have e25 := e24.trans e5
        have lk2 := lk (i + 1)
        refine ⟨g, p5, m, 190, ps.take (i + 1), rfl, e25.scl sa, mok, ⟨h5, facts (i + 1) e25⟩, by decide, by decide, by omega, by omega, fun v6 H6 e6 a6 => ?_⟩
        have e26 := e25.trans e6
        refine ⟨g, m, v4, v6, _, _, rfl, e26.scl sa, mok, (part i).1, (part (i + 1)).1, (Am.lim.wide ((part i).2.mono (by decide))), (Am.lim.wide ((part (i + 1)).2.mono (by decide))), a4.ex (e5.trans e6), a6, fun H7 e7 => ?_⟩
        have gr : amLt (sumA m ((ps.take i).map (·.2))) (sumA m ((ps.take (i + 1)).map (·.2))) := by
          rw [List.map_take, List.map_take]
          exact sum_grows all (List.getElem?_map .. |>.trans (by rw [List.getElem?_eq_getElem hi]; rfl))
        rw [decide_eq_true gr]
        exact ⟨_, rfl, _, rfl, e26.trans e7⟩
      · obtain ⟨y2, rfl, e2⟩ := h
        obtain ⟨dg, fs, hg, hn⟩ := (e2.scl sa).no (x := "minus") (by decide +kernel) (by decide +kernel)
        obtain ⟨dg', fs', hg', hn'⟩ := (e2.scl sa).no (x := "plus_all") (by decide +kernel) (by decide +kernel)
        have fall : ∀ {H' : Hp}, Ex H H' → ∀ q ∈ ps, m.has q.2 ∧ q.2.lim 190 ∧ AmV H' q.1 q.2 := fun e q hq => by
          obtain ⟨c1, c2, _, c4⟩ := hp.2 q hq
          exact ⟨c1, c2.lim, c4.ex e⟩
        refine ⟨_, rfl, g, dg, fs, rfl, hg, hn, _, rfl, g, dg', fs', rfl, hg', hn', _, rfl, g, p, m, 190, ps, rfl, e2.scl sa, mok, ⟨e2.rd hp.1, fall e2⟩, by decide, by decide, by omega, by omega, fun v4 H4 e4 a4 => ?_⟩
        have e24 := e2.trans e4
        obtain ⟨dg', fs', hg', hn'⟩ := (e24.scl sa).no (x := "plus_all") (by decide +kernel) (by decide +kernel)
        refine ⟨_, rfl, g, dg', fs', rfl, hg', hn', _, rfl, p, _, rfl, .inl (e24.rd hp.1), fun t5 n5 => ?_⟩
        have x5 := Ex.new (o := .tup (ps.map (·.1)).reverse) n5
        have e25 := e24.trans x5
        refine ⟨g, t5, m, 190, ps.reverse, rfl, e25.scl sa, mok, ⟨.inl (by rw [upd_same, List.map_reverse]), fun q hq => fall e25 q (List.mem_reverse.mp hq)⟩, by decide, by decide, by rw [List.length_reverse]; omega, by rw [List.length_reverse]; omega, fun v6 H6 e6 a6 => ?_⟩
        have e26 := e25.trans e6
        rw [List.map_reverse, show sumA m (ps.map (·.2)).reverse = sumA m (ps.map (·.2)) from sum_rev (fun x hx => (all x hx).1) m.zero_has] at a6
        have pa := part ps.length
        rw [List.take_length] at pa
        refine ⟨g, m, 1900, v4, v6, _, _, rfl, e26.scl sa, mok, by decide, by decide, pa.1, pa.1, pa.2, pa.2, a4.ex (x5.trans e6), a6, fun v7 H7 e7 a7 => ?_⟩
        have e27 := e26.trans e7
        obtain ⟨dg, fs, hg, _⟩ := e27.scl sa
        refine ⟨_, rfl, g, dg, fs, rfl, hg, g, m, rfl, e27.scl sa, mok, fun v8 H8 e8 a8 => ?_⟩
        rw [show (sumA m (ps.map (·.2))).sub (sumA m (ps.map (·.2))) = m.zero by rw [sub_is pa.1 pa.1, add_neg' pa.1]] at a7
        refine ⟨_, _, dp_am (a7.ex e8), dp_am a8, Am.shaped _, Am.shaped _, ?_⟩
        rw [eqv_self]
        exact q _ (e27.trans e8)
end
end Gl

namespace Gl
open PySem PySem.Spec PyProof.Rows L2
/-! sets of rows and their chances -/
def setsN : Nat → List (List Nat)
  | 0 => [[]]
  | n + 1 => setsN n ++ (setsN n).map (· ++ [n])
theorem setsN_len : ∀ n, (setsN n).length = 2 ^ n
  | 0 => rfl
  | n + 1 => by
    show (setsN n ++ (setsN n).map (· ++ [n])).length = _
    rw [List.length_append, List.length_map, setsN_len n, Nat.pow_succ]
    omega
theorem setsN_lt : ∀ {n : Nat} {is : List Nat}, is ∈ setsN n → ∀ i ∈ is, i < n
  | 0, is, h => by
    rw [List.mem_singleton.mp h]
    exact fun i hi => (nomatch hi)
  | n + 1, is, h => fun i hi => by
    rcases List.mem_append.mp h with h | h
    · have := setsN_lt h i hi; omega
    · obtain ⟨js, hj, rfl⟩ := List.mem_map.mp h
      rcases List.mem_append.mp hi with hi | hi
      · have := setsN_lt hj i hi; omega
      · rw [List.mem_singleton.mp hi]; omega
theorem setsN_asc : ∀ {n : Nat} {is : List Nat}, is ∈ setsN n → is.Pairwise (· < ·)
  | 0, is, h => by
    rw [List.mem_singleton.mp h]
    exact List.Pairwise.nil
  | n + 1, is, h => by
    rcases List.mem_append.mp h with h | h
    · exact setsN_asc h
    · obtain ⟨js, hj, rfl⟩ := List.mem_map.mp h
      exact List.pairwise_append.mpr ⟨setsN_asc hj, List.pairwise_singleton .., fun a ha b hb => by rw [List.mem_singleton.mp hb]; exact setsN_lt hj a ha⟩
theorem setsN_few : ∀ {n : Nat} {is : List Nat}, is ∈ setsN n → is.length ≤ n
  | 0, is, h => by
    rw [List.mem_singleton.mp h]
    exact Nat.le_refl _
  | n + 1, is, h => by
    rcases List.mem_append.mp h with h | h
    · have := setsN_few h; omega
    · obtain ⟨js, hj, rfl⟩ := List.mem_map.mp h
      have := setsN_few hj
      rw [List.length_append]
      show js.length + 1 ≤ n + 1
      omega
section
variable (t b : Nat → Nat)
def overF (n : Nat) (is : List Nat) : Nat := prod ((List.range n).map fun i => if i ∈ is then t i else b i)
def underF (n : Nat) : Nat := prod ((List.range n).map fun i => t i + b i)
end
theorem prod_snoc (ns : List Nat) (n : Nat) : prod (ns ++ [n]) = prod ns * n := by
  unfold prod
  rw [List.foldl_append]
  rfl
section
variable {t b : Nat → Nat}
theorem over_old {n : Nat} {is : List Nat} (h : ∀ i ∈ is, i < n) : overF t b (n + 1) is = overF t b n is * b n := by
  unfold overF
  rw [List.range_succ, List.map_append, List.map_singleton, prod_snoc, if_neg (fun z => Nat.lt_irrefl _ (h n z))]
theorem over_new {n : Nat} {is : List Nat} : overF t b (n + 1) (is ++ [n]) = overF t b n is * t n := by
  unfold overF
  rw [List.range_succ, List.map_append, List.map_singleton, prod_snoc, if_pos (List.mem_append_right _ (List.mem_singleton_self n))]
  congr 2
  refine List.map_congr_left fun i hi => ?_
  have il := List.mem_range.mp hi
  by_cases z : i ∈ is
  · rw [if_pos z, if_pos (List.mem_append_left _ z)]
  · rw [if_neg z, if_neg (fun y => by
      rcases List.mem_append.mp y with y | y
      · exact z y
      · rw [List.mem_singleton.mp y] at il; omega)]
theorem sum_mul (xs : List Nat) (k : Nat) : (xs.map (· * k)).sum = xs.sum * k := by
  induction xs with
  | nil => simp
  | cons x xs ih => rw [List.map_cons, List.sum_cons, List.sum_cons, ih, Nat.add_mul]
theorem sum_over : ∀ n, ((setsN n).map (overF t b n)).sum = underF t b n
  | 0 => rfl
  | n + 1 => by
    show ((setsN n ++ (setsN n).map (· ++ [n])).map (overF t b (n + 1))).sum = _
    rw [List.map_append, List.sum_append, List.map_map]
    rw [List.map_congr_left (g := fun is => overF t b n is * b n) fun is hi => over_old (setsN_lt hi)]
    rw [List.map_congr_left (f := overF t b (n + 1) ∘ fun x => x ++ [n]) (g := fun is => overF t b n is * t n) fun is hi => over_new]
    have e := sum_mul ((setsN n).map (overF t b n)) (b n)
    have e' := sum_mul ((setsN n).map (overF t b n)) (t n)
    rw [List.map_map] at e e'
    have h1 : ((setsN n).map fun is => overF t b n is * b n).sum = underF t b n * b n := e.trans (by rw [sum_over n])
    have h2 : ((setsN n).map fun is => overF t b n is * t n).sum = underF t b n * t n := e'.trans (by rw [sum_over n])
    rw [h1, h2]
    unfold underF
    rw [List.range_succ, List.map_append, List.map_singleton, prod_snoc, Nat.mul_add, Nat.add_comm]
theorem over_pos {n : Nat} {is : List Nat} (ht : ∀ i, 0 < t i) (hb : ∀ i, 0 < b i) : 0 < overF t b n is := prod_pos fun x hx => by
  obtain ⟨i, _, rfl⟩ := List.mem_map.mp hx
  split
  · exact ht i
  · exact hb i
theorem under_pos {n : Nat} (ht : ∀ i, 0 < t i) : 0 < underF t b n := prod_pos fun x hx => by
  obtain ⟨i, _, rfl⟩ := List.mem_map.mp hx
  have := ht i
  omega
/-- the rows that go -/
def outL (n : Nat) (is : List Nat) : List Nat := (List.range n).filter fun i => !decide (i ∈ is)
theorem over_out {is : List Nat} : ∀ l : List Nat, prod (l.map fun i => if i ∈ is then t i else b i) * prod ((l.filter fun i => !decide (i ∈ is)).map t) = prod (l.map t) * prod ((l.filter fun i => !decide (i ∈ is)).map b)
  | [] => rfl
  | i :: l => by
    have ih := over_out (is := is) l
    rw [List.map_cons, List.map_cons, prod_cons, prod_cons]
    by_cases z : i ∈ is
    · rw [if_pos z, List.filter_cons_of_neg (by rw [decide_eq_true z]; decide)]
      calc _ = t i * (prod (l.map fun i => if i ∈ is then t i else b i) * prod ((l.filter fun i => !decide (i ∈ is)).map t)) := by ac_rfl
        _ = t i * (prod (l.map t) * prod ((l.filter fun i => !decide (i ∈ is)).map b)) := by rw [ih]
        _ = _ := by ac_rfl
    · rw [if_neg z, List.filter_cons_of_pos (by rw [decide_eq_false z]; rfl), List.map_cons, List.map_cons, prod_cons, prod_cons]
      calc _ = t i * b i * (prod (l.map fun i => if i ∈ is then t i else b i) * prod ((l.filter fun i => !decide (i ∈ is)).map t)) := by ac_rfl
        _ = t i * b i * (prod (l.map t) * prod ((l.filter fun i => !decide (i ∈ is)).map b)) := by rw [ih]
        _ = _ := by ac_rfl
/-- a lesser loss is a greater chance -/
theorem loss_chance {n : Nat} {is js : List Nat} {U : Nat} {l1 l2 c1 c2 : Odds} (ht : ∀ i, 0 < t i) (hb : ∀ i, 0 < b i) (U0 : 0 < U)
    (e1 : l1.1.1 * prod ((outL n is).map b) = prod ((outL n is).map t) * l1.1.2) (e2 : l2.1.1 * prod ((outL n js).map b) = prod ((outL n js).map t) * l2.1.2)
    (d1 : c1.1.1 * U = overF t b n is * c1.1.2) (d2 : c2.1.1 * U = overF t b n js * c2.1.2) : oddsLt l1 l2 ↔ c2.1.1 * c1.1.2 < c1.1.1 * c2.1.2 := by
  have mp : ∀ {f : Nat → Nat} {l : List Nat}, (∀ i, 0 < f i) → 0 < prod (l.map f) := fun hf => prod_pos fun x hx => by
    obtain ⟨i, _, rfl⟩ := List.mem_map.mp hx
    exact hf i
  have B1 : 0 < prod ((outL n is).map b) := mp hb
  have B2 : 0 < prod ((outL n js).map b) := mp hb
  have T1 : 0 < prod ((outL n is).map t) := mp ht
  have T2 : 0 < prod ((outL n js).map t) := mp ht
  have W : 0 < prod ((List.range n).map t) := mp ht
  have o1 : overF t b n is * prod ((outL n is).map t) = prod ((List.range n).map t) * prod ((outL n is).map b) := over_out _
  have o2 : overF t b n js * prod ((outL n js).map t) = prod ((List.range n).map t) * prod ((outL n js).map b) := over_out _
  show l1.1.1 * l2.1.2 < l2.1.1 * l1.1.2 ↔ _
  rw [frac_lt l1.2.q0 l2.2.q0 B1 B2 e1 e2, frac_lt c2.2.q0 c1.2.q0 U0 U0 d2 d1]
  generalize prod ((outL n is).map b) = b1 at *
  generalize prod ((outL n js).map b) = b2 at *
  generalize prod ((outL n is).map t) = t1 at *
  generalize prod ((outL n js).map t) = t2 at *
  generalize prod ((List.range n).map t) = w at *
  generalize overF t b n is = x1 at *
  generalize overF t b n js = x2 at *
  have h1 : t1 * b2 * w = x2 * (t1 * t2) := by
    calc t1 * b2 * w = (w * b2) * t1 := by ac_rfl
      _ = x2 * t2 * t1 := by rw [o2]
      _ = _ := by ac_rfl
  have h2 : t2 * b1 * w = x1 * (t1 * t2) := by
    calc t2 * b1 * w = (w * b1) * t2 := by ac_rfl
      _ = x1 * t1 * t2 := by rw [o1]
      _ = _ := by ac_rfl
  have tt : 0 < t1 * t2 := Nat.mul_pos T1 T2
  constructor
  · intro g
    have := Nat.mul_lt_mul_of_pos_right g W
    rw [h1, h2] at this
    exact Nat.mul_lt_mul_of_pos_right (Nat.lt_of_mul_lt_mul_right this) U0
  · intro g
    have := Nat.mul_lt_mul_of_pos_right (Nat.lt_of_mul_lt_mul_right g) tt
    rw [← h1, ← h2] at this
    exact Nat.lt_of_mul_lt_mul_right this
end
/-- one more chance put to the others -/
theorem chance_add {a b c d S o U : Nat} (h1 : a * U = S * b) (h2 : c * U = o * d) : (a * d + c * b) * U = (S + o) * (b * d) := by
  rw [Nat.add_mul, Nat.add_mul]
  congr 1
  · calc a * d * U = a * U * d := by ac_rfl
      _ = S * b * d := by rw [h1]
      _ = _ := by ac_rfl
  · calc c * b * U = c * U * b := by ac_rfl
      _ = o * d * b := by rw [h2]
      _ = _ := by ac_rfl
theorem chance_red {x y S U : Nat} (hx : 0 < x) (hy : 0 < y) (hS : 0 < S) (hU : 0 < U) (e : x * U = S * y) : red x y hx hy = red S U hS hU := by
  apply red_of
  have v := red_val hx hy
  apply Nat.eq_of_mul_eq_mul_right hy
  calc (red x y hx hy).1.1 * U * y = ((red x y hx hy).1.1 * y) * U := by ac_rfl
    _ = x * (red x y hx hy).1.2 * U := by rw [v]
    _ = (x * U) * (red x y hx hy).1.2 := by ac_rfl
    _ = S * y * (red x y hx hy).1.2 := by rw [e]
    _ = _ := by ac_rfl
theorem red_self {U : Nat} (hU : 0 < U) : red U U hU hU = one1 := (red_of hU hU (x := one1) (by show 1 * U = U * 1; omega)).symm
/-! orders that are alike are the same -/
theorem ord_same {α β : Type} {lt : α → α → Prop} {lt' : β → β → Prop} [DecidableRel lt] [DecidableEq α] [DecidableRel lt'] [DecidableEq β] (H : Lin lt) (H' : Lin lt') {k : Nat → α} {k' : Nat → β} {n : Nat} {o o' : List Nat}
    (h : Ord (lt := lt) k n o) (h' : Ord (lt := lt') k' n o') (e : ∀ x y, x < n → y < n → (Bef lt k x y ↔ Bef lt' k' x y)) : o = o' := by
  apply List.ext_getElem?
  intro j
  by_cases l : j < n
  · have lo : j < o.length := by rw [h.length]; exact l
    have e0 : o[j]? = some o[j] := List.getElem?_eq_getElem lo
    have xl := h.lt_of (List.mem_of_getElem? e0)
    obtain ⟨j', hj⟩ := h'.has xl
    have p1 := h.place H e0
    have p2 := h'.place H' hj
    have : (List.range n).countP (fun y => decide (Bef lt k y o[j])) = (List.range n).countP (fun y => decide (Bef lt' k' y o[j])) := by
      apply List.countP_congr
      intro y hy
      have yl := List.mem_range.mp hy
      rw [decide_eq_true_iff, decide_eq_true_iff]
      exact e y _ yl xl
    rw [p1, p2] at this
    subst this
    rw [e0, hj]
  · rw [List.getElem?_eq_none (by rw [h.length]; omega), List.getElem?_eq_none (by rw [h'.length]; omega)]
/-! powers of two -/
theorem pow_low (i : Int) : Low (2 ^ i.toNat) (2 ^ (-i).toNat) := by
  refine ⟨Nat.pow_pos (by decide), Nat.pow_pos (by decide), ?_⟩
  by_cases h : 0 ≤ i
  · rw [show (-i).toNat = 0 by omega, Nat.pow_zero, Nat.gcd_one_right]
  · rw [show i.toNat = 0 by omega, Nat.pow_zero, Nat.gcd_one_left]
def p2 (i : Int) : Odds := ⟨(2 ^ i.toNat, 2 ^ (-i).toNat), pow_low i⟩
theorem p2_mul (i j : Int) : mulO (p2 i) (p2 j) = p2 (i + j) := by
  apply odds_ext
  have v := mul_val (p2 i) (p2 j)
  have q := (mulO (p2 i) (p2 j)).2.q0
  generalize (mulO (p2 i) (p2 j)).1.1 = x at *
  generalize (mulO (p2 i) (p2 j)).1.2 = y at *
  have v : x * (2 ^ (-i).toNat * 2 ^ (-j).toNat) = 2 ^ i.toNat * 2 ^ j.toNat * y := v
  show x * 2 ^ (-(i + j)).toNat = 2 ^ (i + j).toNat * y
  have W : 0 < 2 ^ (-i).toNat * 2 ^ (-j).toNat := Nat.mul_pos (Nat.pow_pos (by decide)) (Nat.pow_pos (by decide))
  apply Nat.eq_of_mul_eq_mul_right W
  calc x * 2 ^ (-(i + j)).toNat * (2 ^ (-i).toNat * 2 ^ (-j).toNat) = x * (2 ^ (-i).toNat * 2 ^ (-j).toNat) * 2 ^ (-(i + j)).toNat := by ac_rfl
    _ = 2 ^ i.toNat * 2 ^ j.toNat * y * 2 ^ (-(i + j)).toNat := by rw [v]
    _ = (2 ^ i.toNat * 2 ^ j.toNat * 2 ^ (-(i + j)).toNat) * y := by ac_rfl
    _ = (2 ^ (i + j).toNat * 2 ^ (-i).toNat * 2 ^ (-j).toNat) * y := by
      rw [← Nat.pow_add, ← Nat.pow_add, ← Nat.pow_add, ← Nat.pow_add]
      congr 2
      omega
    _ = _ := by ac_rfl
theorem p2_swap (i : Int) : swapO (p2 i) = p2 (-i) := Subtype.ext (Prod.ext rfl (by show 2 ^ i.toNat = 2 ^ (- -i).toNat; rw [Int.neg_neg]))
theorem p2_zero : p2 0 = one1 := rfl
theorem p2_lt (i j : Int) : oddsLt (p2 i) (p2 j) ↔ i < j := by
  show 2 ^ i.toNat * 2 ^ (-j).toNat < 2 ^ j.toNat * 2 ^ (-i).toNat ↔ _
  rw [← Nat.pow_add, ← Nat.pow_add, Nat.pow_lt_pow_iff_right (by decide)]
  omega
theorem p2_inj {i j : Int} (h : p2 i = p2 j) : i = j := by
  have h1 := p2_lt i j
  have h2 := p2_lt j i
  rw [h] at h1 h2
  have n := odds_lin.irr (p2 j)
  have a : ¬ i < j := fun z => n (h1.mpr z)
  have b : ¬ j < i := fun z => n (h2.mpr z)
  omega
theorem p2_sum : ∀ (ns : List Int) (s : Int), ((ns.map fun n => Am.o (p2 n)).foldl Am.add (.o (p2 s))) = .o (p2 (s + ns.sum))
  | [], s => by simp
  | n :: ns, s => by
    rw [List.map_cons, List.foldl_cons]
    show ((ns.map fun n => Am.o (p2 n)).foldl Am.add (.o (mulO (p2 s) (p2 n)))) = _
    rw [p2_mul, p2_sum ns, List.sum_cons, Int.add_assoc]
theorem c1_sum : ∀ (ns : List Int) (s : Int), ((ns.map fun n => Am.c [n]).foldl Am.add (.c [s])) = .c [s + ns.sum]
  | [], s => by simp
  | n :: ns, s => by
    rw [List.map_cons, List.foldl_cons]
    show ((ns.map fun n => Am.c [n]).foldl Am.add (.c [s + n])) = _
    rw [c1_sum ns, List.sum_cons, Int.add_assoc]
theorem p2_sgn (i : Int) : sgn .odds (.o (p2 i)) = sgn .sums (.n i) := by
  unfold sgn
  have h1 : amLt (.o (p2 i)) Ms.odds.zero ↔ amLt (.n i) Ms.sums.zero := p2_lt i 0
  have h2 : amLt Ms.odds.zero (.o (p2 i)) ↔ amLt Ms.sums.zero (.n i) := p2_lt 0 i
  by_cases a : amLt (.n i) Ms.sums.zero
  · rw [if_pos a, if_pos (h1.mpr a)]
  · rw [if_neg a, if_neg (fun z => a (h1.mp z))]
    by_cases c : amLt Ms.sums.zero (.n i)
    · rw [if_pos c, if_pos (h2.mpr c)]
    · rw [if_neg c, if_neg (fun z => c (h2.mp z))]
/-- keys of one kind and of another, in one order -/
theorem ord_keys {ps qs : List (V × Am)} {ns : List Int} {f g : Int → Am} {o o' : List Nat} (hp : ps.map (·.2) = ns.map f) (hq : qs.map (·.2) = ns.map g) (hf : ∀ i j, amLt (f i) (f j) ↔ i < j) (hg : ∀ i j, amLt (g i) (g j) ↔ i < j)
    (h : OrdP ps ns.length o) (h' : OrdP qs ns.length o') : o = o' := by
  have key : ∀ {rs : List (V × Am)} {e : Int → Am}, rs.map (·.2) = ns.map e → ∀ x (l : x < ns.length), keyOf rs x = e ns[x] := fun {rs e} er x l => by
    have := congrArg (fun z => z[x]?) er
    simp only [List.getElem?_map] at this
    rw [List.getElem?_eq_getElem l] at this
    obtain ⟨r, hr, z⟩ := Option.map_eq_some_iff.mp this
    rw [keyOf_eq hr]
    exact z
  have inj : ∀ {e : Int → Am}, (∀ i j, amLt (e i) (e j) ↔ i < j) → ∀ i j, e i = e j ↔ i = j := fun {e} he i j => by
    constructor
    · intro z
      have h1 := he i j
      have h2 := he j i
      rw [z] at h1 h2
      have n := am_lin.irr (e j)
      have a : ¬ i < j := fun z => n (h1.mpr z)
      have b : ¬ j < i := fun z => n (h2.mpr z)
      omega
    · intro z; rw [z]
  refine ord_same am_lin am_lin h h' fun x y lx ly => ?_
  unfold Bef
  rw [key hp x lx, key hp y ly, key hq x lx, key hq y ly, hf, hg, inj hf, inj hg]
end Gl

namespace Gl
open PySem PySem.Spec PyProof.Rows L2 ClX
abbrev sIdxs : Stmt := topS 7
theorem scIdxs : FnScope ["value", "many", "one"] ["value", "many"] (defScope sIdxs) := ⟨rfl, rfl, rfl, by decide +kernel, rfl, by decide +kernel, by decide +kernel⟩
abbrev sAsc : Stmt := topS 8
theorem scAsc : FnScope ["values", "at"] ["values"] (defScope sAsc) := ⟨rfl, rfl, rfl, by decide +kernel, rfl, by decide +kernel, by decide +kernel⟩
abbrev sSets : Stmt := topS 35
theorem scSets : FnScope ["_law_total", "_law_found", "_law_at", "_law_one"] ["_law_total"] (defScope sSets) := ⟨rfl, rfl, rfl, by decide +kernel, rfl, by decide +kernel, by decide +kernel⟩
abbrev sLoss : Stmt := topS 36
theorem scLoss : FnScope ["_law_meter", "_law_loads", "_law_chosen", "_law_at", "_law_load"] ["_law_meter", "_law_loads", "_law_chosen"] (defScope sLoss) := ⟨rfl, rfl, rfl, by decide +kernel, rfl, by decide +kernel, by decide +kernel⟩
theorem rep_all (n : Nat) : (List.replicate n true).all id = true := by
  rw [List.all_eq_true]
  intro b hb
  exact (List.mem_replicate.mp hb).2
theorem room100 {n : Nat} (h : n < 1001) : n < sizeLine := Nat.lt_of_lt_of_le h (by decide)
/-- over enumerate(a tuple) -/
theorem lc_enumT {K : PySem.W.Frag} {a : Addr} {xs : List V} {g : TG} {tt : TT} {te : TE} {vs : List Nat} {σ : L2.St} {H1 : Hp} {D : Addr} {Qd : Hp → Prop} (Pv : Nat → Hp → Prop) (h0 : Pv 0 (upd H1 D (.lst []))) (hl : ∀ i H, i ≤ xs.length → Pv i H → SqT K H a xs)
    (hs : ∀ i x H T, xs[i]? = some x → Pv i H → H T = none → g (.ref T) (wipe σ vs) (upd H T (.tup [.int (i : Nat), x])) fun σ2 H2 => wipe σ2 vs = wipe σ vs ∧ tt σ2 H2 fun b H3 =>
      if b = true then te σ2 H3 fun y H4 => ∃ acc, H4 D = some (.lst acc) ∧ acc.length < sizeLine ∧ Pv (i + 1) (upd H4 D (.lst (acc ++ [y]))) else Pv (i + 1) H3) (hd : ∀ H, Pv xs.length H → Qd H) :
    ∃ W : Nat → Nat → Hp → Prop, (∃ m, W 0 m (upd H1 D (.lst []))) ∧ ∀ i m H, W i m H →
      ((IteT K a).stop i H ∧ Qd H) ∨ ((IteT K a).go i H ∧ ∃ Nx : Hp → Prop, (∀ H', Nx H' → ∃ m', m' < m ∧ W (i + 1) m' H') ∧ ∀ x H', (IteT K a).yld i H x H' → g x (wipe σ vs) H' fun σ2 H2 => wipe σ2 vs = wipe σ vs ∧ tt σ2 H2 fun b H3 =>
        if b = true then te σ2 H3 fun y H4 => ∃ acc, H4 D = some (.lst acc) ∧ acc.length < sizeLine ∧ Nx (upd H4 D (.lst (acc ++ [y]))) else Nx H3) := by
  refine ⟨fun i m H => m = xs.length - i ∧ i ≤ xs.length ∧ Pv i H, ⟨xs.length, by simp, Nat.zero_le _, h0⟩, ?_⟩
  rintro i m H ⟨rfl, hi, p⟩
  have q := hl i H hi p
  by_cases hlt : i < xs.length
  · refine .inr ⟨⟨xs, xs[i], q, List.getElem?_eq_getElem hlt⟩, Pv (i + 1), fun H' p' => ⟨xs.length - (i + 1), by omega, rfl, hlt, p'⟩, ?_⟩
    rintro v H' ⟨T, x, rfl, nT, rfl, hx⟩
    exact hs i x H T (hx xs q) p nT
  · have e : i = xs.length := by omega
    subst e
    exact .inl ⟨⟨xs, q, Nat.le_refl _⟩, hd H p⟩
theorem inV_nats (i : Nat) (is : List Nat) : inV (.int (i : Nat)) (nats is) = decide (i ∈ is) := by
  unfold inV nats
  rw [List.any_map]
  induction is with
  | nil => rfl
  | cons j is ih =>
    rw [List.any_cons, ih]
    show ((((j : Nat) : Int) == ((i : Nat) : Int)) || decide (i ∈ is)) = _
    by_cases h : j = i
    · subst h
      rw [decide_eq_true (List.mem_cons_self ..)]
      simp
    · rw [show (((j : Nat) : Int) == ((i : Nat) : Int)) = false from by simp; omega, Bool.false_or]
      exact decide_eq_decide.mpr ⟨List.mem_cons_of_mem _, fun z => (List.mem_cons.mp z).resolve_left (fun e => h e.symm)⟩
theorem flat_nats (is : List Nat) : (nats is).all flatV = true := by
  unfold nats
  rw [List.all_map]
  exact List.all_eq_true.mpr fun _ _ => rfl
section
variable {P : Program} {w : World} {K : PySem.W.Frag} {mg : Str → Option Value} {base : Heap} {C : Addr} {mc : Value}
def spIdxs : Sp := fun vs H Q _ => ∃ (c : Addr) (is : List Nat) (n : Nat), vs = [.ref c, .int (n : Nat)] ∧ Rd H c (.tup (nats is)) ∧ (∀ i ∈ is, i < n) ∧ is.length ≤ 100 ∧ ∀ H', Ex H H' → Q (.bl true) H'
theorem ok_idxs {f : Addr} {fd : FuncData} (F : Fun K "are_indices" "are_indices" sIdxs f fd) (T : Blt mg) (Ix : Df P w K mg base 2 "is_index" ["value", "many"] spIndex) : FnOk P w K mg base CX0 3 f fd ["value", "many"] spIdxs := by
  refine F.ok scIdxs (fun vs H Q E h => ?_) (fun cdv A outer s H vs Q E hr h => ?_)
  · obtain ⟨c, is, n, rfl, _⟩ := h
    rfl
  · obtain ⟨c, is, n, rfl, hp, lt, few, q⟩ := h
    have nd := scIdxs.nd
    refine ⟨_, pss_one (ps_ret (pe_and (pe_callB call_isi (by rfl) T.isinstance (by decide +kernel) (pa_cons (pv 0) (pa_cons (pe_bltn (v := .ty "tuple") (by rfl) T.tuple (by decide +kernel) rfl) pa_nil))) (pe_one (pe_callB (cr_all rfl) (by rfl) T.all (by decide +kernel) (pa_cons (pe_lc (own := [("one", 2)]) (g := gName 2) (tt := tYes) rfl nd (pi_tup (pv 0)) (blkOk_by (N := ["value", "many", "one"]) (sc := defScope sIdxs) (by decide +kernel)) (fun _ _ _ _ _ => pg_name (i := 2) nd rfl (.inl rfl)) (fun _ _ _ _ _ => pts_nil)
          (fun _ _ _ _ _ => pe_call Ix.G hr (by rfl) Ix.g Ix.kp Ix.b .nil pass0 (pa_cons (pv 2) (pa_cons (pv 1) pa_nil)))) pa_nil))))), ?_⟩
    refine ⟨_, rfl, _, _, _, _, true, rfl, .ty _, tyRd hp, kit_ty (by decide +kernel), true, rfl, ?_⟩
    refine ⟨_, rfl, c, rfl, ⟨_, .inl hp⟩, fun D nD => lc_tup (xs := nats is) (fun i H' => Ex H H' ∧ H' D = some (.lst ((List.replicate i true).map V.bl))) ⟨Ex.new nD, upd_same⟩ (fun i H' _ h => .inl (h.1.rd hp)) (fun i x H' hx h => ?_) (fun H' h => ?_)⟩
    · obtain ⟨ex, eD⟩ := h
      unfold nats at hx
      rw [List.getElem?_map] at hx
      obtain ⟨j, hj, rfl⟩ := Option.map_eq_some_iff.mp hx
      have jl := lt j (List.mem_of_getElem? hj)
      refine ⟨rfl, _, rfl, _, rfl, (j : Int), (n : Int), rfl, by omega, by omega, _, eD, ?_, ex.mut nD, ?_⟩
      · rw [List.length_map, List.length_replicate]
        have := (List.getElem?_eq_some_iff.mp hj).1
        exact room100 (by omega)
      · rw [upd_same, List.replicate_succ', List.map_append]
        rfl
    · obtain ⟨ex, eD⟩ := h
      refine ⟨D, _, rfl, .inl (.inl eD), ?_⟩
      rw [rep_all]
      exact q _ ex
def spAsc : Sp := fun vs H Q _ => ∃ (c : Addr) (is : List Nat), vs = [.ref c] ∧ Rd H c (.tup (nats is)) ∧ is.Pairwise (· < ·) ∧ is.length ≤ 100 ∧ ∀ H', Ex H H' → Q (.bl true) H'
theorem ok_asc {f : Addr} {fd : FuncData} (F : Fun K "is_ascending" "is_ascending" sAsc f fd) (T : Blt mg) : FnOk P w K mg base CX0 1 f fd ["values"] spAsc := by
  refine F.ok scAsc (fun vs H Q E h => ?_) (fun cdv A outer s H vs Q E hr h => ?_)
  · obtain ⟨c, is, rfl, _⟩ := h
    rfl
  · obtain ⟨c, is, rfl, hp, pw, few, q⟩ := h
    have nd := scAsc.nd
    refine ⟨_, pss_one (ps_ret (pe_callB (cr_all rfl) (by rfl) T.all (by decide +kernel) (pa_cons (pe_lc (own := [("at", 1)]) (g := gName 1) (tt := tYes) rfl nd (pi_range1 rfl T.range (pa_cons (pe_op op_sub (pe_callB call_len_seq (by rfl) T.len PySem.boot_len (pa_cons (pv 0) pa_nil)) pe_int) pa_nil)) (blkOk_by (N := ["values", "at"]) (sc := defScope sAsc) (by decide +kernel)) (fun _ _ _ _ _ => pg_name (i := 1) nd rfl (.inl rfl)) (fun _ _ _ _ _ => pts_nil)
          (fun _ _ _ _ _ => pe_cmpR op_lt (pe_ix (r := rIxT K) ix_tup (pv 0) (pv 1) (fun _ _ => rfl)) (pe_ix (r := rIxT K) ix_tup (pv 0) (pe_op op_add (pv 1) pe_int) (fun _ _ => rfl)) (nomark _))) pa_nil))), ?_⟩
    refine ⟨_, rfl, c, _, rfl, .inr (.inl hp), _, _, rfl, rfl, _, rfl, ?_, ?_, fun D nD => ?_⟩
    · omega
    · have : (nats is).length = is.length := List.length_map ..
      omega
    refine lc_range (n := ((nats is).length - 1 : Int).toNat) (fun i H' => Ex H H' ∧ H' D = some (.lst ((List.replicate i true).map V.bl))) ⟨Ex.new nD, upd_same⟩ (fun i H1 hi h => ?_) (fun H1 h => ?_)
    · obtain ⟨ex, eD⟩ := h
      have ln : (nats is).length = is.length := List.length_map ..
      have l1 : i + 1 < is.length := by omega
      have e0 : is[i]? = some is[i] := List.getElem?_eq_getElem (by omega)
      have e1 : is[i + 1]? = some is[i + 1] := List.getElem?_eq_getElem l1
      have lt : is[i] < is[i + 1] := List.pairwise_iff_getElem.mp pw i (i + 1) (by omega) l1 (Nat.lt_succ_self i)
      refine ⟨rfl, _, rfl, _, rfl, c, _, _, _, rfl, rfl, .inl (ex.rd hp), by rw [Int.zero_add]; exact nats_at e0, _, rfl, _, rfl, _, _, rfl, rfl, c, _, _, _, rfl, rfl, .inl (ex.rd hp), by rw [Int.zero_add]; exact nats_at e1, _, _, rfl, rfl, ?_⟩
      dsimp only
      rw [decide_eq_true (show ((is[i] : Nat) : Int) < ((is[i + 1] : Nat) : Int) by omega)]
      refine ⟨_, eD, ?_, ex.mut nD, ?_⟩
      · rw [List.length_map, List.length_replicate]
        exact room100 (by omega)
      · rw [upd_same, List.replicate_succ', List.map_append]
        rfl
    · obtain ⟨ex, eD⟩ := h
      refine ⟨D, _, rfl, .inl (.inl eD), ?_⟩
      rw [rep_all]
      exact q _ ex
/-- a list of tuples of indices -/
def SetsL (H : Hp) (L : Addr) (ss : List (List Nat)) : Prop := ∃ vs : List V, H L = some (.lst vs) ∧ vs.length = ss.length ∧ ∀ (i : Nat) (s : List Nat), ss[i]? = some s → ∃ p, vs[i]? = some (V.ref p) ∧ Rd H p (.tup (nats s))
theorem Ex.setsL {H H' : Hp} {L : Addr} {ss : List (List Nat)} (e : Ex H H') (h : SetsL H L ss) : SetsL H' L ss := by
  obtain ⟨vs, h1, h2, h3⟩ := h
  exact ⟨vs, e _ _ h1, h2, fun i s hs => let ⟨p, a, b⟩ := h3 i s hs; ⟨p, a, e.rd b⟩⟩
def spSets : Sp := fun vs H Q _ => ∃ n : Nat, vs = [.int (n : Nat)] ∧ n ≤ 6 ∧ ∀ L H', Ex H H' → SetsL H' L (setsN n) → Q (.ref L) H'
theorem len64 {n : Nat} (h : n ≤ 6) : (setsN n).length ≤ 64 := by
  rw [setsN_len]
  exact Nat.pow_le_pow_right (by decide) h
theorem nats_snoc (s : List Nat) (n : Nat) : nats (s ++ [n]) = nats s ++ [.int (n : Nat)] := by
  unfold nats
  rw [List.map_append]
  rfl
theorem ok_sets {f : Addr} {fd : FuncData} (F : Fun K "_law_sets" "_law_sets" sSets f fd) (T : Blt mg) : FnG P w K mg base CX0 1 f fd ["_law_total"] spSets := by
  refine okG F scSets (fun vs H Q E h => ?_) (fun cdv A outer s H vs Q E hr h => ?_)
  · obtain ⟨n, rfl, _⟩ := h
    rfl
  · obtain ⟨n, rfl, n6, q⟩ := h
    have nd := scSets.nd
    refine ⟨_, pss_cons (ps_set (i := 1) nd rfl (.inl rfl) (pe_lst (pa_cons (pe_tup pa_nil) pa_nil)))
      (pss_cons (ps_for PassesOwn.never rfl (pi_range1 rfl T.range (pa_cons (pv 0) pa_nil)) (pg_name (i := 2) nd rfl (.inr rfl))
        (pss_one (ps_set (i := 1) nd rfl (.inl rfl) (pe_op op_cat (pv 1) (pe_lc (own := [("_law_one", 3)]) (g := gName 3) (tt := tYes) rfl nd (pi_list (pv 1)) (blkOk_by (N := ["_law_total", "_law_found", "_law_at", "_law_one"]) (sc := defScope sSets) (by decide +kernel)) (fun _ _ _ _ _ => pg_name (i := 3) nd rfl (.inl rfl)) (fun _ _ _ _ _ => pts_nil)
          (fun _ _ _ _ _ => pe_op (r := rCatA K) op_catA (pv 3) (pe_tup (pa_cons (pv 2) pa_nil))))))))
      (pss_one (ps_ret (pv 1)))), ?_⟩
    refine ⟨by show 0 ≤ sizeLine; decide, fun t nt => ⟨by show 1 ≤ sizeLine; decide, fun L nL => ?_⟩⟩
    have xt := Ex.new (o := .tup []) nt
    have xL := Ex.new (o := .lst [.ref t]) nL
    refine ⟨_, rfl, (n : Int), rfl, by omega, by omega, ?_⟩
    refine for_range (n := n) (fun i σ H' => ∃ (L : Addr) (y2 : Option V), σ = [some (.int (n : Nat)), some (.ref L), y2, none] ∧ Ex H H' ∧ SetsL H' L (setsN i)) ⟨L, none, rfl, xt.trans xL, [.ref t], upd_same, rfl, fun i s hs => ?_⟩ (fun i σ H1 hi h => ?_) (fun σ H1 h => ?_)
    · match i, hs with
      | 0, hs =>
        obtain rfl := Option.some.inj hs
        exact ⟨t, rfl, .inl (xL t _ upd_same)⟩
    · obtain ⟨L, y2, rfl, ex, hL⟩ := h
      obtain ⟨vs, eL, lv, hv⟩ := hL
      have l64 := len64 (show i ≤ 6 by omega)
      refine ⟨_, rfl, _, rfl, L, rfl, ⟨_, .inl (.inl eL)⟩, fun D nD => lc_list (xs := vs) (fun j H' => ∃ us : List V, Ex H1 H' ∧ H' D = some (.lst us) ∧ us.length = j ∧ ∀ (k : Nat) (s : List Nat), k < j → (setsN i)[k]? = some s → ∃ p, us[k]? = some (V.ref p) ∧ Rd H' p (.tup (nats (s ++ [i]))))
        ⟨[], Ex.new nD, upd_same, rfl, fun k s z => absurd z (Nat.not_lt_zero _)⟩ (fun j H' _ h => ?_) (fun j x H2 hx h => ?_) (fun H2 h => ?_)⟩
      · obtain ⟨us, e, _⟩ := h
        exact .inl (.inl (e L _ eL))
      · obtain ⟨us, e, eD, lu, hu⟩ := h
        have jl := (List.getElem?_eq_some_iff.mp hx).1
        have es : (setsN i)[j]? = some (setsN i)[j] := List.getElem?_eq_getElem (by omega)
        generalize (setsN i)[j] = s at es
        obtain ⟨p, hp, rp⟩ := hv j s es
        obtain rfl : x = .ref p := Option.some.inj (hx.symm.trans hp)
        have fs := setsN_few (List.mem_of_getElem? es)
        refine ⟨rfl, _, rfl, _, rfl, by show 1 ≤ sizeLine; decide, fun u nu => ?_⟩
        have xu := Ex.new (o := .tup [.int (0 + (i : Int))]) nu
        refine catA_any (xs := nats s) (ys := [.int (0 + (i : Int))]) (xu.rd (e.rd rp)) (.inl upd_same) ?_ fun z H3 e3 rz => ?_
        · show (nats s).length + 1 ≤ sizeLine
          rw [show (nats s).length = s.length from List.length_map ..]
          exact Nat.le_of_lt (room100 (by omega))
        · have e13 := (e.trans xu).trans e3
          refine ⟨us, e3 D _ (xu D _ eD), room100 (by omega), us ++ [.ref z], e13.mut nD, upd_same, by rw [List.length_append, lu]; rfl, fun k s' hk hs' => ?_⟩
          have zD : ∀ {a : Addr} {xs : List V}, Rd H3 a (.tup xs) → Rd (upd H3 D (.lst (us ++ [.ref z]))) a (.tup xs) := fun h => rd_updL h (e3 D _ (xu D _ eD))
          rcases Nat.lt_or_eq_of_le (Nat.lt_succ_iff.mp hk) with hk | hk
          · obtain ⟨p', h1, h2⟩ := hu k s' hk hs'
            exact ⟨p', by rw [List.getElem?_append_left (by omega)]; exact h1, zD (e3.rd (xu.rd h2))⟩
          · subst hk
            obtain rfl : s' = s := Option.some.inj (hs'.symm.trans es)
            refine ⟨z, by rw [List.getElem?_append_right (by omega), lu, Nat.sub_self]; rfl, zD ?_⟩
            rw [nats_snoc]
            rw [Int.zero_add] at rz
            exact rz
      · obtain ⟨us, e, eD, lu, hu⟩ := h
        refine ⟨L, D, vs, us, rfl, rfl, e L _ eL, eD, ?_, fun M nM => ?_⟩
        · exact Nat.le_of_lt (room100 (by omega))
        · have xM := Ex.new (o := .lst (vs ++ us)) nM
          refine ⟨M, _, rfl, (ex.trans e).trans xM, vs ++ us, upd_same, ?_, fun k s hs => ?_⟩
          · show _ = ((setsN i) ++ (setsN i).map (· ++ [i])).length
            rw [List.length_append, List.length_append, List.length_map, lu, lv]
          · have hs : ((setsN i) ++ (setsN i).map (· ++ [i]))[k]? = some s := hs
            by_cases kl : k < (setsN i).length
            · rw [List.getElem?_append_left kl] at hs
              obtain ⟨p, h1, h2⟩ := hv k s hs
              exact ⟨p, by rw [List.getElem?_append_left (by omega)]; exact h1, xM.rd (e.rd h2)⟩
            · rw [List.getElem?_append_right (by omega), List.getElem?_map] at hs
              obtain ⟨s', hs', rfl⟩ := Option.map_eq_some_iff.mp hs
              have kl' := (List.getElem?_eq_some_iff.mp hs').1
              obtain ⟨p, h1, h2⟩ := hu (k - (setsN i).length) s' (by omega) hs'
              exact ⟨p, by rw [List.getElem?_append_right (by omega), lv]; exact h1, xM.rd h2⟩
    · obtain ⟨L, y2, rfl, ex, hL⟩ := h
      exact ⟨_, rfl, q L H1 ex hL⟩
/-- what is told of the loss of the rows that are not chosen -/
def lossL (ps : List (V × Am)) (is : List Nat) (k : Nat) : List (V × Am) := (outL k is).filterMap fun i => ps[i]?
theorem lossL_succ {ps : List (V × Am)} {is : List Nat} {k : Nat} {r : V × Am} (h : ps[k]? = some r) : lossL ps is (k + 1) = if k ∈ is then lossL ps is k else lossL ps is k ++ [r] := by
  unfold lossL outL
  rw [List.range_succ, List.filter_append]
  by_cases z : k ∈ is
  · rw [if_pos z, List.filter_cons_of_neg (by rw [decide_eq_true z]; decide), List.filter_nil, List.append_nil]
  · rw [if_neg z, List.filter_cons_of_pos (by rw [decide_eq_false z]; rfl), List.filter_nil, List.filterMap_append]
    congr 1
    rw [List.filterMap_cons, h]
    rfl
theorem lossL_mem {ps : List (V × Am)} {is : List Nat} {k : Nat} {r : V × Am} (h : r ∈ lossL ps is k) : r ∈ ps := by
  obtain ⟨i, _, hi⟩ := List.mem_filterMap.mp h
  exact List.mem_of_getElem? hi
theorem lossL_len {ps : List (V × Am)} {is : List Nat} {k : Nat} : (lossL ps is k).length ≤ k := by
  refine Nat.le_trans (List.length_filterMap_le ..) ?_
  refine Nat.le_trans (List.length_filter_le ..) ?_
  exact Nat.le_of_eq List.length_range
def spLoss (C : Addr) : Sp := fun vs H Q _ => ∃ (g p c : Addr) (m : Ms) (ps : List (V × Am)) (is : List Nat), vs = [.ref g, .ref p, .ref c] ∧ SclAt H g C m ∧ m.ok ∧ WtsT H p m ps ∧ ps.length ≤ 6 ∧ Rd H c (.tup (nats is)) ∧
  ∀ v H', Ex H H' → AmV H' v (sumA m ((lossL ps is ps.length).map (·.2))) → Q v H'
theorem ok_loss {f : Addr} {fd : FuncData} (F : Fun K "_law_loss" "_law_loss" sLoss f fd) (T : Blt mg) (te : mg "enumerate" = none) (Z : ClsK K C) (Pl : Dm P w K mg base C 6 "plus_all" ["self", "amounts"] (spPlusAll C)) : FnG P w K mg base CX0 7 f fd ["_law_meter", "_law_loads", "_law_chosen"] (spLoss C) := by
  refine okG F scLoss (fun vs H Q E h => ?_) (fun cdv A outer s H vs Q E hr h => ?_)
  · obtain ⟨g, p, c, m, ps, is, rfl, _⟩ := h
    rfl
  · obtain ⟨g, p, c, m, ps, is, rfl, sa, mok, hp, l6, hc, q⟩ := h
    have nd := scLoss.nd
    have r6 := hr
    refine ⟨_, pss_one (ps_ret (pe_meth (pv 0) Z.cls Pl.at_ Pl.G r6.rm Pl.b .nil pass0 (pa_cons (pe_callTy call_tupleF (by rfl) T.tuple (by decide +kernel) (pa_cons (pe_lc (own := [("_law_at", 3), ("_law_load", 4)]) (g := gTup K 2 (gCons (gName 3) (gCons (gName 4) gNil))) rfl nd (pi_enumT (by rfl) te (pa_cons (pv 1) pa_nil)) (blkOk_by (N := ["_law_meter", "_law_loads", "_law_chosen", "_law_at", "_law_load"]) (sc := defScope sLoss) (by decide +kernel)) (fun _ _ _ _ _ => pg_tup rfl (pgs_cons (pg_name (i := 3) nd rfl (.inl rfl)) (pgs_cons (pg_name (i := 4) nd rfl (.inl rfl)) pgs_nil))) (fun _ _ _ _ _ => pts_one (pt_cmpR (r := rIn K true) op_notIn_seq (pv 3) (pv 2) rfl))
          (fun _ _ _ _ _ => pv 4)) pa_nil)) pa_nil))), ?_⟩
    obtain ⟨dg, fs, hg, hn⟩ := sa.no (x := "plus_all") (by decide +kernel) (by decide +kernel)
    refine ⟨_, rfl, g, dg, fs, rfl, hg, hn, _, rfl, p, _, rfl, .inl hp.1, fun D nD => ?_⟩
    refine lc_enumT (xs := ps.map (·.1)) (fun i H' => Ex H H' ∧ H' D = some (.lst ((lossL ps is i).map (·.1)))) ⟨Ex.new nD, upd_same⟩ (fun i H' _ h => .inl (h.1.rd hp.1)) (fun i x H' t hx h nt => ?_) (fun H' h => ?_)
    · obtain ⟨ex, eD⟩ := h
      rw [List.getElem?_map] at hx
      obtain ⟨r, hr', rfl⟩ := Option.map_eq_some_iff.mp hx
      have il := (List.getElem?_eq_some_iff.mp hr').1
      have xt := Ex.new (o := .tup [.int (i : Nat), r.1]) nt
      have e2 := ex.trans xt
      refine ⟨t, _, rfl, .inl (.inl upd_same), rfl, _, _, rfl, _, _, rfl, rfl, rfl, ?_⟩
      refine ⟨_, rfl, _, rfl, c, _, rfl, .inr (.inl (e2.rd hc)), rfl, flat_nats is, ?_⟩
      rw [inV_nats]
      refine ⟨_, rfl, ?_⟩
      by_cases z : i ∈ is
      · rw [decide_eq_true z]
        refine iteF ⟨e2, ?_⟩
        rw [lossL_succ hr', if_pos z]
        exact xt D _ eD
      · rw [decide_eq_false z]
        refine iteT ⟨_, rfl, _, xt D _ eD, ?_, e2.mut nD, ?_⟩
        · rw [List.length_map]
          have := lossL_len (ps := ps) (is := is) (k := i)
          exact room100 (by omega)
        · rw [upd_same, lossL_succ hr', if_neg z, List.map_append]
          rfl
    · obtain ⟨ex, eD⟩ := h
      rw [List.length_map] at eD
      refine ⟨D, _, rfl, .inl (.inl eD), fun t o nt _ => ?_⟩
      have xt := Ex.new (o := .frz o (.tup ((lossL ps is ps.length).map (·.1)))) nt
      have e2 := ex.trans xt
      have ll := lossL_len (ps := ps) (is := is) (k := ps.length)
      exact ⟨g, t, m, 190, lossL ps is ps.length, rfl, e2.scl sa, mok, ⟨.inr ⟨o, upd_same⟩, fun r hr => let ⟨a, b, _, d⟩ := hp.2 r (lossL_mem hr); ⟨a, b.lim, d.ex e2⟩⟩, by decide, by decide, by omega, by omega, fun v H2 e3 av => q v H2 (e2.trans e3) av⟩
end
end Gl

set_option exponentiation.threshold 10000
namespace Gl
open PySem PySem.Spec PyProof.Rows L2 ClX
abbrev sChance : Stmt := topS 18
theorem scChance : FnScope ["weights", "indices", "scale", "over", "under", "weight", "at"] ["weights", "indices"] (defScope sChance) := ⟨rfl, rfl, rfl, by decide +kernel, rfl, by decide +kernel, by decide +kernel⟩
def topA : Am → Nat
  | .o x => x.1.1
  | _ => 1
def botA : Am → Nat
  | .o x => x.1.2
  | _ => 1
theorem topA_pos : ∀ x, 0 < topA x
  | .o x => x.2.p0
  | .n _ => Nat.one_pos
  | .c _ => Nat.one_pos
theorem botA_pos : ∀ x, 0 < botA x
  | .o x => x.2.q0
  | .n _ => Nat.one_pos
  | .c _ => Nat.one_pos
def topF (ps : List (V × Am)) (i : Nat) : Nat := topA (keyOf ps i)
def botF (ps : List (V × Am)) (i : Nat) : Nat := botA (keyOf ps i)
theorem topF_pos (ps : List (V × Am)) (i : Nat) : 0 < topF ps i := topA_pos _
theorem botF_pos (ps : List (V × Am)) (i : Nat) : 0 < botF ps i := botA_pos _
def overP (ps : List (V × Am)) (is : List Nat) : Nat := overF (topF ps) (botF ps) ps.length is
def underP (ps : List (V × Am)) : Nat := underF (topF ps) (botF ps) ps.length
theorem overP_pos (ps : List (V × Am)) (is : List Nat) : 0 < overP ps is := over_pos (topF_pos ps) (botF_pos ps)
theorem underP_pos (ps : List (V × Am)) : 0 < underP ps := under_pos (topF_pos ps)
def chanceO (ps : List (V × Am)) (is : List Nat) : Odds := red (overP ps is) (underP ps) (overP_pos ps is) (underP_pos ps)
/-- a weight by odds, in the heap -/
theorem wt_at {H : Hp} {r : V × Am} (h1 : Ms.odds.has r.2) (h3 : Wt .odds r.2) (h4 : AmV H r.1 r.2) : ∃ q, r.1 = .ref q ∧ Rd H q (.tup [.int (topA r.2 : Nat), .int (botA r.2 : Nat)]) ∧ topA r.2 ≤ 1000000 ∧ botA r.2 < topA r.2 := by
  obtain ⟨v, x⟩ := r
  cases x with
  | n i => exact h1.elim
  | c ns => exact h1.elim
  | o x =>
    obtain ⟨q, e, h⟩ := h4
    exact ⟨q, e, h, h3.2, h3.1⟩
theorem prod_le {B : Nat} (B1 : 1 ≤ B) : ∀ {ns : List Nat}, (∀ n ∈ ns, n ≤ B) → prod ns ≤ B ^ ns.length
  | [], _ => Nat.le_refl _
  | n :: ns, h => by
    rw [prod_cons, List.length_cons, Nat.pow_succ, Nat.mul_comm]
    exact Nat.mul_le_mul (prod_le B1 fun x hx => h x (List.mem_cons_of_mem _ hx)) (h n (List.mem_cons_self ..))
section
variable {P : Program} {w : World} {K : PySem.W.Frag} {mg : Str → Option Value} {base : Heap} {C : Addr} {mc : Value}
theorem wtsT_key {H : Hp} {p : Addr} {ps : List (V × Am)} (h : WtsT H p .odds ps) (i : Nat) (l : i < ps.length) : topF ps i ≤ 1000000 ∧ botF ps i < topF ps i := by
  have e := List.getElem?_eq_getElem l
  obtain ⟨h1, h2, h3, h4⟩ := h.2 _ (List.mem_of_getElem? e)
  obtain ⟨q, _, _, a, b⟩ := wt_at h1 h3 h4
  unfold topF botF
  rw [keyOf_eq e]
  exact ⟨a, b⟩
theorem over_small {H : Hp} {p : Addr} {ps : List (V × Am)} (h : WtsT H p .odds ps) (is : List Nat) : ∀ n ∈ (List.range ps.length).map (fun i => if i ∈ is then topF ps i else botF ps i), n < 2 ^ 21 := fun n hn => by
  obtain ⟨i, hi, rfl⟩ := List.mem_map.mp hn
  have := wtsT_key h i (List.mem_range.mp hi)
  split <;> omega
theorem under_small {H : Hp} {p : Addr} {ps : List (V × Am)} (h : WtsT H p .odds ps) : ∀ n ∈ (List.range ps.length).map (fun i => topF ps i + botF ps i), n < 2 ^ 21 := fun n hn => by
  obtain ⟨i, hi, rfl⟩ := List.mem_map.mp hn
  have := wtsT_key h i (List.mem_range.mp hi)
  omega
theorem underP_lt {H : Hp} {p : Addr} {ps : List (V × Am)} (h : WtsT H p .odds ps) (l : ps.length ≤ 6) : underP ps < 2 ^ 128 := by
  have := prod_lt (under_small h)
  rw [List.length_map, List.length_range] at this
  exact Nat.lt_of_lt_of_le this (Nat.pow_le_pow_right (by decide) (by omega))
theorem overP_lt {H : Hp} {p : Addr} {ps : List (V × Am)} (h : WtsT H p .odds ps) (l : ps.length ≤ 6) (is : List Nat) : overP ps is < 2 ^ 128 := by
  have := prod_lt (over_small h is)
  rw [List.length_map, List.length_range] at this
  exact Nat.lt_of_lt_of_le this (Nat.pow_le_pow_right (by decide) (by omega))
theorem natV_snoc (f : Nat → Nat) (i : Nat) : natV ((List.range (i + 1)).map f) = natV ((List.range i).map f) ++ [.int (f i : Nat)] := by
  unfold natV
  rw [List.range_succ, List.map_append, List.map_append]
  rfl
theorem natV_len (f : Nat → Nat) (i : Nat) : (natV ((List.range i).map f)).length = i := by
  unfold natV
  rw [List.length_map, List.length_map, List.length_range]
def spChance : Sp := fun vs H Q _ => ∃ (p c : Addr) (ps : List (V × Am)) (is : List Nat), vs = [.ref p, .ref c] ∧ WtsT H p .odds ps ∧ ps.length ≤ 6 ∧ Rd H c (.tup (nats is)) ∧ (∀ i ∈ is, i < ps.length) ∧ is.Pairwise (· < ·) ∧ is.length ≤ 100 ∧
  ∀ z H', Ex H H' → Rd H' z (.tup (oddV (chanceO ps is))) → Q (.ref z) H'
theorem ok_chance {f : Addr} {fd : FuncData} (F : Fun K "chance_of_rows" "chance_of_rows" sChance f fd) (T : Blt mg) (Z : ClsK K C) (gC : mg "Scale" = some (.ref C)) (rd : CRead K C mc) (rl : ∃ t, mg "ROW_LIMIT" = some (.int 200 t))
    (Os : Sm P w K mg base C mc 3 "odds" [] (spNew C .odds)) (Iw : Dm P w K mg base C 4 "is_weight" ["self", "value"] (spIsWgt K C)) (Is : Df P w K mg base 3 "are_indices" ["value", "many"] spIdxs) (As : Df P w K mg base 1 "is_ascending" ["values"] spAsc)
    (Ti : Df P w K mg base 1 "_times" ["numbers"] (spTimes K)) (Lp : Df P w K mg base 1 "_lowest" ["over", "under"] spLowP) : FnOk P w K mg base CX0 5 f fd ["weights", "indices"] spChance := by
  refine F.ok scChance (fun vs H Q E h => ?_) (fun cdv A outer s H vs Q E hr h => ?_)
  · obtain ⟨p, c, ps, is, rfl, _⟩ := h
    rfl
  · obtain ⟨p, c, ps, is, rfl, hp, l6, hc, lt, pw, few, q⟩ := h
    obtain ⟨tr, rl⟩ := rl
    have nd := scChance.nd
    have r1 := hr.mono (show 1 ≤ 4 by decide)
    have r3 := hr.mono (show 3 ≤ 4 by decide)
    refine ⟨_, pss_cons (ps_set (i := 2) nd rfl (.inr rfl) (pe_smeth0 (pe_glob (v := .ref C) (by rfl) gC rfl) rd Os.at_ Os.G r3 Os.b .nil pass0))
      (pss_cons (ps_if (PW.pt (pw_or (pt_not (pt_val (pe_callB call_isi (by rfl) T.isinstance (by decide +kernel) (pa_cons (pv 0) (pa_cons (pe_bltn (v := .ty "tuple") (by rfl) T.tuple (by decide +kernel) rfl) pa_nil))))) (pw_or1 (pt_cmpR op_gt (pe_callB call_len_seq (by rfl) T.len PySem.boot_len (pa_cons (pv 0) pa_nil)) (pe_glob (v := .int 200) (by rfl) rl ⟨tr, rfl⟩) (nomark _))))) pss_never pss_nil)
      (pss_cons (ps_if (pt_not (pt_val (pe_callB (cr_all rfl) (by rfl) T.all (by decide +kernel) (pa_cons (pe_lc (own := [("weight", 5)]) (g := gName 5) (tt := tYes) rfl nd (pi_tup (pv 0)) (blkOk_by (N := ["weights", "indices", "scale", "over", "under", "weight", "at"]) (sc := defScope sChance) (by decide +kernel)) (fun _ _ _ _ _ => pg_name (i := 5) nd rfl (.inl rfl)) (fun _ _ _ _ _ => pts_nil)
          (fun _ _ _ _ _ => pe_meth (pv 2) Z.cls Iw.at_ Iw.G hr Iw.b .nil pass0 (pa_cons (pv 5) pa_nil))) pa_nil)))) pss_never pss_nil)
      (pss_cons (ps_if (PW.pt (pw_or (pt_not (pt_val (pe_call Is.G r3 (by rfl) Is.g Is.kp Is.b .nil pass0 (pa_cons (pv 1) (pa_cons (pe_callB call_len_seq (by rfl) T.len PySem.boot_len (pa_cons (pv 0) pa_nil)) pa_nil))))) (pw_or1 (pt_not (pt_val (pe_call As.G r1 (by rfl) As.g As.kp As.b .nil pass0 (pa_cons (pv 1) pa_nil))))))) pss_never pss_nil)
      (pss_cons (ps_set (i := 3) nd rfl (.inl rfl) (pe_call Ti.G r1 (by rfl) Ti.g Ti.kp Ti.b .nil pass0 (pa_cons (pe_lc (own := [("at", 6)]) (g := gName 6) (tt := tYes) rfl nd (pi_range1 rfl T.range (pa_cons (pe_callB call_len_seq (by rfl) T.len PySem.boot_len (pa_cons (pv 0) pa_nil)) pa_nil)) (blkOk_by (N := ["weights", "indices", "scale", "over", "under", "weight", "at"]) (sc := defScope sChance) (by decide +kernel)) (fun _ _ _ _ _ => pg_name (i := 6) nd rfl (.inl rfl)) (fun _ _ _ _ _ => pts_nil)
          (fun _ _ _ _ _ => pe_ifExp (pt_cmpR (r := rIn K false) op_in_seq (pv 6) (pv 1) rfl) (pe_ix (r := rIxT K) ix_tup (pe_ix (r := rIxT K) ix_tup (pv 0) (pv 6) (fun _ _ => rfl)) pe_int (fun _ _ => rfl)) (pe_ix (r := rIxT K) ix_tup (pe_ix (r := rIxT K) ix_tup (pv 0) (pv 6) (fun _ _ => rfl)) pe_int (fun _ _ => rfl)))) pa_nil)))
      (pss_cons (ps_set (i := 4) nd rfl (.inl rfl) (pe_call Ti.G r1 (by rfl) Ti.g Ti.kp Ti.b .nil pass0 (pa_cons (pe_lc (own := [("weight", 5)]) (g := gName 5) (tt := tYes) rfl nd (pi_tup (pv 0)) (blkOk_by (N := ["weights", "indices", "scale", "over", "under", "weight", "at"]) (sc := defScope sChance) (by decide +kernel)) (fun _ _ _ _ _ => pg_name (i := 5) nd rfl (.inl rfl)) (fun _ _ _ _ _ => pts_nil)
          (fun _ _ _ _ _ => pe_op op_add (pe_ix (r := rIxT K) ix_tup (pv 5) pe_int (fun _ _ => rfl)) (pe_ix (r := rIxT K) ix_tup (pv 5) pe_int (fun _ _ => rfl)))) pa_nil)))
      (pss_one (ps_ret (pe_call Lp.G r1 (by rfl) Lp.g Lp.kp Lp.b .nil pass0 (pa_cons (pv 3) (pa_cons (pv 4) pa_nil)))))))))), ?_⟩
    have lm : (ps.map (·.1)).length = ps.length := List.length_map ..
    refine ⟨rfl, rfl, fun g J0 e0 ng sa0 => ?_⟩
    refine ⟨_, rfl, _, _, _, _, true, rfl, .ty _, tyRd (e0.rd hp.1), kit_ty (by decide +kernel), true, rfl, ?_⟩
    refine ⟨_, rfl, p, _, rfl, .inr (.inl (e0.rd hp.1)), _, _, rfl, rfl, _, rfl, ?_⟩
    rw [decide_eq_false (show ¬ (200 : Int) < (((ps.map (·.1)).length : Nat) : Int) by omega)]
    -- all are weights
    refine ⟨_, rfl, p, rfl, ⟨_, .inl (e0.rd hp.1)⟩, fun D nD => lc_tup (xs := ps.map (·.1)) (fun i H' => Ex J0 H' ∧ H' D = some (.lst ((List.replicate i true).map V.bl))) ⟨Ex.new nD, upd_same⟩ (fun i H' _ h => .inl (h.1.rd (e0.rd hp.1))) (fun i x H' hx h => ?_) (fun H1 h => ?_)⟩
    · obtain ⟨ex, eD⟩ := h
      rw [List.getElem?_map] at hx
      obtain ⟨r, hr', rfl⟩ := Option.map_eq_some_iff.mp hx
      have il := (List.getElem?_eq_some_iff.mp hr').1
      obtain ⟨h1, h2, h3, h4⟩ := hp.2 r (List.mem_of_getElem? hr')
      obtain ⟨dg, fs, hg, hn⟩ := (ex.scl sa0).no (x := "is_weight") (by decide +kernel) (by decide +kernel)
      refine ⟨rfl, _, rfl, g, dg, fs, rfl, hg, hn, _, rfl, g, .odds, _, _, rfl, ex.scl sa0, trivial, .dx (dx_am (h4.ex (e0.trans ex))), am_short (m := .odds) trivial h1, fun H2 e2 => ?_⟩
      have wv : wgtB .odds r.2.data = true := by
        obtain ⟨v, x⟩ := r
        cases x with
        | n i => exact h1.elim
        | c ns => exact h1.elim
        | o x => exact wt_odds h3
      rw [wv]
      refine ⟨_, e2 D _ eD, ?_, (ex.trans e2).mut nD, ?_⟩
      · rw [List.length_map, List.length_replicate]
        exact room100 (by omega)
      · rw [upd_same, List.replicate_succ', List.map_append]
        rfl
    obtain ⟨e1, eD⟩ := h
    refine ⟨D, _, rfl, .inl (.inl eD), ?_⟩
    rw [rep_all]
    refine ⟨_, rfl, ?_⟩
    have f1 := e0.trans e1
    -- indices in order
    refine ⟨_, rfl, _, rfl, p, _, rfl, .inr (.inl (f1.rd hp.1)), c, is, (ps.map (·.1)).length, rfl, f1.rd hc, fun i hi => by rw [lm]; exact lt i hi, few, fun H2 e2 => ⟨_, rfl, ?_⟩⟩
    have f2 := f1.trans e2
    refine ⟨_, rfl, c, is, rfl, f2.rd hc, pw, few, fun H3 e3 => ⟨_, rfl, ?_⟩⟩
    have f3 := f2.trans e3
    -- over
    refine ⟨_, rfl, p, _, rfl, .inr (.inl (f3.rd hp.1)), (ps.length : Nat), by rw [lm], by omega, by omega, fun D2 nD2 => ?_⟩
    refine lc_range (n := ps.length) (fun i H' => Ex H3 H' ∧ H' D2 = some (.lst (natV ((List.range i).map fun j => if j ∈ is then topF ps j else botF ps j)))) ⟨Ex.new nD2, upd_same⟩ (fun i H4 hi h => ?_) (fun H4 h => ?_)
    · obtain ⟨ex, eD⟩ := h
      have er := List.getElem?_eq_getElem hi
      obtain ⟨h1, h2, h3, h4⟩ := hp.2 _ (List.mem_of_getElem? er)
      have f4 := f3.trans ex
      obtain ⟨t, et, rt, _, _⟩ := wt_at h1 h3 (h4.ex f4)
      have iv := inV_nats i is
      have at1 : atI (ps.map (·.1)) (i : Int) = some (.ref t) := by
        exact atI_nat (by rw [List.getElem?_map, er, ← et]; rfl)
      have fin : ∀ k : Nat, (if i ∈ is then topF ps i else botF ps i) = k → ∃ acc, H4 D2 = some (.lst acc) ∧ acc.length < sizeLine ∧ Ex H3 (upd H4 D2 (.lst (acc ++ [.int (k : Nat)]))) ∧ upd H4 D2 (.lst (acc ++ [.int (k : Nat)])) D2 = some (.lst (natV ((List.range (i + 1)).map fun j => if j ∈ is then topF ps j else botF ps j))) := fun k ek =>
        ⟨_, eD, by rw [natV_len]; exact room100 (by omega), ex.mut nD2, by rw [upd_same, natV_snoc, ek]⟩
      refine ⟨rfl, _, rfl, _, rfl, c, _, rfl, .inr (.inl (f4.rd hc)), rfl, flat_nats is, ?_⟩
      rw [Int.zero_add, iv]
      refine ⟨_, rfl, ?_⟩
      by_cases z : i ∈ is
      · rw [decide_eq_true z]
        refine iteT ⟨_, rfl, _, rfl, p, _, _, _, rfl, rfl, .inl (f4.rd hp.1), at1, t, _, 0, _, rfl, rfl, .inl rt, rfl, ?_⟩
        exact fin (topA ps[i].2) (by rw [if_pos z]; unfold topF; rw [keyOf_eq er])
      · rw [decide_eq_false z]
        refine iteF ⟨_, rfl, _, rfl, p, _, _, _, rfl, rfl, .inl (f4.rd hp.1), at1, t, _, 1, _, rfl, rfl, .inl rt, rfl, ?_⟩
        exact fin (botA ps[i].2) (by rw [if_neg z]; unfold botF; rw [keyOf_eq er])
    obtain ⟨e4, eD2⟩ := h
    have f4 := f3.trans e4
    refine ⟨D2, _, 21, rfl, .inl (.inl eD2), over_small hp is, by decide, by rw [List.length_map, List.length_range]; omega, ?_⟩
    -- under
    refine ⟨_, rfl, p, rfl, ⟨_, .inl (f4.rd hp.1)⟩, fun D3 nD3 => lc_tup (xs := ps.map (·.1)) (fun i H' => Ex H4 H' ∧ H' D3 = some (.lst (natV ((List.range i).map fun j => topF ps j + botF ps j)))) ⟨Ex.new nD3, upd_same⟩ (fun i H' _ h => .inl (h.1.rd (f4.rd hp.1))) (fun i x H5 hx h => ?_) (fun H5 h => ?_)⟩
    · obtain ⟨ex, eD⟩ := h
      rw [List.getElem?_map] at hx
      obtain ⟨r, er, rfl⟩ := Option.map_eq_some_iff.mp hx
      have il := (List.getElem?_eq_some_iff.mp er).1
      obtain ⟨h1, h2, h3, h4⟩ := hp.2 _ (List.mem_of_getElem? er)
      have f5 := f4.trans ex
      obtain ⟨t, et, rt, _, _⟩ := wt_at h1 h3 (h4.ex f5)
      rw [et]
      refine ⟨rfl, _, rfl, t, _, 0, _, rfl, rfl, .inl rt, rfl, _, rfl, t, _, 1, _, rfl, rfl, .inl rt, rfl, _, _, rfl, rfl, ?_⟩
      refine ⟨_, eD, by rw [natV_len]; exact room100 (by omega), ex.mut nD3, ?_⟩
      rw [upd_same, natV_snoc]
      unfold topF botF
      rw [keyOf_eq er, Int.natCast_add]
    obtain ⟨e5, eD3⟩ := h
    rw [lm] at eD3
    have f5 := f4.trans e5
    refine ⟨D3, _, 21, rfl, .inl (.inl eD3), under_small hp, by decide, by rw [List.length_map, List.length_range]; omega, ?_⟩
    refine ⟨_, rfl, _, rfl, overP ps is, underP ps, overP_pos ps is, underP_pos ps, rfl, Nat.lt_of_lt_of_le (overP_lt hp l6 is) (Nat.pow_le_pow_right (by decide) (by decide)), fun z H6 e6 nz rz => ?_⟩
    exact q z H6 (f5.trans e6) rz
end
end Gl

set_option exponentiation.threshold 10000
namespace Gl
open PySem PySem.Spec PyProof.Rows L2 ClX
abbrev sChs : Stmt := topS 37
theorem scChs : FnScope ["_law_loads", "_law_meter", "_law_total", "_law_rows", "_law_chosen", "_law_top", "_law_bottom", "_law_one", "_law_other"] ["_law_loads"] (defScope sChs) := ⟨rfl, rfl, rfl, by decide +kernel, rfl, by decide +kernel, by decide +kernel⟩
def oddOf : Am → Odds
  | .o x => x
  | _ => one1
theorem odd_has {x : Am} (h : Ms.odds.has x) : x = .o (oddOf x) ∧ topA x = (oddOf x).1.1 ∧ botA x = (oddOf x).1.2 := by
  cases x with
  | n i => exact h.elim
  | c ns => exact h.elim
  | o x => exact ⟨rfl, rfl, rfl⟩
theorem sum_o1 (os : List Odds) : ∃ l : Odds, sumA .odds (os.map Am.o) = .o l ∧ l.1.1 * prod (bots os) = prod (tops os) * l.1.2 := by
  have ha : 0 < one1.1.1 * prod (tops os) := by have := tops_pos os; show 0 < 1 * _; omega
  have hb : 0 < one1.1.2 * prod (bots os) := by have := bots_pos os; show 0 < 1 * _; omega
  refine ⟨red _ _ ha hb, sum_o os one1 ha hb, ?_⟩
  have v := red_val ha hb
  generalize red _ _ ha hb = x at v ⊢
  have v : x.1.1 * (1 * prod (bots os)) = 1 * prod (tops os) * x.1.2 := v
  rw [Nat.one_mul, Nat.one_mul] at v
  exact v
theorem pick_keys {ps : List (V × Am)} : ∀ l : List Nat, (∀ i ∈ l, i < ps.length) → (l.filterMap fun i => ps[i]?).map (·.2) = l.map (keyOf ps)
  | [], _ => rfl
  | i :: l, h => by
    have il := h i (List.mem_cons_self ..)
    have e := List.getElem?_eq_getElem il
    rw [List.filterMap_cons, e, List.map_cons]
    show ps[i].2 :: (l.filterMap fun i => ps[i]?).map (·.2) = _
    rw [pick_keys l fun j hj => h j (List.mem_cons_of_mem _ hj), List.map_cons, keyOf_eq e]
theorem loss_o {ps : List (V × Am)} (h : ∀ q ∈ ps, Ms.odds.has q.2) (s : List Nat) : ∃ l : Odds, sumA .odds ((lossL ps s ps.length).map (·.2)) = .o l ∧ l.1.1 * prod ((outL ps.length s).map (botF ps)) = prod ((outL ps.length s).map (topF ps)) * l.1.2 := by
  have hl : ∀ i ∈ outL ps.length s, i < ps.length := fun i hi => List.mem_range.mp (List.mem_filter.mp hi).1
  have hk : ∀ i ∈ outL ps.length s, Ms.odds.has (keyOf ps i) := fun i hi => by
    have e := List.getElem?_eq_getElem (hl i hi)
    rw [keyOf_eq e]
    exact h _ (List.mem_of_getElem? e)
  have e1 : (lossL ps s ps.length).map (·.2) = ((outL ps.length s).map fun i => oddOf (keyOf ps i)).map Am.o := by
    unfold lossL
    rw [pick_keys _ hl, List.map_map]
    exact List.map_congr_left fun i hi => (odd_has (hk i hi)).1
  have t1 : tops ((outL ps.length s).map fun i => oddOf (keyOf ps i)) = (outL ps.length s).map (topF ps) := by
    unfold tops
    rw [List.map_map]
    exact List.map_congr_left fun i hi => (odd_has (hk i hi)).2.1.symm
  have t2 : bots ((outL ps.length s).map fun i => oddOf (keyOf ps i)) = (outL ps.length s).map (botF ps) := by
    unfold bots
    rw [List.map_map]
    exact List.map_congr_left fun i hi => (odd_has (hk i hi)).2.2.symm
  obtain ⟨l, h1, h2⟩ := sum_o1 ((outL ps.length s).map fun i => oddOf (keyOf ps i))
  rw [t1, t2] at h2
  exact ⟨l, by rw [e1]; exact h1, h2⟩
/-- a row: the chance of a set, and its loss -/
def RowAt (H : Hp) (v : V) (ps : List (V × Am)) (s : List Nat) : Prop := ∃ (t c : Addr) (l : V), v = .ref t ∧ Rd H t (.tup [.ref c, l]) ∧ Rd H c (.tup (oddV (chanceO ps s))) ∧ AmV H l (sumA .odds ((lossL ps s ps.length).map (·.2)))
theorem Ex.row {H H' : Hp} {v : V} {ps : List (V × Am)} {s : List Nat} (e : Ex H H') : RowAt H v ps s → RowAt H' v ps s := fun ⟨t, c, l, h1, h2, h3, h4⟩ => ⟨t, c, l, h1, e.rd h2, e.rd h3, h4.ex e⟩
theorem RowAt.updL {H : Hp} {L : Addr} {ys zs : List V} (e : H L = some (.lst ys)) {v : V} {ps : List (V × Am)} {s : List Nat} : RowAt H v ps s → RowAt (upd H L (.lst zs)) v ps s := fun ⟨t, c, l, h1, h2, h3, h4⟩ => ⟨t, c, l, h1, rd_updL h2 e, rd_updL h3 e, h4.updL e⟩
def sumTo (ps : List (V × Am)) (ss : List (List Nat)) (i : Nat) : Nat := ((ss.take i).map (overP ps)).sum
theorem sumTo_succ {ps : List (V × Am)} {ss : List (List Nat)} {i : Nat} {s : List Nat} (h : ss[i]? = some s) : sumTo ps ss (i + 1) = sumTo ps ss i + overP ps s := by
  unfold sumTo
  rw [List.take_add_one, h, List.map_append, List.sum_append]
  simp
theorem sumTo_le (ps : List (V × Am)) : ∀ (ss : List (List Nat)) (i : Nat), sumTo ps ss i ≤ (ss.map (overP ps)).sum
  | [], i => by unfold sumTo; simp
  | s :: ss, 0 => by unfold sumTo; simp
  | s :: ss, i + 1 => by
    have := sumTo_le ps ss i
    unfold sumTo at *
    rw [List.take_succ_cons, List.map_cons, List.map_cons, List.sum_cons, List.sum_cons]
    omega
theorem sum_sets (ps : List (V × Am)) : ((setsN ps.length).map (overP ps)).sum = underP ps := sum_over ps.length
theorem low_le {a b S U : Nat} (h : Low a b) (hS : 0 < S) (hU : 0 < U) (e : a * U = S * b) : a ≤ S ∧ b ≤ U := by
  have := red_of hS hU (x := ⟨(a, b), h⟩) e
  have h1 : a = (red S U hS hU).1.1 := congrArg (fun x : Odds => x.1.1) this
  have h2 : b = (red S U hS hU).1.2 := congrArg (fun x : Odds => x.1.2) this
  rw [h1, h2]
  exact ⟨Nat.div_le_self .., Nat.div_le_self ..⟩
theorem mulS {a b : Nat} (h1 : a < 2 ^ 130) (h2 : b < 2 ^ 130) : CMulW ((a : Nat) : Int) ((b : Nat) : Int) := cmulW (Nat.lt_of_lt_of_le h1 (Nat.pow_le_pow_right (by decide) (by decide))) (Nat.lt_of_lt_of_le h2 (Nat.pow_le_pow_right (by decide) (by decide)))
theorem mul_lt260 {a b : Nat} (h1 : a < 2 ^ 130) (h2 : b < 2 ^ 130) : a * b < 2 ^ 260 := by
  rw [show (2 : Nat) ^ 260 = 2 ^ 130 * 2 ^ 130 by rw [← Nat.pow_add]]
  exact Nat.mul_lt_mul'' h1 h2
theorem lt2000 {a n : Nat} (h : a < 2 ^ n) (l : n ≤ 2000 := by decide) : a < 2 ^ 2000 := Nat.lt_of_lt_of_le h (Nat.pow_le_pow_right (by decide) l)
section
variable {P : Program} {w : World} {K : PySem.W.Frag} {mg : Str → Option Value} {base : Heap} {C : Addr} {mc : Value}
def spChs : Sp := fun vs H Q _ => ∃ (p : Addr) (ps : List (V × Am)), vs = [.ref p] ∧ WtsT H p .odds ps ∧ ps.length ≤ 6 ∧ ∀ H', Ex H H' → Q (.bl true) H'
theorem ok_chs {f : Addr} {fd : FuncData} (F : Fun K "_law_chances_right" "_law_chances_right" sChs f fd) (T : Blt mg) (Z : ClsK K C) (gC : mg "Scale" = some (.ref C)) (rd : CRead K C mc)
    (Os : Sm P w K mg base C mc 3 "odds" [] (spNew C .odds)) (St : DfG P w K mg base 1 "_law_sets" ["_law_total"] spSets) (Cr : Df P w K mg base 5 "chance_of_rows" ["weights", "indices"] spChance) (Lo : DfG P w K mg base 1 "_law_lowest" ["_law_top", "_law_bottom"] spLowW)
    (Lx : DfG P w K mg base 7 "_law_loss" ["_law_meter", "_law_loads", "_law_chosen"] (spLoss C)) (Ls : Dm P w K mg base C 6 "is_less" ["self", "amount", "other"] (spIsLess C)) : FnG P w K mg base CX0 8 f fd ["_law_loads"] spChs := by
  refine okG F scChs (fun vs H Q E h => ?_) (fun cdv A outer s H vs Q E hr h => ?_)
  · obtain ⟨p, ps, rfl, _⟩ := h
    rfl
  · obtain ⟨p, ps, rfl, hp, l6, q⟩ := h
    have nd := scChs.nd
    have r1 := hr.mono (show 1 ≤ 7 by decide)
    have r3 := hr.mono (show 3 ≤ 7 by decide)
    have r5 := hr.mono (show 5 ≤ 7 by decide)
    have r6 := hr.mono (show 6 ≤ 7 by decide)
    have hu : (A.deeper (envOfC "_law_chances_right" (defScope sChs) s.heap.objs.size f cdv)).units + 64 < cLine := by have := hr.rm.un; omega
    refine ⟨_, pss_cons (ps_par (i := 1) (j := 2) rfl nd rfl rfl (by decide) rfl rfl (pa_cons (pe_smeth0 (pe_glob (v := .ref C) (by rfl) gC rfl) rd Os.at_ Os.G r3.rm Os.b .nil pass0) (pa_cons (pe_tup (pa_cons pe_int (pa_cons pe_int pa_nil))) pa_nil)) (by rfl))
      (pss_cons (ps_set (i := 3) nd rfl (.inl rfl) (pe_lst pa_nil))
      (pss_cons (ps_for PassesOwn.never rfl (pi_list (pe_callG St.G r1 (by rfl) St.g St.kp St.b .nil pass0 (pa_cons (pe_callB call_len_seq (by rfl) T.len PySem.boot_len (pa_cons (pv 0) pa_nil)) pa_nil))) (pg_name (i := 4) nd rfl (.inl rfl))
        (pss_cons (ps_asg (pe_call Cr.G r5.rm (by rfl) Cr.g Cr.kp Cr.b .nil pass0 (pa_cons (pv 0) (pa_cons (pv 4) pa_nil))) (pg_tup rfl (pgs_cons (pg_name (i := 5) nd rfl (.inl rfl)) (pgs_cons (pg_name (i := 6) nd rfl (.inl rfl)) pgs_nil))))
        (pss_cons (ps_if (pt_cmpR (op_neD hu) (pe_callG Lo.G r1 (by rfl) Lo.g Lo.kp Lo.b .nil pass0 (pa_cons (pv 5) (pa_cons (pv 6) pa_nil))) (pe_tup (pa_cons (pv 5) (pa_cons (pv 6) pa_nil))) (nomark _)) pss_never pss_nil)
        (pss_cons (ps_set (i := 2) nd rfl (.inl rfl) (pe_callG Lo.G r1 (by rfl) Lo.g Lo.kp Lo.b .nil pass0 (pa_cons (pe_op op_add (pe_op op_mulW (pe_ix ix_tup (pv 2) pe_int (fun _ _ => rfl)) (pv 6)) (pe_op op_mulW (pv 5) (pe_ix ix_tup (pv 2) pe_int (fun _ _ => rfl)))) (pa_cons (pe_op op_mulW (pe_ix ix_tup (pv 2) pe_int (fun _ _ => rfl)) (pv 6)) pa_nil))))
        (pss_one (ps_expr (pe_bm PySem.F.plainAttrs_list PySem.F.slot_list_append PySem.F.type_list_append mt_append (pv 3) (pa_cons (pe_tup (pa_cons (pe_tup (pa_cons (pv 5) (pa_cons (pv 6) pa_nil))) (pa_cons (pe_callG Lx.G hr (by rfl) Lx.g Lx.kp Lx.b .nil pass0 (pa_cons (pv 1) (pa_cons (pv 0) (pa_cons (pv 4) pa_nil)))) pa_nil))) pa_nil))))))))
      (pss_cons (ps_for PassesOwn.never rfl (pi_list (pe_slice sl_list (pv 3) po_none (po_some pe_int))) (pg_name (i := 7) nd rfl (.inl rfl))
        (pss_one (ps_for PassesOwn.never rfl (pi_list (pv 3)) (pg_name (i := 8) nd rfl (.inl rfl))
          (pss_one (ps_if (pt_cmpR op_ne (pe_meth (pv 1) Z.cls Ls.at_ Ls.G r6.rm Ls.b .nil pass0 (pa_cons (pe_ix ix_tup (pv 7) pe_int (fun _ _ => rfl)) (pa_cons (pe_ix ix_tup (pv 8) pe_int (fun _ _ => rfl)) pa_nil))) (pe_cmpR op_lt (pe_op op_mulW (pe_ix ix_tup (pe_ix ix_tup (pv 8) pe_int (fun _ _ => rfl)) pe_int (fun _ _ => rfl)) (pe_ix ix_tup (pe_ix ix_tup (pv 7) pe_int (fun _ _ => rfl)) pe_int (fun _ _ => rfl))) (pe_op op_mulW (pe_ix ix_tup (pe_ix ix_tup (pv 7) pe_int (fun _ _ => rfl)) pe_int (fun _ _ => rfl)) (pe_ix ix_tup (pe_ix ix_tup (pv 8) pe_int (fun _ _ => rfl)) pe_int (fun _ _ => rfl))) (nomark _)) (nomark _)) pss_never pss_nil)))))
      (pss_one (ps_ret (pe_cmpR (op_eqD hu) (pv 2) (pe_tup (pa_cons pe_int (pa_cons pe_int pa_nil))) (nomark _))))))), ?_⟩
    have lm : (ps.map (·.1)).length = ps.length := List.length_map ..
    have s2 : 2 ≤ sizeLine := by decide
    refine ⟨rfl, rfl, fun g J0 e0 ng sa0 => ⟨s2, fun T0 nT0 => ⟨_, _, rfl, ?_⟩⟩⟩
    have xT := Ex.new (o := .tup [.int 0, .int 1]) nT0
    have e1 := e0.trans xT
    refine ⟨by show 0 ≤ sizeLine; decide, fun R nR => ?_⟩
    have xR := Ex.new (o := .lst []) nR
    have e2 := e1.trans xR
    refine ⟨_, rfl, p, _, rfl, .inr (.inl (e2.rd hp.1)), ps.length, by rw [lm]; rfl, l6, fun L J2 e3 hL => ?_⟩
    have e4 := e2.trans e3
    obtain ⟨vs, eL, lv, hv⟩ := hL
    have eR : J2 R = some (.lst []) := e3 R _ upd_same
    have n64 := len64 l6
    have n1 : 1 ≤ (setsN ps.length).length := by rw [setsN_len]; exact Nat.pow_pos (by decide)
    have neL : L ≠ R := fun z => by
      subst z
      rw [eL] at eR
      injection eR with eR
      injection eR with eR
      rw [eR] at lv
      have lv : 0 = (setsN ps.length).length := lv
      omega
    have eJ : Ex (upd J0 T0 (.tup [.int 0, .int 1])) J2 := xR.trans e3
    have U0 := underP_pos ps
    have Ul := underP_lt hp l6
    have Sl : ∀ i, sumTo ps (setsN ps.length) i ≤ underP ps := fun i => by
      rw [← sum_sets ps]
      exact sumTo_le ps _ i
    refine ⟨L, rfl, ⟨vs, .inl (.inl eL)⟩, ?_⟩
    refine for_list (xs := vs) (fun i σ H' => ∃ (T : Addr) (rs : List V) (y4 y5 y6 : Option V) (a b : Nat), σ = [some (.ref p), some (.ref g), some (.ref T), some (.ref R), y4, y5, y6, none, none] ∧ Ex (upd J0 T0 (.tup [.int 0, .int 1])) H' ∧ H' L = some (.lst vs) ∧
        (∀ (k : Nat) (s : List Nat), (setsN ps.length)[k]? = some s → ∃ c, vs[k]? = some (V.ref c) ∧ Rd H' c (.tup (nats s))) ∧ Rd H' T (.tup [.int (a : Nat), .int (b : Nat)]) ∧ 0 < b ∧ a * underP ps = sumTo ps (setsN ps.length) i * b ∧ a < 2 ^ 130 ∧ b < 2 ^ 130 ∧ (1 ≤ i → Low a b) ∧
        H' R = some (.lst rs) ∧ rs.length = i ∧ ∀ (k : Nat) (s : List Nat), k < i → (setsN ps.length)[k]? = some s → ∃ v, rs[k]? = some v ∧ RowAt H' v ps s)
      ⟨T0, [], none, none, none, 0, 1, rfl, eJ, eL, hv, (eJ.rd (.inl upd_same)), Nat.one_pos, by unfold sumTo; simp, by decide, by decide, fun z => absurd z (by decide), eR, rfl, fun k s z => absurd z (Nat.not_lt_zero _)⟩
      (fun i σ H' _ h => ?_) (fun i x σ H1 hx h => ?_) (fun σ H1 h => ?_)
    · obtain ⟨T, rs, y4, y5, y6, a, b, rfl, _, e, _⟩ := h
      exact .inl (.inl e)
    · obtain ⟨T, rs, y4, y5, y6, a, b, rfl, ex, eL1, hv1, rT, b0, val, la, lb, low, eR1, lr, hr1⟩ := h
      have il := (List.getElem?_eq_some_iff.mp hx).1
      have es : (setsN ps.length)[i]? = some (setsN ps.length)[i] := List.getElem?_eq_getElem (by omega)
      generalize (setsN ps.length)[i] = s at es
      have ms := List.mem_of_getElem? es
      obtain ⟨c, hc, rc⟩ := hv1 i s es
      obtain rfl : x = .ref c := Option.some.inj (hx.symm.trans hc)
      have f1 := e1.trans ex
      have wp := f1.wtsT hp
      refine ⟨_, rfl, _, rfl, p, c, ps, s, rfl, wp, l6, rc, setsN_lt ms, setsN_asc ms, by have := setsN_few ms; omega, fun z H2 e2 rz => ?_⟩
      refine ⟨z, _, rfl, .inl rz, rfl, _, _, rfl, _, _, rfl, rfl, ?_⟩
      -- the chance stands in lowest terms
      have O0 := overP_pos ps s
      have Ol := overP_lt hp l6 s
      have cv : (chanceO ps s).1.1 * underP ps = overP ps s * (chanceO ps s).1.2 := red_val O0 U0
      have cl1 : (chanceO ps s).1.1 < 2 ^ 130 := Nat.lt_of_le_of_lt (Nat.div_le_self ..) (Nat.lt_trans Ol (by decide))
      have cl2 : (chanceO ps s).1.2 < 2 ^ 130 := Nat.lt_of_le_of_lt (Nat.div_le_self ..) (Nat.lt_trans Ul (by decide))
      have cL := (chanceO ps s).2
      have av0 : AmV H2 (.ref z) (.o (chanceO ps s)) := ⟨z, rfl, rz⟩
      refine ⟨_, rfl, _, rfl, (chanceO ps s).1.1, (chanceO ps s).1.2, rfl, cL.p0, cL.q0, lt2000 cl1, lt2000 cl2, fun z3 H3 h3 e3' n3 r3 => ?_⟩
      refine ⟨_, rfl, _, rfl, s2, fun t4 n4 => ?_⟩
      have x4 := Ex.new (o := .tup [.int ((chanceO ps s).1.1 : Nat), .int ((chanceO ps s).1.2 : Nat)]) n4
      have av3 : AmV H3 (.ref z3) (.o (chanceO ps s)) := by
        have : (⟨((chanceO ps s).1.1 / Nat.gcd (chanceO ps s).1.1 (chanceO ps s).1.2, (chanceO ps s).1.2 / Nat.gcd (chanceO ps s).1.1 (chanceO ps s).1.2), h3⟩ : Odds) = chanceO ps s := red_low cL cL.p0 cL.q0
        rw [this] at r3
        exact ⟨z3, rfl, r3⟩
      refine ⟨_, _, dp_am (av3.ex x4), dp_am (x := .o (chanceO ps s)) ⟨t4, rfl, .inl upd_same⟩, Am.shaped _, Am.shaped _, ?_⟩
      rw [eqv_self]
      refine ⟨_, rfl, ?_⟩
      have g4 := (e2.trans e3').trans x4
      have rT4 := g4.rd rT
      -- the total
      have sum0 : 0 < a * (chanceO ps s).1.2 + (chanceO ps s).1.1 * b := Nat.lt_of_lt_of_le (Nat.mul_pos cL.p0 b0) (Nat.le_add_left ..)
      have m1 := mul_lt260 la cl2
      have m2 := mul_lt260 cl1 lb
      have m3 := mul_lt260 lb cl2
      refine ⟨_, rfl, T, _, 0, _, rfl, rfl, .inl rT4, rfl, _, rfl, _, _, rfl, rfl, mulS la cl2, _, rfl, _, rfl, T, _, 1, _, rfl, rfl, .inl rT4, rfl, _, _, rfl, rfl, mulS cl1 lb, _, _, rfl, rfl, ?_⟩
      refine ⟨_, rfl, T, _, 1, _, rfl, rfl, .inl rT4, rfl, _, rfl, _, _, rfl, rfl, mulS lb cl2, a * (chanceO ps s).1.2 + (chanceO ps s).1.1 * b, b * (chanceO ps s).1.2, by rw [Int.natCast_add, Int.natCast_mul, Int.natCast_mul, Int.natCast_mul]; rfl, sum0, Nat.mul_pos b0 cL.q0, lt2000 (n := 261) (by rw [Nat.pow_succ]; omega), lt2000 m3, fun T5 H5 h5 e5 n5 r5 => ?_⟩
      -- the row
      have g5 := g4.trans e5
      have f5 := f1.trans g5
      refine ⟨_, rfl, .inl ⟨rfl, _, .inl (.inl (g5 R _ eR1))⟩, ?_⟩
      refine ⟨_, rfl, _, rfl, s2, fun t6 n6 => ?_⟩
      have x6 := Ex.new (o := .tup [.int ((chanceO ps s).1.1 : Nat), .int ((chanceO ps s).1.2 : Nat)]) n6
      have g6 := g5.trans x6
      have f6 := f1.trans g6
      refine ⟨_, rfl, _, rfl, _, rfl, g, p, c, .odds, ps, s, rfl, (ex.trans g6).scl (xT.scl sa0), trivial, f6.wtsT hp, l6, g6.rd rc, fun v7 H7 e7 a7 => ⟨s2, fun t8 n8 => ?_⟩⟩
      have x8 := Ex.new (o := .tup [.ref t6, v7]) n8
      have g8 := (g6.trans e7).trans x8
      refine ⟨R, _, _, rfl, rfl, g8 R _ eR1, room100 (by omega), ?_⟩
      have S1 : sumTo ps (setsN ps.length) (i + 1) = sumTo ps (setsN ps.length) i + overP ps s := sumTo_succ es
      have val1 := chance_add val cv
      rw [← S1] at val1
      have Sp : 0 < sumTo ps (setsN ps.length) (i + 1) := by omega
      have er := chance_red sum0 (Nat.mul_pos b0 cL.q0) Sp U0 val1
      have ea := congrArg (fun x : Odds => x.1.1) er
      have eb := congrArg (fun x : Odds => x.1.2) er
      have v9 := red_val Sp U0
      have l9 := (red _ _ Sp U0).2
      rw [← er] at v9 l9
      have la9 := low_le l9 Sp U0 v9
      have S9 := Sl (i + 1)
      have B1 := Nat.lt_of_le_of_lt la9.1 (Nat.lt_of_le_of_lt S9 (Nat.lt_trans Ul (show 2 ^ 128 < 2 ^ 130 by decide)))
      have B2 := Nat.lt_of_le_of_lt la9.2 (Nat.lt_trans Ul (show 2 ^ 128 < 2 ^ 130 by decide))
      have updT : ∀ {t : Addr} {xs : List V} {zs : List V}, Rd H5 t (.tup xs) → Rd (upd _ R (.lst zs)) t (.tup xs) := fun h => rd_updL (((x6.trans e7).trans x8).rd h) (g8 R _ eR1)
      refine ⟨T5, rs ++ [.ref t8], _, _, _, _, _, rfl, (ex.trans g8).mut nR, ?_, fun k s' hk => ?_, updT r5, h5.q0, v9, B1, B2, fun _ => h5, upd_same, by rw [List.length_append, lr]; rfl, fun k s' hk hs' => ?_⟩
      · rw [upd_ne neL]
        exact g8 L _ eL1
      · obtain ⟨c', h1, h2⟩ := hv1 k s' hk
        exact ⟨c', h1, updT (g5.rd h2)⟩
      · rcases Nat.lt_or_eq_of_le (Nat.lt_succ_iff.mp hk) with hk | hk
        · obtain ⟨v, h1, h2⟩ := hr1 k s' hk hs'
          exact ⟨v, by rw [List.getElem?_append_left (by omega)]; exact h1, (g8.row h2).updL (g8 R _ eR1)⟩
        · subst hk
          obtain rfl : s' = s := Option.some.inj (hs'.symm.trans es)
          refine ⟨.ref t8, by rw [List.getElem?_append_right (by omega), lr, Nat.sub_self]; rfl, t8, t6, v7, rfl, rd_updL (.inl upd_same) (g8 R _ eR1), rd_updL ((e7.trans x8).rd (.inl upd_same)) (g8 R _ eR1), ?_⟩
          exact (a7.ex x8).updL (g8 R _ eR1)
    · obtain ⟨T, rs, y4, y5, y6, a, b, rfl, ex, eL1, hv1, rT, b0, val, la, lb, low, eR1, lr, hr1⟩ := h
      have f1 := e1.trans ex
      have sa1 := ex.scl (xT.scl sa0)
      have near : ∀ x ∈ ps.map (·.2), Ms.odds.has x ∧ x.near := fun x hx => by
        obtain ⟨r, hr, rfl⟩ := List.mem_map.mp hx
        obtain ⟨h1, h2, _, _⟩ := hp.2 r hr
        exact ⟨h1, h2⟩
      have lossw : ∀ s, Ms.odds.has (sumA .odds ((lossL ps s ps.length).map (·.2))) ∧ (sumA .odds ((lossL ps s ps.length).map (·.2))).lim 1900 := fun s =>
        sum_lim6 (fun x hx => by
          obtain ⟨r, hr, rfl⟩ := List.mem_map.mp hx
          obtain ⟨h1, h2, _, _⟩ := hp.2 r (lossL_mem hr)
          exact ⟨h1, h2⟩) (by rw [List.length_map]; have := lossL_len (ps := ps) (is := s) (k := ps.length); omega)
      have cb : ∀ s, (chanceO ps s).1.1 < 2 ^ 130 ∧ (chanceO ps s).1.2 < 2 ^ 130 := fun s =>
        ⟨Nat.lt_of_le_of_lt (Nat.div_le_self ..) (Nat.lt_trans (overP_lt hp l6 s) (by decide)), Nat.lt_of_le_of_lt (Nat.div_le_self ..) (Nat.lt_trans Ul (by decide))⟩
      refine ⟨_, rfl, _, rfl, R, _, rfl, .inl (.inl eR1), fun S nS => ?_⟩
      have xS := Ex.new (o := .lst (cutV rs none (some 20))) nS
      refine ⟨S, rfl, ⟨_, .inl (.inl upd_same)⟩, ?_⟩
      have cut20 : cutV rs none (some 20) = rs.take 20 := cut_to rs 20
      refine for_list (xs := cutV rs none (some 20)) (fun i σ H' => ∃ y7 y8 : Option V, σ = [some (.ref p), some (.ref g), some (.ref T), some (.ref R), y4, y5, y6, y7, y8] ∧ Ex (upd H1 S (.lst (cutV rs none (some 20)))) H') ⟨none, none, rfl, Ex.refl _⟩ (fun i σ H' _ h => ?_) (fun i x σ H2 hx h => ?_) (fun σ H2 h => ?_)
      · obtain ⟨y7, y8, rfl, e⟩ := h
        exact .inl (.inl (e S _ upd_same))
      · obtain ⟨y7, y8, rfl, e⟩ := h
        rw [cut20] at hx
        have hx' : rs[i]? = some x := by
          by_cases z : i < 20
          · rw [List.getElem?_take_of_lt z] at hx
            exact hx
          · rw [List.getElem?_eq_none (by rw [List.length_take]; omega)] at hx
            exact nomatch hx
        have il := (List.getElem?_eq_some_iff.mp hx').1
        have es1 : (setsN ps.length)[i]? = some (setsN ps.length)[i] := List.getElem?_eq_getElem (by omega)
        generalize (setsN ps.length)[i] = s1 at es1
        obtain ⟨v1, hv1', row1⟩ := hr1 i s1 (by omega) es1
        obtain rfl : x = v1 := Option.some.inj (hx'.symm.trans hv1')
        have g2 := xS.trans e
        refine ⟨_, rfl, R, rfl, ⟨rs, .inl (.inl (g2 R _ eR1))⟩, ?_⟩
        refine for_list (xs := rs) (fun j σ H' => ∃ y8 : Option V, σ = [some (.ref p), some (.ref g), some (.ref T), some (.ref R), y4, y5, y6, some x, y8] ∧ Ex H2 H') ⟨y8, rfl, Ex.refl _⟩ (fun j σ H' _ h => ?_) (fun j y σ H3 hy h => ?_) (fun σ H3 h => ?_)
        · obtain ⟨y8, rfl, e⟩ := h
          exact .inl (.inl (e R _ (g2 R _ eR1)))
        · obtain ⟨y8, rfl, e'⟩ := h
          have jl := (List.getElem?_eq_some_iff.mp hy).1
          have es2 : (setsN ps.length)[j]? = some (setsN ps.length)[j] := List.getElem?_eq_getElem (by omega)
          generalize (setsN ps.length)[j] = s2' at es2
          obtain ⟨v2, hv2', row2⟩ := hr1 j s2' (by omega) es2
          obtain rfl : y = v2 := Option.some.inj (hy.symm.trans hv2')
          have g3 := g2.trans e'
          obtain ⟨t1, c1, l1, ev1, rt1, rc1, al1⟩ := g3.row row1
          obtain ⟨t2, c2, l2, ev2, rt2, rc2, al2⟩ := g3.row row2
          subst ev1 ev2
          obtain ⟨dg, fs, hg, hn⟩ := (g3.scl sa1).no (x := "is_less") (by decide +kernel) (by decide +kernel)
          refine ⟨_, rfl, g, dg, fs, rfl, hg, hn, _, rfl, t1, _, 1, _, rfl, rfl, .inl rt1, rfl, _, rfl, t2, _, 1, _, rfl, rfl, .inl rt2, rfl, ?_⟩
          refine ⟨g, .odds, l1, l2, _, _, rfl, g3.scl sa1, trivial, (lossw s1).1, (lossw s2').1, (Am.lim.wide ((lossw s1).2.mono (by decide))), (Am.lim.wide ((lossw s2').2.mono (by decide))), al1, al2, fun H4 e4 => ?_⟩
          have rt1 := e4.rd rt1
          have rt2 := e4.rd rt2
          have rc1 := e4.rd rc1
          have rc2 := e4.rd rc2
          refine ⟨_, rfl, t2, _, 0, _, rfl, rfl, .inl rt2, rfl, c2, _, 0, _, rfl, rfl, .inl rc2, rfl, _, rfl, t1, _, 0, _, rfl, rfl, .inl rt1, rfl, c1, _, 1, _, rfl, rfl, .inl rc1, rfl, _, _, rfl, rfl, mulS (cb s2').1 (cb s1).2, ?_⟩
          refine ⟨_, rfl, t1, _, 0, _, rfl, rfl, .inl rt1, rfl, c1, _, 0, _, rfl, rfl, .inl rc1, rfl, _, rfl, t2, _, 0, _, rfl, rfl, .inl rt2, rfl, c2, _, 1, _, rfl, rfl, .inl rc2, rfl, _, _, rfl, rfl, mulS (cb s1).1 (cb s2').2, _, _, rfl, rfl, rfl, ?_⟩
          obtain ⟨o1, eo1, vo1⟩ := loss_o (fun q hq => (hp.2 q hq).1) s1
          obtain ⟨o2, eo2, vo2⟩ := loss_o (fun q hq => (hp.2 q hq).1) s2'
          have same : decide (amLt (sumA .odds ((lossL ps s1 ps.length).map (·.2))) (sumA .odds ((lossL ps s2' ps.length).map (·.2)))) = decide (((chanceO ps s2').1.1 : Nat) * ((chanceO ps s1).1.2 : Nat) < (((chanceO ps s1).1.1 : Nat) : Int) * (((chanceO ps s2').1.2 : Nat) : Int)) := by
            rw [eo1, eo2]
            have lc := loss_chance (topF_pos ps) (botF_pos ps) U0 vo1 vo2 (red_val (overP_pos ps s1) U0) (red_val (overP_pos ps s2') U0)
            refine decide_eq_decide.mpr (Iff.trans lc ?_)
            rw [← Int.natCast_mul, ← Int.natCast_mul]
            exact Int.ofNat_lt.symm
          rw [decide_eq_true (congrArg V.bl same)]
          exact ⟨_, rfl, _, rfl, e'.trans e4⟩
        · obtain ⟨y8, rfl, e'⟩ := h
          exact ⟨_, _, rfl, e.trans e'⟩
      · obtain ⟨y7, y8, rfl, e⟩ := h
        have g2 := xS.trans e
        refine ⟨_, rfl, s2, fun t nt => ?_⟩
        have xt := Ex.new (o := .tup [.int 1, .int 1]) nt
        have S1 : sumTo ps (setsN ps.length) vs.length = underP ps := by
          unfold sumTo
          rw [lv, List.take_length, sum_sets]
        rw [S1, Nat.mul_comm] at val
        have ab : a = b := Nat.eq_of_mul_eq_mul_left U0 val
        subst ab
        have lo := low (by omega)
        have a1 : a = 1 := by have := lo.co; rw [Nat.gcd_self] at this; exact this
        subst a1
        have g3 := g2.trans xt
        refine ⟨_, _, dp_am (x := .o one1) ⟨T, rfl, g3.rd rT⟩, dp_am (x := .o one1) ⟨t, rfl, .inl upd_same⟩, Am.shaped _, Am.shaped _, ?_⟩
        rw [eqv_self]
        exact q _ (f1.trans g3)
end
end Gl

set_option exponentiation.threshold 10000
namespace Gl
open PySem PySem.Spec PyProof.Rows L2 ClX
abbrev sPow : Stmt := topS 38
theorem scPow : FnScope ["_law_dice_here", "_law_sums", "_law_odds", "_law_classes", "_law_numbers", "_law_turn", "_law_powers", "_law_number", "_law_power", "_law_wrapped", "_law_total", "_law_told"] ["_law_dice_here"] (defScope sPow) := ⟨rfl, rfl, rfl, by decide +kernel, rfl, by decide +kernel, by decide +kernel⟩
theorem Gro.scl {d g C : Addr} {H H' : Hp} {m : Ms} (x : Gro d H H') (di : Dice H d) (h : SclAt H g C m) : SclAt H' g C m := by
  obtain ⟨dx, fs, h1, h2⟩ := h
  obtain ⟨i, j, k, q⟩ := di
  exact ⟨dx, fs, x.st g _ (fun e => by rw [e, q] at h1; exact nomatch h1) h1, h2⟩
theorem eqvAll_self : ∀ xs : List Am, PyData.eqvAll (xs.map Am.data) (xs.map Am.data) = true
  | [] => by simp only [List.map_nil, PyData.eqvAll]
  | x :: xs => by
    simp only [List.map_cons, PyData.eqvAll]
    rw [eqv_self, eqvAll_self xs]
    rfl
theorem layAll_ams : ∀ xs : List Am, PyData.canLayAll0 (xs.map Am.data) = true
  | [] => by simp only [List.map_nil, PyData.canLayAll0]
  | x :: xs => by simp only [List.map_cons, PyData.canLayAll0, x.lay, layAll_ams xs, Bool.and_self]
theorem depAll_ams : ∀ xs : List Am, PyData.depthAll (xs.map Am.data) ≤ 1
  | [] => by simp only [List.map_nil, PyData.depthAll]; exact Nat.zero_le _
  | x :: xs => by
    simp only [List.map_cons, PyData.depthAll]
    exact Nat.max_le.mpr ⟨x.dep, depAll_ams xs⟩
theorem shaped_ams (xs : List Am) : SeqAt.shaped (.list (xs.map Am.data)) = true := shaped_of (by simp only [PyData.canLay0]; exact layAll_ams xs) (by
  simp only [PyData.depth]
  have := depAll_ams xs
  omega)
theorem eqv_ams (xs : List Am) : PyData.eqv (.list (xs.map Am.data)) (.list (xs.map Am.data)) = true := by
  simp only [PyData.eqv]
  exact eqvAll_self xs
theorem nats_c {H : Hp} {t : Addr} {o : List Nat} (h : Rd H t (.tup (nats o))) : AmV H (.ref t) (.c (o.map fun j => ((j : Nat) : Int))) := ⟨t, rfl, by rw [List.map_map]; exact h⟩
/-- the numbers, as amounts of the three scales -/
def asN (ns : List Int) : List (V × Am) := ns.map fun n => (V.int n, Am.n n)
theorem p2_lim {n : Int} (h : -20 ≤ n ∧ n ≤ 20) : (Am.o (p2 n)).lim 21 := by
  refine ⟨?_, ?_⟩
  · exact Nat.pow_lt_pow_right (by decide) (by omega)
  · exact Nat.pow_lt_pow_right (by decide) (by omega)
section
variable {P : Program} {w : World} {K : PySem.W.Frag} {mg : Str → Option Value} {base : Heap} {C : Addr} {mc : Value}
def spPow : Sp := fun vs H Q _ => ∃ d : Addr, vs = [.ref d] ∧ Dice H d ∧ ∀ H', Gro d H H' → Q (.bl true) H'
theorem ok_pow {f : Addr} {fd : FuncData} (F : Fun K "_law_powers_right" "_law_powers_right" sPow f fd) (T : Blt mg) (Z : ClsK K C) (gC : mg "Scale" = some (.ref C)) (rd : CRead K C mc) (D : Dc P w K mg base)
    (Cs : Sm P w K mg base C mc 3 "classes" ["size"] (spClasses C)) (Ss : Sm P w K mg base C mc 3 "sums" [] (spNew C .sums)) (Os : Sm P w K mg base C mc 3 "odds" [] (spNew C .odds))
    (Pm : DmR P w K mg base C 7 "plus" (spPlus C)) (Pl : Dm P w K mg base C 6 "plus_all" ["self", "amounts"] (spPlusAll C)) (Mi : Dm P w K mg base C 6 "minus" ["self", "amount", "other"] (spMinus C))
    (Sg : Dm P w K mg base C 6 "sign" ["self", "amount"] (spSignM C)) (Rk : Dm P w K mg base C 6 "ranked" ["self", "amounts"] (spRanked C)) : FnG P w K mg base CX0 8 f fd ["_law_dice_here"] spPow := by
  refine okG F scPow (fun vs H Q E h => ?_) (fun cdv A outer s H vs Q E hr h => ?_)
  · obtain ⟨d, rfl, _⟩ := h
    rfl
  · obtain ⟨d, rfl, hd, q⟩ := h
    have nd := scPow.nd
    have r1 := hr.mono (show 1 ≤ 7 by decide)
    have r3 := hr.mono (show 3 ≤ 7 by decide)
    have r6 := hr.mono (show 6 ≤ 7 by decide)
    have r7 := hr
    have hu : (A.deeper (envOfC "_law_powers_right" (defScope sPow) s.heap.objs.size f cdv)).units + 64 < cLine := by have := hr.rm.un; omega
    refine ⟨_, pss_cons (ps_asg (pe_tup (pa_cons (pe_smeth0 (pe_glob (v := .ref C) (by rfl) gC rfl) rd Ss.at_ Ss.G r3.rm Ss.b .nil pass0) (pa_cons (pe_smeth0 (pe_glob (v := .ref C) (by rfl) gC rfl) rd Os.at_ Os.G r3.rm Os.b .nil pass0) (pa_cons (pe_smeth (pe_glob (v := .ref C) (by rfl) gC rfl) rd Cs.at_ Cs.G r3.rm Cs.b .nil pass0 (pa_cons pe_int pa_nil)) (pa_cons (pe_lst pa_nil) pa_nil))))) (pg_tup rfl (pgs_cons (pg_name (i := 1) nd rfl (.inl rfl)) (pgs_cons (pg_name (i := 2) nd rfl (.inl rfl)) (pgs_cons (pg_name (i := 3) nd rfl (.inl rfl)) (pgs_cons (pg_name (i := 4) nd rfl (.inl rfl)) pgs_nil))))))
      (pss_cons (ps_for PassesOwn.never rfl (pi_range1 rfl T.range (pa_cons pe_int pa_nil)) (pg_name (i := 5) nd rfl (.inl rfl))
        (pss_one (ps_expr (pe_bm PySem.F.plainAttrs_list PySem.F.slot_list_append PySem.F.type_list_append mt_append (pv 4) (pa_cons (pe_op op_sub (pe_callG D.G r1 (by rfl) D.g D.kp D.b .nil pass0 (pa_cons (pv 0) (pa_cons pe_int pa_nil))) pe_int) pa_nil)))))
      (pss_cons (ps_set (i := 6) nd rfl (.inl rfl) (pe_lst pa_nil))
      (pss_cons (ps_for PassesOwn.never rfl (pi_list (pv 4)) (pg_name (i := 7) nd rfl (.inl rfl))
        (pss_cons (ps_set (i := 8) nd rfl (.inl rfl) (pe_tup (pa_cons pe_int (pa_cons pe_int pa_nil))))
        (pss_cons (ps_for PassesOwn.never rfl (pi_range1 rfl T.range (pa_cons (pe_callB call_abs (by rfl) T.abs (by decide +kernel) (pa_cons (pv 7) pa_nil)) pa_nil)) (pg_name (i := 5) nd rfl (.inl rfl))
          (pss_one (ps_set (i := 8) nd rfl (.inl rfl) (pe_ifExp (pt_cmpR op_gt (pv 7) pe_int (nomark _)) (pe_methR (pv 2) Z.cls Pm.at_ Pm.G r7.rm pass0 (pa_cons (pv 8) (pa_cons (pe_tup (pa_cons pe_int (pa_cons pe_int pa_nil))) pa_nil))) (pe_meth (pv 2) Z.cls Mi.at_ Mi.G r6.rm Mi.b .nil pass0 (pa_cons (pv 8) (pa_cons (pe_tup (pa_cons pe_int (pa_cons pe_int pa_nil))) pa_nil)))))))
        (pss_one (ps_expr (pe_bm PySem.F.plainAttrs_list PySem.F.slot_list_append PySem.F.type_list_append mt_append (pv 6) (pa_cons (pv 8) pa_nil)))))))
      (pss_cons (ps_setLc (i := 9) (own := [("_law_number", 7)]) (g := gName 7) (tt := tYes) rfl nd rfl rfl (sw_true rfl rfl rfl (by decide +kernel)) (pi_list (pv 4)) (blkOk_by (N := ["_law_dice_here", "_law_sums", "_law_odds", "_law_classes", "_law_numbers", "_law_turn", "_law_powers", "_law_number", "_law_power", "_law_wrapped", "_law_total", "_law_told"]) (sc := defScope sPow) (by decide +kernel)) (fun _ _ _ _ _ => pg_name (i := 7) nd rfl (.inl rfl)) (fun _ _ _ _ _ => pts_nil)
          (fun _ _ _ _ _ => pe_tup (pa_cons (pv 7) pa_nil)))
      (pss_cons (ps_if (pt_cmpR (op_neD hu) (pe_meth (pv 1) Z.cls Rk.at_ Rk.G r6.rm Rk.b .nil pass0 (pa_cons (pe_callTy call_tupleF (by rfl) T.tuple (by decide +kernel) (pa_cons (pv 4) pa_nil)) pa_nil)) (pe_meth (pv 2) Z.cls Rk.at_ Rk.G r6.rm Rk.b .nil pass0 (pa_cons (pe_callTy call_tupleF (by rfl) T.tuple (by decide +kernel) (pa_cons (pv 6) pa_nil)) pa_nil)) (nomark _)) pss_never pss_nil)
      (pss_cons (ps_if (pt_cmpR (op_neD hu) (pe_meth (pv 1) Z.cls Rk.at_ Rk.G r6.rm Rk.b .nil pass0 (pa_cons (pe_callTy call_tupleF (by rfl) T.tuple (by decide +kernel) (pa_cons (pv 4) pa_nil)) pa_nil)) (pe_meth (pv 3) Z.cls Rk.at_ Rk.G r6.rm Rk.b .nil pass0 (pa_cons (pe_callTy call_tupleF (by rfl) T.tuple (by decide +kernel) (pa_cons (pv 9) pa_nil)) pa_nil)) (nomark _)) pss_never pss_nil)
      (pss_cons (ps_set (i := 10) nd rfl (.inl rfl) (pe_meth (pv 1) Z.cls Pl.at_ Pl.G r6.rm Pl.b .nil pass0 (pa_cons (pe_callTy call_tupleF (by rfl) T.tuple (by decide +kernel) (pa_cons (pv 4) pa_nil)) pa_nil)))
      (pss_cons (ps_set (i := 11) nd rfl (.inl rfl) (pe_lst (pa_cons (pe_meth (pv 2) Z.cls Sg.at_ Sg.G r6.rm Sg.b .nil pass0 (pa_cons (pe_meth (pv 2) Z.cls Pl.at_ Pl.G r6.rm Pl.b .nil pass0 (pa_cons (pe_callTy call_tupleF (by rfl) T.tuple (by decide +kernel) (pa_cons (pv 6) pa_nil)) pa_nil)) pa_nil)) (pa_cons (pe_meth (pv 3) Z.cls Pl.at_ Pl.G r6.rm Pl.b .nil pass0 (pa_cons (pe_callTy call_tupleF (by rfl) T.tuple (by decide +kernel) (pa_cons (pv 9) pa_nil)) pa_nil)) pa_nil))))
      (pss_one (ps_ret (pe_cmpR (op_eqD hu) (pv 11) (pe_lst (pa_cons (pe_meth (pv 1) Z.cls Sg.at_ Sg.G r6.rm Sg.b .nil pass0 (pa_cons (pv 10) pa_nil)) (pa_cons (pe_tup (pa_cons (pv 10) pa_nil)) pa_nil))) (nomark _)))))))))))), ?_⟩
    have s0 : 0 ≤ sizeLine := by decide
    have s1 : 1 ≤ sizeLine := by decide
    have s2 : 2 ≤ sizeLine := by decide
    have s4 : 4 ≤ sizeLine := by decide
    have c1 : (Ms.classes 1).ok := ⟨by decide, by decide⟩
    refine ⟨rfl, rfl, fun gs J0 e0 ng0 ss0 => ⟨rfl, rfl, fun go J1 e1 ng1 so1 => ⟨rfl, 1, rfl, by decide, by decide, fun gc J2 e2 ng2 sc2 => ⟨s0, fun N nN => ⟨s4, fun t nt => ?_⟩⟩⟩⟩⟩
    have xN := Ex.new (o := .lst []) nN
    have xt := Ex.new (o := .tup [.ref gs, .ref go, .ref gc, .ref N]) nt
    refine ⟨t, _, rfl, .inl (.inl upd_same), rfl, _, _, rfl, _, _, rfl, _, _, rfl, _, _, rfl, rfl, ?_⟩
    have ss2 := (e1.trans e2).scl ss0
    have so2 := e2.scl so1
    have e012 := (e0.trans e1).trans e2
    have d2 := e012.dice hd
    refine ⟨4, rfl, by decide, by decide, ?_⟩
    refine for_range (n := 4) (fun i σ H' => ∃ (y5 : Option V) (ns : List Int), σ = [some (.ref d), some (.ref gs), some (.ref go), some (.ref gc), some (.ref N), y5, none, none, none, none, none, none] ∧ Gro d J2 H' ∧ H' N = some (.lst (ns.map V.int)) ∧ ns.length = i ∧ ∀ n ∈ ns, -20 ≤ n ∧ n ≤ 20)
      ⟨none, [], rfl, Gro.of (xN.trans xt) d2, xt N _ upd_same, rfl, fun n hn => (nomatch hn)⟩ (fun i σ H1 hi h => ?_) (fun σ H1 h => ?_)
    · obtain ⟨y5, ns, rfl, g1, eN, ln, bd⟩ := h
      refine ⟨_, rfl, .inl ⟨rfl, _, .inl (.inl eN)⟩, _, rfl, d, 40, rfl, by decide, by decide, g1.di, fun v H2 v0 v1 g2 => ?_⟩
      have nNd : N ≠ d := d2.ne nN
      refine ⟨_, _, rfl, rfl, N, _, _, rfl, rfl, g2.st N _ nNd eN, by rw [List.length_map]; exact room100 (by omega), ?_⟩
      refine ⟨_, ns ++ [v - 20], rfl, (g1.trans g2).mut nN nNd, by rw [upd_same, List.map_append]; rfl, by rw [List.length_append, ln]; rfl, fun n hn => ?_⟩
      rcases List.mem_append.mp hn with z | z
      · exact bd n z
      · rw [List.mem_singleton.mp z]; omega
    · obtain ⟨y5, ns, rfl, g1, eN, ln, bd⟩ := h
      have ss := g1.scl d2 ss2
      have so := g1.scl d2 so2
      have sc := g1.scl d2 sc2
      have gH : Gro d H H1 := (Gro.of e012 hd).trans g1
      refine ⟨s0, fun Pw nPw => ?_⟩
      have xP := Ex.new (o := .lst []) nPw
      have neP : N ≠ Pw := ne_of_none eN nPw
      refine ⟨_, rfl, N, rfl, ⟨_, .inl (.inl (xP N _ eN))⟩, ?_⟩
      refine for_list (xs := ns.map V.int) (fun i σ H' => ∃ (y5 y7 y8 : Option V) (ps : List (V × Am)), σ = [some (.ref d), some (.ref gs), some (.ref go), some (.ref gc), some (.ref N), y5, some (.ref Pw), y7, y8, none, none, none] ∧ Ex H1 H' ∧ H' Pw = some (.lst (ps.map (·.1))) ∧ ps.map (·.2) = (ns.take i).map (fun n => Am.o (p2 n)) ∧ ∀ q ∈ ps, AmV H' q.1 q.2)
        ⟨y5, none, none, [], rfl, xP, upd_same, rfl, fun q hq => (nomatch hq)⟩ (fun i σ H' _ h => ?_) (fun i x σ H2 hx h => ?_) (fun σ H2 h => ?_)
      · obtain ⟨y5, y7, y8, ps, rfl, e, _⟩ := h
        exact .inl (.inl (e N _ eN))
      · obtain ⟨y5, y7, y8, ps, rfl, e, eP, pk, pv⟩ := h
        rw [List.getElem?_map] at hx
        obtain ⟨n, hn, rfl⟩ := Option.map_eq_some_iff.mp hx
        have bn := bd n (List.mem_of_getElem? hn)
        refine ⟨s2, fun t2 nt2 => ?_⟩
        have x2 := Ex.new (o := .tup [.int 1, .int 1]) nt2
        refine ⟨_, rfl, _, rfl, (n.natAbs : Nat), congrArg (fun z => [V.int z]) (show (if n < 0 then -n else n) = ((n.natAbs : Nat) : Int) by split <;> omega), by omega, by omega, ?_⟩
        refine for_range (n := n.natAbs) (fun j σ H' => ∃ (y5 : Option V) (v : V), σ = [some (.ref d), some (.ref gs), some (.ref go), some (.ref gc), some (.ref N), y5, some (.ref Pw), some (.int n), some v, none, none, none] ∧ Ex (upd H2 t2 (.tup [.int 1, .int 1])) H' ∧ AmV H' v (.o (p2 (if 0 < n then (j : Int) else -(j : Int)))))
          ⟨y5, .ref t2, rfl, Ex.refl _, by split <;> exact ⟨t2, rfl, .inl upd_same⟩⟩ (fun j σ H3 hj h => ?_) (fun σ H3 h => ?_)
        · obtain ⟨y5, v, rfl, e3, av⟩ := h
          have e13 := (e.trans x2).trans e3
          have so3 := e13.scl so
          refine ⟨_, rfl, _, _, rfl, rfl, _, rfl, ?_⟩
          by_cases c : 0 < n
          · rw [if_pos c] at av
            rw [decide_eq_true c]
            obtain ⟨dg, fs, hg, hn'⟩ := so3.no (x := "plus") (by decide +kernel) (by decide +kernel)
            refine iteT ⟨_, rfl, go, dg, fs, rfl, hg, hn', _, rfl, s2, fun t3 nt3 => ?_⟩
            have x3 := Ex.new (o := .tup [.int 2, .int 1]) nt3
            refine ⟨go, .odds, 21, [(v, .o (p2 (j : Int))), (.ref t3, .o (p2 1))], rfl, x3.scl so3, trivial, mem2 ⟨trivial, p2_lim (by omega), av.ex x3⟩ ⟨trivial, p2_lim (by decide), t3, rfl, .inl upd_same⟩, by decide, by decide, (by show 21 * 2 + 1 + 21 ≤ 8000; decide), (by show 2 ≤ 1000; decide), fun v4 H4 e4 a4 => ?_⟩
            rw [show [(v, Am.o (p2 (j : Int))), (.ref t3, .o (p2 1))].map (·.2) = [.o (p2 (j : Int)), .o (p2 1)] from rfl, sum2 (m := .odds) (x := .o (p2 (j : Int))) trivial, show (Am.o (p2 (j : Int))).add (.o (p2 1)) = .o (mulO (p2 (j : Int)) (p2 1)) from rfl, p2_mul] at a4
            refine ⟨_, v4, rfl, (e3.trans x3).trans e4, ?_⟩
            rw [if_pos c]
            exact a4
          · rw [if_neg c] at av
            rw [decide_eq_false c]
            obtain ⟨dg, fs, hg, hn'⟩ := so3.no (x := "minus") (by decide +kernel) (by decide +kernel)
            refine iteF ⟨_, rfl, go, dg, fs, rfl, hg, hn', _, rfl, s2, fun t3 nt3 => ?_⟩
            have x3 := Ex.new (o := .tup [.int 2, .int 1]) nt3
            refine ⟨go, .odds, 21, v, .ref t3, .o (p2 (-(j : Int))), .o (p2 1), rfl, x3.scl so3, trivial, by decide, by decide, trivial, trivial, p2_lim (by omega), p2_lim (by decide), av.ex x3, ⟨t3, rfl, .inl upd_same⟩, fun v4 H4 e4 a4 => ?_⟩
            rw [show (Am.o (p2 (-(j : Int)))).sub (.o (p2 1)) = .o (mulO (p2 (-(j : Int))) (swapO (p2 1))) from rfl, p2_swap, p2_mul] at a4
            refine ⟨_, v4, rfl, (e3.trans x3).trans e4, ?_⟩
            rw [if_neg c, show -((j + 1 : Nat) : Int) = -(j : Int) + -1 by omega]
            exact a4
        · obtain ⟨y5, v, rfl, e3, av⟩ := h
          have nv : (if 0 < n then ((n.natAbs : Nat) : Int) else -((n.natAbs : Nat) : Int)) = n := by split <;> omega
          rw [nv] at av
          have e23 := x2.trans e3
          have ePl := e23 Pw _ eP
          have lps : ps.length = i := by
            have := congrArg List.length pk
            rw [List.length_map, List.length_map, List.length_take] at this
            have := (List.getElem?_eq_some_iff.mp hn).1
            omega
          refine ⟨_, rfl, .inl ⟨rfl, _, .inl (.inl ePl)⟩, _, rfl, Pw, _, _, rfl, rfl, ePl, by rw [List.length_map]; have := (List.getElem?_eq_some_iff.mp hn).1; exact room100 (by omega), ?_⟩
          refine ⟨_, _, _, ps ++ [(v, .o (p2 n))], rfl, (e.trans e23).mut nPw, by rw [upd_same, List.map_append]; rfl, ?_, fun r hr => ?_⟩
          · rw [List.map_append, pk, List.take_add_one, hn, List.map_append]
            rfl
          · rcases List.mem_append.mp hr with z | z
            · exact ((pv r z).ex e23).updL ePl
            · rw [List.mem_singleton.mp z]
              exact av.updL ePl
      · obtain ⟨y5, y7, y8, ps, rfl, e, eP, pk, pv⟩ := h
        have eN2 := e N _ eN
        have l4 : (ns.map V.int).length = 4 := by rw [List.length_map, ln]
        have pk4 : ps.map (·.2) = ns.map (fun n => Am.o (p2 n)) := by
          rw [pk, l4, ← ln, List.take_length]
        have lps : ps.length = 4 := by
          have := congrArg List.length pk4
          rw [List.length_map, List.length_map, ln] at this
          exact this
        refine ⟨_, rfl, N, rfl, ⟨_, .inl (.inl eN2)⟩, fun Dw nDw => lc_list (xs := ns.map V.int) (fun i H' => ∃ ws : List (V × Am), Ex H2 H' ∧ H' Dw = some (.lst (ws.map (·.1))) ∧ ws.map (·.2) = (ns.take i).map (fun n => Am.c [n]) ∧ ∀ q ∈ ws, AmV H' q.1 q.2)
          ⟨[], Ex.new nDw, upd_same, rfl, fun q hq => (nomatch hq)⟩ (fun i H' _ h => ?_) (fun i x H' hx h => ?_) (fun H3 h => ?_)⟩
        · obtain ⟨ws, e, _⟩ := h
          exact .inl (.inl (e N _ eN2))
        · obtain ⟨ws, e', eW, wk, wv⟩ := h
          rw [List.getElem?_map] at hx
          obtain ⟨n, hn, rfl⟩ := Option.map_eq_some_iff.mp hx
          have il := (List.getElem?_eq_some_iff.mp hn).1
          refine ⟨rfl, _, rfl, s1, fun t nt => ?_⟩
          have xt := Ex.new (o := .tup [.int n]) nt
          have lws : ws.length = i := by
            have := congrArg List.length wk
            rw [List.length_map, List.length_map, List.length_take] at this
            omega
          refine ⟨_, xt Dw _ eW, by rw [List.length_map]; exact room100 (by omega), ws ++ [(.ref t, .c [n])], (e'.trans xt).mut nDw, by rw [upd_same, List.map_append]; rfl, ?_, fun r hr => ?_⟩
          · rw [List.map_append, wk, List.take_add_one, hn, List.map_append]
            rfl
          · rcases List.mem_append.mp hr with z | z
            · exact ((wv r z).ex xt).updL (xt Dw _ eW)
            · rw [List.mem_singleton.mp z]
              exact AmV.updL (xt Dw _ eW) ⟨t, rfl, .inl upd_same⟩
        · obtain ⟨ws, e3, eW, wk, wv⟩ := h
          have wk4 : ws.map (·.2) = ns.map (fun n => Am.c [n]) := by
            rw [wk, l4, ← ln, List.take_length]
          have lws : ws.length = 4 := by
            have := congrArg List.length wk4
            rw [List.length_map, List.length_map, ln] at this
            exact this
          have e13 := e.trans e3
          have eN3 := e3 N _ eN2
          have eP3 := e3 Pw _ eP
          have pv3 : ∀ q ∈ ps, AmV H3 q.1 q.2 := fun q hq => (pv q hq).ex e3
          have ss3 := e13.scl ss
          have so3 := e13.scl so
          have sc3 := e13.scl sc
          have kN : (asN ns).map (·.1) = ns.map V.int := by unfold asN; rw [List.map_map]; rfl
          have kN2 : (asN ns).map (·.2) = ns.map Am.n := by unfold asN; rw [List.map_map]; rfl
          have lN : (asN ns).length = 4 := by unfold asN; rw [List.length_map, ln]
          have fN : ∀ {H' : Hp}, ∀ q ∈ asN ns, Ms.sums.has q.2 ∧ q.2.lim 21 ∧ AmV H' q.1 q.2 := fun q hq => by
            obtain ⟨n, hn, rfl⟩ := List.mem_map.mp hq
            have := bd n hn
            exact ⟨trivial, show n.natAbs < 2 ^ 21 by omega, rfl⟩
          have fP : ∀ {H' : Hp}, Ex H3 H' → ∀ q ∈ ps, Ms.odds.has q.2 ∧ q.2.lim 21 ∧ AmV H' q.1 q.2 := fun e q hq => by
            have m := List.mem_map_of_mem (f := fun q : V × Am => q.2) hq
            rw [pk4] at m
            obtain ⟨n, hn, en⟩ := List.mem_map.mp m
            have av := (pv3 q hq).ex e
            rw [← en] at av ⊢
            exact ⟨trivial, p2_lim (bd n hn), av⟩
          have fW : ∀ {H' : Hp}, Ex H3 H' → ∀ q ∈ ws, (Ms.classes 1).has q.2 ∧ q.2.lim 21 ∧ AmV H' q.1 q.2 := fun e q hq => by
            have m := List.mem_map_of_mem (f := fun q : V × Am => q.2) hq
            rw [wk4] at m
            obtain ⟨n, hn, en⟩ := List.mem_map.mp m
            have av := (wv q hq).ex e
            rw [← en] at av ⊢
            have := bd n hn
            exact ⟨rfl, fun k hk => by rw [List.mem_singleton.mp hk]; omega, av⟩
          have wid : ∀ {x : Am}, x.lim 21 → x.wide := fun h => Am.lim.wide (h.mono (by decide))
          have l3 : ∀ {ps : List (V × Am)}, ps.length = 4 → 21 * ps.length + 1 + 21 ≤ 8000 := fun h => by omega
          have l3' : ∀ {ps : List (V × Am)}, ps.length = 4 → ps.length ≤ 1000 := fun h => by omega
          have ltc : ∀ i j : Int, amLt (.c [i]) (.c [j]) ↔ i < j := fun i j => by
            show HT.lexLt [i] [j] = true ↔ _
            rw [HT.lexLt_cons]
            by_cases z : i = j
            · rw [if_pos z, z, HT.lexLt_nil_nil]
              exact ⟨fun h => (nomatch h), fun h => absurd h (Int.lt_irrefl _)⟩
            · rw [if_neg z, decide_eq_true_iff]
          -- ranks by sums and by odds
          obtain ⟨dg, fs, hg, hn⟩ := ss3.no (x := "ranked") (by decide +kernel) (by decide +kernel)
          refine ⟨_, rfl, gs, dg, fs, rfl, hg, hn, _, rfl, N, _, rfl, .inl (.inl eN3), fun ta oa nta _ => ?_⟩
          have xa := Ex.new (o := .frz oa (.tup (ns.map V.int))) nta
          refine ⟨gs, ta, .sums, asN ns, rfl, xa.scl ss3, trivial, ⟨by rw [kN]; exact .inr ⟨oa, upd_same⟩, fun q hq => let ⟨a, b, c⟩ := fN q hq; ⟨a, wid b, c⟩⟩, l3' lN, fun t4 H4 o4 e4 nt4 rt4 or4 => ?_⟩
          have f4 := xa.trans e4
          obtain ⟨dg, fs, hg, hn⟩ := (f4.scl so3).no (x := "ranked") (by decide +kernel) (by decide +kernel)
          refine ⟨_, rfl, go, dg, fs, rfl, hg, hn, _, rfl, Pw, _, rfl, .inl (.inl (f4 Pw _ eP3)), fun tb ob ntb _ => ?_⟩
          have xb := Ex.new (o := .frz ob (.tup (ps.map (·.1)))) ntb
          have f4b := f4.trans xb
          refine ⟨go, tb, .odds, ps, rfl, f4b.scl so3, trivial, ⟨.inr ⟨ob, upd_same⟩, fun q hq => let ⟨a, b, c⟩ := fP f4b q hq; ⟨a, wid b, c⟩⟩, l3' lps, fun t5 H5 o5 e5 nt5 rt5 or5 => ?_⟩
          have f5 := f4b.trans e5
          have same45 : o4 = o5 := ord_keys kN2 pk4 (fun i j => Iff.rfl) p2_lt (by rw [lN] at or4; rw [ln]; exact or4) (by rw [lps] at or5; rw [ln]; exact or5)
          subst same45
          refine ⟨_, _, dp_am (nats_c ((xb.trans e5).rd rt4)), dp_am (nats_c rt5), Am.shaped _, Am.shaped _, ?_⟩
          rw [eqv_self]
          refine ⟨_, rfl, ?_⟩
          -- by sums and by classes
          obtain ⟨dg, fs, hg, hn⟩ := (f5.scl ss3).no (x := "ranked") (by decide +kernel) (by decide +kernel)
          refine ⟨_, rfl, gs, dg, fs, rfl, hg, hn, _, rfl, N, _, rfl, .inl (.inl (f5 N _ eN3)), fun tc oc ntc _ => ?_⟩
          have xc := Ex.new (o := .frz oc (.tup (ns.map V.int))) ntc
          have f5c := f5.trans xc
          refine ⟨gs, tc, .sums, asN ns, rfl, f5c.scl ss3, trivial, ⟨by rw [kN]; exact .inr ⟨oc, upd_same⟩, fun q hq => let ⟨a, b, c⟩ := fN q hq; ⟨a, wid b, c⟩⟩, l3' lN, fun t6 H6 o6 e6 nt6 rt6 or6 => ?_⟩
          have f6 := f5c.trans e6
          obtain ⟨dg, fs, hg, hn⟩ := (f6.scl sc3).no (x := "ranked") (by decide +kernel) (by decide +kernel)
          refine ⟨_, rfl, gc, dg, fs, rfl, hg, hn, _, rfl, Dw, _, rfl, .inl (.inl (f6 Dw _ eW)), fun td od ntd _ => ?_⟩
          have xd := Ex.new (o := .frz od (.tup (ws.map (·.1)))) ntd
          have f6d := f6.trans xd
          refine ⟨gc, td, .classes 1, ws, rfl, f6d.scl sc3, c1, ⟨.inr ⟨od, upd_same⟩, fun q hq => let ⟨a, b, c⟩ := fW f6d q hq; ⟨a, wid b, c⟩⟩, l3' lws, fun t7 H7 o7 e7 nt7 rt7 or7 => ?_⟩
          have f7 := f6d.trans e7
          have same67 : o6 = o7 := ord_keys kN2 wk4 (fun i j => Iff.rfl) ltc (by rw [lN] at or6; rw [ln]; exact or6) (by rw [lws] at or7; rw [ln]; exact or7)
          subst same67
          refine ⟨_, _, dp_am (nats_c ((xd.trans e7).rd rt6)), dp_am (nats_c rt7), Am.shaped _, Am.shaped _, ?_⟩
          rw [eqv_self]
          refine ⟨_, rfl, ?_⟩
          -- the totals
          obtain ⟨dg, fs, hg, hn⟩ := (f7.scl ss3).no (x := "plus_all") (by decide +kernel) (by decide +kernel)
          refine ⟨_, rfl, gs, dg, fs, rfl, hg, hn, _, rfl, N, _, rfl, .inl (.inl (f7 N _ eN3)), fun te oe nte _ => ?_⟩
          have xe := Ex.new (o := .frz oe (.tup (ns.map V.int))) nte
          have f7e := f7.trans xe
          refine ⟨gs, te, .sums, 21, asN ns, rfl, f7e.scl ss3, trivial, ⟨by rw [kN]; exact .inr ⟨oe, upd_same⟩, fN⟩, by decide, by decide, l3 lN, l3' lN, fun v8 H8 e8 a8 => ?_⟩
          rw [kN2, show sumA .sums (ns.map Am.n) = .n (0 + ns.sum) from sum_n ns 0, Int.zero_add] at a8
          obtain rfl : v8 = .int ns.sum := a8
          have f8 := f7e.trans e8
          have sl : (Am.n ns.sum).lim 200 := by
            have := sum_lim (m := .sums) (a := 21) (by decide) (xs := ns.map Am.n) (s := .n 0) (b := 1) (by decide) (fun x hx => by
              obtain ⟨n, hn, rfl⟩ := List.mem_map.mp hx
              have := bd n hn
              exact ⟨trivial, show n.natAbs < 2 ^ 21 by omega⟩) trivial (show (0 : Int).natAbs < 2 ^ 1 by decide)
            rw [sum_n, Int.zero_add, List.length_map, ln] at this
            exact this.mono (by decide)
          have pl : (Am.o (p2 ns.sum)).lim 2000 := by
            have := sum_lim (m := .odds) (a := 21) (by decide) (xs := ns.map fun n => Am.o (p2 n)) (s := .o (p2 0)) (b := 1) (by decide) (fun x hx => by
              obtain ⟨n, hn, rfl⟩ := List.mem_map.mp hx
              exact ⟨trivial, p2_lim (bd n hn)⟩) trivial (by constructor <;> decide)
            rw [p2_sum, Int.zero_add, List.length_map, ln] at this
            exact this.mono (by decide)
          obtain ⟨dg, fs, hg, hn⟩ := (f8.scl so3).no (x := "sign") (by decide +kernel) (by decide +kernel)
          obtain ⟨dg', fs', hg', hn'⟩ := (f8.scl so3).no (x := "plus_all") (by decide +kernel) (by decide +kernel)
          refine ⟨_, rfl, go, dg, fs, rfl, hg, hn, _, rfl, go, dg', fs', rfl, hg', hn', _, rfl, Pw, _, rfl, .inl (.inl (f8 Pw _ eP3)), fun tf of ntf _ => ?_⟩
          have xf := Ex.new (o := .frz of (.tup (ps.map (·.1)))) ntf
          have f8f := f8.trans xf
          refine ⟨go, tf, .odds, 21, ps, rfl, f8f.scl so3, trivial, ⟨.inr ⟨of, upd_same⟩, fP f8f⟩, by decide, by decide, l3 lps, l3' lps, fun v9 H9 e9 a9 => ?_⟩
          rw [pk4, show sumA .odds (ns.map fun n => Am.o (p2 n)) = .o (p2 (0 + ns.sum)) from p2_sum ns 0, Int.zero_add] at a9
          have f9 := f8f.trans e9
          refine ⟨go, .odds, v9, .o (p2 ns.sum), rfl, f9.scl so3, trivial, trivial, Am.lim.wide pl, a9, fun H10 e10 => ?_⟩
          have f10 := f9.trans e10
          obtain ⟨dg, fs, hg, hn⟩ := (f10.scl sc3).no (x := "plus_all") (by decide +kernel) (by decide +kernel)
          refine ⟨_, rfl, gc, dg, fs, rfl, hg, hn, _, rfl, Dw, _, rfl, .inl (.inl (f10 Dw _ eW)), fun tg og ntg _ => ?_⟩
          have xg := Ex.new (o := .frz og (.tup (ws.map (·.1)))) ntg
          have f10g := f10.trans xg
          refine ⟨gc, tg, .classes 1, 21, ws, rfl, f10g.scl sc3, c1, ⟨.inr ⟨og, upd_same⟩, fW f10g⟩, by decide, by decide, l3 lws, l3' lws, fun v11 H11 e11 a11 => ?_⟩
          rw [wk4, show sumA (.classes 1) (ns.map fun n => Am.c [n]) = .c [0 + ns.sum] from c1_sum ns 0, Int.zero_add] at a11
          have f11 := f10g.trans e11
          refine ⟨s2, fun Lt nLt => ?_⟩
          have xL := Ex.new (o := .lst [.int (sgn .odds (.o (p2 ns.sum))), v11]) nLt
          have f12 := f11.trans xL
          obtain ⟨dg, fs, hg, hn⟩ := (f12.scl ss3).no (x := "sign") (by decide +kernel) (by decide +kernel)
          refine ⟨_, rfl, _, rfl, gs, dg, fs, rfl, hg, hn, _, rfl, gs, .sums, .int ns.sum, .n ns.sum, rfl, f12.scl ss3, trivial, trivial, trivial, rfl, fun H13 e13 => ?_⟩
          refine ⟨_, rfl, s1, fun th nth => ⟨s2, fun Lm nLm => ?_⟩⟩
          have xh := Ex.new (o := .tup [.int ns.sum]) nth
          have xm := Ex.new (o := .lst [.int (sgn .sums (.n ns.sum)), .ref th]) nLm
          have d1 : Dp K _ (.ref Lt) (.list ([Am.n (sgn .odds (.o (p2 ns.sum))), Am.c [ns.sum]].map Am.data)) := .lst (.inl (.inl (xm Lt _ (xh Lt _ (e13 Lt _ upd_same))))) (.cons (.int _) (.cons (dp_am (((a11.ex xL).ex e13).ex (xh.trans xm))) .nil))
          have d2 : Dp K _ (.ref Lm) (.list ([Am.n (sgn .sums (.n ns.sum)), Am.c [ns.sum]].map Am.data)) := .lst (.inl (.inl upd_same)) (.cons (.int _) (.cons (dp_am (x := .c [ns.sum]) ⟨th, rfl, .inl (xm th _ upd_same)⟩) .nil))
          refine ⟨_, _, d1, d2, shaped_ams _, shaped_ams _, ?_⟩
          rw [p2_sgn, eqv_ams]
          exact q _ (gH.ex ((((e.trans e3).trans f12).trans e13).trans (xh.trans xm)))
end
end Gl

set_option exponentiation.threshold 10000
namespace Gl
open PySem PySem.Spec PyProof.Rows L2 ClX
abbrev sLaw : Stmt := topS 39
theorem scLaw : FnScope ["_law_script", "_law_at", "_law_dice_here", "_law_measure", "_law_meter", "_law_turn", "_law_a", "_law_b", "_law_c", "_law_loads", "_law_told", "_law_step"] ["_law_script"] (defScope sLaw) := ⟨rfl, rfl, rfl, by decide +kernel, rfl, by decide +kernel, by decide +kernel⟩
theorem Gro.toEx {p : Addr} {H H1 H2 : Hp} (e : Ex H H1) (n : H p = none) (g : Gro p H1 H2) : Ex H H2 := fun b o h => g.st b o (ne_of_none h n) (e b o h)
def o31 : Odds := ⟨(3, 1), by decide, by decide, by decide⟩
def o21 : Odds := ⟨(2, 1), by decide, by decide, by decide⟩
def o14 : Odds := ⟨(1, 4), by decide, by decide, by decide⟩
def o827 : Odds := ⟨(8, 27), by decide, by decide, by decide⟩
theorem over1 (v u : V) : overP [(v, .o o31), (u, .o o21)] [0] = 3 := by simp [overP, overF, topF, botF, keyOf, List.range_succ, prod, topA, botA, o31, o21]
theorem under1 (v u : V) : underP [(v, .o o31), (u, .o o21)] = 12 := by simp [underP, underF, topF, botF, keyOf, List.range_succ, prod, topA, botA, o31, o21]
theorem over3 (v : V) : overP [(v, .o o21), (v, .o o21), (v, .o o21)] [0, 1, 2] = 8 := by simp [overP, overF, topF, botF, keyOf, List.range_succ, prod, topA, botA, o31, o21]
theorem under3 (v : V) : underP [(v, .o o21), (v, .o o21), (v, .o o21)] = 27 := by simp [underP, underF, topF, botF, keyOf, List.range_succ, prod, topA, botA, o31, o21]
theorem told1 (v u : V) : chanceO [(v, .o o31), (u, .o o21)] [0] = o14 := (red_congr (hc := by decide) (hd := by decide) (over1 v u) (under1 v u)).trans (Subtype.ext (by decide))
theorem told2 : chanceO [] [] = one1 := Subtype.ext rfl
theorem told3 (v : V) : chanceO [(v, .o o21), (v, .o o21), (v, .o o21)] [0, 1, 2] = o827 := (red_congr (hc := by decide) (hd := by decide) (over3 v) (under3 v)).trans (Subtype.ext (by decide))
theorem wt_of {H : Hp} {v : V} {x : Odds} (h1 : x.1.1 < 2 ^ 190 ∧ x.1.2 < 2 ^ 190) (h2 : x.1.2 < x.1.1 ∧ x.1.1 ≤ 1000000) (h : AmV H v (.o x)) : Ms.odds.has (.o x) ∧ (Am.o x).near ∧ Wt .odds (.o x) ∧ AmV H v (.o x) := ⟨trivial, h1, h2, h⟩
section
variable {P : Program} {w : World} {K : PySem.W.Frag} {mg : Str → Option Value} {base : Heap} {C : Addr} {mc : Value}
def spLaw (K : PySem.W.Frag) : Sp := fun vs H Q _ => ∃ (a : Addr) (ns : List Int), vs = [.ref a] ∧ SqL K H a (ns.map V.int) ∧ ns.length ≤ 63 ∧ ∀ H', Q (.bl true) H'
theorem ok_law {f : Addr} {fd : FuncData} (F : Fun K "law" "law" sLaw f fd) (T : Blt mg) (Z : ClsK K C)
    (hne : PySem.W.findIn K (.ref C) "__ne__" = some (some (.builtin "object.__ne__"))) (ho : PySem.W.subIn K (.ref C) (.type "object") = some true) (nf : PySem.W.notFirst K C (.ref C) = true)
    (D : Dc P w K mg base) (Di : DfG P w K mg base 1 "_law_dice" ["_law_script", "_law_at"] (spDice K)) (Md : DfG P w K mg base 4 "_law_made" ["_law_measure"] (spMadeL C))
    (Aq : DfG P w K mg base 2 "_law_amount" ["_law_dice_here", "_law_measure"] spAmtL) (Wq : DfG P w K mg base 2 "_law_weight" ["_law_dice_here", "_law_measure"] spWgtR)
    (Th : DfG P w K mg base 8 "_law_threes_right" ["_law_meter", "_law_a", "_law_b", "_law_c"] (spThr C)) (Ld : DfG P w K mg base 7 "_law_loads_right" ["_law_meter", "_law_loads"] (spLds C))
    (Ch : DfG P w K mg base 8 "_law_chances_right" ["_law_loads"] spChs) (Po : DfG P w K mg base 8 "_law_powers_right" ["_law_dice_here"] spPow)
    (Cr : Df P w K mg base 5 "chance_of_rows" ["weights", "indices"] spChance) (Eq : Do1 P w K mg base C 1 "__eq__" ["self", "other"] (spEqM K C)) : FnG P w K mg base CX0 9 f fd ["_law_script"] (spLaw K) := by
  refine okG F scLaw (fun vs H Q E h => ?_) (fun cdv A0 outer s H vs Q E hr h => ?_)
  · obtain ⟨a, ns, rfl, _⟩ := h
    rfl
  · obtain ⟨a, ns, rfl, hS, hl, k⟩ := h
    have nd := scLaw.nd
    have hu : (A0.deeper (envOfC "law" (defScope sLaw) s.heap.objs.size f cdv)).units + 64 < cLine := by have := hr.rm.un; omega
    have r1 := hr.mono (show 1 ≤ 8 by decide)
    have r2 := hr.mono (show 2 ≤ 8 by decide)
    have r4 := hr.mono (show 4 ≤ 8 by decide)
    have r5 := hr.mono (show 5 ≤ 8 by decide)
    have r7 := hr.mono (show 7 ≤ 8 by decide)
    refine ⟨_, pss_cons (ps_for PassesOwn.never rfl (pi_range1 rfl T.range (pa_cons (pe_callB (call_max2 rfl) (by rfl) T.max (by decide +kernel) (pa_cons pe_int (pa_cons (pe_callB (call_min2 rfl) (by rfl) T.min (by decide +kernel) (pa_cons pe_int (pa_cons (pe_callB call_len_seq (by rfl) T.len PySem.boot_len (pa_cons (pv 0) pa_nil)) pa_nil))) pa_nil))) pa_nil)) (pg_name (i := 1) nd rfl (.inl rfl))
        (pss_cons (ps_set (i := 2) nd rfl (.inr rfl) (pe_callG Di.G r1 (by rfl) Di.g Di.kp Di.b .nil pass0 (pa_cons (pv 0) (pa_cons (pv 1) pa_nil))))
        (pss_cons (ps_for PassesOwn.never rfl (pi_list (pe_lst (pa_cons (pe_tup (pa_cons pe_str (pa_cons pe_int pa_nil))) (pa_cons (pe_tup (pa_cons pe_str (pa_cons (pe_op op_add pe_int (pe_callG D.G r1 (by rfl) D.g D.kp D.b .nil pass0 (pa_cons (pv 2) (pa_cons pe_int pa_nil)))) pa_nil))) (pa_cons (pe_tup (pa_cons pe_str (pa_cons pe_int pa_nil))) pa_nil))))) (pg_name (i := 3) nd rfl (.inr rfl))
          (pss_cons (ps_set (i := 4) nd rfl (.inl rfl) (pe_callG Md.G r4 (by rfl) Md.g Md.kp Md.b .nil pass0 (pa_cons (pv 3) pa_nil)))
          (pss_cons (ps_for PassesOwn.never rfl (pi_range1 rfl T.range (pa_cons pe_int pa_nil)) (pg_name (i := 5) nd rfl (.inl rfl))
            (pss_cons (ps_asg (pe_lc (own := [("_law_step", 11)]) (g := gName 11) (tt := tYes) rfl nd (pi_range1 rfl T.range (pa_cons pe_int pa_nil)) (blkOk_by (N := ["_law_script", "_law_at", "_law_dice_here", "_law_measure", "_law_meter", "_law_turn", "_law_a", "_law_b", "_law_c", "_law_loads", "_law_told", "_law_step"]) (sc := defScope sLaw) (by decide +kernel)) (fun _ _ _ _ _ => pg_name (i := 11) nd rfl (.inl rfl)) (fun _ _ _ _ _ => pts_nil)
          (fun _ _ _ _ _ => pe_callG Aq.G r2 (by rfl) Aq.g Aq.kp Aq.b .nil pass0 (pa_cons (pv 2) (pa_cons (pv 3) pa_nil)))) (pg_unl rfl (pgs_cons (pg_name (i := 6) nd rfl (.inl rfl)) (pgs_cons (pg_name (i := 7) nd rfl (.inl rfl)) (pgs_cons (pg_name (i := 8) nd rfl (.inl rfl)) pgs_nil)))))
            (pss_one (ps_if (PW.pt (pw_or (pt_not (pt_val (pe_callG Th.G hr (by rfl) Th.g Th.kp Th.b .nil pass0 (pa_cons (pv 4) (pa_cons (pv 6) (pa_cons (pv 7) (pa_cons (pv 8) pa_nil))))))) (pw_or1 (pt_not (pt_val (pe_callG Th.G hr (by rfl) Th.g Th.kp Th.b .nil pass0 (pa_cons (pe_callG Md.G r4 (by rfl) Md.g Md.kp Md.b .nil pass0 (pa_cons (pv 3) pa_nil)) (pa_cons (pv 6) (pa_cons (pv 7) (pa_cons (pv 6) pa_nil)))))))))) pss_never pss_nil))))
          (pss_cons (ps_set (i := 9) nd rfl (.inl rfl) (pe_callTy call_tupleF (by rfl) T.tuple (by decide +kernel) (pa_cons (pe_lc (own := [("_law_turn", 5)]) (g := gName 5) (tt := tYes) rfl nd (pi_range1 rfl T.range (pa_cons (pe_op op_add pe_int (pe_callG D.G r1 (by rfl) D.g D.kp D.b .nil pass0 (pa_cons (pv 2) (pa_cons pe_int pa_nil)))) pa_nil)) (blkOk_by (N := ["_law_script", "_law_at", "_law_dice_here", "_law_measure", "_law_meter", "_law_turn", "_law_a", "_law_b", "_law_c", "_law_loads", "_law_told", "_law_step"]) (sc := defScope sLaw) (by decide +kernel)) (fun _ _ _ _ _ => pg_name (i := 5) nd rfl (.inl rfl)) (fun _ _ _ _ _ => pts_nil)
          (fun _ _ _ _ _ => pe_callG Wq.G r2 (by rfl) Wq.g Wq.kp Wq.b .nil pass0 (pa_cons (pv 2) (pa_cons (pv 3) pa_nil)))) pa_nil)))
          (pss_one (ps_if (PW.pt (pw_or (pt_not (pt_val (pe_callG Ld.G r7 (by rfl) Ld.g Ld.kp Ld.b .nil pass0 (pa_cons (pv 4) (pa_cons (pv 9) pa_nil))))) (pw_or1 (pt_cmpR (op_neK Eq.G Eq.o hne ho Eq.b pass0 r2.rm) (pv 4) (pe_callG Md.G r4 (by rfl) Md.g Md.kp Md.b .nil pass0 (pa_cons (pv 3) pa_nil)) (nomark _))))) pss_never pss_nil))))))
        (pss_cons (ps_set (i := 9) nd rfl (.inl rfl) (pe_callTy call_tupleF (by rfl) T.tuple (by decide +kernel) (pa_cons (pe_lc (own := [("_law_turn", 5)]) (g := gName 5) (tt := tYes) rfl nd (pi_range1 rfl T.range (pa_cons (pe_callG D.G r1 (by rfl) D.g D.kp D.b .nil pass0 (pa_cons (pv 2) (pa_cons pe_int pa_nil))) pa_nil)) (blkOk_by (N := ["_law_script", "_law_at", "_law_dice_here", "_law_measure", "_law_meter", "_law_turn", "_law_a", "_law_b", "_law_c", "_law_loads", "_law_told", "_law_step"]) (sc := defScope sLaw) (by decide +kernel)) (fun _ _ _ _ _ => pg_name (i := 5) nd rfl (.inl rfl)) (fun _ _ _ _ _ => pts_nil)
          (fun _ _ _ _ _ => pe_callG Wq.G r2 (by rfl) Wq.g Wq.kp Wq.b .nil pass0 (pa_cons (pv 2) (pa_cons (pe_tup (pa_cons pe_str (pa_cons pe_int pa_nil))) pa_nil)))) pa_nil)))
        (pss_one (ps_if (PW.pt (pw_or (pt_not (pt_val (pe_callG Ch.G hr (by rfl) Ch.g Ch.kp Ch.b .nil pass0 (pa_cons (pv 9) pa_nil)))) (pw_or1 (pt_not (pt_val (pe_callG Po.G hr (by rfl) Po.g Po.kp Po.b .nil pass0 (pa_cons (pv 2) pa_nil))))))) pss_never pss_nil))))))
      (pss_cons (ps_set (i := 10) nd rfl (.inl rfl) (pe_lst (pa_cons (pe_call Cr.G r5.rm (by rfl) Cr.g Cr.kp Cr.b .nil pass0 (pa_cons (pe_tup (pa_cons (pe_tup (pa_cons pe_int (pa_cons pe_int pa_nil))) (pa_cons (pe_tup (pa_cons pe_int (pa_cons pe_int pa_nil))) pa_nil))) (pa_cons (pe_tup (pa_cons pe_int pa_nil)) pa_nil))) (pa_cons (pe_call Cr.G r5.rm (by rfl) Cr.g Cr.kp Cr.b .nil pass0 (pa_cons (pe_tup pa_nil) (pa_cons (pe_tup pa_nil) pa_nil))) (pa_cons (pe_call Cr.G r5.rm (by rfl) Cr.g Cr.kp Cr.b .nil pass0 (pa_cons (pe_op op_repT (pe_tup (pa_cons (pe_tup (pa_cons pe_int (pa_cons pe_int pa_nil))) pa_nil)) pe_int) (pa_cons (pe_tup (pa_cons pe_int (pa_cons pe_int (pa_cons pe_int pa_nil)))) pa_nil))) pa_nil)))))
      (pss_one (ps_ret (pe_cmpR (op_eqD hu) (pv 10) (pe_lst (pa_cons (pe_tup (pa_cons pe_int (pa_cons pe_int pa_nil))) (pa_cons (pe_tup (pa_cons pe_int (pa_cons pe_int pa_nil))) (pa_cons (pe_tup (pa_cons pe_int (pa_cons pe_int pa_nil))) pa_nil)))) (nomark _))))), ?_⟩
    have s0 : 0 ≤ sizeLine := by decide
    have s1 : 1 ≤ sizeLine := by decide
    have s2 : 2 ≤ sizeLine := by decide
    have s3 : 3 ≤ sizeLine := by decide
    refine ⟨_, rfl, a, _, rfl, .inl hS, _, _, rfl, _, _, rfl, _, rfl, ?_, ?_, ?_⟩
    · split <;> split <;> omega
    · split <;> split <;> (try rw [List.length_map] at *) <;> omega
    refine for_range (fun i σ H' => ∃ y1 y2 y3 y4 y5 y6 y7 y8 y9 : Option V, σ = [some (.ref a), y1, y2, y3, y4, y5, y6, y7, y8, y9, none, none] ∧ Ex H H') ⟨none, none, none, none, none, none, none, none, none, rfl, Ex.refl H⟩ (fun i σ H1 hi h => ?_) (fun σ H1 h => ?_)
    · obtain ⟨y1, y2, y3, y4, y5, y6, y7, y8, y9, rfl, e1⟩ := h
      refine ⟨_, rfl, _, rfl, a, ns, i, by rw [Int.zero_add]; rfl, e1.sqL hS, hl, fun H2 p e2 np dp => ?_⟩
      -- the three measures
      refine ⟨s2, fun t1 n1 => ?_⟩
      have x1 := Ex.new (o := .tup [.str "sums", .int 1]) n1
      refine ⟨_, rfl, p, 4, rfl, by decide, by decide, x1.dice dp, fun v H3 v0 v4 g3 => ⟨_, _, rfl, rfl, s2, fun t2 n2 => ⟨s2, fun t3 n3 => ⟨s3, fun L nL => ?_⟩⟩⟩⟩
      obtain ⟨v, rfl⟩ : ∃ n : Nat, v = n := ⟨v.toNat, by omega⟩
      have x2 := Ex.new (o := .tup [.str "classes", .int (1 + (v : Int))]) n2
      have x3 := Ex.new (o := .tup [.str "odds", .int 1]) n3
      have xL := Ex.new (o := .lst [.ref t1, .ref t2, .ref t3]) nL
      have x23L := (x2.trans x3).trans xL
      have gA := ((Gro.of x1 dp).trans g3).ex x23L
      have dA := gA.di
      have m1 : MsV (upd (upd (upd H3 t2 (.tup [.str "classes", .int (1 + (v : Int))])) t3 (.tup [.str "odds", .int 1])) L (.lst [.ref t1, .ref t2, .ref t3])) t1 .sums := x23L.rd (g3.rd (x1.dice dp) (.inl upd_same))
      have m2 : MsV (upd (upd (upd H3 t2 (.tup [.str "classes", .int (1 + (v : Int))])) t3 (.tup [.str "odds", .int 1])) L (.lst [.ref t1, .ref t2, .ref t3])) t2 (.classes (1 + v)) := (x3.trans xL).rd (.inl (by rw [upd_same]; show some (HO.tup [.str "classes", .int (1 + (v : Int))]) = some (HO.tup [.str "classes", .int ((1 + v : Nat) : Int)]); rw [show ((1 + v : Nat) : Int) = 1 + (v : Int) by omega]))
      have m3 : MsV (upd (upd (upd H3 t2 (.tup [.str "classes", .int (1 + (v : Int))])) t3 (.tup [.str "odds", .int 1])) L (.lst [.ref t1, .ref t2, .ref t3])) t3 .odds := xL.rd (.inl upd_same)
      have eL : upd (upd (upd H3 t2 (.tup [.str "classes", .int (1 + (v : Int))])) t3 (.tup [.str "odds", .int 1])) L (.lst [.ref t1, .ref t2, .ref t3]) L = some (.lst [.ref t1, .ref t2, .ref t3]) := upd_same
      have Lp : L ≠ p := ((g3.ex (x2.trans x3)).di).ne nL
      generalize upd (upd (upd H3 t2 (.tup [.str "classes", .int (1 + (v : Int))])) t3 (.tup [.str "odds", .int 1])) L (.lst [.ref t1, .ref t2, .ref t3]) = J at *
      refine ⟨L, rfl, ⟨_, .inl (.inl eL)⟩, ?_⟩
      refine for_list (xs := [.ref t1, .ref t2, .ref t3]) (fun i' σ H' => ∃ y3 y4 y5 y6 y7 y8 y9 : Option V, σ = [some (.ref a), some (.int (0 + (i : Int))), some (.ref p), y3, y4, y5, y6, y7, y8, y9, none, none] ∧ Gro p J H') ⟨y3, y4, y5, y6, y7, y8, y9, rfl, Gro.refl dA⟩ (fun i' σ H' _ h => ?_) (fun i' x σ H4 hx h => ?_) (fun σ H4 h => ?_)
      · obtain ⟨y3, y4, y5, y6, y7, y8, y9, rfl, g⟩ := h
        exact .inl (.inl (g.st L _ Lp eL))
      · obtain ⟨y3, y4, y5, y6, y7, y8, y9, rfl, g4⟩ := h
        obtain ⟨q, m, rfl, hm, mok⟩ : ∃ (q : Addr) (m : Ms), x = .ref q ∧ MsV J q m ∧ m.ok := mem3 (p := fun x => ∃ (q : Addr) (m : Ms), x = V.ref q ∧ MsV J q m ∧ m.ok) ⟨t1, .sums, rfl, m1, trivial⟩ ⟨t2, .classes (1 + v), rfl, m2, by omega, by omega⟩ ⟨t3, .odds, rfl, m3, trivial⟩ x (List.mem_of_getElem? hx)
        refine ⟨_, rfl, q, m, rfl, g4.rd dA hm, mok, fun g H5 e5 ng sg => ?_⟩
        have g5 := g4.ex e5
        refine ⟨4, rfl, by decide, by decide, ?_⟩
        refine for_range (n := 4) (fun j σ H' => ∃ y5 y6 y7 y8 y9 : Option V, σ = [some (.ref a), some (.int (0 + (i : Int))), some (.ref p), some (.ref q), some (.ref g), y5, y6, y7, y8, y9, none, none] ∧ Gro p H5 H') ⟨y5, y6, y7, y8, y9, rfl, Gro.refl g5.di⟩ (fun j σ H6 hj h => ?_) (fun σ H6 h => ?_)
        · obtain ⟨y5, y6, y7, y8, y9, rfl, g6⟩ := h
          have g46 := g5.trans g6
          have hm6 := g46.rd dA hm
          have sg6 := g6.scl g5.di sg
          refine ⟨3, rfl, by decide, by decide, fun D nD => ?_⟩
          refine lc_range (n := 3) (fun k H' => ∃ qs : List (V × Am), Gro p H6 H' ∧ H' D = some (.lst (qs.map (·.1))) ∧ qs.length = k ∧ ∀ r ∈ qs, m.has r.2 ∧ r.2.near ∧ AmV H' r.1 r.2)
            ⟨[], Gro.of (Ex.new nD) g6.di, upd_same, rfl, fun r hr => (nomatch hr)⟩ (fun k H7 hk h => ?_) (fun H7 h => ?_)
          · obtain ⟨qs, g7, eD, lq, hq⟩ := h
            refine ⟨rfl, _, rfl, _, rfl, p, q, m, rfl, g7.di, g7.rd g6.di hm6, mok, fun u y H8 g8 hy ny ay => ?_⟩
            have eD8 := g8.st D _ (g6.di.ne nD) eD
            refine ⟨_, eD8, by rw [List.length_map]; exact room100 (by omega), qs ++ [(u, y)], (g7.trans g8).mut nD (g6.di.ne nD), by rw [upd_same, List.map_append]; rfl, by rw [List.length_append, lq]; rfl, fun r hr => ?_⟩
            rcases List.mem_append.mp hr with z | z
            · obtain ⟨a1, a2, a3⟩ := hq r z
              exact ⟨a1, a2, (a3.gro g8 g7.di).updL eD8⟩
            · rw [List.mem_singleton.mp z]
              exact ⟨hy, ny, ay.updL eD8⟩
          · obtain ⟨qs, g7, eD, lq, hq⟩ := h
            obtain ⟨⟨va, xa⟩, qs1, rfl⟩ : ∃ r rest, qs = r :: rest := by
              cases qs with
              | nil => simp at lq
              | cons r rest => exact ⟨r, rest, rfl⟩
            obtain ⟨⟨vb, xb⟩, qs2, rfl⟩ : ∃ r rest, qs1 = r :: rest := by
              cases qs1 with
              | nil => simp at lq
              | cons r rest => exact ⟨r, rest, rfl⟩
            obtain ⟨⟨vc, xc⟩, qs3, rfl⟩ : ∃ r rest, qs2 = r :: rest := by
              cases qs2 with
              | nil => simp at lq
              | cons r rest => exact ⟨r, rest, rfl⟩
            obtain rfl : qs3 = [] := by
              cases qs3 with
              | nil => rfl
              | cons r rest => simp at lq
            obtain ⟨ha, na, aa⟩ := hq (va, xa) (by simp)
            obtain ⟨hb, nb, ab⟩ := hq (vb, xb) (by simp)
            obtain ⟨hc, nc, ac⟩ := hq (vc, xc) (by simp)
            have sg7 := g7.scl g6.di sg6
            have hm7 := g7.rd g6.di hm6
            refine ⟨D, _, rfl, .inl (.inl eD), rfl, _, _, rfl, _, _, rfl, _, _, rfl, rfl, ?_⟩
            refine ⟨_, rfl, _, rfl, _, rfl, _, rfl, g, m, va, vb, vc, xa, xb, xc, rfl, sg7, mok, ha, hb, hc, na, nb, nc, aa, ab, ac, fun H8 e8 => ⟨_, rfl, ?_⟩⟩
            refine ⟨_, rfl, q, m, rfl, e8.rd hm7, mok, fun g' H9 e9 ng' sg9 => ?_⟩
            have e89 := e8.trans e9
            refine ⟨_, rfl, _, rfl, _, rfl, g', m, va, vb, va, xa, xb, xa, rfl, sg9, mok, ha, hb, ha, na, nb, na, aa.ex e89, ab.ex e89, aa.ex e89, fun H10 e10 => ⟨_, rfl, ?_⟩⟩
            exact ⟨_, _, _, _, _, rfl, (g6.trans g7).ex (e89.trans e10)⟩
        · obtain ⟨y5, y6, y7, y8, y9, rfl, g6⟩ := h
          have g46 := g5.trans g6
          have hm6 := g46.rd dA hm
          have sg6 := g6.scl g5.di sg
          refine ⟨_, rfl, p, 6, rfl, by decide, by decide, g6.di, fun n H7 n0 n6 g7 => ?_⟩
          obtain ⟨n, rfl⟩ : ∃ k : Nat, n = k := ⟨n.toNat, by omega⟩
          refine ⟨_, _, rfl, rfl, ((1 + n : Nat) : Int), by rw [show ((1 + n : Nat) : Int) = 1 + (n : Int) by omega], by omega, by omega, fun D nD => ?_⟩
          have d7 := g7.di
          have hm7 := g7.rd g6.di hm6
          have sg7 := g7.scl g6.di sg6
          refine lc_range (n := 1 + n) (fun k H' => ∃ qs : List (V × Am), Gro p H7 H' ∧ H' D = some (.lst (qs.map (·.1))) ∧ qs.length = k ∧ ∀ r ∈ qs, m.has r.2 ∧ r.2.near ∧ Wt m r.2 ∧ AmV H' r.1 r.2)
            ⟨[], Gro.of (Ex.new nD) d7, upd_same, rfl, fun r hr => (nomatch hr)⟩ (fun k H8 hk h => ?_) (fun H8 h => ?_)
          · obtain ⟨qs, g8, eD, lq, hq⟩ := h
            refine ⟨rfl, _, rfl, _, rfl, p, q, m, rfl, g8.di, g8.rd d7 hm7, mok, fun u y H9 g9 hy ny wy ay => ?_⟩
            have eD9 := g9.st D _ (d7.ne nD) eD
            refine ⟨_, eD9, by rw [List.length_map]; exact room100 (by omega), qs ++ [(u, y)], (g8.trans g9).mut nD (d7.ne nD), by rw [upd_same, List.map_append]; rfl, by rw [List.length_append, lq]; rfl, fun r hr => ?_⟩
            rcases List.mem_append.mp hr with z | z
            · obtain ⟨a1, a2, a3, a4⟩ := hq r z
              exact ⟨a1, a2, a3, (a4.gro g9 g8.di).updL eD9⟩
            · rw [List.mem_singleton.mp z]
              exact ⟨hy, ny, wy, ay.updL eD9⟩
          · obtain ⟨qs, g8, eD, lq, hq⟩ := h
            refine ⟨D, _, rfl, .inl (.inl eD), fun t o nt _ => ?_⟩
            have xt := Ex.new (o := .frz o (.tup (qs.map (·.1)))) nt
            have sg8 := xt.scl (g8.scl d7 sg7)
            have hm8 := xt.rd (g8.rd d7 hm7)
            refine ⟨_, rfl, _, rfl, g, t, m, qs, rfl, sg8, mok, ⟨.inr ⟨o, upd_same⟩, fun r hr => let ⟨a1, a2, a3, a4⟩ := hq r hr; ⟨a1, a2, a3, a4.ex xt⟩⟩, by omega, fun H9 e9 => ⟨_, rfl, ?_⟩⟩
            refine ⟨_, rfl, _, rfl, q, m, rfl, e9.rd hm8, mok, fun g' H10 e10 ng' sg10 => ?_⟩
            have sgx := (e9.trans e10).scl sg8
            obtain ⟨dx, fs, hg, hfs⟩ := id sgx
            obtain ⟨dx', fs', hg', hfs'⟩ := id sg10
            refine ⟨g, dx, fs, _, rfl, hg, .ins hg', nf, .inl ⟨g, g', m, m, rfl, sgx, sg10, _, rfl, ?_⟩⟩
            rw [decide_eq_true rfl]
            refine ⟨_, rfl, ?_⟩
            exact ⟨_, _, _, _, _, _, _, rfl, (((g46.trans g7).trans g8).ex xt).ex (e9.trans e10)⟩
      · obtain ⟨y3, y4, y5, y6, y7, y8, y9, rfl, g4⟩ := h
        refine ⟨_, rfl, p, 7, rfl, by decide, by decide, g4.di, fun n H5 n0 n7 g5 => ?_⟩
        obtain ⟨n, rfl⟩ : ∃ k : Nat, n = k := ⟨n.toNat, by omega⟩
        have d5 := g5.di
        refine ⟨(n : Int), rfl, by omega, by omega, fun D nD => ?_⟩
        refine lc_range (n := n) (fun k H' => ∃ qs : List (V × Am), Gro p H5 H' ∧ H' D = some (.lst (qs.map (·.1))) ∧ qs.length = k ∧ ∀ r ∈ qs, Ms.odds.has r.2 ∧ r.2.near ∧ Wt .odds r.2 ∧ AmV H' r.1 r.2)
          ⟨[], Gro.of (Ex.new nD) d5, upd_same, rfl, fun r hr => (nomatch hr)⟩ (fun k H6 hk h => ?_) (fun H6 h => ?_)
        · obtain ⟨qs, g6, eD, lq, hq⟩ := h
          refine ⟨rfl, _, rfl, s2, fun t nt => ?_⟩
          have xt := Ex.new (o := .tup [.str "odds", .int 1]) nt
          have g6t := g6.ex xt
          refine ⟨p, t, .odds, rfl, g6t.di, .inl upd_same, trivial, fun u y H7 g7 hy ny wy ay => ?_⟩
          have eD7 := g7.st D _ (d5.ne nD) (xt D _ eD)
          refine ⟨_, eD7, by rw [List.length_map]; exact room100 (by omega), qs ++ [(u, y)], (g6t.trans g7).mut nD (d5.ne nD), by rw [upd_same, List.map_append]; rfl, by rw [List.length_append, lq]; rfl, fun r hr => ?_⟩
          rcases List.mem_append.mp hr with z | z
          · obtain ⟨a1, a2, a3, a4⟩ := hq r z
            exact ⟨a1, a2, a3, ((a4.ex xt).gro g7 g6t.di).updL eD7⟩
          · rw [List.mem_singleton.mp z]
            exact ⟨hy, ny, wy, ay.updL eD7⟩
        · obtain ⟨qs, g6, eD, lq, hq⟩ := h
          refine ⟨D, _, rfl, .inl (.inl eD), fun t o nt _ => ?_⟩
          have xt := Ex.new (o := .frz o (.tup (qs.map (·.1)))) nt
          refine ⟨_, rfl, t, qs, rfl, ⟨.inr ⟨o, upd_same⟩, fun r hr => let ⟨a1, a2, a3, a4⟩ := hq r hr; ⟨a1, a2, a3, a4.ex xt⟩⟩, by omega, fun H7 e7 => ⟨_, rfl, ?_⟩⟩
          have g67 := (g6.ex xt).ex e7
          refine ⟨_, rfl, p, rfl, g67.di, fun H8 g8 => ⟨_, rfl, ?_⟩⟩
          refine ⟨_, _, _, _, _, _, _, _, _, rfl, e1.trans (Gro.toEx e2 np ((gA.trans (g4.trans g5)).trans (g67.trans g8)))⟩
    · obtain ⟨y1, y2, y3, y4, y5, y6, y7, y8, y9, rfl, e1⟩ := h
      refine ⟨s2, fun t1 n1 => ⟨s2, fun t2 n2 => ⟨s2, fun t3 n3 => ⟨s1, fun t4 n4 => ?_⟩⟩⟩⟩
      have x1 := Ex.new (o := .tup [.int 3, .int 1]) n1
      have x2 := Ex.new (o := .tup [.int 2, .int 1]) n2
      have x3 := Ex.new (o := .tup [.ref t1, .ref t2]) n3
      have x4 := Ex.new (o := .tup [.int 0]) n4
      refine ⟨t3, t4, [(.ref t1, .o o31), (.ref t2, .o o21)], [0], rfl, ⟨.inl (x4 t3 _ upd_same), mem2 (wt_of (by decide) (by decide) ⟨t1, rfl, .inl (x4 t1 _ (x3 t1 _ (x2 t1 _ upd_same)))⟩) (wt_of (by decide) (by decide) ⟨t2, rfl, .inl (x4 t2 _ (x3 t2 _ upd_same))⟩)⟩, by show 2 ≤ 6; decide, .inl upd_same, mem1 (show 0 < 2 by decide), List.pairwise_singleton .., by decide, fun z1 J1 e1' r1' => ?_⟩
      rw [told1] at r1'
      refine ⟨s0, fun t5 n5 => ⟨s0, fun t6 n6 => ?_⟩⟩
      have x5 := Ex.new (o := .tup []) n5
      have x6 := Ex.new (o := .tup []) n6
      refine ⟨t5, t6, [], [], rfl, ⟨.inl (x6 t5 _ upd_same), fun r hr => (nomatch hr)⟩, by decide, .inl upd_same, fun r hr => (nomatch hr), List.Pairwise.nil, by decide, fun z2 J2 e2' r2' => ?_⟩
      rw [told2] at r2'
      refine ⟨s2, fun t7 n7 => ⟨s1, fun t8 n8 => ?_⟩⟩
      have x7 := Ex.new (o := .tup [.int 2, .int 1]) n7
      have x8 := Ex.new (o := .tup [.ref t7]) n8
      refine ⟨t8, 3, [.ref t7], rfl, rfl, .inl (.inl upd_same), by simp, by decide, by decide, (show 1 ≤ 1000 by decide), fun t9 n9 => ⟨s3, fun ta na => ?_⟩⟩
      have x9 := Ex.new (o := .tup (List.replicate (3 : Int).toNat [V.ref t7]).flatten) n9
      have xa := Ex.new (o := .tup [.int 0, .int 1, .int 2]) na
      have w7 := wt_of (x := o21) (by decide) (by decide) ⟨t7, rfl, .inl (xa t7 _ (x9 t7 _ (x8 t7 _ upd_same)))⟩
      refine ⟨t9, ta, [(.ref t7, .o o21), (.ref t7, .o o21), (.ref t7, .o o21)], [0, 1, 2], rfl, ⟨.inl (xa t9 _ upd_same), mem3 w7 w7 w7⟩, by show 3 ≤ 6; decide, .inl upd_same, mem3 (show 0 < 3 by decide) (show 1 < 3 by decide) (show 2 < 3 by decide), by decide, by decide, fun z3 J3 e3' r3' => ⟨s3, fun Lt nLt => ?_⟩⟩
      rw [told3] at r3'
      have xt := Ex.new (o := .lst [.ref z1, .ref z2, .ref z3]) nLt
      refine ⟨_, rfl, s2, fun u1 k1 => ⟨s2, fun u2 k2 => ⟨s2, fun u3 k3 => ⟨s3, fun Lu nLu => ?_⟩⟩⟩⟩
      have y1 := Ex.new (o := .tup [.int 1, .int 4]) k1
      have y2 := Ex.new (o := .tup [.int 1, .int 1]) k2
      have y3 := Ex.new (o := .tup [.int 8, .int 27]) k3
      have y4 := Ex.new (o := .lst [.ref u1, .ref u2, .ref u3]) nLu
      have yt := ((y1.trans y2).trans y3).trans y4
      have xx := (((x7.trans x8).trans x9).trans xa).trans e3'
      have d1 : Dp K _ (.ref Lt) (.list ([Am.o o14, Am.o one1, Am.o o827].map Am.data)) := .lst (.inl (.inl (yt Lt _ upd_same)))
        (.cons (dp_am (x := .o o14) ⟨z1, rfl, yt.rd (xt.rd (xx.rd (e2'.rd ((x5.trans x6).rd r1'))))⟩) (.cons (dp_am (x := .o one1) ⟨z2, rfl, yt.rd (xt.rd (xx.rd r2'))⟩) (.cons (dp_am (x := .o o827) ⟨z3, rfl, yt.rd (xt.rd r3')⟩) .nil)))
      have d2 : Dp K _ (.ref Lu) (.list ([Am.o o14, Am.o one1, Am.o o827].map Am.data)) := .lst (.inl (.inl upd_same))
        (.cons (dp_am (x := .o o14) ⟨u1, rfl, .inl (y4 u1 _ (y3 u1 _ (y2 u1 _ upd_same)))⟩) (.cons (dp_am (x := .o one1) ⟨u2, rfl, .inl (y4 u2 _ (y3 u2 _ upd_same))⟩) (.cons (dp_am (x := .o o827) ⟨u3, rfl, .inl (y4 u3 _ upd_same)⟩) .nil)))
      refine ⟨_, _, d1, d2, shaped_ams _, shaped_ams _, ?_⟩
      rw [eqv_ams]
      exact k _
end
end Gl

namespace Gl
open PySem PySem.Spec PyProof.Rows L2 ClX
theorem amtR_of {P : Program} {w : World} {K : PySem.W.Frag} {mg : Str → Option Value} {base : Heap} {C : Addr} {k : Nat} {f : Addr} {fd : FuncData} {ps : List Str} (F : FnOk P w K mg base CX0 k f fd ps (spIsAmt K C)) : FnOk P w K mg base CX0 k f fd ps (spAmtR C) := by
  have im : ∀ vs H Q E, spAmtR C vs H Q E → spIsAmt K C vs H Q E := fun vs H Q E h => by
    obtain ⟨a, m, v, x, rfl, sa, mok, hx, vx, q⟩ := h
    exact ⟨a, m, v, x.data, rfl, sa, mok, .dx (dx_am vx), am_short mok hx, fun H' e => by rw [amt_has mok hx]; exact q H' e⟩
  exact ⟨fun vs H Q E q => F.len vs H Q E (im _ _ _ _ q), fun A o s H ar us vs Q E r e b v q => F.run A o s H ar us vs Q E r e b v (im _ _ _ _ q)⟩
section
/-- a def of the text, by what the top has left -/
structure Has (K : PySem.W.Frag) (x : Str) (st : Stmt) (f : Addr) : Prop where
  at_ : PySem.W.nsIn K mainGlobals x = some (some (.ref f))
  fn : ∃ fd : FuncData, Fun K x x st f fd
theorem Has.mk' {K : PySem.W.Frag} {x : Str} {st : Stmt} {f : Addr} {oc kV doc pm cdv ct : Value} {od an : Option Addr} {sl : Array (Option Value)}
    (a : PySem.W.nsIn K mainGlobals x = some (some (.ref f)))
    (l : K.lookup f = some ⟨oc, od, .func (PySem.W.fnOf x x (defArgs st) (defBody st) (defScope st) .none kV doc pm an cdv ct), sl⟩)
    (c : PySem.W.codeIn K cdv x = true) (k : PySem.W.keepIn K (.ref f) = true) : Has K x st f := ⟨a, _, fun_mk l c k⟩
/-- a method -/
structure HasM (K : PySem.W.Frag) (C : Addr) (x y : Str) (st : Stmt) (f : Addr) : Prop where
  at_ : PySem.W.findIn K (.ref C) x = some (some (.ref f))
  isf : PySem.W.isFn K (.ref f) = true
  fn : ∃ fd : FuncData, Fun K x y st f fd
theorem HasM.mk' {K : PySem.W.Frag} {C : Addr} {x y : Str} {st : Stmt} {f : Addr} {oc kV doc pm cdv ct : Value} {od an : Option Addr} {sl : Array (Option Value)}
    (a : PySem.W.findIn K (.ref C) x = some (some (.ref f))) (i : PySem.W.isFn K (.ref f) = true)
    (l : K.lookup f = some ⟨oc, od, .func (PySem.W.fnOf x y (defArgs st) (defBody st) (defScope st) .none kV doc pm an cdv ct), sl⟩)
    (c : PySem.W.codeIn K cdv y = true) (k : PySem.W.keepIn K (.ref f) = true) : HasM K C x y st f := ⟨a, i, _, fun_mk l c k⟩
/-- a staticmethod -/
structure HasS (K : PySem.W.Frag) (C : Addr) (mc : Value) (x y : Str) (st : Stmt) (p f : Addr) : Prop where
  sm : SMet K C mc x p f
  fn : ∃ fd : FuncData, Fun K x y st f fd
theorem HasS.mk' {K : PySem.W.Frag} {C : Addr} {mc : Value} {x y : Str} {st : Stmt} {p f : Addr} {oc kV doc pm cdv ct : Value} {od an : Option Addr} {sl : Array (Option Value)} {rest : List Value}
    (a : PySem.W.findCls K (.ref C) mc x = some (.get (.builtin "staticmethod.__get__") (.ref p) .none (.ref C))) (r : PySem.W.recIn K p "staticmethod" = some (.ref f :: rest))
    (l : K.lookup f = some ⟨oc, od, .func (PySem.W.fnOf x y (defArgs st) (defBody st) (defScope st) .none kV doc pm an cdv ct), sl⟩)
    (c : PySem.W.codeIn K cdv y = true) (k : PySem.W.keepIn K (.ref f) = true) : HasS K C mc x y st p f := ⟨⟨a, ⟨rest, r⟩, k⟩, _, fun_mk l c k⟩
/-- a property -/
structure HasP (K : PySem.W.Frag) (C : Addr) (x y : Str) (st : Stmt) (p f : Addr) : Prop where
  pr : PropOf K C x p f
  fn : ∃ fd : FuncData, Fun K x y st f fd
theorem HasP.mk' {K : PySem.W.Frag} {C : Addr} {x y : Str} {st : Stmt} {p f : Addr} {oc kV doc pm cdv ct : Value} {od an : Option Addr} {sl : Array (Option Value)} {rest : List Value}
    (a : PySem.W.findIn K (.ref C) x = some (some (.ref p))) (g : PySem.W.specialIn K (.ref p) "__get__" = some (some (.builtin "property.__get__"))) (t : PySem.W.takesIn K (.ref p) = some true) (r : PySem.W.recIn K p "property" = some (.ref f :: rest))
    (l : K.lookup f = some ⟨oc, od, .func (PySem.W.fnOf x y (defArgs st) (defBody st) (defScope st) .none kV doc pm an cdv ct), sl⟩)
    (c : PySem.W.codeIn K cdv y = true) (k : PySem.W.keepIn K (.ref f) = true) : HasP K C x y st p f := ⟨⟨a, g, t, ⟨rest, r⟩⟩, _, fun_mk l c k⟩
/-- what the law rests on -/
structure Facts (K : PySem.W.Frag) (C : Addr) : Prop where
  aC : PySem.W.nsIn K mainGlobals "Scale" = some (some (.ref C))
  d0 : ∃ f, Has K "is_whole" sWhole f
  d1 : ∃ f, Has K "are_whole" sWholes f
  d2 : ∃ f, Has K "is_index" sIndex f
  d3 : ∃ f, Has K "are_indices" sIdxs f
  d4 : ∃ f, Has K "is_ascending" sAsc f
  d5 : ∃ f, Has K "chance_of_rows" sChance f
  d6 : ∃ f, Has K "_is_part" sPart f
  d7 : ∃ f, Has K "_is_lowest" sLowest f
  d8 : ∃ f, Has K "_are_odds" sAreOdds f
  d9 : ∃ f, Has K "_times" sTimes f
  d10 : ∃ f, Has K "_lowest" sLowP f
  d11 : ∃ f, Has K "_law_dice" sDice f
  d12 : ∃ f, Has K "_law_pull" sPull f
  d13 : ∃ f, Has K "_law_lowest" sLowL f
  d14 : ∃ f, Has K "_law_weight" sWgtL f
  d15 : ∃ f, Has K "_law_made" sMadeL f
  d16 : ∃ f, Has K "_law_amount" sAmtL f
  d17 : ∃ f, Has K "_law_threes_right" sThr f
  d18 : ∃ f, Has K "_law_loads_right" sLds f
  d19 : ∃ f, Has K "_law_sets" sSets f
  d20 : ∃ f, Has K "_law_loss" sLoss f
  d21 : ∃ f, Has K "_law_chances_right" sChs f
  d22 : ∃ f, Has K "_law_powers_right" sPow f
  d23 : ∃ f, Has K "law" sLaw f
  m0 : ∃ f, HasM K C "__init__" "Scale.__init__" sInit f
  m1 : ∃ f, HasM K C "is_weight" "Scale.is_weight" sIsWgt f
  m2 : ∃ f, HasM K C "is_amount" "Scale.is_amount" sIsAmt f
  m3 : ∃ f, HasM K C "__contains__" "Scale.__contains__" sHas f
  m4 : ∃ f, HasM K C "__eq__" "Scale.__eq__" sEqM f
  m5 : ∃ f, HasM K C "plus" "Scale.plus" sPlus f
  m6 : ∃ f, HasM K C "plus_all" "Scale.plus_all" sPlusAll f
  m7 : ∃ f, HasM K C "minus" "Scale.minus" sMinus f
  m8 : ∃ f, HasM K C "negative" "Scale.negative" sNegM f
  m9 : ∃ f, HasM K C "twice" "Scale.twice" sTwice f
  m10 : ∃ f, HasM K C "is_less" "Scale.is_less" sIsLess f
  m11 : ∃ f, HasM K C "sign" "Scale.sign" sSignM f
  m12 : ∃ f, HasM K C "greatest" "Scale.greatest" sGreatest f
  m13 : ∃ f, HasM K C "ranked" "Scale.ranked" sRanked f
  m14 : ∃ f, HasM K C "_check_all" "Scale._check_all" sChkAll f
  m15 : ∃ f, HasM K C "_ranks" "Scale._ranks" sRanks f
  m16 : ∃ f, HasM K C "_sum" "Scale._sum" sSum f
  m17 : ∃ f, HasM K C "_opposite" "Scale._opposite" sOpp f
  m18 : ∃ f, HasM K C "_below" "Scale._below" sBelow f
  m19 : ∃ f, HasM K C "_order" "Scale._order" sOrder f
  s0 : ∃ p f, HasS K C (.type "type") "sums" "Scale.sums" sSums p f
  s1 : ∃ p f, HasS K C (.type "type") "classes" "Scale.classes" sClasses p f
  s2 : ∃ p f, HasS K C (.type "type") "odds" "Scale.odds" sOddsM p f
  p0 : ∃ p f, HasP K C "zero" "Scale.zero" sZero p f
  b_len : PySem.W.nsIn K mainGlobals "len" = some none
  b_int : PySem.W.nsIn K mainGlobals "int" = some none
  b_abs : PySem.W.nsIn K mainGlobals "abs" = some none
  b_max : PySem.W.nsIn K mainGlobals "max" = some none
  b_min : PySem.W.nsIn K mainGlobals "min" = some none
  b_range : PySem.W.nsIn K mainGlobals "range" = some none
  b_tuple : PySem.W.nsIn K mainGlobals "tuple" = some none
  b_list : PySem.W.nsIn K mainGlobals "list" = some none
  b_repr : PySem.W.nsIn K mainGlobals "repr" = some none
  b_zip : PySem.W.nsIn K mainGlobals "zip" = some none
  b_isinstance : PySem.W.nsIn K mainGlobals "isinstance" = some none
  b_all : PySem.W.nsIn K mainGlobals "all" = some none
  b_str : PySem.W.nsIn K mainGlobals "str" = some none
  b_bool : PySem.W.nsIn K mainGlobals "bool" = some none
  b_enumerate : PySem.W.nsIn K mainGlobals "enumerate" = some none
  b_sum : PySem.W.nsIn K mainGlobals "sum" = some none
  c_gcd : PySem.W.nsIn K mainGlobals "gcd" = some (some (.builtin "math.gcd"))
  c_max : ∃ t, PySem.W.nsIn K mainGlobals "MAX_SIZE" = some (some (.int 4 t))
  c_odd : ∃ t, PySem.W.nsIn K mainGlobals "MAX_ODDS" = some (some (.int 1000000 t))
  pg : PySem.W.plainGet K C Str.empty = true
  hd : PySem.W.hasDictIn K C = true
  po : PySem.W.plainOver K C = true
  sa : PySem.W.findIn K (.ref C) "__setattr__" = some (some (.builtin "object.__setattr__"))
  nw : PySem.W.findIn K (.ref C) "_word" = some none
  nz : PySem.W.findIn K (.ref C) "_size" = some none
  mk_ : PySem.W.makesIn K C = true
  kc : PySem.W.keepIn K (.ref C) = true
  rdm : PySem.W.readsIn K C (.type "type") = true
  ga : PySem.W.specialIn K (.ref C) "__getattribute__" = some (some (.builtin "type.__getattribute__"))
  t1 : PySem.W.findIn K (.ref C) "__class__" = some (some (.builtin "object.__class__"))
  t2 : PySem.W.specialIn K (.builtin "object.__class__") "__get__" = some (some (.builtin "getset_descriptor.__get__"))
  t3 : PySem.W.takesIn K (.builtin "object.__class__") = some true
  t4 : PySem.W.mroIn K C (.type "object") = some true
  ki : PySem.W.kitOne K (.ref C) (.type "int") = some false
  kt : PySem.W.kitOne K (.ref C) (.type "tuple") = some false
  c_row : ∃ t, PySem.W.nsIn K mainGlobals "ROW_LIMIT" = some (some (.int 200 t))
  kcc : PySem.W.kitOne K (.ref C) (.ref C) = some true
  kn_NoneType : PySem.W.kitOne K (.type "NoneType") (.ref C) = some false
  kn_bool : PySem.W.kitOne K (.type "bool") (.ref C) = some false
  kn_int : PySem.W.kitOne K (.type "int") (.ref C) = some false
  kn_str : PySem.W.kitOne K (.type "str") (.ref C) = some false
  kn_list : PySem.W.kitOne K (.type "list") (.ref C) = some false
  kn_tuple : PySem.W.kitOne K (.type "tuple") (.ref C) = some false
  kn_dict : PySem.W.kitOne K (.type "dict") (.ref C) = some false
  hne : PySem.W.findIn K (.ref C) "__ne__" = some (some (.builtin "object.__ne__"))
  ho : PySem.W.subIn K (.ref C) (.type "object") = some true
variable {w : World} {K : PySem.W.Frag} {mg : Str → Option Value} {h : Heap} {fa : Addr}
theorem all_law (P : Program) {C : Addr} (Y : Facts K C) (X : K.In h) (G : h.Ns mainGlobals mg) (hfa : mg "law" = some (.ref fa)) :
    ∃ fd : FuncData, (∀ (s : Shared) (v : Value), BindsTo s fd ⟨[v], []⟩ [("_law_script", v)]) ∧
      ∀ base : Heap, K.In base → base.Ns mainGlobals mg → FnG P w K mg base CX0 9 fa fd ["_law_script"] (spLaw K) := by
  obtain ⟨f0, h0⟩ := Y.d0
  obtain ⟨e0, F0⟩ := h0.fn
  have g0 := PySem.W.mg_of X G h0.at_
  obtain ⟨f1, h1⟩ := Y.d1
  obtain ⟨e1, F1⟩ := h1.fn
  have g1 := PySem.W.mg_of X G h1.at_
  obtain ⟨f2, h2⟩ := Y.d2
  obtain ⟨e2, F2⟩ := h2.fn
  have g2 := PySem.W.mg_of X G h2.at_
  obtain ⟨f3, h3⟩ := Y.d3
  obtain ⟨e3, F3⟩ := h3.fn
  have g3 := PySem.W.mg_of X G h3.at_
  obtain ⟨f4, h4⟩ := Y.d4
  obtain ⟨e4, F4⟩ := h4.fn
  have g4 := PySem.W.mg_of X G h4.at_
  obtain ⟨f5, h5⟩ := Y.d5
  obtain ⟨e5, F5⟩ := h5.fn
  have g5 := PySem.W.mg_of X G h5.at_
  obtain ⟨f6, h6⟩ := Y.d6
  obtain ⟨e6, F6⟩ := h6.fn
  have g6 := PySem.W.mg_of X G h6.at_
  obtain ⟨f7, h7⟩ := Y.d7
  obtain ⟨e7, F7⟩ := h7.fn
  have g7 := PySem.W.mg_of X G h7.at_
  obtain ⟨f8, h8⟩ := Y.d8
  obtain ⟨e8, F8⟩ := h8.fn
  have g8 := PySem.W.mg_of X G h8.at_
  obtain ⟨f9, h9⟩ := Y.d9
  obtain ⟨e9, F9⟩ := h9.fn
  have g9 := PySem.W.mg_of X G h9.at_
  obtain ⟨f10, h10⟩ := Y.d10
  obtain ⟨e10, F10⟩ := h10.fn
  have g10 := PySem.W.mg_of X G h10.at_
  obtain ⟨f11, h11⟩ := Y.d11
  obtain ⟨e11, F11⟩ := h11.fn
  have g11 := PySem.W.mg_of X G h11.at_
  obtain ⟨f12, h12⟩ := Y.d12
  obtain ⟨e12, F12⟩ := h12.fn
  have g12 := PySem.W.mg_of X G h12.at_
  obtain ⟨f13, h13⟩ := Y.d13
  obtain ⟨e13, F13⟩ := h13.fn
  have g13 := PySem.W.mg_of X G h13.at_
  obtain ⟨f14, h14⟩ := Y.d14
  obtain ⟨e14, F14⟩ := h14.fn
  have g14 := PySem.W.mg_of X G h14.at_
  obtain ⟨f15, h15⟩ := Y.d15
  obtain ⟨e15, F15⟩ := h15.fn
  have g15 := PySem.W.mg_of X G h15.at_
  obtain ⟨f16, h16⟩ := Y.d16
  obtain ⟨e16, F16⟩ := h16.fn
  have g16 := PySem.W.mg_of X G h16.at_
  obtain ⟨f17, h17⟩ := Y.d17
  obtain ⟨e17, F17⟩ := h17.fn
  have g17 := PySem.W.mg_of X G h17.at_
  obtain ⟨f18, h18⟩ := Y.d18
  obtain ⟨e18, F18⟩ := h18.fn
  have g18 := PySem.W.mg_of X G h18.at_
  obtain ⟨f19, h19⟩ := Y.d19
  obtain ⟨e19, F19⟩ := h19.fn
  have g19 := PySem.W.mg_of X G h19.at_
  obtain ⟨f20, h20⟩ := Y.d20
  obtain ⟨e20, F20⟩ := h20.fn
  have g20 := PySem.W.mg_of X G h20.at_
  obtain ⟨f21, h21⟩ := Y.d21
  obtain ⟨e21, F21⟩ := h21.fn
  have g21 := PySem.W.mg_of X G h21.at_
  obtain ⟨f22, h22⟩ := Y.d22
  obtain ⟨e22, F22⟩ := h22.fn
  have g22 := PySem.W.mg_of X G h22.at_
  obtain ⟨f23, h23⟩ := Y.d23
  obtain ⟨e23, F23⟩ := h23.fn
  have g23 := PySem.W.mg_of X G h23.at_
  obtain ⟨mf0, mh0⟩ := Y.m0
  obtain ⟨me0, MF0⟩ := mh0.fn
  obtain ⟨mf1, mh1⟩ := Y.m1
  obtain ⟨me1, MF1⟩ := mh1.fn
  obtain ⟨mf2, mh2⟩ := Y.m2
  obtain ⟨me2, MF2⟩ := mh2.fn
  obtain ⟨mf3, mh3⟩ := Y.m3
  obtain ⟨me3, MF3⟩ := mh3.fn
  obtain ⟨mf4, mh4⟩ := Y.m4
  obtain ⟨me4, MF4⟩ := mh4.fn
  obtain ⟨mf5, mh5⟩ := Y.m5
  obtain ⟨me5, MF5⟩ := mh5.fn
  obtain ⟨mf6, mh6⟩ := Y.m6
  obtain ⟨me6, MF6⟩ := mh6.fn
  obtain ⟨mf7, mh7⟩ := Y.m7
  obtain ⟨me7, MF7⟩ := mh7.fn
  obtain ⟨mf8, mh8⟩ := Y.m8
  obtain ⟨me8, MF8⟩ := mh8.fn
  obtain ⟨mf9, mh9⟩ := Y.m9
  obtain ⟨me9, MF9⟩ := mh9.fn
  obtain ⟨mf10, mh10⟩ := Y.m10
  obtain ⟨me10, MF10⟩ := mh10.fn
  obtain ⟨mf11, mh11⟩ := Y.m11
  obtain ⟨me11, MF11⟩ := mh11.fn
  obtain ⟨mf12, mh12⟩ := Y.m12
  obtain ⟨me12, MF12⟩ := mh12.fn
  obtain ⟨mf13, mh13⟩ := Y.m13
  obtain ⟨me13, MF13⟩ := mh13.fn
  obtain ⟨mf14, mh14⟩ := Y.m14
  obtain ⟨me14, MF14⟩ := mh14.fn
  obtain ⟨mf15, mh15⟩ := Y.m15
  obtain ⟨me15, MF15⟩ := mh15.fn
  obtain ⟨mf16, mh16⟩ := Y.m16
  obtain ⟨me16, MF16⟩ := mh16.fn
  obtain ⟨mf17, mh17⟩ := Y.m17
  obtain ⟨me17, MF17⟩ := mh17.fn
  obtain ⟨mf18, mh18⟩ := Y.m18
  obtain ⟨me18, MF18⟩ := mh18.fn
  obtain ⟨mf19, mh19⟩ := Y.m19
  obtain ⟨me19, MF19⟩ := mh19.fn
  obtain ⟨sp0, sf0, sh0⟩ := Y.s0
  obtain ⟨se0, SF0⟩ := sh0.fn
  obtain ⟨sp1, sf1, sh1⟩ := Y.s1
  obtain ⟨se1, SF1⟩ := sh1.fn
  obtain ⟨sp2, sf2, sh2⟩ := Y.s2
  obtain ⟨se2, SF2⟩ := sh2.fn
  obtain ⟨pp0, pf0, ph0⟩ := Y.p0
  obtain ⟨pe0, PF0⟩ := ph0.fn
  have T : Blt mg := { len := PySem.W.mg_none_of X G Y.b_len, int := PySem.W.mg_none_of X G Y.b_int, abs := PySem.W.mg_none_of X G Y.b_abs, max := PySem.W.mg_none_of X G Y.b_max, min := PySem.W.mg_none_of X G Y.b_min, range := PySem.W.mg_none_of X G Y.b_range, tuple := PySem.W.mg_none_of X G Y.b_tuple, list := PySem.W.mg_none_of X G Y.b_list, repr := PySem.W.mg_none_of X G Y.b_repr, zip := PySem.W.mg_none_of X G Y.b_zip, isinstance := PySem.W.mg_none_of X G Y.b_isinstance, all := PySem.W.mg_none_of X G Y.b_all, str := PySem.W.mg_none_of X G Y.b_str, bool := PySem.W.mg_none_of X G Y.b_bool }
  have te := PySem.W.mg_none_of X G Y.b_enumerate
  have hg := PySem.W.mg_of X G Y.c_gcd
  obtain ⟨tm, km⟩ := Y.c_max
  have ms0 := PySem.W.mg_of X G km
  have ms : ∃ t, mg "MAX_SIZE" = some (.int 4 t) := ⟨_, ms0⟩
  obtain ⟨to, ko⟩ := Y.c_odd
  have mo0 := PySem.W.mg_of X G ko
  have mo : ∃ t, mg "MAX_ODDS" = some (.int 1000000 t) := ⟨_, mo0⟩
  have gC := PySem.W.mg_of X G Y.aC
  have Zk : ClsK K C := ⟨⟨Y.pg, Y.hd, Y.po, Y.sa⟩, Y.nw, Y.nz⟩
  have Zt : ClsT K C := ⟨⟨Y.pg, Y.hd, Y.po, Y.sa⟩, Y.t1, Y.t2, Y.t3, Y.t4, Y.ki, Y.kt⟩
  have kn : ∀ t ∈ tys, PySem.W.kitOne K (.type t) (.ref C) = some false := by
    intro t ht
    simp only [tys, List.mem_cons, List.not_mem_nil, or_false] at ht
    rcases ht with rfl | rfl | rfl | rfl | rfl | rfl | rfl
    · exact Y.kn_NoneType
    · exact Y.kn_bool
    · exact Y.kn_int
    · exact Y.kn_str
    · exact Y.kn_list
    · exact Y.kn_tuple
    · exact Y.kn_dict
  have nf : PySem.W.notFirst K C (.ref C) = true := by
    unfold PySem.W.notFirst
    simp
  have ts := PySem.W.mg_none_of X G Y.b_sum
  obtain ⟨tl, kl⟩ := Y.c_row
  have rl : ∃ t, mg "ROW_LIMIT" = some (.int 200 t) := ⟨_, PySem.W.mg_of X G kl⟩
  have rd : CRead K C (.type "type") := ⟨Y.rdm, Y.ga⟩
  have b0 := F0.binds (ps := ["value"]) fun _ _ _ _ _ _ us hl => match us, hl with | [_], _ => rfl
  have b1 := F1.binds (ps := ["value", "many"]) fun _ _ _ _ _ _ us hl => match us, hl with | [_, _], _ => rfl
  have b2 := F2.binds (ps := ["value", "many"]) fun _ _ _ _ _ _ us hl => match us, hl with | [_, _], _ => rfl
  have b3 := F3.binds (ps := ["value", "many"]) fun _ _ _ _ _ _ us hl => match us, hl with | [_, _], _ => rfl
  have b4 := F4.binds (ps := ["values"]) fun _ _ _ _ _ _ us hl => match us, hl with | [_], _ => rfl
  have b5 := F5.binds (ps := ["weights", "indices"]) fun _ _ _ _ _ _ us hl => match us, hl with | [_, _], _ => rfl
  have b6 := F6.binds (ps := ["value"]) fun _ _ _ _ _ _ us hl => match us, hl with | [_], _ => rfl
  have b7 := F7.binds (ps := ["value"]) fun _ _ _ _ _ _ us hl => match us, hl with | [_], _ => rfl
  have b8 := F8.binds (ps := ["right", "wrong"]) fun _ _ _ _ _ _ us hl => match us, hl with | [_, _], _ => rfl
  have b9 := F9.binds (ps := ["numbers"]) fun _ _ _ _ _ _ us hl => match us, hl with | [_], _ => rfl
  have b10 := F10.binds (ps := ["over", "under"]) fun _ _ _ _ _ _ us hl => match us, hl with | [_, _], _ => rfl
  have b11 := F11.binds (ps := ["_law_script", "_law_at"]) fun _ _ _ _ _ _ us hl => match us, hl with | [_, _], _ => rfl
  have b12 := F12.binds (ps := ["_law_dice_here", "_law_total"]) fun _ _ _ _ _ _ us hl => match us, hl with | [_, _], _ => rfl
  have b13 := F13.binds (ps := ["_law_top", "_law_bottom"]) fun _ _ _ _ _ _ us hl => match us, hl with | [_, _], _ => rfl
  have b14 := F14.binds (ps := ["_law_dice_here", "_law_measure"]) fun _ _ _ _ _ _ us hl => match us, hl with | [_, _], _ => rfl
  have b15 := F15.binds (ps := ["_law_measure"]) fun _ _ _ _ _ _ us hl => match us, hl with | [_], _ => rfl
  have b16 := F16.binds (ps := ["_law_dice_here", "_law_measure"]) fun _ _ _ _ _ _ us hl => match us, hl with | [_, _], _ => rfl
  have b17 := F17.binds (ps := ["_law_meter", "_law_a", "_law_b", "_law_c"]) fun _ _ _ _ _ _ us hl => match us, hl with | [_, _, _, _], _ => rfl
  have b18 := F18.binds (ps := ["_law_meter", "_law_loads"]) fun _ _ _ _ _ _ us hl => match us, hl with | [_, _], _ => rfl
  have b19 := F19.binds (ps := ["_law_total"]) fun _ _ _ _ _ _ us hl => match us, hl with | [_], _ => rfl
  have b20 := F20.binds (ps := ["_law_meter", "_law_loads", "_law_chosen"]) fun _ _ _ _ _ _ us hl => match us, hl with | [_, _, _], _ => rfl
  have b21 := F21.binds (ps := ["_law_loads"]) fun _ _ _ _ _ _ us hl => match us, hl with | [_], _ => rfl
  have b22 := F22.binds (ps := ["_law_dice_here"]) fun _ _ _ _ _ _ us hl => match us, hl with | [_], _ => rfl
  have mb0 := MF0.binds (ps := ["self", "word", "size"]) fun _ _ _ _ _ _ us hl => match us, hl with | [_, _, _], _ => rfl
  have mb1 := MF1.binds (ps := ["self", "value"]) fun _ _ _ _ _ _ us hl => match us, hl with | [_, _], _ => rfl
  have mb2 := MF2.binds (ps := ["self", "value"]) fun _ _ _ _ _ _ us hl => match us, hl with | [_, _], _ => rfl
  have mb3 := MF3.binds (ps := ["self", "x"]) fun _ _ _ _ _ _ us hl => match us, hl with | [_, _], _ => rfl
  have mb4 := MF4.binds (ps := ["self", "other"]) fun _ _ _ _ _ _ us hl => match us, hl with | [_, _], _ => rfl
  have mb6 := MF6.binds (ps := ["self", "amounts"]) fun _ _ _ _ _ _ us hl => match us, hl with | [_, _], _ => rfl
  have mb7 := MF7.binds (ps := ["self", "amount", "other"]) fun _ _ _ _ _ _ us hl => match us, hl with | [_, _, _], _ => rfl
  have mb8 := MF8.binds (ps := ["self", "amount"]) fun _ _ _ _ _ _ us hl => match us, hl with | [_, _], _ => rfl
  have mb9 := MF9.binds (ps := ["self", "amount"]) fun _ _ _ _ _ _ us hl => match us, hl with | [_, _], _ => rfl
  have mb10 := MF10.binds (ps := ["self", "amount", "other"]) fun _ _ _ _ _ _ us hl => match us, hl with | [_, _, _], _ => rfl
  have mb11 := MF11.binds (ps := ["self", "amount"]) fun _ _ _ _ _ _ us hl => match us, hl with | [_, _], _ => rfl
  have mb13 := MF13.binds (ps := ["self", "amounts"]) fun _ _ _ _ _ _ us hl => match us, hl with | [_, _], _ => rfl
  have mb14 := MF14.binds (ps := ["self", "amounts"]) fun _ _ _ _ _ _ us hl => match us, hl with | [_, _], _ => rfl
  have mb15 := MF15.binds (ps := ["self", "amounts"]) fun _ _ _ _ _ _ us hl => match us, hl with | [_, _], _ => rfl
  have mb16 := MF16.binds (ps := ["self", "amounts"]) fun _ _ _ _ _ _ us hl => match us, hl with | [_, _], _ => rfl
  have mb17 := MF17.binds (ps := ["self", "amount"]) fun _ _ _ _ _ _ us hl => match us, hl with | [_, _], _ => rfl
  have mb18 := MF18.binds (ps := ["self", "amount", "other"]) fun _ _ _ _ _ _ us hl => match us, hl with | [_, _, _], _ => rfl
  have mb19 := MF19.binds (ps := ["self", "amounts"]) fun _ _ _ _ _ _ us hl => match us, hl with | [_, _], _ => rfl
  have sb0 := SF0.binds (ps := []) fun _ _ _ _ _ _ us hl => match us, hl with | [], _ => rfl
  have sb1 := SF1.binds (ps := ["size"]) fun _ _ _ _ _ _ us hl => match us, hl with | [_], _ => rfl
  have sb2 := SF2.binds (ps := []) fun _ _ _ _ _ _ us hl => match us, hl with | [], _ => rfl
  have pb0 := PF0.binds (ps := ["self"]) fun _ _ _ _ _ _ us hl => match us, hl with | [_], _ => rfl
  obtain rfl : f23 = fa := Value.ref.inj (Option.some.inj (g23.symm.trans hfa))
  refine ⟨e23, fun s v => ?_, fun base KB NB => ?_⟩
  · obtain ⟨_, _, _, _, _, _, _, _, _, rfl, _, _⟩ := F23.ex
    exact .of_eq rfl
  let Wh : Df P w K mg base 1 "is_whole" ["value"] (spWhole K) := ⟨f0, e0, ok_whole F0 T, g0, F0.kp, b0⟩
  let Ws : Df P w K mg base 2 "are_whole" ["value", "many"] (spWholes K) := ⟨f1, e1, ok_wholes F1 T Wh, g1, F1.kp, b1⟩
  let In : Df P w K mg base 2 "is_index" ["value", "many"] spIndex := ⟨f2, e2, ok_index F2 T Wh, g2, F2.kp, b2⟩
  let Pa : Df P w K mg base 2 "_is_part" ["value"] (spPart K) := ⟨f6, e6, ok_part F6 Wh, g6, F6.kp, b6⟩
  let Lw : Df P w K mg base 3 "_is_lowest" ["value"] (spLowest K) := ⟨f7, e7, ok_lowest F7 hg Ws, g7, F7.kp, b7⟩
  let Ao : Df P w K mg base 1 "_are_odds" ["right", "wrong"] spAreOdds := ⟨f8, e8, ok_areOdds F8 mo, g8, F8.kp, b8⟩
  let ScD : SclD P w K mg base C := ⟨Zk, mf0, me0, ok_init MF0 Zk, ⟨Y.mk_, mh0.at_, mh0.isf, Y.kc⟩, gC, mb0⟩
  let Ze : Dp1 P w K mg base C 1 "zero" (spZero C) := ⟨pp0, pf0, pe0, ok_zero PF0 Zk, ph0.pr, pb0⟩
  let Ia : Dm P w K mg base C 4 "is_amount" ["self", "value"] (spIsAmt K C) := ⟨mf2, me2, ok_isAmt MF2 Zk Wh Ws Lw, ⟨mh2.at_, mh2.isf, MF2.kp⟩, mb2⟩
  let Ir : Dm P w K mg base C 4 "is_amount" ["self", "value"] (spAmtR C) := ⟨mf2, me2, amtR_of Ia.G, ⟨mh2.at_, mh2.isf, MF2.kp⟩, mb2⟩
  let Iw : Dm P w K mg base C 4 "is_weight" ["self", "value"] (spIsWgt K C) := ⟨mf1, me1, ok_isWgt MF1 Zk T Pa Ao Ws Lw Ze, ⟨mh1.at_, mh1.isf, MF1.kp⟩, mb1⟩
  let Hs : Do1 P w K mg base C 5 "__contains__" ["self", "x"] (spHas K C) := ⟨mf3, me3, ok_has MF3 Zk Ia, ⟨mh3.at_, mh3.isf⟩, mb3⟩
  let Eq : Do1 P w K mg base C 1 "__eq__" ["self", "other"] (spEqM K C) := ⟨mf4, me4, ok_eqM MF4 Zk T Zt gC Y.kcc kn, ⟨mh4.at_, mh4.isf⟩, mb4⟩
  let Ti : Df P w K mg base 1 "_times" ["numbers"] (spTimes K) := ⟨f9, e9, ok_times F9, g9, F9.kp, b9⟩
  let Lp : Df P w K mg base 1 "_lowest" ["over", "under"] spLowP := ⟨f10, e10, ok_lowP F10 hg, g10, F10.kp, b10⟩
  let Ixs : Df P w K mg base 3 "are_indices" ["value", "many"] spIdxs := ⟨f3, e3, ok_idxs F3 T In, g3, F3.kp, b3⟩
  let Asc : Df P w K mg base 1 "is_ascending" ["values"] spAsc := ⟨f4, e4, ok_asc F4 T, g4, F4.kp, b4⟩
  let Ca : Dm P w K mg base C 5 "_check_all" ["self", "amounts"] (spChkAll C) := ⟨mf14, me14, ok_chkAll MF14 Zk T Ir, ⟨mh14.at_, mh14.isf, MF14.kp⟩, mb14⟩
  let Su : Dm P w K mg base C 2 "_sum" ["self", "amounts"] (spSum C) := ⟨mf16, me16, ok_sum MF16 Zk T ts Ti Lp, ⟨mh16.at_, mh16.isf, MF16.kp⟩, mb16⟩
  let Op : Dm P w K mg base C 1 "_opposite" ["self", "amount"] (spOpp C) := ⟨mf17, me17, ok_opp MF17 Zk T, ⟨mh17.at_, mh17.isf, MF17.kp⟩, mb17⟩
  let Bw : Dm P w K mg base C 1 "_below" ["self", "amount", "other"] (spBelow C) := ⟨mf18, me18, ok_below MF18 Zk, ⟨mh18.at_, mh18.isf, MF18.kp⟩, mb18⟩
  let Or : Dm P w K mg base C 2 "_order" ["self", "amounts"] (spOrder C) := ⟨mf19, me19, ok_order MF19 Zk T te Bw, ⟨mh19.at_, mh19.isf, MF19.kp⟩, mb19⟩
  let Ra : Dm P w K mg base C 6 "_ranks" ["self", "amounts"] (spRanks C) := ⟨mf15, me15, ok_ranks MF15 Zk T Ca Or, ⟨mh15.at_, mh15.isf, MF15.kp⟩, mb15⟩
  let Pl : Dm P w K mg base C 6 "plus_all" ["self", "amounts"] (spPlusAll C) := ⟨mf6, me6, ok_plusAll MF6 Zk Ca Su, ⟨mh6.at_, mh6.isf, MF6.kp⟩, mb6⟩
  let Pm : DmR P w K mg base C 7 "plus" (spPlus C) := ⟨mf5, ok_plus MF5 Zk Pl, ⟨mh5.at_, mh5.isf, MF5.kp⟩⟩
  let Gt : DmR P w K mg base C 7 "greatest" (spEnds C fun r q => ¬ amLt r q) := ⟨mf12, ok_greatest MF12 Zk Ra, ⟨mh12.at_, mh12.isf, MF12.kp⟩⟩
  let Mi : Dm P w K mg base C 6 "minus" ["self", "amount", "other"] (spMinus C) := ⟨mf7, me7, ok_minus MF7 Zk Ca Su Op, ⟨mh7.at_, mh7.isf, MF7.kp⟩, mb7⟩
  let Ne : Dm P w K mg base C 6 "negative" ["self", "amount"] (spNegM C) := ⟨mf8, me8, ok_negM MF8 Zk Ca Op, ⟨mh8.at_, mh8.isf, MF8.kp⟩, mb8⟩
  let Tw : Dm P w K mg base C 6 "twice" ["self", "amount"] (spTwice C) := ⟨mf9, me9, ok_twice MF9 Zk Ca Su, ⟨mh9.at_, mh9.isf, MF9.kp⟩, mb9⟩
  let Ls : Dm P w K mg base C 6 "is_less" ["self", "amount", "other"] (spIsLess C) := ⟨mf10, me10, ok_isLess MF10 Zk Ca Bw, ⟨mh10.at_, mh10.isf, MF10.kp⟩, mb10⟩
  let Sg : Dm P w K mg base C 6 "sign" ["self", "amount"] (spSignM C) := ⟨mf11, me11, ok_signM MF11 Zk Ca Bw Ze, ⟨mh11.at_, mh11.isf, MF11.kp⟩, mb11⟩
  let Rk : Dm P w K mg base C 6 "ranked" ["self", "amounts"] (spRanked C) := ⟨mf13, me13, ok_ranked MF13 Zk T Ca Or, ⟨mh13.at_, mh13.isf, MF13.kp⟩, mb13⟩
  let Ss : Sm P w K mg base C (.type "type") 3 "sums" [] (spNew C .sums) := ⟨sp0, sf0, se0, ok_sums SF0 ScD, sh0.sm, sb0⟩
  let Cs : Sm P w K mg base C (.type "type") 3 "classes" ["size"] (spClasses C) := ⟨sp1, sf1, se1, ok_classes SF1 ScD In ms, sh1.sm, sb1⟩
  let Os : Sm P w K mg base C (.type "type") 3 "odds" [] (spNew C .odds) := ⟨sp2, sf2, se2, ok_oddsM SF2 ScD, sh2.sm, sb2⟩
  let Dd : Dc P w K mg base := ⟨f12, e12, ok_pull F12 T, g12, F12.kp, b12⟩
  let Di : DfG P w K mg base 1 "_law_dice" ["_law_script", "_law_at"] (spDice K) := ⟨f11, e11, ok_dice F11 T, g11, F11.kp, b11⟩
  let Lo : DfG P w K mg base 1 "_law_lowest" ["_law_top", "_law_bottom"] spLowL := ⟨f13, e13, ok_lowL F13 T, g13, F13.kp, b13⟩
  let Lw2 : DfG P w K mg base 1 "_law_lowest" ["_law_top", "_law_bottom"] spLowW := ⟨f13, e13, ok_lowW F13 T, g13, F13.kp, b13⟩
  let Wq : DfG P w K mg base 2 "_law_weight" ["_law_dice_here", "_law_measure"] spWgtR := ⟨f14, e14, ok_wgtR F14 T Dd Lo, g14, F14.kp, b14⟩
  let Md : DfG P w K mg base 4 "_law_made" ["_law_measure"] (spMadeL C) := ⟨f15, e15, ok_madeL F15 gC rd Cs Ss Os, g15, F15.kp, b15⟩
  let Aq : DfG P w K mg base 2 "_law_amount" ["_law_dice_here", "_law_measure"] spAmtL := ⟨f16, e16, ok_amtL F16 T Dd Lo, g16, F16.kp, b16⟩
  let Cr : Df P w K mg base 5 "chance_of_rows" ["weights", "indices"] spChance := ⟨f5, e5, ok_chance F5 T Zk gC rd rl Os Iw Ixs Asc Ti Lp, g5, F5.kp, b5⟩
  let Th : DfG P w K mg base 8 "_law_threes_right" ["_law_meter", "_law_a", "_law_b", "_law_c"] (spThr C) := ⟨f17, e17, ok_thr F17 T Zk Pm Pl Mi Ne Tw Ls Sg Gt Rk Ze Hs, g17, F17.kp, b17⟩
  let Ld : DfG P w K mg base 7 "_law_loads_right" ["_law_meter", "_law_loads"] (spLds C) := ⟨f18, e18, ok_lds F18 T Zk Pl Mi Ls Sg Ze Hs, g18, F18.kp, b18⟩
  let Se : DfG P w K mg base 1 "_law_sets" ["_law_total"] spSets := ⟨f19, e19, ok_sets F19 T, g19, F19.kp, b19⟩
  let Lx : DfG P w K mg base 7 "_law_loss" ["_law_meter", "_law_loads", "_law_chosen"] (spLoss C) := ⟨f20, e20, ok_loss F20 T te Zk Pl, g20, F20.kp, b20⟩
  let Ch : DfG P w K mg base 8 "_law_chances_right" ["_law_loads"] spChs := ⟨f21, e21, ok_chs F21 T Zk gC rd Os Se Cr Lw2 Lx Ls, g21, F21.kp, b21⟩
  let Po : DfG P w K mg base 8 "_law_powers_right" ["_law_dice_here"] spPow := ⟨f22, e22, ok_pow F22 T Zk gC rd Dd Cs Ss Os Pm Pl Mi Sg Rk, g22, F22.kp, b22⟩
  exact ok_law F23 T Zk Y.hne Y.ho nf Dd Di Md Aq Wq Th Ld Ch Po Cr Eq
end
end Gl

open PySem PySem.W PyProof.Rows
set_option maxHeartbeats 0 in
theorem PySem.Challenge.cw_mostkept_k10_whole_one_ordered_group_holds : PySem.Challenge.rw_mostkept_k10_whole_one_ordered_group.Holds := by
  w_on; o_law; k_head; (case hw => w_witness2)
  k_fill
  refine Gl.walkG (l := PySem.Challenge.rw_mostkept_k10_whole_one_ordered_group) (n := 63) (k := 9) (x := "_law_script") (sp := Gl.spLaw) rfl (by decide) rfl ⟨rfl, by decide, by decide⟩ (fun w h Y => PySem.W.kIn_of Y) ?F (fun _ _ a ns hl _ hS => ⟨a, ns, rfl, hS, hl, fun _ => rfl⟩)
  case F =>
    intro w mg fa h KX G hmg
    refine' Gl.all_law _ ?Z KX G hmg
    case Z =>
      constructor
      · k_is
      · refine' ⟨_, Gl.Has.mk' ?a ?l ?c ?k⟩
        (case a => k_is); (case l => k_is); (case c => k_is); (case k => k_is)
      · refine' ⟨_, Gl.Has.mk' ?a ?l ?c ?k⟩
        (case a => k_is); (case l => k_is); (case c => k_is); (case k => k_is)
      · refine' ⟨_, Gl.Has.mk' ?a ?l ?c ?k⟩
        (case a => k_is); (case l => k_is); (case c => k_is); (case k => k_is)
      · refine' ⟨_, Gl.Has.mk' ?a ?l ?c ?k⟩
        (case a => k_is); (case l => k_is); (case c => k_is); (case k => k_is)
      · refine' ⟨_, Gl.Has.mk' ?a ?l ?c ?k⟩
        (case a => k_is); (case l => k_is); (case c => k_is); (case k => k_is)
      · refine' ⟨_, Gl.Has.mk' ?a ?l ?c ?k⟩
        (case a => k_is); (case l => k_is); (case c => k_is); (case k => k_is)
      · refine' ⟨_, Gl.Has.mk' ?a ?l ?c ?k⟩
        (case a => k_is); (case l => k_is); (case c => k_is); (case k => k_is)
      · refine' ⟨_, Gl.Has.mk' ?a ?l ?c ?k⟩
        (case a => k_is); (case l => k_is); (case c => k_is); (case k => k_is)
      · refine' ⟨_, Gl.Has.mk' ?a ?l ?c ?k⟩
        (case a => k_is); (case l => k_is); (case c => k_is); (case k => k_is)
      · refine' ⟨_, Gl.Has.mk' ?a ?l ?c ?k⟩
        (case a => k_is); (case l => k_is); (case c => k_is); (case k => k_is)
      · refine' ⟨_, Gl.Has.mk' ?a ?l ?c ?k⟩
        (case a => k_is); (case l => k_is); (case c => k_is); (case k => k_is)
      · refine' ⟨_, Gl.Has.mk' ?a ?l ?c ?k⟩
        (case a => k_is); (case l => k_is); (case c => k_is); (case k => k_is)
      · refine' ⟨_, Gl.Has.mk' ?a ?l ?c ?k⟩
        (case a => k_is); (case l => k_is); (case c => k_is); (case k => k_is)
      · refine' ⟨_, Gl.Has.mk' ?a ?l ?c ?k⟩
        (case a => k_is); (case l => k_is); (case c => k_is); (case k => k_is)
      · refine' ⟨_, Gl.Has.mk' ?a ?l ?c ?k⟩
        (case a => k_is); (case l => k_is); (case c => k_is); (case k => k_is)
      · refine' ⟨_, Gl.Has.mk' ?a ?l ?c ?k⟩
        (case a => k_is); (case l => k_is); (case c => k_is); (case k => k_is)
      · refine' ⟨_, Gl.Has.mk' ?a ?l ?c ?k⟩
        (case a => k_is); (case l => k_is); (case c => k_is); (case k => k_is)
      · refine' ⟨_, Gl.Has.mk' ?a ?l ?c ?k⟩
        (case a => k_is); (case l => k_is); (case c => k_is); (case k => k_is)
      · refine' ⟨_, Gl.Has.mk' ?a ?l ?c ?k⟩
        (case a => k_is); (case l => k_is); (case c => k_is); (case k => k_is)
      · refine' ⟨_, Gl.Has.mk' ?a ?l ?c ?k⟩
        (case a => k_is); (case l => k_is); (case c => k_is); (case k => k_is)
      · refine' ⟨_, Gl.Has.mk' ?a ?l ?c ?k⟩
        (case a => k_is); (case l => k_is); (case c => k_is); (case k => k_is)
      · refine' ⟨_, Gl.Has.mk' ?a ?l ?c ?k⟩
        (case a => k_is); (case l => k_is); (case c => k_is); (case k => k_is)
      · refine' ⟨_, Gl.Has.mk' ?a ?l ?c ?k⟩
        (case a => k_is); (case l => k_is); (case c => k_is); (case k => k_is)
      · refine' ⟨_, Gl.Has.mk' ?a ?l ?c ?k⟩
        (case a => k_is); (case l => k_is); (case c => k_is); (case k => k_is)
      · refine' ⟨_, Gl.HasM.mk' ?a ?i ?l ?c ?k⟩
        (case a => k_is); (case i => k_is); (case l => k_is); (case c => k_is); (case k => k_is)
      · refine' ⟨_, Gl.HasM.mk' ?a ?i ?l ?c ?k⟩
        (case a => k_is); (case i => k_is); (case l => k_is); (case c => k_is); (case k => k_is)
      · refine' ⟨_, Gl.HasM.mk' ?a ?i ?l ?c ?k⟩
        (case a => k_is); (case i => k_is); (case l => k_is); (case c => k_is); (case k => k_is)
      · refine' ⟨_, Gl.HasM.mk' ?a ?i ?l ?c ?k⟩
        (case a => k_is); (case i => k_is); (case l => k_is); (case c => k_is); (case k => k_is)
      · refine' ⟨_, Gl.HasM.mk' ?a ?i ?l ?c ?k⟩
        (case a => k_is); (case i => k_is); (case l => k_is); (case c => k_is); (case k => k_is)
      · refine' ⟨_, Gl.HasM.mk' ?a ?i ?l ?c ?k⟩
        (case a => k_is); (case i => k_is); (case l => k_is); (case c => k_is); (case k => k_is)
      · refine' ⟨_, Gl.HasM.mk' ?a ?i ?l ?c ?k⟩
        (case a => k_is); (case i => k_is); (case l => k_is); (case c => k_is); (case k => k_is)
      · refine' ⟨_, Gl.HasM.mk' ?a ?i ?l ?c ?k⟩
        (case a => k_is); (case i => k_is); (case l => k_is); (case c => k_is); (case k => k_is)
      · refine' ⟨_, Gl.HasM.mk' ?a ?i ?l ?c ?k⟩
        (case a => k_is); (case i => k_is); (case l => k_is); (case c => k_is); (case k => k_is)
      · refine' ⟨_, Gl.HasM.mk' ?a ?i ?l ?c ?k⟩
        (case a => k_is); (case i => k_is); (case l => k_is); (case c => k_is); (case k => k_is)
      · refine' ⟨_, Gl.HasM.mk' ?a ?i ?l ?c ?k⟩
        (case a => k_is); (case i => k_is); (case l => k_is); (case c => k_is); (case k => k_is)
      · refine' ⟨_, Gl.HasM.mk' ?a ?i ?l ?c ?k⟩
        (case a => k_is); (case i => k_is); (case l => k_is); (case c => k_is); (case k => k_is)
      · refine' ⟨_, Gl.HasM.mk' ?a ?i ?l ?c ?k⟩
        (case a => k_is); (case i => k_is); (case l => k_is); (case c => k_is); (case k => k_is)
      · refine' ⟨_, Gl.HasM.mk' ?a ?i ?l ?c ?k⟩
        (case a => k_is); (case i => k_is); (case l => k_is); (case c => k_is); (case k => k_is)
      · refine' ⟨_, Gl.HasM.mk' ?a ?i ?l ?c ?k⟩
        (case a => k_is); (case i => k_is); (case l => k_is); (case c => k_is); (case k => k_is)
      · refine' ⟨_, Gl.HasM.mk' ?a ?i ?l ?c ?k⟩
        (case a => k_is); (case i => k_is); (case l => k_is); (case c => k_is); (case k => k_is)
      · refine' ⟨_, Gl.HasM.mk' ?a ?i ?l ?c ?k⟩
        (case a => k_is); (case i => k_is); (case l => k_is); (case c => k_is); (case k => k_is)
      · refine' ⟨_, Gl.HasM.mk' ?a ?i ?l ?c ?k⟩
        (case a => k_is); (case i => k_is); (case l => k_is); (case c => k_is); (case k => k_is)
      · refine' ⟨_, Gl.HasM.mk' ?a ?i ?l ?c ?k⟩
        (case a => k_is); (case i => k_is); (case l => k_is); (case c => k_is); (case k => k_is)
      · refine' ⟨_, Gl.HasM.mk' ?a ?i ?l ?c ?k⟩
        (case a => k_is); (case i => k_is); (case l => k_is); (case c => k_is); (case k => k_is)
      · refine' ⟨_, _, Gl.HasS.mk' ?a ?r ?l ?c ?k⟩
        (case a => k_is); (case r => k_is); (case l => k_is); (case c => k_is); (case k => k_is)
      · refine' ⟨_, _, Gl.HasS.mk' ?a ?r ?l ?c ?k⟩
        (case a => k_is); (case r => k_is); (case l => k_is); (case c => k_is); (case k => k_is)
      · refine' ⟨_, _, Gl.HasS.mk' ?a ?r ?l ?c ?k⟩
        (case a => k_is); (case r => k_is); (case l => k_is); (case c => k_is); (case k => k_is)
      · refine' ⟨_, _, Gl.HasP.mk' ?a ?g ?t ?r ?l ?c ?k⟩
        (case a => k_is); (case g => k_is); (case t => k_is); (case r => k_is); (case l => k_is); (case c => k_is); (case k => k_is)
      · k_is
      · k_is
      · k_is
      · k_is
      · k_is
      · k_is
      · k_is
      · k_is
      · k_is
      · k_is
      · k_is
      · k_is
      · k_is
      · k_is
      · k_is
      · k_is
      · k_is
      · exact ⟨_, by k_is⟩
      · exact ⟨_, by k_is⟩
      · k_is
      · k_is
      · k_is
      · k_is
      · k_is
      · k_is
      · k_is
      · k_is
      · k_is
      · k_is
      · k_is
      · k_is
      · k_is
      · k_is
      · kit_is
      · kit_is
      · exact ⟨_, by k_is⟩
      · kit_is
      · kit_is
      · kit_is
      · kit_is
      · kit_is
      · kit_is
      · kit_is
      · kit_is
      · k_is
      · k_is
