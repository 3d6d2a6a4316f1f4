import PyProof.Rows.All
import Wide.All
import OpenK.AllK
import Wide.FinOn
import HandS.ForMost
import HandS.Wide
import HandS.Zip
import PyProof.ReprRoads
import HandS.IsInst
import HandS.Walk
import HandS.Strs
import HandS.Defaults
import PyProof.NeData
import PyProof.EqAt
import PyProof.Rows.SetFrom
import PyProof.WalksS
import HandS.RaiseMore
import PyProof.StrOps2
import HandS.Style
import PyProof.StrLawsRepr
import HandS.List
import HandS.Text
import HandS.TupMul
import HandS.TupAny
import PySem.Challenge.RW_mostkept_k01_names_columns_and_rows
set_option Elab.async false
set_option linter.all false
set_option maxRecDepth 100000
set_option maxHeartbeats 4000000
/-! Defs called while no repr is under way: the promise FnG of a def, and the rules that go with it. -/
namespace Gl
open PySem PySem.Spec PyProof.Rows L2

/-- there is room for k calls, and the stack holds no repr -/
structure RmG (k : Nat) (A : Around) : Prop where
  rm : Room k A
  gd : A.guards = some []
theorem RmG.mono {j k : Nat} {A : Around} (r : RmG k A) (h : j ≤ k) : RmG j A := ⟨r.rm.mono h, r.gd⟩
theorem RmG.deeper {k : Nat} {A : Around} (r : RmG (k + 1) A) (v : Env) : RmG k (A.deeper v) := ⟨r.rm.deeper v, r.gd⟩

structure FnG (P : Program) (w : World) (K : PySem.W.Frag)
    (mg : Str → Option Value) (base : Heap) (CX : CXT) (k : Nat)
    (f : Addr) (fd : FuncData) (ps : List Str) (sp : Sp) : Prop where
  len : ∀ vs H Q E, sp vs H Q E → vs.length = ps.length
  go : ∀ (A : Around) (o : List Env) (s : Shared) (H : Hp)
    (ar : Args) (us : List Value) (vs : List V) (Q : VK) (E : XK),
    RmG k A → Env0 P w K mg base A o s H → BindsTo s fd ar (ps.zip us) →
    Vals vs us → sp vs H Q E →
    codeAny (model P w) A (.call (.ref f) ar) (CR CX o P w H s Q E) s

section
variable {P : Program} {w : World} {K : PySem.W.Frag} {mg : Str → Option Value} {base : Heap} {CX : CXT} {k : Nat} {f : Addr} {fd : FuncData} {ps : List Str} {sp : Sp}
theorem FnG.mono {j : Nat} (F : FnG P w K mg base CX j f fd ps sp) (h : j ≤ k) : FnG P w K mg base CX k f fd ps sp :=
  ⟨F.len, fun A o s H ar us vs Q E r => F.go A o s H ar us vs Q E (r.mono h)⟩
/-- a promise of the layer's own -/
theorem FnG.of (F : FnOk P w K mg base CX k f fd ps sp) : FnG P w K mg base CX k f fd ps sp :=
  ⟨F.len, fun A o s H ar us vs Q E r => F.run A o s H ar us vs Q E r.rm⟩
theorem FnG.imp {sp' : Sp} (F : FnG P w K mg base CX k f fd ps sp) (h : ∀ vs H Q E, sp' vs H Q E → sp vs H Q E) : FnG P w K mg base CX k f fd ps sp' :=
  ⟨fun vs H Q E q => F.len vs H Q E (h _ _ _ _ q), fun A o s H ar us vs Q E r e b v q => F.go A o s H ar us vs Q E r e b v (h _ _ _ _ q)⟩
end

section
variable {X : Cx} {CX : CXT} {k : Nat} {f : Addr} {fd : FuncData} {ps : List Str} {sp : Sp} {dvs : List V} {ds : List Value} {E : XK} {x : Str} {p pos : Pos} {e : Expr} {es : List Expr} {t : TA}
theorem runG {pins : List (Addr × Obj)} {σ : L2.St} {H : Hp} {s : Shared} {Q : VK} {us : List Value} {vs : List V}
    (F : FnG X.prog X.w X.K X.mg X.base CX k f fd ps sp) (r : RmG k X.A)
    (hb : Binds X.K fd ps ds) (hd : Vals dvs ds) (hx : Passes CX X E) (I : Inv X pins σ H s)
    (hv : Vals vs us) (q : sp (vs ++ dvs) H Q E) : wpAny (model X.prog X.w) X.A (call (.ref f) us) (EP X pins σ Q) X.xe s := by
  have hv2 : Vals (vs ++ dvs) (us ++ ds) := hv.append hd
  have n1 : (us ++ ds).length = ps.length := hv2.length.symm.trans (F.len _ _ _ _ q)
  have c := F.go X.A X.stack s H ⟨us, []⟩ (us ++ ds) (vs ++ dvs) Q E r I.env0 (hb s us I.kIn n1) hv2 q
  apply wpAny_call
  apply codeAny_mono c
  intro y s2 z
  match y, z with
  | .error a, z => exact hx pins σ H s a s2 I z
  | .ok (.ret u), z => exact I.after z
  | .ok .next, z => exact z.elim
  | .ok .brk, z => exact z.elim
  | .ok .cont, z => exact z.elim

/-- f(e, ..), a def of the text -/
theorem pe_callG (F : FnG X.prog X.w X.K X.mg X.base CX k f fd ps sp) (r : RmG k X.A)
    (hg : Gl X x) (hm : X.mg x = some (.ref f)) (hk : PySem.W.keepIn X.K (.ref f) = true)
    (hb : Binds X.K fd ps ds) (hd : Vals dvs ds) (hx : Passes CX X E) (ha : PA X (e :: es) t)
    (h1 : (x == ("__debug__" : Str)) = false := by decide)
    (h2 : starEach (e :: es) X.env = (false, eval e X.env) :: starEach es X.env := by rfl)
    (h3 : (backTo pos (starEach es X.env)).any (·.1) = false := by rfl) :
    PE X (.Call (.Name x p) (e :: es) [] pos) (tCall sp dvs E t) := .mk fun pins s σ H Q I q => by
  apply wpAny_Call_Name_kw
  apply ld_glob I hg hm _ h1
  apply PySem.W.callWith_K (h₀ := X.base) I.ok.mod.kin hk _ h2 h3
  apply thn (ha.run pos pins s σ H _ I q)
  rintro us s2 ⟨vs, H2, I2, v2, q2⟩
  exact ⟨I2.kIn, runG F r hb hd hx I2 v2 q2⟩
/-- f() -/
theorem pe_callG0 (F : FnG X.prog X.w X.K X.mg X.base CX k f fd ps sp) (r : RmG k X.A)
    (hg : Gl X x) (hm : X.mg x = some (.ref f)) (hk : PySem.W.keepIn X.K (.ref f) = true)
    (hb : Binds X.K fd ps ds) (hd : Vals dvs ds) (hx : Passes CX X E)
    (h1 : (x == ("__debug__" : Str)) = false := by decide) :
    PE X (.Call (.Name x p) [] [] pos) (tCall sp dvs E tNil) := .mk fun pins s σ H Q I q => by
  apply wpAny_Call_Name_kw
  apply ld_glob I hg hm _ h1
  exact PySem.W.callWith_K0 I.kIn hk (runG (us := []) F r hb hd hx I .nil q)
end

/-! ### a def's body -/
section
variable {P : Program} {w : World} {K : PySem.W.Frag} {mg : Str → Option Value} {base : Heap}
theorem okG_of {CX : CXT} {k : Nat} {f : Addr} {nm qual : Str} {pr : Arguments} {body : List Stmt} {sc : Scope} {dV kV doc pm cdv ct oc : Value} {an od : Option Addr}
    {sl : Array (Option Value)} {N ps : List Str} {sp : Sp}
    (lk : K.lookup f = some ⟨oc, od, .func (PySem.W.fnOf nm qual pr body sc dV kV doc pm an cdv ct), sl⟩)
    (hc : PySem.W.codeIn K cdv qual = true) (S : FnScope N ps sc)
    (len : ∀ vs H Q E, sp vs H Q E → vs.length = ps.length)
    (bd : ∀ (A : Around) (o : List Env) (s : Shared) (H : Hp) (vs : List V) (Q : VK) (E : XK),
      RmG k (A.deeper (envOfC qual sc s.heap.objs.size f cdv)) → sp vs H Q E →
      ∃ t, PSs (cxOf CX P w K mg base N qual sc f cdv A o s H E) body t ∧ t { nx := fun _ H' => Q .non H', rt := Q } (start N vs) H) :
    FnG P w K mg base CX (k + 1) f (PySem.W.fnOf nm qual pr body sc dV kV doc pm an cdv ct) ps sp where
  len := len
  go := by
    intro A o s H ar us vs Q E r e0 hb hv q
    have n1 := len _ _ _ _ q
    have up : ∀ b u, base.get? b = some u → s.heap.get? b = some u := fun b u z => (e0.bs b u z).1
    have KX : K.In s.heap := e0.mod.kin.keeps up
    have par : ∀ y ∈ ps.zip us, sc.names.lookup y.1 = some .local ∨
        (sc.names.lookup y.1 = some .cell ∧ ((cellsFrom (s.heap.objs.size + 1) sc.names []).lookup y.1).isSome = true) := by
      rintro ⟨a, v⟩ hy
      have := S.par a (List.of_mem_zip hy).1
      exact this.imp id fun z => ⟨z, PySem.W.cellsFrom_some _ _ _ (.inl z)⟩
    apply codeAny_call_function r.rm.depth (KX _ _ lk) rfl S.co S.gen rfl (PySem.W.codeRec_of KX hc)
    apply hb
    apply wpAny_newFunctionEnv_cells S.kind par
    rintro env rfl s1 ic
    refine ⟨(e0.mod.nolimit.keeps up).keeps ic.toInCall.keep, codeAny_func ?_⟩
    obtain ⟨t, d, z⟩ := bd A o s H vs Q E (r.deeper _) q
    have I := inv_start (CX := CX) (E := E) S r.rm.hd e0 n1 hv ic
    refine wpAny_mono (d.run [] s1 (start N vs) H _ I z) ?_ fun _ _ z => z
    rintro fl s2 y
    match fl, y with
    | .ret u, ⟨v, σ', H', J, rv, q⟩ => exact ⟨v, H', J.os, J.bare, J.base, J.hok, rv, q⟩
    | .next, ⟨σ', H', J, q⟩ => exact ⟨.non, H', J.os, J.bare, J.base, J.hok, rfl, q⟩
    | .brk, ⟨_, _, _, q⟩ => exact q.elim
    | .cont, ⟨_, _, _, q⟩ => exact q.elim
theorem okG {x qual : Str} {st : Stmt} {f : Addr} {fd : FuncData} {N ps : List Str} {k : Nat} {sp : Sp}
    (F : Fun K x qual st f fd) (S : FnScope N ps (defScope st)) (len : ∀ vs H Q E, sp vs H Q E → vs.length = ps.length)
    (bd : ∀ (cdv : Value) (A : Around) (o : List Env) (s : Shared) (H : Hp) (vs : List V) (Q : VK) (E : XK),
      RmG k (A.deeper (envOfC qual (defScope st) s.heap.objs.size f cdv)) → sp vs H Q E →
      ∃ t, PSs (cxOf CX0 P w K mg base N qual (defScope st) f cdv A o s H E).nox (defBody st) t ∧
        t { nx := fun _ H' => Q .non H', rt := Q } (start N vs) H) : FnG P w K mg base CX0 (k + 1) f fd ps sp := by
  obtain ⟨_, _, _, _, _, _, _, _, _, rfl, lk, hc⟩ := F.ex
  apply okG_of lk hc S len
  intro A o s H vs Q E r q
  obtain ⟨t, d, z⟩ := bd _ A o s H vs Q E r q
  exact ⟨t, d.nox, z⟩
end
end Gl

/-! repr of data as a whole. -/
namespace Gl
open PySem PySem.Spec PyProof.Rows L2

mutual
theorem Dp.noDict {K : PySem.W.Frag} {H : Hp} : ∀ {v : V} {d : PyData}, Dp K H v d → d.hasDict = false
  | _, _, .non => by simp only [PyData.hasDict]
  | _, _, .bl b => by simp only [PyData.hasDict]
  | _, _, .int i => by simp only [PyData.hasDict]
  | _, _, .str x => by simp only [PyData.hasDict]
  | _, _, .lst _ h => by simp only [PyData.hasDict]; exact DpAll.noDict h
  | _, _, .tup _ h => by simp only [PyData.hasDict]; exact DpAll.noDict h
theorem DpAll.noDict {K : PySem.W.Frag} {H : Hp} : ∀ {v : List V} {d : List PyData}, DpAll K H v d → PyData.hasDictAll d = false
  | _, _, .nil => by simp only [PyData.hasDictAll]
  | _, _, .cons a b => by simp only [PyData.hasDictAll]; rw [Dp.noDict a, DpAll.noDict b]; rfl
end
/-- repr(x), x data of any shape without dicts -/
def rRepr (K : PySem.W.Frag) : List V → Hp → VK → Prop := fun xs H Q => ∃ x d, xs = [x] ∧ Dp K H x d ∧ d.showable = true ∧ d.depth ≤ 100 ∧ d.shown.length ≤ sizeLine ∧ Q (.str d.shown) H
section
variable {X : Cx}
theorem repr_core {pins : List (Addr × Obj)} {s : Shared} {σ : L2.St} {H : Hp} {Q : VK} {k : Nat} (r : RmG k X.A) (I : Inv X pins σ H s) : ∀ {x : V} {d : PyData} {u : Value}, Dp X.K H x d → RelV x u → d.showable = true → d.depth ≤ 100 → d.shown.length ≤ sizeLine → Q (.str d.shown) H →
    wpAny (model X.prog X.w) X.A (call (.builtin "repr") [u]) (EP X pins σ Q) X.xe s := by
  intro x d u hd ru hs hp hz q
  have nd := Dp.noDict hd
  obtain ⟨as, R⟩ := Dp.reads I d x u hd ru
  have room := r.rm.un
  have refs : ∀ a, u = .ref a → wpAny (model X.prog X.w) X.A (call (.builtin "repr") [u]) (EP X pins σ Q) X.xe s := by
    rintro a rfl
    refine repr_of_reads' R hs (PyData.noDict_hsm nd) r.gd (by omega) (fun _ _ z => z) (fun h' t tk hk => ?_) hz
    exact ⟨.str _, H, I.kept hk, ⟨_, rfl⟩, q⟩
  cases hd with
  | non =>
    cases ru
    exact PySem.P.repr_of_none ⟨.str _, H, I.tok _, ⟨_, rfl⟩, q⟩
  | bl b =>
    cases ru
    exact PySem.P.repr_of_bool ⟨.str _, H, I.tok _, ⟨_, rfl⟩, q⟩
  | int i =>
    obtain ⟨t, rfl⟩ := ru
    have hs' : i.natAbs.log2 < 1920 := of_decide_eq_true (by simpa only [PyData.showable] using hs)
    exact PySem.P.repr_of_int hs' ⟨.str _, H, I.tok _, ⟨_, rfl⟩, q⟩
  | str y =>
    obtain ⟨t, rfl⟩ := ru
    exact PySem.P.repr_of_str ⟨.str _, H, I.tok _, ⟨_, rfl⟩, q⟩ hz
  | lst _ _ =>
    cases ru
    exact refs _ rfl
  | tup _ _ =>
    cases ru
    exact refs _ rfl
theorem call_reprD {k : Nat} (r : RmG k X.A) : CallR X (.builtin "repr") (rRepr X.K) := by
  intro pins s σ H xs us Q I hv h
  obtain ⟨x, d, rfl, hd, hs, hp, hz, q⟩ := h
  obtain ⟨u, rfl, ru⟩ := vals1 hv
  exact repr_core r I hd ru hs hp hz q
/-- a ** n of written numbers -/
def CPw (i j : Int) : Prop := 0 ≤ j ∧ (Builtin.Int.intBits i : Int) * j ≤ 2 ^ 27
theorem op_powW : OpR X (binaryOp .Pow) (rI CPw fun i j => .int (i ^ j.toNat)) := opI fun _ _ _ _ _ _ _ hc q => pow_int hc.1 hc.2 q
end

/-! ### a bound of a shown text -/
mutual
def wt : PyData → Nat
  | .none => 4
  | .bool _ => 5
  | .int _ => 1930
  | .str x => (reprText x).length
  | .list xs => wtAll xs + 2
  | .tuple xs => wtAll xs + 3
  | .dict kvs => (PyData.dict kvs).shown.length
def wtAll : List PyData → Nat
  | [] => 0
  | x :: xs => wt x + 2 + wtAll xs
end
theorem textFrom_le : ∀ (ts : List Str) (k : Nat) (acc : Str), (textFrom k acc ts).length ≤ acc.length + piled ts
  | [], k, acc => by show acc.length ≤ _; omega
  | t :: ts, k, acc => by
    have h := textFrom_le ts (k + 1) (acc ++ (if k > 0 then ", " else "" : String) ++ t)
    have e : (acc ++ (if k > 0 then ", " else "" : String) ++ t).length ≤ acc.length + 2 + t.length := by
      rw [strLen_append, strLen_append]
      split
      · show _ + 2 + _ ≤ _; omega
      · show _ + 0 + _ ≤ _; omega
    rw [piled_cons]
    show (textFrom (k + 1) _ ts).length ≤ _
    omega
theorem join_le : ∀ ts : List Str, (Str.join ", " ts).length ≤ piled ts
  | [] => Nat.zero_le _
  | t :: ts => by
    have h := join_length_add (t :: ts) (by simp)
    omega
theorem listText_le (ts : List Str) : (listText ts).length ≤ piled ts + 2 := by
  unfold listText
  rw [strLen_append]
  have h := textFrom_le ts 0 "["
  have e1 : (("[" : String) : Str).length = 1 := rfl
  have e2 : (("]" : String) : Str).length = 1 := rfl
  omega
theorem tupleText_le (ts : List Str) : (tupleText ts).length ≤ piled ts + 3 := by
  unfold tupleText
  rw [strLen_append, strLen_append]
  have h := join_le ts
  have e1 : (("(" : Str)).length = 1 := rfl
  split
  · have e2 : ((",)" : String) : Str).length = 2 := rfl
    omega
  · have e2 : ((")" : String) : Str).length = 1 := rfl
    omega
mutual
theorem shown_le : ∀ d : PyData, d.showable = true → d.shown.length ≤ wt d
  | .none, _ => by simp only [PyData.shown, wt]; decide
  | .bool b, _ => by simp only [PyData.shown, wt]; cases b <;> decide
  | .int i, h => by
    simp only [PyData.shown, wt]
    have h' : i.natAbs.log2 < 1920 := of_decide_eq_true (by simpa only [PyData.showable] using h)
    have e := int_text_length_le (k := 1920) (by decide) h'
    have e2 : (Str.ofString (toString i)).length = (toString i).length := PySem.ofString_length _
    show (Str.ofString (toString i)).length ≤ _
    omega
  | .str x, _ => by simp only [PyData.shown, wt]; exact Nat.le_refl _
  | .list xs, h => by
    simp only [PyData.shown, wt]
    have h1 := listText_le (PyData.shownAll xs)
    have h2 := shownAll_le xs (by simpa only [PyData.showable] using h)
    omega
  | .tuple xs, h => by
    simp only [PyData.shown, wt]
    have h1 := tupleText_le (PyData.shownAll xs)
    have h2 := shownAll_le xs (by simpa only [PyData.showable] using h)
    omega
  | .dict kvs, _ => by simp only [wt]; exact Nat.le_refl _
theorem shownAll_le : ∀ xs : List PyData, PyData.showableAll xs = true → piled (PyData.shownAll xs) ≤ wtAll xs
  | [], _ => by simp only [PyData.shownAll, wtAll]; exact Nat.le_refl _
  | x :: xs, h => by
    have h' : (x.showable && PyData.showableAll xs) = true := by simpa only [PyData.showableAll] using h
    have h2 := Bool.and_eq_true_iff.mp h'
    simp only [PyData.shownAll, wtAll]
    rw [piled_cons]
    have a := shown_le x h2.1
    have b := shownAll_le xs h2.2
    omega
end
end Gl

/-! The end of a law over FnG. -/
namespace Gl
open PySem PySem.Spec PyProof.Rows L2
open PySem.W (OpenLaw)

theorem rmCaller {k : Nat} (h : Room k callerA) : RmG k callerA := ⟨h, rfl⟩

section
variable {P : Program} {w : World} {K : PySem.W.Frag} {mg mb : Str → Option Value} {k : Nat} {fa a : Addr} {fd : FuncData} {x : Str} {sp : Sp} {s1 : Shared} {vs : List Value} {ns : List Int}
/-- what stands at the law's entry -/
structure Entry (P : Program) (w : World) (K : PySem.W.Frag) (mg mb : Str → Option Value) (k : Nat) (fa a : Addr) (fd : FuncData) (x : Str) (sp : Sp) (s1 : Shared) (vs : List Value) (ns : List Int) : Prop where
  kin : K.In s1.heap
  ng : s1.heap.Ns mainGlobals mg
  nb : s1.heap.Ns builtinsNs mb
  bb : ∀ y : Str, y ≠ "__name__" → mb y = bootBuiltins y
  lim : s1.heap.NoLimit
  gn : s1.gens = #[]
  at_ : s1.heap.get? a = some { cls := .type "list", data := .seq vs.toArray }
  ia : IntsAre vs ns
  sz : ns.length ≤ sizeLine
  rm : Room k callerA
  F : ∀ base : Heap, K.In base → base.Ns mainGlobals mg → FnG P w K mg base CX0 k fa fd [x] sp
  bind : ∀ (s : Shared) (u : Value), BindsTo s fd ⟨[u], []⟩ [(x, u)]
  sp_ : ∀ H : Hp, Only H → SqL K H a (ns.map V.int) → sp [.ref a] H (fun v _ => v = .bl true) fun _ _ _ => False
abbrev Fin (s1 : Shared) (r : Result) (s' : Shared) : Prop := r = .ok (.ret (.bool true)) ∧ OldK s1.heap s'.heap ∧ s'.os = s1.os ∧ AllBare s'.gens

theorem Entry.from (N : Entry P w K mg mb k fa a fd x sp s1 vs ns) (H : Hp) (only : Only H) (sq : SqL K H a (ns.map V.int)) (ok : HOk P w H s1.heap)
    (just : ∀ b, H b ≠ none → b = a) (own : H a ≠ none → K.lookup a = none) :
    codeAny (model P w) callerA (.call (.ref fa) ⟨[.ref a], []⟩) (Fin s1) s1 := by
  have none_of : ∀ b, (H b ≠ none → False) → H b = none := fun b z => by
    rcases h : H b with _ | u
    · rfl
    · exact (z (by rw [h]; exact fun e => nomatch e)).elim
  have dict_free : ∀ {b : Addr} {o : Obj} {es : Array DictEntry} {ep : Nat}, s1.heap.get? b = some o → o.data = .dict es ep → H b = none := by
    intro b o es ep e d
    apply none_of
    intro z
    obtain rfl := just b z
    rw [N.at_] at e
    obtain rfl := Option.some.inj e
    exact nomatch d
  have keepNs : ∀ {b : Addr} {m : Str → Option Value}, s1.heap.Ns b m → (hidT s1.heap H).Ns b m := by
    rintro b m ⟨o, es, ep, e, d, r⟩
    exact ⟨o, es, ep, hidT_get e (dict_free e d), d, r⟩
  have kb : K.In (hidT s1.heap H) := by
    intro b o e
    apply hidT_get (N.kin b o e)
    apply none_of
    intro z
    obtain rfl := just b z
    rw [own z] at e
    exact nomatch e
  have lim : (hidT s1.heap H).NoLimit := by
    obtain ⟨m, h1, h2⟩ := N.lim
    exact ⟨m, keepNs h1, h2⟩
  have md : Mod K mg (hidT s1.heap H) := ⟨kb, keepNs N.ng, ⟨mb, keepNs N.nb, N.bb⟩, lim⟩
  have e0 : Env0 P w K mg (hidT s1.heap H) callerA [] s1 H :=
    { frames := rfl, mod := md, bs := fun _ _ e => of_hidT e, bsz := Nat.le_of_eq (hidT_size _ _), funs := trivial,
      frf := (fun b z => absurd (show b ∈ ([] : List Addr) from z) (by simp)), hok := ok, bare := .of_eq N.gn }
  have c := (N.F _ kb (keepNs N.ng)).go callerA [] s1 H ⟨[.ref a], []⟩ [.ref a] [.ref a] _ _ (rmCaller N.rm) e0 (N.bind s1 (.ref a)) (.cons rfl .nil) (N.sp_ H only sq)
  apply codeAny_mono c
  intro r s2 z
  match r, z with
  | .error e, z => exact z.elim
  | .ok .next, z => exact z.elim
  | .ok .brk, z => exact z.elim
  | .ok .cont, z => exact z.elim
  | .ok (.ret u), ⟨v, H2, os, br, un, ok2, rv, q⟩ =>
    obtain rfl : v = .bl true := q
    obtain rfl : u = Value.bool true := rv
    refine ⟨rfl, OldK.of_keep ?_, os, br⟩
    intro b o e
    rcases h : H b with _ | u
    · exact un.keep b o e h (fun z => nomatch z) (fun z => nomatch z)
    · rcases only b with z | ⟨ob, xs, z⟩
      · rw [h] at z
        exact nomatch z
      · have y1 := (ok b _ z).1
        have y2 := (ok2 b _ (un.frzs b ob _ z)).1
        obtain rfl := Option.some.inj (e.symm.trans y1)
        exact y2

theorem Entry.run (N : Entry P w K mg mb k fa a fd x sp s1 vs ns) : codeAny (model P w) callerA (.call (.ref fa) ⟨[.ref a], []⟩) (Fin s1) s1 := by
  have rv := vals_ints N.ia
  rcases hk : K.lookup a with _ | o
  · let ob : Obj := { cls := .type "list", data := .seq vs.toArray }
    let H : Hp := upd (fun _ => none) a (.frz ob (.lst (ns.map V.int)))
    have ha : H a = some (.frz ob (.lst (ns.map V.int))) := upd_same
    have hn : ∀ b, b ≠ a → H b = none := fun b z => upd_ne z
    have just : ∀ b, H b ≠ none → b = a := fun b z => Decidable.byContradiction fun y => z (hn b y)
    refine N.from H ?_ (.inl (.inr ⟨ob, ha⟩)) ?_ just fun _ => hk
    · intro b
      by_cases z : b = a
      · subst z
        exact .inr ⟨ob, ns.map V.int, ha⟩
      · exact .inl (hn b z)
    · intro b o z
      obtain rfl := just b (by rw [z]; exact fun e => nomatch e)
      rw [ha] at z
      obtain rfl := Option.some.inj z
      exact ⟨N.at_, by rw [List.length_map]; exact N.sz, vs, _, rv, N.at_⟩
  · have e := N.kin a o hk
    rw [N.at_] at e
    obtain rfl := Option.some.inj e
    refine N.from (fun _ => none) (fun _ => .inl rfl) (.inr ⟨_, vs.toArray, _, hk, rfl, rfl, rfl, ?_, by simpa using rv⟩) (fun b u z => nomatch (show (none : Option HO) = some u from z)) (fun b z => (z rfl).elim) fun z => (z rfl).elim
    rw [List.size_toArray, N.ia.length]
    exact N.sz
end

theorem walkG {l : OpenLaw} {n k : Nat} {q : Program} {lo : List Str} {XP : (Str → Option Value) → Heap → Prop} {YP : World → Heap → Prop} {d : DefRec} {K : Params → PySem.W.Frag} {sp : PySem.W.Frag → Sp} {x : Str}
    (hn : l.most = some n) (n2 : n ≤ sizeLine) (df : d.params.defaults = []) (rm : Room k callerA)
    (kY : ∀ (w : World) (h : Heap), YP w h → (K w.params).In h)
    (F : ∀ (w : World) (mg : Str → Option Value) (fa : Addr) (h : Heap), (K w.params).In h → h.Ns mainGlobals mg → mg d.name = some (.ref fa) →
      ∃ fd : FuncData, (∀ (s : Shared) (u : Value), BindsTo s fd ⟨[u], []⟩ [(x, u)]) ∧
        ∀ base : Heap, (K w.params).In base → base.Ns mainGlobals mg → FnG l.prog w (K w.params) mg base CX0 k fa fd [x] (sp (K w.params)))
    (hs : ∀ (K : PySem.W.Frag) (H : Hp) (a : Addr) (ns : List Int), ns.length ≤ n → Only H → SqL K H a (ns.map V.int) → sp K [.ref a] H (fun v _ => v = .bl true) fun _ _ _ => False) :
    PySem.W.WalkO q lo XP YP l.row.toRowW d [] (fun f vs => PySem.call f vs) := by
  apply Att.attach_call hn df
  intro w s0 s1 mg mb fa o pm cd doc a vs ns G Y ho hd hc hm ha hi hl hg
  obtain ⟨fd, hb, hF⟩ := F w mg fa _ (kY w _ Y) G.T.g hm
  exact Entry.run { kin := kY w _ Y, ng := G.T.g, nb := G.T.b, bb := G.T.builtins, lim := G.T.nolimit, gn := hg, at_ := ha, ia := hi, sz := Nat.le_trans hl n2, rm := rm, F := hF, bind := hb, sp_ := fun H h1 h2 => hs _ H a ns hl h1 h2 }
end Gl

namespace Gl
open PySem PySem.Spec PyProof.Rows L2
def topS (i : Nat) : Stmt := PySem.Challenge.pw_mostkept_k01_names_columns_and_rows.main.body.getD i (.Pass ⟨0, 0, 0, 0⟩)
/-- what the dice are: a list of three ints -/
def Dice (H : Hp) (a : Addr) : Prop := ∃ x y z : Int, H a = some (.lst [.int x, .int y, .int z])
/-- all that stands stays -/
def Ex (H H' : Hp) : Prop := ∀ b o, H b = some o → H' b = some o
/-- all that stands stays, but the dice at a -/
structure Gro (a : Addr) (H H' : Hp) : Prop where
  st : ∀ b o, b ≠ a → H b = some o → H' b = some o
  di : Dice H' a
theorem Ex.refl (H : Hp) : Ex H H := fun _ _ e => e
theorem Ex.trans {H H1 H2 : Hp} (a : Ex H H1) (b : Ex H1 H2) : Ex H H2 := fun _ _ e => b _ _ (a _ _ e)
theorem Ex.new {H : Hp} {p : Addr} {o : HO} (h : H p = none) : Ex H (upd H p o) := fun b u e => by rw [upd_ne (ne_of_none e h)]; exact e
/-- an object that was not there may change -/
theorem Ex.mut {H H' : Hp} {p : Addr} {o : HO} (e : Ex H H') (h : H p = none) : Ex H (upd H' p o) := fun b u q => by rw [upd_ne (ne_of_none q h)]; exact e b u q
theorem Ex.sqL {K : PySem.W.Frag} {H H' : Hp} {a : Addr} {xs : List V} (e : Ex H H') (h : SqL K H a xs) : SqL K H' a xs := by
  rcases h with (h | ⟨o, h⟩) | h
  · exact .inl (.inl (e a _ h))
  · exact .inl (.inr ⟨o, e a _ h⟩)
  · exact .inr h
theorem Ex.rd {H H' : Hp} {a : Addr} {u : HO} (e : Ex H H') (h : Rd H a u) : Rd H' a u := by
  rcases h with h | ⟨o, h⟩
  · exact .inl (e a _ h)
  · exact .inr ⟨o, e a _ h⟩
theorem Ex.dice {H H' : Hp} {a : Addr} (e : Ex H H') (h : Dice H a) : Dice H' a := let ⟨x, y, z, q⟩ := h; ⟨x, y, z, e a _ q⟩
theorem Ex.back {H H' : Hp} {p : Addr} (e : Ex H H') (h : H' p = none) : H p = none := by
  rcases q : H p with _ | o
  · rfl
  · rw [e p o q] at h; exact nomatch h
theorem Gro.refl {H : Hp} {a : Addr} (d : Dice H a) : Gro a H H := ⟨fun _ _ _ e => e, d⟩
theorem Gro.trans {a : Addr} {H H1 H2 : Hp} (x : Gro a H H1) (y : Gro a H1 H2) : Gro a H H2 := ⟨fun b o n e => y.st b o n (x.st b o n e), y.di⟩
theorem Gro.ex {a : Addr} {H H1 H2 : Hp} (x : Gro a H H1) (y : Ex H1 H2) : Gro a H H2 := ⟨fun b o n e => y b o (x.st b o n e), y.dice x.di⟩
theorem Gro.of {a : Addr} {H H1 : Hp} (y : Ex H H1) (d : Dice H a) : Gro a H H1 := (Gro.refl d).ex y
theorem Gro.mut {a : Addr} {H H' : Hp} {p : Addr} {o : HO} (x : Gro a H H') (h : H p = none) (n : p ≠ a) : Gro a H (upd H' p o) :=
  ⟨fun b u nb e => by rw [upd_ne (ne_of_none e h)]; exact x.st b u nb e, let ⟨i, j, k, q⟩ := x.di; ⟨i, j, k, by rw [upd_ne n.symm]; exact q⟩⟩
theorem Gro.tup {a p : Addr} {H H' : Hp} {xs : List V} (x : Gro a H H') (d : Dice H a) (h : H p = some (.tup xs)) : H' p = some (.tup xs) :=
  x.st p _ (fun e => by obtain ⟨i, j, k, q⟩ := d; rw [e, q] at h; exact nomatch h) h
theorem Gro.rd {a p : Addr} {H H' : Hp} {xs : List V} (x : Gro a H H') (d : Dice H a) (h : Rd H p (.tup xs)) : Rd H' p (.tup xs) := by
  obtain ⟨i, j, k, q⟩ := d
  rcases h with h | ⟨o, h⟩
  · exact .inl (x.st p _ (fun e => by rw [e, q] at h; exact nomatch h) h)
  · exact .inr ⟨o, x.st p _ (fun e => by rw [e, q] at h; exact nomatch h) h⟩
theorem Gro.frz {a p : Addr} {H H' : Hp} {o : Obj} {u : HO} (x : Gro a H H') (d : Dice H a) (h : H p = some (.frz o u)) : H' p = some (.frz o u) := by
  obtain ⟨i, j, k, q⟩ := d
  exact x.st p _ (fun e => by rw [e, q] at h; exact nomatch h) h
theorem Gro.sqL {K : PySem.W.Frag} {a p : Addr} {H H' : Hp} {xs : List V} (x : Gro a H H') (n : p ≠ a) (h : SqL K H p xs) : SqL K H' p xs := by
  rcases h with (h | ⟨o, h⟩) | h
  · exact .inl (.inl (x.st p _ n h))
  · exact .inl (.inr ⟨o, x.st p _ n h⟩)
  · exact .inr h
theorem Gro.back {a p : Addr} {H H' : Hp} (x : Gro a H H') (d : Dice H a) (h : H' p = none) : H p = none ∧ p ≠ a := by
  have n : p ≠ a := fun e => by obtain ⟨i, j, k, q⟩ := x.di; rw [← e, h] at q; exact nomatch q
  refine ⟨?_, n⟩
  rcases q : H p with _ | o
  · rfl
  · rw [x.st p o n q] at h; exact nomatch h
theorem Dice.ne {H : Hp} {a p : Addr} (d : Dice H a) (h : H p = none) : p ≠ a := fun e => by obtain ⟨i, j, k, q⟩ := d; rw [← e, h] at q; exact nomatch q
/-- names that the module leaves to the built-ins -/
structure Blt (mg : Str → Option Value) : Prop where
  len : mg "len" = none
  int : mg "int" = none
  abs : mg "abs" = none
  max : mg "max" = none
  min : mg "min" = none
  range : mg "range" = none
  tuple : mg "tuple" = none
  list : mg "list" = none
  repr : mg "repr" = none
  zip : mg "zip" = none
  isinstance : mg "isinstance" = none
  all : mg "all" = none
  str : mg "str" = none
  bool : mg "bool" = none
end Gl

namespace Gl
open PySem PySem.Spec PyProof.Rows L2
abbrev sDice : Stmt := topS 18
abbrev sPull : Stmt := topS 19
abbrev sPick : Stmt := topS 20
theorem scDice : FnScope ["_law_script", "_law_at", "_law_cell", "_law_great", "_law_mixed"] ["_law_script", "_law_at"] (defScope sDice) := ⟨rfl, rfl, rfl, by decide +kernel, rfl, by decide +kernel, by decide +kernel⟩
theorem scPull : FnScope ["_law_dice_here", "_law_total", "_law_found", "_law_one", "_law_two"] ["_law_dice_here", "_law_total"] (defScope sPull) := ⟨rfl, rfl, rfl, by decide +kernel, rfl, by decide +kernel, by decide +kernel⟩
theorem scPick : FnScope ["_law_dice_here", "_law_items"] ["_law_dice_here", "_law_items"] (defScope sPick) := ⟨rfl, rfl, rfl, by decide +kernel, rfl, by decide +kernel, by decide +kernel⟩
section
variable {P : Program} {w : World} {K : PySem.W.Frag} {mg : Str → Option Value} {base : Heap}
def spDice (K : PySem.W.Frag) : Sp := fun vs H Q _ => ∃ (a : Addr) (ns : List Int) (at_ : Nat), vs = [.ref a, .int at_] ∧ SqL K H a (ns.map V.int) ∧ ns.length ≤ 63 ∧
  ∀ H' p, Ex H H' → H p = none → Dice H' p → Q (.ref p) H'
theorem cmul_l {i j : Int} (h1 : -(2 ^ 64) < i) (h2 : i < 2 ^ 64) : CMul i j := .inl ⟨h1, h2⟩
theorem cpw60 : CPw 10 60 := ⟨by decide, by decide +kernel⟩
theorem cpw12 : CPw ((10 : Int) ^ (60 : Int).toNat) 12 := ⟨by decide, by decide +kernel⟩
theorem cpw18 : CPw 10 18 := ⟨by decide, by decide +kernel⟩
theorem pos720 : (0 : Int) < ((10 : Int) ^ (60 : Int).toNat) ^ (12 : Int).toNat := by decide +kernel
theorem ok_dice {f : Addr} {fd : FuncData} {k : Nat} (F : Fun K "_law_dice" "_law_dice" sDice f fd) (T : Blt mg) : FnG P w K mg base CX0 (k + 1) f fd ["_law_script", "_law_at"] (spDice K) := by
  refine okG F scDice (fun vs H Q E h => ?_) (fun cdv A outer s H vs Q E hr h => ?_)
  · obtain ⟨a, ns, i, rfl, _⟩ := h
    rfl
  · obtain ⟨a, ns, i, rfl, hS, hl, q⟩ := h
    have nd := scDice.nd
    refine ⟨_, pss_cons (ps_set (i := 2) nd rfl (.inl rfl) (pe_op op_add (pe_op op_mul pe_int (pv 1)) pe_int))
      (pss_cons (ps_if (pt_cmpR op_lt (pv 1) (pe_callB call_len_seq (by rfl) T.len PySem.boot_len (pa_cons (pv 0) pa_nil)) (nomark _)) (pss_one (ps_set (i := 2) nd rfl (.inl rfl) (pe_ix ix_list (pv 0) (pv 1) (fun _ _ => rfl)))) pss_nil)
      (pss_cons (ps_set (i := 3) nd rfl (.inl rfl) (pe_op op_mod (pe_callTy call_int1 (by rfl) T.int (by decide +kernel) (pa_cons (pe_callB call_abs (by rfl) T.abs (by decide +kernel) (pa_cons (pv 2) pa_nil)) pa_nil)) (pe_op op_powW (pe_op op_powW pe_int pe_int) pe_int)))
      (pss_cons (ps_set (i := 4) nd rfl (.inl rfl) (pe_op op_add (pe_op op_add (pe_op op_add (pe_op op_mul (pe_op op_mod (pe_callTy call_int1 (by rfl) T.int (by decide +kernel) (pa_cons (pv 3) pa_nil)) pe_int) pe_int) (pe_op op_mul pe_int (pv 1))) (pe_op op_mul pe_int (pe_callTy call_int1 (by rfl) T.int (by decide +kernel) (pa_cons (pe_cmpR op_lt (pv 2) pe_int (nomark _)) pa_nil)))) pe_int))
      (pss_one (ps_ret (pe_lst (pa_cons (pe_callB (call_max2 rfl) (by rfl) T.max (by decide +kernel) (pa_cons pe_int (pa_cons (pe_op op_sub (pv 3) (pe_op op_powW pe_int pe_int)) pa_nil))) (pa_cons (pe_op op_mod (pe_callTy call_int1 (by rfl) T.int (by decide +kernel) (pa_cons (pv 4) pa_nil)) pe_int) (pa_cons pe_int pa_nil))))))))), ?_⟩
    -- cell = 13 * at + 6
    refine ⟨_, rfl, 13, i, rfl, rfl, cmul_l (by decide) (by decide), _, _, rfl, rfl, ?_⟩
    -- if at < len(script): cell = script[at]
    refine ⟨_, rfl, .ref a, rfl, a, _, rfl, .inl hS, i, _, rfl, rfl, _, rfl, ?_⟩
    refine ite2 (fun e => ?_) (fun e => ?_)
    have hi : i < ns.length := by
      have := of_decide_eq_true e
      rw [List.length_map] at this
      omega
    refine ⟨_, rfl, _, rfl, a, _, i, .int ns[i], rfl, rfl, hS, atI_nat (j := i) (by rw [List.getElem?_map, List.getElem?_eq_getElem hi]; rfl), ?_⟩
    generalize ns[i] = c
    revert c
    rotate_left
    generalize 13 * (i : Int) + 6 = c
    revert c
    all_goals
      intro c
      refine ⟨_, rfl, _, rfl, .inl ⟨_, rfl, 10, 60, rfl, rfl, cpw60, _, 12, rfl, rfl, cpw12, _, _, rfl, rfl, pos720, ?_⟩⟩
      refine ⟨_, rfl, .inl ⟨_, rfl, _, _, rfl, rfl, (show (0 : Int) < 2147483497 by decide), _, _, rfl, rfl, .inr ⟨by decide, by decide⟩, _, rfl, _, _, rfl, rfl, cmul_l (by decide) (by decide), _, _, rfl, rfl, _, rfl, _, _, rfl, rfl, .inr ⟨_, rfl, _, _, rfl, rfl, cmul_l (by decide) (by decide), _, _, rfl, rfl, _, _, rfl, rfl, ?_⟩⟩⟩
      refine ⟨_, rfl, 10, 18, rfl, rfl, cpw18, _, _, rfl, rfl, _, _, rfl, _, rfl, .inl ⟨_, rfl, _, _, rfl, rfl, (show (0 : Int) < 2147483489 by decide), by show 3 ≤ sizeLine; decide, fun p np => ?_⟩⟩
      exact q _ p (Ex.new np) np ⟨_, _, _, upd_same⟩
def spPull : Sp := fun vs H Q _ => ∃ (a : Addr) (n : Int), vs = [.ref a, .int n] ∧ 0 < n ∧ n.natAbs < 2 ^ 200 ∧ Dice H a ∧
  ∀ (v : Int) H', 0 ≤ v → v < n → Gro a H H' → Q (.int v) H'
theorem ok_pull {f : Addr} {fd : FuncData} {k : Nat} (F : Fun K "_law_pull" "_law_pull" sPull f fd) (T : Blt mg) : FnG P w K mg base CX0 (k + 1) f fd ["_law_dice_here", "_law_total"] spPull := by
  refine okG F scPull (fun vs H Q E h => ?_) (fun cdv A outer s H vs Q E hr h => ?_)
  · obtain ⟨a, n, rfl, _⟩ := h
    rfl
  · obtain ⟨a, n, rfl, hn, hn2, ⟨x, y, z, hd⟩, q⟩ := h
    have nd := scPull.nd
    have hu := hu_of hr.rm
    refine ⟨_, pss_cons (ps_if (pt_cmpR op_gt (pe_ix ix_list (pv 0) pe_int (fun _ _ => rfl)) pe_int (nomark _))
        (pss_cons (ps_set (i := 2) nd rfl (.inl rfl) (pe_op op_mod (pe_callTy call_int1 (by rfl) T.int (by decide +kernel) (pa_cons (pe_ix ix_list (pv 0) pe_int (fun _ _ => rfl)) pa_nil)) (pv 1)))
        (pss_cons (ps_asg (pe_op op_fdivW (pe_ix ix_list (pv 0) pe_int (fun _ _ => rfl)) (pv 1)) (pg_sub (pv 0) pe_int set_list))
        (pss_one (ps_ret (pv 2))))) pss_nil)
      (pss_cons (ps_asg (pe_op op_add (pe_ix ix_list (pv 0) pe_int (fun _ _ => rfl)) pe_int) (pg_sub (pv 0) pe_int set_list))
      (pss_cons (ps_set (i := 3) nd rfl (.inl rfl) (pe_op op_mod (pe_callTy call_int1 (by rfl) T.int (by decide +kernel) (pa_cons (pe_op op_add (pe_ix ix_list (pv 0) pe_int (fun _ _ => rfl)) (pe_op op_mul pe_int (pe_ix ix_list (pv 0) pe_int (fun _ _ => rfl)))) pa_nil)) pe_int))
      (pss_cons (ps_set (i := 4) nd rfl (.inl rfl) (pe_op op_mul (pe_op op_mod (pe_callTy call_int1 (by rfl) T.int (by decide +kernel) (pa_cons (pe_op op_mul (pv 3) (pv 3)) pa_nil)) pe_int) (pv 3)))
      (pss_one (ps_ret (pe_op op_mod (pe_callTy call_int1 (by rfl) T.int (by decide +kernel) (pa_cons (pe_op op_fdiv (pe_op op_mod (pe_callTy call_int1 (by rfl) T.int (by decide +kernel) (pa_cons (pe_op op_add (pv 4) (pe_op op_mul pe_int (pe_ix ix_list (pv 0) pe_int (fun _ _ => rfl)))) pa_nil)) pe_int) pe_int) pa_nil)) (pv 1))))))), ?_⟩
    have at0 : atI [V.int x, .int y, .int z] 0 = some (.int x) := rfl
    have hl : SqL K H a [.int x, .int y, .int z] := .inl (.inl hd)
    have hdi : ∀ H', H' a = some (.lst [.int x, .int y, .int z]) → SqL K H' a [.int x, .int y, .int z] := fun _ h => .inl (.inl h)
    have grow : ∀ x' y' z' : Int, Gro a H (upd H a (.lst [.int x', .int y', .int z'])) := fun x' y' z' => ⟨fun b o n e => by rw [upd_ne n]; exact e, x', y', z', upd_same⟩
    refine ⟨_, rfl, a, _, 0, _, rfl, rfl, hl, rfl, _, _, rfl, rfl, _, rfl, ite2 (fun e => ?_) (fun e => ?_)⟩
    · refine ⟨_, rfl, a, _, 0, _, rfl, rfl, hl, rfl, .inl ⟨_, rfl, _, rfl, x, n, rfl, rfl, hn, ?_⟩⟩
      refine ⟨_, rfl, a, _, 0, _, rfl, rfl, hl, rfl, _, rfl, x, n, rfl, rfl, wide_div hn hn2 (by decide) (by decide), ?_⟩
      refine ⟨_, rfl, a, _, 0, 0, rfl, rfl, hd, rfl, ?_⟩
      exact ⟨_, rfl, q (x % n) _ (Int.emod_nonneg _ (by omega)) (Int.emod_lt_of_pos _ hn) (grow _ _ _)⟩
    · refine ⟨_, rfl, a, _, 2, _, rfl, rfl, hl, rfl, z, 1, rfl, rfl, ?_⟩
      refine ⟨_, rfl, a, _, 2, 2, rfl, rfl, hd, rfl, ?_⟩
      have hl2 : SqL K (upd H a (.lst [.int x, .int y, .int (z + 1)])) a [.int x, .int y, .int (z + 1)] := .inl (.inl upd_same)
      refine ⟨_, rfl, a, _, 1, _, rfl, rfl, hl2, rfl, _, rfl, a, _, 2, _, rfl, rfl, hl2, rfl, _, _, rfl, rfl, cmul_l (by decide) (by decide), _, _, rfl, rfl, .inl ⟨_, rfl, _, _, rfl, rfl, (show (0 : Int) < 2305843009213693951 by decide), ?_⟩⟩
      have b1 : ∀ u : Int, 0 ≤ u % 2305843009213693951 ∧ u % 2305843009213693951 < 2305843009213693951 := fun u => ⟨Int.emod_nonneg _ (by decide), Int.emod_lt_of_pos _ (by decide)⟩
      have b2 : ∀ u : Int, 0 ≤ u % 2305843009213693921 ∧ u % 2305843009213693921 < 2305843009213693921 := fun u => ⟨Int.emod_nonneg _ (by decide), Int.emod_lt_of_pos _ (by decide)⟩
      have c1 : ∀ u v : Int, CMul (u % 2305843009213693951) v := fun u v => cmul_l (by have := b1 u; omega) (by have := b1 u; omega)
      have c2 : ∀ u v : Int, CMul (u % 2305843009213693921) v := fun u v => cmul_l (by have := b2 u; omega) (by have := b2 u; omega)
      refine ⟨_, rfl, _, rfl, _, _, rfl, rfl, c1 _ _, .inl ⟨_, rfl, _, _, rfl, rfl, (show (0 : Int) < 2305843009213693921 by decide), _, rfl, _, _, rfl, rfl, c2 _ _, ?_⟩⟩
      refine ⟨_, rfl, _, rfl, a, _, 2, _, rfl, rfl, hl2, rfl, _, _, rfl, rfl, cmul_l (by decide) (by decide), _, _, rfl, rfl, .inl ⟨_, rfl, _, _, rfl, rfl, (show (0 : Int) < 2305843009213693907 by decide), _, _, rfl, rfl, ⟨by decide, by decide⟩, .inl ⟨_, rfl, _, rfl, _, _, rfl, rfl, hn, ?_⟩⟩⟩
      exact q _ _ (Int.emod_nonneg _ (by omega)) (Int.emod_lt_of_pos _ hn) (grow _ _ _)
end
end Gl

namespace Gl
open PySem PySem.Spec PyProof.Rows L2
/-- a tuple that carries no dict of its own: known to the object -/
def TupF (H : Hp) (p : Addr) (xs : List V) : Prop := ∃ o : Obj, o.dict = none ∧ H p = some (.frz o (.tup xs))
theorem TupF.rd {H : Hp} {p : Addr} {xs : List V} (h : TupF H p xs) : Rd H p (.tup xs) := let ⟨o, _, e⟩ := h; .inr ⟨o, e⟩
theorem Ex.tupF {H H' : Hp} {p : Addr} {xs : List V} (e : Ex H H') (h : TupF H p xs) : TupF H' p xs := let ⟨o, d, q⟩ := h; ⟨o, d, e _ _ q⟩
theorem Gro.tupF {a p : Addr} {H H' : Hp} {xs : List V} (x : Gro a H H') (d : Dice H a) (h : TupF H p xs) : TupF H' p xs := let ⟨o, n, q⟩ := h; ⟨o, n, x.frz d q⟩
theorem tupF_new {H : Hp} {p : Addr} {xs : List V} {o : Obj} (d : o.dict = none) : TupF (upd H p (.frz o (.tup xs))) p xs := ⟨o, d, upd_same⟩
section
variable {X : Cx}
/-- tuple(a list): new, without a dict -/
def rTupF (K : PySem.W.Frag) : List V → Hp → VK → Prop := fun xs H Q => ∃ p ys, xs = [.ref p] ∧ SqL K H p ys ∧ ∀ l o, H l = none → o.dict = none → Q (.ref l) (upd H l (.frz o (.tup ys)))
theorem call_tupleF : CallR X (.type "tuple") (rTupF X.K) := by
  rintro pins s σ H xs us Q I rv ⟨p, ys, rfl, hq, q⟩
  obtain ⟨u, rfl, ru⟩ := vals1 rv
  obtain rfl : u = Value.ref p := ru
  obtain ⟨its, ri, pl, hz⟩ := I.list hq
  have n1 := ri.length
  apply call_tuple_list pl.isList _ (by simp only [List.size_toArray]; omega)
  intro h' kp
  have J : Inv X pins σ H { s with heap := h' } := I.kept (t' := s.toks) kp
  let o : Obj := { cls := .type "tuple", data := .seq its.toArray }
  have g : (h'.push o).get? h'.objs.size = some o := Heap.get?_push_size _ rfl
  have ok : ObjOk X.prog X.w (upd H h'.objs.size (.frz o (.tup ys))) (h'.push o) h'.objs.size (.frz o (.tup ys)) :=
    ⟨g, hz, its, ri, o, g, rfl, _, rfl⟩
  exact ⟨.ref h'.objs.size, _, J.laid (t' := s.toks) (fun _ _ e => Heap.get?_push_of_some _ e) (Nat.le_refl _) ok, rfl, q _ o (J.hok.fresh (Nat.le_refl _)) rfl⟩
variable {es : List Expr} {pos : Pos} {t : TA}
/-- (a, b, ..): new, without a dict -/
def tTupF (t : TA) : TE := fun σ H Q => t σ H fun xs H1 => xs.length ≤ sizeLine ∧ ∀ p o, H1 p = none → o.dict = none → Q (.ref p) (upd H1 p (.frz o (.tup xs)))
theorem pe_tupF {n} (h : PA X es t) : PE X (.Tuple es n pos) (tTupF t) := .mk fun pins s σ H Q I hq => by
  apply wpAny_Tuple_spliced
  apply thn (h.run pos pins s σ H _ I hq)
  rintro us s1 ⟨xs, H1, J, r, z, q⟩
  refine ⟨by rw [← r.length]; exact z, ?_⟩
  let o : Obj := { cls := .type "tuple", data := .seq us.toArray }
  have g : (s1.heap.push o).get? s1.heap.objs.size = some o := Heap.get?_push_size _ rfl
  have ok : ObjOk X.prog X.w (upd H1 s1.heap.objs.size (.frz o (.tup xs))) (s1.heap.push o) s1.heap.objs.size (.frz o (.tup xs)) :=
    ⟨g, z, us, r, o, g, rfl, _, rfl⟩
  exact ⟨.ref s1.heap.objs.size, _, J.laid (t' := s1.toks) (fun _ _ e => Heap.get?_push_of_some _ e) (Nat.le_refl _) ok, rfl, q _ o (J.hok.fresh (Nat.le_refl _)) rfl⟩
/-- t.m(e, ..), t a tuple without a dict -/
def tBMT (r : V → List V → Hp → VK → Prop) (to : TE) (t : TA) : TE := fun σ H Q => to σ H fun x H1 => (∃ p xs, x = .ref p ∧ TupF H1 p xs) ∧ t σ H1 fun ys H2 => r x ys H2 Q
theorem pe_bmT {o e : Expr} {name : Str} {apos cpos : Pos} {id : String} {to : TE} {r : V → List V → Hp → VK → Prop} (sl : Slot "tuple" name id) (ty : typeOf (.builtin id) = pure (.type "method_descriptor")) (hm : MtR X id r) (ho : PE X o to) (ha : PA X (e :: es) t)
    (h1 : attributeBase o name X.env (eval o X.env) = eval o X.env := by rfl)
    (h2 : ((backTo cpos (starEach (e :: es) X.env)).all (fun x => !x.1) && (backToKw cpos (keywordEach [] X.env)).all (fun x => x.1.isSome)
        && decide ((e :: es).length + ([] : List Keyword).length + (if ([] : List Keyword).isEmpty then 0 else 1) < 30)) = true := by rfl)
    (h3 : (apos.endLine == cpos.line) = true := by rfl) (h4 : starEach (e :: es) X.env = (false, eval e X.env) :: starEach es X.env := by rfl)
    (h5 : (backTo cpos (starEach es X.env)).any (·.1) = false := by rfl) :
    PE X (.Call (.Attribute o name apos) (e :: es) [] cpos) (tBMT r to t) := .mk fun pins s σ H Q I h => by
  apply wpAny_Call_method_late h1 h2 h3 rfl
  apply thn (ho.run pins s σ H _ I h)
  rintro v s1 ⟨x, H1, J, rx, ⟨p, xs, rfl, ob, hd, hp⟩, q⟩
  obtain rfl : v = Value.ref p := rx
  obtain ⟨g, _, its, ri, o2, g2, c2, _⟩ := J.hok p _ hp
  obtain rfl := Option.some.inj (g.symm.trans g2)
  refine ⟨"tuple", id, PySem.F.plainAttrs_tuple, sl, ty, ⟨ob, g, c2⟩, ?_, ?_⟩
  · rintro a z
    obtain rfl := Value.ref.inj z
    exact ⟨ob, g, hd⟩
  · have A := ha.run cpos pins s1 σ H1 _ J q
    rw [h4] at A ⊢
    have h6 : (backTo cpos ((false, eval e X.env) :: starEach es X.env)).any (·.1) = false := (Bool.false_or _).trans h5
    apply Calls.callWith_builtin h6
    apply Calls.evalArgs_plain
    exact thn A fun us s2 ⟨vs, H2, J2, r2, q2⟩ => hm pins s2 σ H2 _ vs _ us Q J2 (show RelV (V.ref p) (Value.ref p) from rfl) r2 q2
end
end Gl

namespace Gl
open PySem PySem.Spec PyProof.Rows L2
abbrev sColumns : Stmt := topS 21
theorem scColumns : FnScope ["_law_dice_here", "_law_total", "_law_signs", "_law_found", "_law_at", "_law_word", "_law_turn"] ["_law_dice_here", "_law_total"] (defScope sColumns) := ⟨rfl, rfl, rfl, by decide +kernel, rfl, by decide +kernel, by decide +kernel⟩
/-- a small letter -/
def Small (x : Nat) : Prop := 97 ≤ x ∧ x ≤ 122
def Words (cs : List Str) : Prop := ∀ (i : Nat) (c : Str), cs[i]? = some c → ∃ (d : Nat) (r : List Nat), c.cps.toList = (97 + d) :: r ∧ (d = 2 * i ∨ d = 2 * i + 1) ∧ r.length ≤ 2 ∧ ∀ x ∈ r, Small x
abbrev abc : Str := "abcdefghijklmnopqrstuvwxyz"
theorem abc_at : ∀ i : Nat, i < 26 → abc.cps.toList[i]? = some (97 + i) := by decide +kernel
theorem abc_len : abc.length = 26 := by decide +kernel
theorem abc_mem {x : Nat} : x ∈ abc.cps.toList ↔ Small x := by
  have h : abc.cps.toList = (List.range 26).map (97 + ·) := by decide +kernel
  rw [h]
  unfold Small
  constructor
  · intro q
    obtain ⟨i, hi, e⟩ := List.mem_map.mp q
    have := List.mem_range.mp hi
    omega
  · rintro ⟨h1, h2⟩
    exact List.mem_map.mpr ⟨x - 97, List.mem_range.mpr (by omega), by omega⟩
theorem atI_abc {i : Int} (h0 : 0 ≤ i) (h : i < 26) : atI abc.cps.toList i = some (97 + i.toNat) := by
  obtain ⟨n, rfl⟩ : ∃ n : Nat, i = n := ⟨i.toNat, by omega⟩
  exact atI_nat (abc_at n (by omega))
section
variable {P : Program} {w : World} {K : PySem.W.Frag} {mg : Str → Option Value} {base : Heap}
def spPick : Sp := fun vs H Q _ => ∃ (a p : Addr) (xs : List V), vs = [.ref a, .ref p] ∧ H p = some (.lst xs) ∧ p ≠ a ∧ xs ≠ [] ∧ xs.length ≤ 1000 ∧ Dice H a ∧
  ∀ (v : V) H', v ∈ xs → Gro a H H' → Q v H'
/-- the dice's defs -/
structure Dc (P : Program) (w : World) (K : PySem.W.Frag) (mg : Str → Option Value) (base : Heap) where
  f : Addr
  fd : FuncData
  G : FnG P w K mg base CX0 1 f fd ["_law_dice_here", "_law_total"] spPull
  g : mg "_law_pull" = some (.ref f)
  kp : PySem.W.keepIn K (.ref f) = true
  b : Binds K fd ["_law_dice_here", "_law_total"] []
theorem ok_pick {f : Addr} {fd : FuncData} (F : Fun K "_law_pick" "_law_pick" sPick f fd) (T : Blt mg) (D : Dc P w K mg base) : FnG P w K mg base CX0 2 f fd ["_law_dice_here", "_law_items"] spPick := by
  refine okG F scPick (fun vs H Q E h => ?_) (fun cdv A outer s H vs Q E hr h => ?_)
  · obtain ⟨a, n, xs, rfl, _⟩ := h
    rfl
  · obtain ⟨a, p, xs, rfl, hp, pa, hx, hl, hd, q⟩ := h
    have nd := scPick.nd
    refine ⟨_, pss_one (ps_ret (pe_ix ix_list (pv 1) (pe_callG D.G hr (by rfl) D.g D.kp D.b .nil pass0 (pa_cons (pv 0) (pa_cons (pe_callB call_len_seq (by rfl) T.len PySem.boot_len (pa_cons (pv 1) pa_nil)) pa_nil))) (fun _ _ => rfl))), ?_⟩
    have hl0 : 0 < xs.length := List.length_pos_iff.mpr hx
    refine ⟨_, rfl, _, rfl, _, rfl, p, xs, rfl, .inl (.inl (.inl hp)), a, _, rfl, by omega, Nat.lt_of_le_of_lt (show ((xs.length : Int)).natAbs ≤ 1000 by omega) (by decide), hd, fun v H' h0 h1 gr => ?_⟩
    obtain ⟨m, rfl⟩ : ∃ m : Nat, v = m := ⟨v.toNat, by omega⟩
    have hi : m < xs.length := by omega
    exact ⟨p, xs, m, xs[m], rfl, rfl, .inl (.inl (gr.st p _ pa hp)), atI_nat (List.getElem?_eq_getElem hi), q _ _ (List.getElem_mem hi) gr⟩

def spColumns : Sp := fun vs H Q _ => ∃ (a : Addr) (n : Nat), vs = [.ref a, .int n] ∧ n ≤ 12 ∧ Dice H a ∧
  ∀ (cs : List Str) p H', Words cs → cs.length = n → Gro a H H' → H p = none → TupF H' p (cs.map V.str) → Q (.ref p) H'
theorem ok_columns {f : Addr} {fd : FuncData} (F : Fun K "_law_columns" "_law_columns" sColumns f fd) (T : Blt mg) (D : Dc P w K mg base) : FnG P w K mg base CX0 2 f fd ["_law_dice_here", "_law_total"] spColumns := by
  refine okG F scColumns (fun vs H Q E h => ?_) (fun cdv A outer s H vs Q E hr h => ?_)
  · obtain ⟨a, n, rfl, _⟩ := h
    rfl
  · obtain ⟨a, n, rfl, hn, hd, q⟩ := h
    have nd := scColumns.nd
    refine ⟨_, pss_cons (ps_par (i := 2) (j := 3) rfl nd rfl rfl (by decide) rfl rfl (pa_cons pe_str (pa_cons (pe_lst pa_nil) pa_nil)) (by rfl))
      (pss_cons (ps_for PassesOwn.never rfl (pi_range1 rfl T.range (pa_cons (pv 1) pa_nil)) (pg_name (i := 4) nd rfl (.inl rfl))
        (pss_cons (ps_set (i := 5) nd rfl (.inl rfl) (pe_ix ix_str (pv 2) (pe_op op_add (pe_op op_mul pe_int (pv 4)) (pe_callG D.G hr (by rfl) D.g D.kp D.b .nil pass0 (pa_cons (pv 0) (pa_cons pe_int pa_nil)))) (fun _ _ => rfl)))
        (pss_cons (ps_for PassesOwn.never rfl (pi_range1 rfl T.range (pa_cons (pe_ix ix_list (pe_lst (pa_cons pe_int (pa_cons pe_int (pa_cons pe_int (pa_cons pe_int pa_nil))))) (pe_callG D.G hr (by rfl) D.g D.kp D.b .nil pass0 (pa_cons (pv 0) (pa_cons pe_int pa_nil))) (fun _ _ => rfl)) pa_nil)) (pg_name (i := 6) nd rfl (.inl rfl))
          (pss_one (ps_set (i := 5) nd rfl (.inl rfl) (pe_op op_add_str (pv 5) (pe_ix ix_str (pv 2) (pe_callG D.G hr (by rfl) D.g D.kp D.b .nil pass0 (pa_cons (pv 0) (pa_cons pe_int pa_nil))) (fun _ _ => rfl))))))
        (pss_one (ps_expr (pe_bm PySem.F.plainAttrs_list PySem.F.slot_list_append PySem.F.type_list_append mt_append (pv 3) (pa_cons (pv 5) pa_nil)))))))
      (pss_one (ps_ret (pe_callTy call_tupleF (by rfl) T.tuple (by decide +kernel) (pa_cons (pv 3) pa_nil))))), ?_⟩
    -- signs, found = 'abc..', []
    refine ⟨Nat.zero_le _, fun o no => ⟨_, _, rfl, ?_⟩⟩
    have oa : o ≠ a := hd.ne no
    -- for at in range(total)
    refine ⟨_, rfl, n, rfl, by omega, by omega, ?_⟩
    refine for_range (n := n) (fun i σ H' => ∃ (cs : List Str) (y4 y5 y6 : Option V), σ = [some (.ref a), some (.int n), some (.str abc), some (.ref o), y4, y5, y6] ∧ cs.length = i ∧ Words cs ∧ Gro a H H' ∧ H' o = some (.lst (cs.map V.str)))
      ⟨[], none, none, none, rfl, rfl, (fun i c e => nomatch e), (Gro.of (Ex.new no) hd), upd_same⟩ (fun i σ H1 hi hW => ?_) (fun σ H1 hW => ?_)
    · obtain ⟨cs, y4, y5, y6, rfl, hc, wd, gr, eo⟩ := hW
      -- word = signs[2 * at + pull(dice, 2)]
      refine ⟨_, rfl, _, rfl, 2, _, rfl, rfl, cmul_l (by decide) (by decide), _, rfl, a, 2, rfl, by decide, by decide, gr.di, fun v H2 v0 v1 g2 => ?_⟩
      refine ⟨_, _, rfl, rfl, abc, _, _, rfl, rfl, by rw [abc_len]; decide, atI_abc (i := 2 * (0 + (i : Int)) + v) (by omega) (by omega), ?_⟩
      have gr2 : Gro a H H2 := gr.trans g2
      have eo2 : H2 o = some (.lst (cs.map V.str)) := g2.st o _ oa eo
      obtain ⟨u, rfl⟩ : ∃ u : Nat, v = u := ⟨v.toNat, by omega⟩
      have hu2 : (2 * (0 + (i : Int)) + (u : Int)).toNat = 2 * i + u := by omega
      rw [hu2]
      -- for turn in range([0, 0, 1, 2][pull(dice, 4)])
      refine ⟨by show 4 ≤ sizeLine; decide, fun l nl => ?_⟩
      have la : l ≠ a := gr2.di.ne nl
      have g3 : Gro a H2 (upd H2 l (.lst [.int 0, .int 0, .int 1, .int 2])) := Gro.of (Ex.new nl) gr2.di
      refine ⟨_, rfl, a, 4, rfl, by decide, by decide, g3.di, fun v H3 w0 w1 g4 => ?_⟩
      have el : H3 l = some (.lst [.int 0, .int 0, .int 1, .int 2]) := g4.st l _ la upd_same
      obtain ⟨t, ht, ht2⟩ : ∃ t : Nat, atI [V.int 0, .int 0, .int 1, .int 2] v = some (.int t) ∧ t ≤ 2 := by
        obtain ⟨m, rfl⟩ : ∃ m : Nat, v = m := ⟨v.toNat, by omega⟩
        match m, w1 with
        | 0, _ => exact ⟨0, rfl, by decide⟩
        | 1, _ => exact ⟨0, rfl, by decide⟩
        | 2, _ => exact ⟨1, rfl, by decide⟩
        | 3, _ => exact ⟨2, rfl, by decide⟩
        | m + 4, z => omega
      refine ⟨l, _, v, _, rfl, rfl, .inl (.inl el), ht, t, rfl, by omega, by omega, ?_⟩
      have gr3 : Gro a H H3 := (gr2.trans g3).trans g4
      have eo3 : H3 o = some (.lst (cs.map V.str)) := g4.st o _ oa (g3.st o _ oa eo2)
      refine for_range (n := t) (fun j σ H' => ∃ (c : Str) (r : List Nat) (y6 : Option V), σ = [some (.ref a), some (.int n), some (.str abc), some (.ref o), some (.int (0 + (i : Int))), some (.str c), y6] ∧ c.cps.toList = (97 + (2 * i + u)) :: r ∧ r.length = j ∧ (∀ x ∈ r, Small x) ∧ Gro a H H' ∧ H' o = some (.lst (cs.map V.str)))
        ⟨⟨#[97 + (2 * i + u)]⟩, [], y6, rfl, rfl, rfl, (fun _ z => nomatch z), gr3, eo3⟩ (fun j σ H4 hj hV => ?_) (fun σ H4 hV => ?_)
      · obtain ⟨c, r, y6, rfl, ec, er, sm, g5, eo4⟩ := hV
        refine ⟨_, rfl, _, rfl, _, rfl, a, 26, rfl, by decide, by decide, g5.di, fun v H5 x0 x1 g6 => ?_⟩
        have cl : c.length = r.length + 1 := by
          show c.cps.size = _
          rw [← Array.length_toList, ec, List.length_cons]
        refine ⟨abc, _, _, rfl, rfl, by rw [abc_len]; decide, atI_abc x0 x1, c, _, rfl, rfl, ?_, ?_⟩
        · rw [cl]
          show r.length + 1 + 1 ≤ sizeLine
          rw [er]
          exact Nat.le_trans (show j + 1 + 1 ≤ 100 by omega) (by decide)
        · refine ⟨_, r ++ [97 + v.toNat], _, rfl, ?_, by rw [List.length_append, er]; rfl, fun x hx => ?_, g5.trans g6, g6.st o _ oa eo4⟩
          · rw [PySem.W.KT.app_list, ec]
            rfl
          · rcases List.mem_append.mp hx with z | z
            · exact sm x z
            · rw [List.mem_singleton.mp z]
              unfold Small
              omega
      · obtain ⟨c, r, y6, rfl, ec, er, sm, g5, eo4⟩ := hV
        refine ⟨_, rfl, .inl ⟨rfl, _, .inl (.inl eo4)⟩, _, rfl, o, _, _, rfl, rfl, eo4, ?_, ?_⟩
        · rw [List.length_map, hc]
          exact Nat.lt_of_lt_of_le (show i < 100 by omega) (by decide)
        · refine ⟨cs ++ [c], _, _, _, rfl, by rw [List.length_append, hc]; rfl, fun x y e => ?_, g5.mut no oa, by rw [upd_same, List.map_append]; rfl⟩
          by_cases hx : x < cs.length
          · rw [List.getElem?_append_left hx] at e
            exact wd x y e
          · rw [List.getElem?_append_right (by omega)] at e
            have z : x - cs.length = 0 := by
              cases q : x - cs.length with
              | zero => rfl
              | succ m => rw [q] at e; exact nomatch e
            rw [z] at e
            obtain rfl : c = y := Option.some.inj e
            exact ⟨2 * i + u, r, ec, by omega, by omega, sm⟩
    · obtain ⟨cs, y4, y5, y6, rfl, hc, wd, gr, eo⟩ := hW
      refine ⟨_, rfl, o, _, rfl, .inl (.inl eo), fun p ob np hob => ?_⟩
      exact q cs p _ wd hc (gr.ex (Ex.new np)) (gr.back hd np).1 (tupF_new hob)
end
end Gl

namespace Gl
open PySem PySem.Spec PyProof.Rows L2
/-! ### data of any shape, with dicts from texts to ints -/
mutual
inductive Dx (K : PySem.W.Frag) (H : Hp) : V → PyData → Prop
  | non : Dx K H .non .none
  | bl (b : Bool) : Dx K H (.bl b) (.bool b)
  | int (i : Int) : Dx K H (.int i) (.int i)
  | str (x : Str) : Dx K H (.str x) (.str x)
  | lst {a : Addr} {xs : List V} {ds : List PyData} : H a = some (.lst xs) → DxAll K H xs ds → Dx K H (.ref a) (.list ds)
  | tup {a : Addr} {xs : List V} {ds : List PyData} : Rd H a (.tup xs) → DxAll K H xs ds → Dx K H (.ref a) (.tuple ds)
  | dk {a : Addr} (ps : List (Str × Int)) : H a = some (.dK (ps.map fun p => (.inr p.1, .int p.2))) → Dx K H (.ref a) (.dict (ps.map fun p => (.str p.1, .int p.2)))
inductive DxAll (K : PySem.W.Frag) (H : Hp) : List V → List PyData → Prop
  | nil : DxAll K H [] []
  | cons {v : V} {vs : List V} {d : PyData} {ds : List PyData} : Dx K H v d → DxAll K H vs ds → DxAll K H (v :: vs) (d :: ds)
end
mutual
def noList : PyData → Bool
  | .list _ => false
  | .tuple xs => noLists xs
  | _ => true
def noLists : List PyData → Bool
  | [] => true
  | x :: xs => noList x && noLists xs
end
section
variable {X : Cx} {pins : List (Addr × Obj)} {σ : L2.St} {H : Hp} {s : Shared}
theorem dict_key {P : Program} {w : World} {h : Heap} : ∀ (ps : List (Str × Int)) (vs : List (Key × Value)) (l : List DictEntry), KV (ps.map fun p => ((Sum.inr p.1 : Key), V.int p.2)) vs → Pairs (mixKind P w) l vs →
    ReadsAll h (l.map (·.key)) ((ps.map fun p => (PyData.str p.1, PyData.int p.2)).map (·.1)) [] ∧ ReadsAll h (l.map (·.val)) ((ps.map fun p => (PyData.str p.1, PyData.int p.2)).map (·.2)) []
  | [], _, _, .nil, .nil => ⟨.nil, .nil⟩
  | p :: ps, (k, v) :: vs, e :: l, .cons ⟨e1, e2⟩ r, .cons h1 h2 h3 => by
    obtain ⟨r1, r2⟩ := dict_key ps vs l r h3
    have e1 : (Sum.inr p.1 : Key) = k := e1
    subst e1
    obtain ⟨t, rfl⟩ : ∃ t, v = Value.int p.2 t := e2
    have h1 : keyIs (.inr p.1) e.key = true := h1
    have h2 : e.val = Value.int p.2 t := h2
    constructor
    · show ReadsAll h (e.key :: l.map (·.key)) (PyData.str p.1 :: _) ([] ++ [])
      refine .cons ?_ r1
      rcases keyIs_shape h1 with ⟨i, u, e3, _⟩ | ⟨x, u, e3, e4⟩
      · exact nomatch e3
      · rw [e4, Sum.inr.inj e3]; exact .str x u
    · show ReadsAll h (e.val :: l.map (·.val)) (PyData.int p.2 :: _) ([] ++ [])
      rw [h2]
      exact .cons (.int _ _) r2
theorem dict_reads (I : Inv X pins σ H s) {a : Addr} {ps : List (Str × Int)} (h : H a = some (.dK (ps.map fun p => (.inr p.1, .int p.2)))) :
    ∃ as, Reads s.heap (.ref a) (.dict (ps.map fun p => (.str p.1, .int p.2))) as ∧ sysModules ∉ as := by
  obtain ⟨_, hs, vs, kv, o, es, ep, g, hx, hd, _, pr, _⟩ := I.hok a _ h
  obtain ⟨k1, k2⟩ := dict_key (h := s.heap) ps vs es.toList kv pr
  refine ⟨[a], .dict (as := []) (bs := []) g hx.1 hd k1 k2, ?_⟩
  intro z
  rw [List.mem_singleton.mp z] at hs
  simp at hs
mutual
theorem Dx.reads (I : Inv X pins σ H s) : ∀ (d : PyData) (v : V) (u : Value), Dx X.K H v d → RelV v u → ∃ as, Reads s.heap u d as ∧ (noList d = true → sysModules ∉ as)
  | .none, _, _, .non, r => by
    cases r
    exact ⟨_, .none, fun _ z => nomatch z⟩
  | .bool b, _, _, .bl _, r => by
    cases r
    exact ⟨_, .bool b, fun _ z => nomatch z⟩
  | .int i, _, _, .int _, r => by
    obtain ⟨t, rfl⟩ := r
    exact ⟨_, .int i t, fun _ z => nomatch z⟩
  | .str x, _, _, .str _, r => by
    obtain ⟨t, rfl⟩ := r
    exact ⟨_, .str x t, fun _ z => nomatch z⟩
  | .list ds, _, _, .lst ha hd, r => by
    cases r
    obtain ⟨_, its, n, ri, g⟩ := I.hok _ _ ha
    obtain ⟨as, R, _⟩ := DxAll.reads I ds _ its hd ri
    exact ⟨_, .list g rfl rfl (by simpa using R), fun z => by simp [noList] at z⟩
  | .tuple ds, _, _, .tup ha hd, r => by
    cases r
    obtain ⟨_, its, ri, o, g, c, n, dt⟩ := ha.ok I.hok
    obtain ⟨as, R, q⟩ := DxAll.reads I ds _ its hd ri
    exact ⟨_, .tuple g c dt (by simpa using R), fun z => q (by simpa only [noList] using z)⟩
  | .dict _, _, _, .dk ps ha, r => by
    cases r
    obtain ⟨as, R, q⟩ := dict_reads I ha
    exact ⟨as, R, fun _ => q⟩
theorem DxAll.reads (I : Inv X pins σ H s) : ∀ (ds : List PyData) (vs : List V) (us : List Value), DxAll X.K H vs ds → Vals vs us → ∃ as, ReadsAll s.heap us ds as ∧ (noLists ds = true → sysModules ∉ as)
  | [], _, _, .nil, .nil => ⟨_, .nil, fun _ z => nomatch z⟩
  | d :: ds, v :: vs, u :: us, .cons h1 h2, .cons r1 r2 => by
    obtain ⟨as, R, q⟩ := Dx.reads I d v u h1 r1
    obtain ⟨bs, R2, q2⟩ := DxAll.reads I ds vs us h2 r2
    refine ⟨_, .cons R R2, fun z m => ?_⟩
    have z' : (noList d && noLists ds) = true := by simpa only [noLists] using z
    have z2 := Bool.and_eq_true_iff.mp z'
    rcases List.mem_append.mp m with y | y
    · exact q z2.1 y
    · exact q2 z2.2 y
end
/-- repr(x) of such data: dicts only where no list is -/
def rReprX (K : PySem.W.Frag) : List V → Hp → VK → Prop := fun xs H Q => ∃ x d, xs = [x] ∧ Dx K H x d ∧ (d.hasDict = false ∨ noList d = true) ∧ d.showable = true ∧ d.depth ≤ 100 ∧ d.shown.length ≤ sizeLine ∧ Q (.str d.shown) H
theorem call_reprX {k : Nat} (r : RmG k X.A) : CallR X (.builtin "repr") (rReprX X.K) := by
  intro pins s σ H xs us Q I hv h
  obtain ⟨x, d, rfl, hd, hdict, hs, hp, hz, q⟩ := h
  obtain ⟨u, rfl, ru⟩ := vals1 hv
  obtain ⟨as, R, nl⟩ := Dx.reads I d x u hd ru
  have room := r.rm.un
  have hsm : d.hasDict = true → sysModules ∉ as := fun z => by
    rcases hdict with y | y
    · rw [y] at z; exact nomatch z
    · exact nl y
  have refs : ∀ a, u = .ref a → wpAny (model X.prog X.w) X.A (call (.builtin "repr") [u]) (EP X pins σ Q) X.xe s := by
    rintro a rfl
    refine repr_of_reads' R hs hsm r.gd (by omega) (fun _ _ z => z) (fun h' t tk hk => ?_) hz
    exact ⟨.str _, H, I.kept hk, ⟨_, rfl⟩, q⟩
  cases hd with
  | non =>
    cases ru
    exact PySem.P.repr_of_none ⟨.str _, H, I.tok _, ⟨_, rfl⟩, q⟩
  | bl b =>
    cases ru
    exact PySem.P.repr_of_bool ⟨.str _, H, I.tok _, ⟨_, rfl⟩, q⟩
  | int i =>
    obtain ⟨t, rfl⟩ := ru
    have hs' : i.natAbs.log2 < 1920 := of_decide_eq_true (by simpa only [PyData.showable] using hs)
    exact PySem.P.repr_of_int hs' ⟨.str _, H, I.tok _, ⟨_, rfl⟩, q⟩
  | str y =>
    obtain ⟨t, rfl⟩ := ru
    exact PySem.P.repr_of_str ⟨.str _, H, I.tok _, ⟨_, rfl⟩, q⟩ hz
  | lst _ _ =>
    cases ru
    exact refs _ rfl
  | tup _ _ =>
    cases ru
    exact refs _ rfl
  | dk _ _ =>
    cases ru
    exact refs _ rfl
/-- xs == [] and xs != [], whatever the items are -/
def rNil (b : Bool) (K : PySem.W.Frag) : R2 := fun x y H Q => ∃ p q xs, x = .ref p ∧ y = .ref q ∧ SqL K H p xs ∧ H q = some (.lst []) ∧ Q (.bl (if b then decide (xs = []) else !decide (xs = []))) H
theorem nil_core (I : Inv X pins σ H s) {p q : Addr} {xs : List V} (h1 : SqL X.K H p xs) (h2 : H q = some (.lst [])) :
    ∃ its its2 : Array Value, s.heap.IsList p its ∧ s.heap.IsList q its2 ∧ its2.size = 0 ∧ its.size = xs.length := by
  obtain ⟨its, r, pl, _⟩ := I.list h1
  obtain ⟨_, its2, n, r2, g⟩ := I.hok q _ h2
  have := r2.length
  exact ⟨its.toArray, its2.toArray, pl.isList, ⟨_, g, rfl, _, rfl⟩, by simpa using this.symm, by simpa using r.length.symm⟩
theorem op_eqNil (hu : X.A.units < cLine) : OpR X (compareOp .Eq) (rNil true X.K) := by
  rintro pins s σ H x y v u Q I rx ry ⟨p, q, xs, rfl, rfl, h1, h2, k⟩
  obtain rfl : v = Value.ref p := rx
  obtain rfl : u = Value.ref q := ry
  obtain ⟨i1, i2, l1, l2, z, n⟩ := nil_core I h1 h2
  by_cases e : xs = []
  · refine SeqAt.eq_listAt (e := fun _ => true) l1 l2 (by rw [z, n, e]; rfl) hu (fun j j1 j2 => by omega) ⟨.bl true, H, I, ?_, ?_⟩
    · rw [n, e]; rfl
    · rw [if_pos rfl, decide_eq_true e] at k; exact k
  · refine SeqAt.eq_list_lengthsAt l1 l2 ?_ hu ⟨.bl false, H, I, rfl, ?_⟩
    · rw [z, n]
      have : xs.length ≠ 0 := fun z => e (List.length_eq_zero_iff.mp z)
      simpa using this
    · rw [if_pos rfl, decide_eq_false e] at k; exact k
theorem op_neNil (hu : X.A.units < cLine) : OpR X (compareOp .NotEq) (rNil false X.K) := by
  rintro pins s σ H x y v u Q I rx ry ⟨p, q, xs, rfl, rfl, h1, h2, k⟩
  obtain rfl : v = Value.ref p := rx
  obtain rfl : u = Value.ref q := ry
  obtain ⟨i1, i2, l1, l2, z, n⟩ := nil_core I h1 h2
  rw [if_neg Bool.false_ne_true] at k
  by_cases e : xs = []
  · refine SeqAt.RcNeAt.lists (e := fun _ => true) l1 l2 (by rw [z, n, e]; rfl) hu (fun j j1 j2 => by omega) X.prog X.w X.xe _ ⟨.bl false, H, I, ?_, ?_⟩
    · rw [n, e]; rfl
    · rw [decide_eq_true e] at k; exact k
  · refine SeqAt.RcNeAt.lists_lengths l1 l2 ?_ hu X.prog X.w X.xe _ ⟨.bl true, H, I, rfl, ?_⟩
    · rw [z, n]
      have : xs.length ≠ 0 := fun z => e (List.length_eq_zero_iff.mp z)
      simpa using this
    · rw [decide_eq_false e] at k; exact k
end
end Gl

/-! len(set(a tuple of texts)) -/
namespace Gl
open PySem PySem.Spec PyProof.Rows L2
/-- the different ones, as they are met -/
def dd : List Str → List Str → List Str
  | acc, [] => acc
  | acc, z :: zs => dd (if z ∈ acc then acc else acc ++ [z]) zs
theorem dd_append : ∀ (acc a b : List Str), dd acc (a ++ b) = dd (dd acc a) b
  | _, [], _ => rfl
  | acc, z :: a, b => dd_append _ a b
def met (zs : List Str) (i : Nat) : List Str := dd [] (zs.take i)
theorem met_succ {zs : List Str} {i : Nat} {z : Str} (h : zs[i]? = some z) : met zs (i + 1) = if z ∈ met zs i then met zs i else met zs i ++ [z] := by
  unfold met
  rw [List.take_add_one, h, dd_append]
  rfl
theorem dd_len : ∀ (zs acc : List Str), (dd acc zs).length ≤ acc.length + zs.length
  | [], _ => Nat.le_refl _
  | z :: zs, acc => by
    have h := dd_len zs (if z ∈ acc then acc else acc ++ [z])
    have e : (if z ∈ acc then acc else acc ++ [z]).length ≤ acc.length + 1 := by
      split
      · omega
      · rw [List.length_append]; exact Nat.le_refl _
    rw [List.length_cons]
    show (dd (if z ∈ acc then acc else acc ++ [z]) zs).length ≤ _
    omega
theorem met_len (zs : List Str) (i : Nat) : (met zs i).length ≤ i := by
  have h := dd_len (zs.take i) []
  rw [List.length_take] at h
  unfold met
  simp only [List.length_nil] at h
  omega
section
variable {prog : Program} {w : World} {A : Around} {R : Result → Shared → Prop} {I : Addr} {fp wr : List Addr} {G : Array GenState → Array GenState → Prop} {n : Nat} {Pv : Nat → Value → Prop} {St : Nat → Shared → Prop}
theorem setLoop (W : WalksS prog w A.in1 I fp wr G n Pv St) (S : Addr) (out : S ∉ fp) (zs : List Str) (hv : ∀ i v, Pv i v → ∃ z t, zs[i]? = some z ∧ v = Value.str z t) (room : n + 1 < scanBound) (d : Nat) :
    ∀ (i : Nat) (s : Shared), n = i + d → St i s → s.heap.SetOf (strKind prog w) S (fun x => decide (x ∈ met zs i)) (met zs i).length →
      (∀ s', Moved (S :: wr) G s s' → s'.heap.SetOf (strKind prog w) S (fun x => decide (x ∈ met zs n)) (met zs n).length → R (.ok (.ret .none)) s') →
      codeAny (model prog w) A (.builtin "set.update.loop" ⟨[.ref S, .ref I], []⟩) R s := by
  have out2 : S ∉ wr := fun q => out (W.sub _ q)
  have more : ∀ b ∈ wr, b ∈ S :: wr := fun _ q => List.mem_cons_of_mem _ q
  induction d with
  | zero =>
    rintro i s rfl st hS fin
    apply codeAny_builtin F.entry_set_update_loop
    rw [Around.under_plainId F.plain_set_update_loop _]
    apply wpAny_bind (m := pyNext (.ref I))
    apply W.done s _ _ st
    intro s1 mv
    apply wpAny_pure
    obtain ⟨o, es, ep, t, g, more2⟩ := hS
    exact fin s1 (mv.mono more) ⟨o, es, ep, t, mv.heap S _ out2 g, more2⟩
  | succ d ih =>
    rintro i s hn st hS fin
    apply codeAny_builtin F.entry_set_update_loop
    rw [Around.under_plainId F.plain_set_update_loop _]
    apply wpAny_bind (m := pyNext (.ref I))
    apply W.item i s _ _ (by omega) st
    intro v s1 pv st1 mv
    obtain ⟨z, t, hz, rfl⟩ := hv i v pv
    have hS1 : s1.heap.SetOf (strKind prog w) S (fun x => decide (x ∈ met zs i)) (met zs i).length := by
      obtain ⟨o, es, ep, tb, g, more2⟩ := hS
      exact ⟨o, es, ep, tb, mv.heap S _ out2 g, more2⟩
    apply wpAny_bind (m := holding [Value.str z t] (setAdd S (.str z t)))
    apply wpAny_holding
    unfold setAdd
    apply wpAny_holding
    apply wpAny_bind
    apply (strKind prog w).pyHash (k := z) (strKind_is _ _ _ _)
    have rm : (met zs i).length + 1 < scanBound := by have := met_len zs i; omega
    apply wpAny_setAddHashed_of (knd := strKind prog w) (s := { s1 with toks := s1.toks + 1 }) (strKind_is _ _ _ _) rfl hS1 rm
    intro h2 sb hS2
    have hS3 : h2.SetOf (strKind prog w) S (fun x => decide (x ∈ met zs (i + 1))) (met zs (i + 1)).length := by
      refine SetOf_congr hS2 (fun k => ?_) ?_
      · rw [met_succ hz]
        by_cases q : z ∈ met zs i
        · rw [if_pos q]
          by_cases y : k = z
          · subst y; simp [q]
          · simp [y]
        · rw [if_neg q]
          simp [List.mem_append]
      · rw [met_succ hz]
        by_cases q : z ∈ met zs i
        · rw [if_pos q]; simp [q]
        · rw [if_neg q]; simp [q]
    apply wpAny_pure
    refine ⟨plainId_quiet F.plain_set_update_loop _, ih (i + 1) _ (by omega) ?_ hS3 ?_⟩
    · apply W.frame _ s1 _ _ st1 (Nat.le_succ _)
      intro b hb o e
      rw [sb.2 b (fun q => out (q ▸ hb))]
      exact e
    · intro s3 mv3 hS4
      refine fin s3 (Moved.trans W.gtrans ((mv.mono more).then_heap (Nat.le_succ _) ?_) mv3) hS4
      intro b o hb e
      rw [sb.2 b (fun q => hb (q ▸ List.mem_cons_self ..))]
      exact e
end
end Gl

namespace Gl
open PySem PySem.Spec PyProof.Rows L2
section
variable {prog : Program} {w : World} {A : Around} {E : Value → Shared → Prop} {s : Shared}
abbrev freshSet (led : Bool) : Obj := { cls := .type "set", dict := none, data := .set #[] 0 (.fresh 0 0 led) }
theorem set_of_tup {l : Addr} {its : Array Value} {zs : List Str} {Q : Value → Shared → Prop} (hh : A.handled = none) (hl : s.heap.IsTuple l its)
    (hv : ∀ (i : Nat) (v : Value), its[i]? = some v → ∃ z t, zs[i]? = some z ∧ v = Value.str z t) (room : its.size + 1 < scanBound)
    (h : ∀ (h' : Heap) (tk : Nat), h'.SetOf (strKind prog w) s.heap.objs.size (fun x => decide (x ∈ met zs its.size)) (met zs its.size).length →
      (∀ b o, s.heap.get? b = some o → h'.get? b = some o) → Q (.ref s.heap.objs.size) { s with heap := h', toks := tk }) :
    wpAny (model prog w) A (call (.type "set") [.ref l]) Q E s := by
  obtain ⟨c0, tl0, hmro⟩ := F.called_set.mro
  have a1 := F.called_set.made
  have a2 := F.called_set.sub
  apply wpAny_call
  apply codeAny_of_tree
  show wpAny _ _ (callAny (.type "set") _) _ _ _
  apply wpAny_pure
  refine ⟨Code.quiet_builtin _ (by decide +kernel), codeAny_builtin F.entry_type_call ?_⟩
  rw [Around.under_plain (weight_type_call_type "set" [.ref l] []) rfl]
  have a3 := F.called_set.notType
  have a4 := F.called_set.canCreate
  have a5 := F.typeCall_set_1 (.ref l)
  repeat (any_goals (first | assumption | wp_step))
  let mid : Value → Shared → Prop := fun obj s1 => ∃ led : Bool, obj = .ref s.heap.objs.size ∧ s1 = { s with heap := s.heap.push (freshSet led) }
  apply codeAny_mono (code_set_new_1 (.ref l) (E := E) (Q₁ := mid) fun led => ⟨led, rfl, rfl⟩)
  intro r s1 hr
  match r, hr with
  | .error e, hr => exact hr
  | .ok .next, hr => exact hr.elim
  | .ok .brk, hr => exact hr.elim
  | .ok .cont, hr => exact hr.elim
  | .ok (.ret obj), ⟨led, h1, h2⟩ =>
    subst h1
    subst h2
    have gS : (s.heap.push (freshSet led)).get? s.heap.objs.size = some (freshSet led) := Heap.get?_push_size _ rfl
    have tS : Shared.TypeIs { s with heap := s.heap.push (freshSet led) } (.ref s.heap.objs.size) "set" := ⟨_, gS, rfl⟩
    have b1 := F.called_set.init.lookup
    have b2 := F.called_set.init.bind (.ref s.heap.objs.size)
    repeat (any_goals (first | assumption | wp_step))
    let after : Value → Shared → Prop := fun r s2 => r = .none ∧ ∃ h' tk, s2 = { s with heap := h', toks := tk } ∧
      h'.SetOf (strKind prog w) s.heap.objs.size (fun x => decide (x ∈ met zs its.size)) (met zs its.size).length ∧ (∀ b o, s.heap.get? b = some o → h'.get? b = some o)
    refine codeAny_mono (codeAny_call_builtin (R := wants after E) F.called_set.init.plain F.entry_set_init (check_set_init_1 tS ?_)) ?_
    · obtain ⟨ob, go, co, nn, dt⟩ := hl
      obtain ⟨ocls, odict, odata, osl⟩ := ob
      dsimp only at co dt
      subst co
      subst dt
      have go1 := Heap.get?_push_of_some (freshSet led) go
      have c1 := F.sub_tuple_set
      have c2 := F.sub_tuple_frozenset
      have c3 : (Value.type "tuple" == Value.type "dict") = false := by decide
      have tl : (s.heap.push (freshSet led)).IsTuple l its := ⟨_, go1, rfl, nn, rfl⟩
      unfold Builtin.«set.__init__» noKeywords Builtin.Frozenset.updateFrom
      generalize hPI : pyIter = PI
      wp_walk
      subst hPI
      apply wpAny_pyIter_tuple tl
      apply wpAny_bind
      apply wpAny_runValue
      have lt := Heap.lt_size go
      have hh3 : A.in1.in1.in1.handled = none := by simp [hh]
      have sz : (s.heap.push (freshSet led)).objs.size = s.heap.objs.size + 1 := Heap.size_push ..
      have n1 : l ≠ (s.heap.push (freshSet led)).objs.size := by rw [sz]; exact Nat.ne_of_lt (Nat.lt_succ_of_lt lt)
      have n2 : s.heap.objs.size ∉ [(s.heap.push (freshSet led)).objs.size, l] := by
        rw [sz]
        intro q
        rcases List.mem_cons.mp q with q | q
        · exact absurd q (Nat.ne_of_lt (Nat.lt_succ_self _))
        · exact absurd (List.mem_singleton.mp q) (Nat.ne_of_gt lt)
      refine setLoop ((Walks.tuple hh3 _ l n1 its).toS) s.heap.objs.size n2 zs hv room its.size 0 _ (Nat.zero_add _).symm ⟨⟨_, Heap.get?_push_size _ rfl, rfl, rfl⟩, tl.push _⟩ ?_ ?_
      · have g2 := Heap.get?_push_of_some { cls := .type "tuple_iterator", data := .fields #[.ref l, .int 0 0] } gS
        exact SetOf_congr ((setObjOf_fresh (knd := strKind prog w) led).setOf g2 (by unfold scanBound; omega)) (fun k => by simp [met, dd]) rfl
      · intro s2 mv hS
        obtain ⟨h2, g2, d2, t2, o2⟩ := s2
        obtain rfl : g2 = s.gens := mv.gens
        obtain rfl : d2 = s.drawn := mv.drawn
        obtain rfl : o2 = s.os := mv.os
        apply wpAny_pure
        show wpAny _ _ (ret Value.none) _ _ _
        apply wpAny_pure
        refine ⟨rfl, h2, t2, rfl, hS, fun b o e => ?_⟩
        have lb := Heap.lt_size e
        apply mv.heap b o _ (Heap.get?_push_of_some _ (Heap.get?_push_of_some _ e))
        intro q
        rcases List.mem_cons.mp q with q | q
        · exact absurd q (Nat.ne_of_lt lb)
        · have q := List.mem_singleton.mp q
          rw [sz] at q
          exact absurd q (Nat.ne_of_lt (Nat.lt_succ_of_lt lb))
    · intro r2 s2 hr2
      match r2, hr2 with
      | .error e, hr2 => exact hr2
      | .ok .next, hr2 => exact hr2.elim
      | .ok .brk, hr2 => exact hr2.elim
      | .ok .cont, hr2 => exact hr2.elim
      | .ok (.ret r), ⟨e1, h2, tk, e2, hS, hk⟩ =>
        subst e1
        subst e2
        repeat (any_goals (first | assumption | wp_step))
        exact h _ _ hS hk
/-- len(set(e)), e a tuple of texts -/
def tLenSetS (K : PySem.W.Frag) (ta : TE) : TE := fun σ H Q => ta σ H fun x H1 => ∃ (p : Addr) (zs : List Str), x = .ref p ∧ SqT K H1 p (zs.map V.str) ∧ zs.length ≤ 1000 ∧ Q (.int ((met zs zs.length).length : Nat)) H1
theorem pe_lenSetS {X : Cx} {e : Expr} {te : TE} {p1 p2 p3 p4 : Pos} (hg : Gl X "len") (hm : X.mg "len" = none) (hg2 : Gl X "set") (hm2 : X.mg "set" = none) (he : PE X e te) (hc : X.calm = true := by rfl)
    (h1 : starEach [e] X.env = (false, eval e X.env) :: starEach [] X.env := by rfl) : PE X (.Call (.Name "len" p1) [.Call (.Name "set" p2) [e] [] p3] [] p4) (tLenSetS X.K te) := .mk fun pins s σ H Q I h => by
  apply Call_ (ld_blt I hg hm boot_len _)
  apply PyProof.Rows.callWith_builtin1 _ rfl rfl
  apply PyProof.Rows.args_cons _ rfl
  apply Call_ (ld_blt I hg2 hm2 boot_set _)
  apply PyProof.Rows.callWith_type1 _ h1 rfl
  apply PyProof.Rows.args_cons _ h1
  apply thn (he.run pins s σ H _ I h)
  rintro v s1 ⟨x, H1, J, rx, p, zs, rfl, ht, hz, q⟩
  obtain rfl : v = Value.ref p := rx
  apply PyProof.Rows.args_nil
  obtain ⟨its, r, pl, _⟩ := J.tuple ht
  have n : its.toArray.size = zs.length := by rw [List.size_toArray, ← r.length, List.length_map]
  apply set_of_tup (zs := zs) (J.ok.hd hc) pl
  · intro i v hv
    have hv : its[i]? = some v := by simpa using hv
    have il := (List.getElem?_eq_some_iff.mp hv).1
    have il2 : i < zs.length := by rw [← n, List.size_toArray]; exact il
    obtain ⟨u, hu, ru⟩ := r.get (i := i) (x := .str zs[i]) (by rw [List.getElem?_map, List.getElem?_eq_getElem il2]; rfl)
    obtain rfl := Option.some.inj (hu.symm.trans hv)
    obtain ⟨t, rfl⟩ := ru
    exact ⟨_, t, List.getElem?_eq_getElem il2, rfl⟩
  · rw [n]; unfold scanBound; omega
  intro h2 tk hS hk
  apply PyProof.Rows.args_nil
  rw [n] at hS
  obtain ⟨o, es, ep, t, ho, hex, hd, _, _, _, hf, hn⟩ := hS
  have J2 : Inv X pins σ H1 { s1 with heap := h2, toks := tk } := J.kept hk
  have b := met_len zs zs.length
  exact call_len_set ho hex hd hf (by rw [hn]; omega) ⟨.int ((met zs zs.length).length : Nat), H1, J2.tok _, ⟨_, by rw [hn]⟩, q⟩
end
end Gl

namespace Gl
open PySem PySem.Spec PyProof.Rows L2
abbrev sWhole : Stmt := topS 1
abbrev sWholes : Stmt := topS 2
abbrev sIndex : Stmt := topS 3
abbrev sAsc : Stmt := topS 4
abbrev sName : Stmt := topS 13
theorem scWhole : FnScope ["value"] ["value"] (defScope sWhole) := ⟨rfl, rfl, rfl, by decide +kernel, rfl, by decide +kernel, by decide +kernel⟩
theorem scWholes : FnScope ["value", "many", "one"] ["value", "many"] (defScope sWholes) := ⟨rfl, rfl, rfl, by decide +kernel, rfl, by decide +kernel, by decide +kernel⟩
theorem scIndex : FnScope ["value", "many"] ["value", "many"] (defScope sIndex) := ⟨rfl, rfl, rfl, by decide +kernel, rfl, by decide +kernel, by decide +kernel⟩
theorem scAsc : FnScope ["values", "at"] ["values"] (defScope sAsc) := ⟨rfl, rfl, rfl, by decide +kernel, rfl, by decide +kernel, by decide +kernel⟩
theorem scName : FnScope ["value", "letter"] ["value"] (defScope sName) := ⟨rfl, rfl, rfl, by decide +kernel, rfl, by decide +kernel, by decide +kernel⟩
/-! ### the answers as plain functions -/
def tyName : PyData → String
  | .none => "NoneType"
  | .bool _ => "bool"
  | .int _ => "int"
  | .str _ => "str"
  | .list _ => "list"
  | .tuple _ => "tuple"
  | .dict _ => "dict"
def wholeB : PyData → Bool
  | .int _ => true
  | _ => false
def wholesB (d : PyData) (n : Int) : Bool := match d with
  | .tuple ds => decide ((ds.length : Int) = n) && ds.all wholeB
  | _ => false
instance (x : Nat) : Decidable (Small x) := inferInstanceAs (Decidable (97 ≤ x ∧ x ≤ 122))
def nameB : PyData → Bool
  | .str x => decide (1 ≤ x.length ∧ x.length ≤ 8) && x.cps.toList.all fun c => decide (Small c)
  | _ => false
def strOf : PyData → Str
  | .str x => x
  | _ => ""
def ascAt (cs : List Str) (i : Nat) : Bool := decide ((cs.getD i "").cps.toList < (cs.getD (i + 1) "").cps.toList)
def ascB (cs : List Str) : Bool := (List.range (cs.length - 1)).all (ascAt cs)
def colsB (d : PyData) (b : Nat) : Bool := match d with
  | .tuple ds => decide (b ≤ ds.length ∧ ds.length ≤ 8) && (ds.all nameB && ascB (ds.map strOf))
  | _ => false
theorem room1000 {n : Nat} (h : n ≤ 100000) : n < sizeLine := Nat.lt_of_le_of_lt h (by decide)
/-- texts of at most 1000 signs, tuples of at most 1000 things -/
def Short : PyData → Prop
  | .str x => x.length ≤ 1000
  | .tuple ds => ds.length ≤ 1000 ∧ ∀ x, PyData.str x ∈ ds → x.length ≤ 1000
  | _ => True
theorem DxAll.get {K : PySem.W.Frag} {H : Hp} : ∀ {xs : List V} {ds : List PyData} {i : Nat} {v : V}, DxAll K H xs ds → xs[i]? = some v → ∃ d, ds[i]? = some d ∧ Dx K H v d
  | _, _, _, _, .nil, e => by simp at e
  | _, _, 0, _, .cons h _, e => by simp at e; subst e; exact ⟨_, rfl, h⟩
  | _, _, i + 1, _, .cons _ t, e => DxAll.get (i := i) t (by simpa using e)
theorem DxAll.length {K : PySem.W.Frag} {H : Hp} : ∀ {xs : List V} {ds : List PyData}, DxAll K H xs ds → xs.length = ds.length
  | _, _, .nil => rfl
  | _, _, .cons _ t => congrArg (· + 1) (DxAll.length t)
mutual
theorem Dx.ex {K : PySem.W.Frag} {H H' : Hp} (e : Ex H H') : ∀ {v : V} {d : PyData}, Dx K H v d → Dx K H' v d
  | _, _, .non => .non
  | _, _, .bl b => .bl b
  | _, _, .int i => .int i
  | _, _, .str x => .str x
  | _, _, .lst h t => .lst (e _ _ h) (DxAll.ex e t)
  | _, _, .tup h t => .tup (e.rd h) (DxAll.ex e t)
  | _, _, .dk ps h => .dk ps (e _ _ h)
theorem DxAll.ex {K : PySem.W.Frag} {H H' : Hp} (e : Ex H H') : ∀ {v : List V} {d : List PyData}, DxAll K H v d → DxAll K H' v d
  | _, _, .nil => .nil
  | _, _, .cons h t => .cons (Dx.ex e h) (DxAll.ex e t)
end
theorem tyx {K : PySem.W.Frag} {H : Hp} {v : V} {d : PyData} (h : Dx K H v d) : TyX K H v (.type (tyName d)) := by
  cases h with
  | non => exact .base .non
  | bl b => exact .base (.bl b)
  | int i => exact .base (.int i)
  | str x => exact .base (.str x)
  | lst h _ => exact .base (.lst h)
  | tup h _ =>
    rcases h with h | ⟨o, h⟩
    · exact .base (.tup h)
    · exact .fTuple h
  | dk ps h => exact .base (.dK h)
abbrev tys : List String := ["NoneType", "bool", "int", "str", "list", "tuple", "dict"]
theorem tyName_in (d : PyData) : tyName d ∈ tys := by cases d <;> simp [tyName]
theorem isInt (d : PyData) : L2.kitB (tyName d) "int" = some (tyName d == "int" || tyName d == "bool") := (show ∀ t ∈ tys, L2.kitB t "int" = some (t == "int" || t == "bool") by decide +kernel) _ (tyName_in d)
theorem isBool (d : PyData) : L2.kitB (tyName d) "bool" = some (tyName d == "bool") := (show ∀ t ∈ tys, L2.kitB t "bool" = some (t == "bool") by decide +kernel) _ (tyName_in d)
theorem isStr (d : PyData) : L2.kitB (tyName d) "str" = some (tyName d == "str") := (show ∀ t ∈ tys, L2.kitB t "str" = some (t == "str") by decide +kernel) _ (tyName_in d)
theorem isTup (d : PyData) : L2.kitB (tyName d) "tuple" = some (tyName d == "tuple") := (show ∀ t ∈ tys, L2.kitB t "tuple" = some (t == "tuple") by decide +kernel) _ (tyName_in d)
section
variable {P : Program} {w : World} {K : PySem.W.Frag} {mg : Str → Option Value} {base : Heap}
structure Df (P : Program) (w : World) (K : PySem.W.Frag) (mg : Str → Option Value) (base : Heap) (k : Nat) (x : Str) (ps : List Str) (sp : Sp) where
  f : Addr
  fd : FuncData
  G : FnOk P w K mg base CX0 k f fd ps sp
  g : mg x = some (.ref f)
  kp : PySem.W.keepIn K (.ref f) = true
  b : Binds K fd ps []
structure DfG (P : Program) (w : World) (K : PySem.W.Frag) (mg : Str → Option Value) (base : Heap) (k : Nat) (x : Str) (ps : List Str) (sp : Sp) where
  f : Addr
  fd : FuncData
  G : FnG P w K mg base CX0 k f fd ps sp
  g : mg x = some (.ref f)
  kp : PySem.W.keepIn K (.ref f) = true
  b : Binds K fd ps []
def spWhole (K : PySem.W.Frag) : Sp := fun vs H Q _ => ∃ v d, vs = [v] ∧ Dx K H v d ∧ Q (.bl (wholeB d)) H
theorem ok_whole {f : Addr} {fd : FuncData} (F : Fun K "is_whole" "is_whole" sWhole f fd) (T : Blt mg) : FnOk P w K mg base CX0 1 f fd ["value"] (spWhole K) := by
  refine F.ok scWhole (fun vs H Q E h => ?_) (fun cdv A outer s H vs Q E hr h => ?_)
  · obtain ⟨v, d, rfl, _⟩ := h
    rfl
  · obtain ⟨v, d, rfl, hd, q⟩ := h
    refine ⟨_, pss_one (ps_ret (pe_and (pe_callB call_isi (by rfl) T.isinstance (by decide +kernel) (pa_cons (pv 0) (pa_cons (pe_bltn (v := .ty "int") (by rfl) T.int (by decide +kernel) rfl) pa_nil)))
      (pe_one (pe_not (pe_callB call_isi (by rfl) T.isinstance (by decide +kernel) (pa_cons (pv 0) (pa_cons (pe_bltn (v := .ty "bool") (by rfl) T.bool (by decide +kernel) rfl) pa_nil))))))), ?_⟩
    refine ⟨_, rfl, _, _, _, _, _, rfl, .ty _, tyx hd, kit_ty (isInt d), _, rfl, ?_⟩
    cases d with
    | bool b => exact ⟨_, rfl, _, _, _, _, _, rfl, .ty _, tyx hd, kit_ty (isBool _), true, rfl, q⟩
    | int i => exact ⟨_, rfl, _, _, _, _, _, rfl, .ty _, tyx hd, kit_ty (isBool _), false, rfl, q⟩
    | none => exact q
    | str x => exact q
    | list xs => exact q
    | tuple xs => exact q
    | dict xs => exact q

def spWholes (K : PySem.W.Frag) : Sp := fun vs H Q _ => ∃ v d n, vs = [v, .int n] ∧ Dx K H v d ∧ Short d ∧ ∀ H', Ex H H' → Q (.bl (wholesB d n)) H'
theorem take_all {α : Type} {f : α → Bool} {l : List α} {i : Nat} {x : α} (h : l[i]? = some x) : (l.take (i + 1)).map f = (l.take i).map f ++ [f x] := by
  rw [List.take_add_one, h, List.map_append]
  rfl
theorem all_id {α : Type} (f : α → Bool) (l : List α) : (l.map f).all id = l.all f := by
  rw [List.all_map]
  rfl
theorem ok_wholes {f : Addr} {fd : FuncData} (F : Fun K "are_whole" "are_whole" sWholes f fd) (T : Blt mg) (W : Df P w K mg base 1 "is_whole" ["value"] (spWhole K)) : FnOk P w K mg base CX0 2 f fd ["value", "many"] (spWholes K) := by
  refine F.ok scWholes (fun vs H Q E h => ?_) (fun cdv A outer s H vs Q E hr h => ?_)
  · obtain ⟨v, d, n, rfl, _⟩ := h
    rfl
  · obtain ⟨v, d, n, rfl, hd, sh, q⟩ := h
    have nd := scWholes.nd
    refine ⟨_, pss_one (ps_ret (pe_and (pe_callB call_isi (by rfl) T.isinstance (by decide +kernel) (pa_cons (pv 0) (pa_cons (pe_bltn (v := .ty "tuple") (by rfl) T.tuple (by decide +kernel) rfl) pa_nil)))
      (pe_and (pe_cmpR op_eq (pe_callB call_len_seq (by rfl) T.len PySem.boot_len (pa_cons (pv 0) pa_nil)) (pv 1) (nomark _))
      (pe_one (pe_callB (cr_all rfl) (by rfl) T.all (by decide +kernel) (pa_cons (pe_lc (own := [("one", 2)]) (g := gName 2) (tt := tYes) rfl nd (pi_tup (pv 0)) (blkOk_by (N := ["value", "many", "one"]) (sc := defScope sWholes) (by decide +kernel)) (fun _ _ _ _ _ => pg_name (i := 2) nd rfl (.inl rfl)) (fun _ _ _ _ _ => pts_nil)
        (fun _ _ _ _ _ => pe_call W.G hr (by rfl) W.g W.kp W.b .nil pass0 (pa_cons (pv 2) pa_nil))) pa_nil)))))), ?_⟩
    refine ⟨_, rfl, _, _, _, _, _, rfl, .ty _, tyx hd, kit_ty (isTup d), _, rfl, ?_⟩
    cases hd with
    | non => exact q _ (Ex.refl H)
    | bl b => exact q _ (Ex.refl H)
    | int i => exact q _ (Ex.refl H)
    | str x => exact q _ (Ex.refl H)
    | lst _ _ => exact q _ (Ex.refl H)
    | dk _ _ => exact q _ (Ex.refl H)
    | @tup p xs ds hp ha =>
      have ln := ha.length
      have q : ∀ H', Ex H H' → Q (.bl (decide ((ds.length : Int) = n) && ds.all wholeB)) H' := q
      refine ⟨_, rfl, p, _, rfl, .inr (.inl hp), _, rfl, rfl, _, rfl, ?_⟩
      by_cases e : (ds.length : Int) = n
      · rw [decide_eq_true (show V.int (xs.length : Int) = V.int n by rw [ln, e])]
        refine ⟨_, rfl, p, rfl, ⟨_, .inl hp⟩, fun D nD => lc_tup (xs := xs) (fun i H' => Ex H H' ∧ H' D = some (.lst (((ds.take i).map wholeB).map V.bl)))
          ⟨Ex.new nD, upd_same⟩ (fun i H' _ h => .inl (h.1.rd hp)) (fun i x H' hx h => ?_) (fun H' h => ?_)⟩
        · obtain ⟨ex, eD⟩ := h
          obtain ⟨d1, hd1, hx1⟩ := ha.get hx
          refine ⟨rfl, _, rfl, x, d1, rfl, hx1.ex ex, _, eD, ?_, ex.mut nD, ?_⟩
          · rw [List.length_map, List.length_map, List.length_take]
            have := sh.1
            exact room1000 (by omega)
          · rw [upd_same, take_all hd1, List.map_append]
            rfl
        · obtain ⟨ex, eD⟩ := h
          rw [ln, List.take_length] at eD
          refine ⟨D, _, rfl, .inl (.inl eD), ?_⟩
          rw [all_id]
          have := q _ ex
          rw [decide_eq_true e, Bool.true_and] at this
          exact this
      · rw [decide_eq_false (show ¬ V.int (xs.length : Int) = V.int n from fun z => e (by rw [← ln]; exact V.int.inj z))]
        have := q _ (Ex.refl H)
        rw [decide_eq_false e, Bool.false_and] at this
        exact this

def spIndex : Sp := fun vs H Q _ => ∃ i n : Int, vs = [.int i, .int n] ∧ 0 ≤ i ∧ i < n ∧ Q (.bl true) H
theorem ok_index {f : Addr} {fd : FuncData} (F : Fun K "is_index" "is_index" sIndex f fd) (T : Blt mg) (W : Df P w K mg base 1 "is_whole" ["value"] (spWhole K)) : FnOk P w K mg base CX0 2 f fd ["value", "many"] spIndex := by
  refine F.ok scIndex (fun vs H Q E h => ?_) (fun cdv A outer s H vs Q E hr h => ?_)
  · obtain ⟨i, n, rfl, _⟩ := h
    rfl
  · obtain ⟨i, n, rfl, h0, h1, q⟩ := h
    refine ⟨_, pss_one (ps_ret (pe_and (pe_call W.G hr (by rfl) W.g W.kp W.b .nil pass0 (pa_cons (pv 0) pa_nil)) (pe_one (pe_chain op_le op_lt pe_int (pv 0) (pv 1))))), ?_⟩
    refine ⟨_, rfl, _, .int i, rfl, .int i, true, rfl, ?_⟩
    refine ⟨_, rfl, _, _, rfl, rfl, decide (0 ≤ i), rfl, ?_⟩
    rw [decide_eq_true h0]
    refine ⟨_, rfl, _, _, rfl, rfl, ?_⟩
    show Q (.bl (decide (i < n))) H
    rw [decide_eq_true h1]
    exact q

def spAsc : Sp := fun vs H Q _ => ∃ (p : Addr) (cs : List Str), vs = [.ref p] ∧ Rd H p (.tup (cs.map V.str)) ∧ cs.length ≤ 1000 ∧ ∀ H', Ex H H' → Q (.bl (ascB cs)) H'
theorem ok_asc {f : Addr} {fd : FuncData} (F : Fun K "is_ascending" "is_ascending" sAsc f fd) (T : Blt mg) : FnOk P w K mg base CX0 1 f fd ["values"] spAsc := by
  refine F.ok scAsc (fun vs H Q E h => ?_) (fun cdv A outer s H vs Q E hr h => ?_)
  · obtain ⟨p, cs, rfl, _⟩ := h
    rfl
  · obtain ⟨p, cs, rfl, hp, hl, q⟩ := h
    have nd := scAsc.nd
    refine ⟨_, pss_one (ps_ret (pe_callB (cr_all rfl) (by rfl) T.all (by decide +kernel) (pa_cons (pe_lc (own := [("at", 1)]) (g := gName 1) (tt := tYes) rfl nd (pi_range1 rfl T.range (pa_cons (pe_op op_sub (pe_callB call_len_seq (by rfl) T.len PySem.boot_len (pa_cons (pv 0) pa_nil)) pe_int) pa_nil)) (blkOk_by (N := ["values", "at"]) (sc := defScope sAsc) (by decide +kernel)) (fun _ _ _ _ _ => pg_name (i := 1) nd rfl (.inl rfl)) (fun _ _ _ _ _ => pts_nil)
        (fun _ _ _ _ _ => pe_cmpR op_lt_str (pe_ix (r := rIxT K) ix_tup (pv 0) (pv 1) (fun _ _ => rfl)) (pe_ix (r := rIxT K) ix_tup (pv 0) (pe_op op_add (pv 1) pe_int) (fun _ _ => rfl)) (nomark _))) pa_nil))), ?_⟩
    refine ⟨_, rfl, p, _, rfl, .inr (.inl hp), _, _, rfl, rfl, _, rfl, ?_, ?_, ?_⟩
    · have : (-(2 ^ 62) : Int) ≤ 0 := by decide
      simp only [List.length_map]
      omega
    · simp only [List.length_map]
      omega
    · refine fun D nD => lc_range (n := ((cs.map V.str).length - 1 : Int).toNat) (fun i H' => Ex H H' ∧ H' D = some (.lst (((List.range i).map (ascAt cs)).map V.bl))) ⟨Ex.new nD, upd_same⟩ (fun i H' hi h => ?_) (fun H' h => ?_)
      · obtain ⟨ex, eD⟩ := h
        rw [List.length_map] at hi
        have i1 : i < cs.length := by omega
        have i2 : i + 1 < cs.length := by omega
        have hp' : SqT K H' p (cs.map V.str) := .inl (ex.rd hp)
        have g1 : (cs.map V.str)[i]? = some (.str (cs.getD i "")) := by rw [List.getElem?_map, List.getD_eq_getElem?_getD, List.getElem?_eq_getElem i1]; rfl
        have g2 : (cs.map V.str)[i + 1]? = some (.str (cs.getD (i + 1) "")) := by rw [List.getElem?_map, List.getD_eq_getElem?_getD, List.getElem?_eq_getElem i2]; rfl
        refine ⟨rfl, _, rfl, _, rfl, p, _, _, _, rfl, rfl, hp', (by rw [show (0 + (i : Int)) = (i : Nat) by omega]; exact atI_nat g1), _, rfl, _, rfl, _, _, rfl, rfl, p, _, _, _, rfl, rfl, hp', (by rw [show (0 + (i : Int) + 1) = ((i + 1 : Nat) : Int) by omega]; exact atI_nat g2), _, _, rfl, rfl, _, eD, ?_, ex.mut nD, ?_⟩
        · rw [List.length_map, List.length_map, List.length_range]
          exact room1000 (by omega)
        · rw [upd_same, List.range_succ, List.map_append, List.map_append]
          rfl
      · obtain ⟨ex, eD⟩ := h
        refine ⟨D, _, rfl, .inl (.inl eD), ?_⟩
        rw [all_id, List.length_map, show ((cs.length : Int) - 1).toNat = cs.length - 1 by omega]
        exact q _ ex
end
end Gl

namespace Gl
open PySem PySem.Spec PyProof.Rows L2
abbrev sCols : Stmt := topS 14
abbrev sChkC : Stmt := topS 15
abbrev sRow : Stmt := topS 16
theorem scCols : FnScope ["value", "least", "one"] ["value", "least"] (defScope sCols) := ⟨rfl, rfl, rfl, by decide +kernel, rfl, by decide +kernel, by decide +kernel⟩
theorem scChkC : FnScope ["columns", "least"] ["columns", "least"] (defScope sChkC) := ⟨rfl, rfl, rfl, by decide +kernel, rfl, by decide +kernel, by decide +kernel⟩
theorem scRow : FnScope ["columns", "value"] ["columns", "value"] (defScope sRow) := ⟨rfl, rfl, rfl, by decide +kernel, rfl, by decide +kernel, by decide +kernel⟩
structure Cst (mg : Str → Option Value) : Prop where
  letters : ∃ t, mg "LETTERS" = some (.str abc t)
  mostL : ∃ t, mg "MOST_LETTERS" = some (.int 8 t)
  mostN : ∃ t, mg "MOST_NAMES" = some (.int 8 t)
def ShortS (d : PyData) : Prop := ∀ x, d = .str x → x.length ≤ 1000
section
variable {P : Program} {w : World} {K : PySem.W.Frag} {mg : Str → Option Value} {base : Heap}
def spName (K : PySem.W.Frag) : Sp := fun vs H Q _ => ∃ v d, vs = [v] ∧ Dx K H v d ∧ ShortS d ∧ ∀ H', Ex H H' → Q (.bl (nameB d)) H'
theorem ok_name {f : Addr} {fd : FuncData} (F : Fun K "is_name" "is_name" sName f fd) (T : Blt mg) (C : Cst mg) : FnOk P w K mg base CX0 1 f fd ["value"] (spName K) := by
  refine F.ok scName (fun vs H Q E h => ?_) (fun cdv A outer s H vs Q E hr h => ?_)
  · obtain ⟨v, d, rfl, _⟩ := h
    rfl
  · obtain ⟨v, d, rfl, hd, sh, q⟩ := h
    have nd := scName.nd
    obtain ⟨t1, m1⟩ := C.letters
    obtain ⟨t2, m2⟩ := C.mostL
    refine ⟨_, pss_cons (ps_if (pw_or (pt_not (pt_val (pe_callB call_isi (by rfl) T.isinstance (by decide +kernel) (pa_cons (pv 0) (pa_cons (pe_bltn (v := .ty "str") (by rfl) T.str (by decide +kernel) rfl) pa_nil)))))
        (pw_or1 (pt_not (pt_chain op_le op_le pe_int (pe_callB call_len_str (by rfl) T.len PySem.boot_len (pa_cons (pv 0) pa_nil)) (pe_glob (v := .int 8) (by rfl) m2 ⟨_, rfl⟩))))).pt
        (pss_one (ps_ret pe_bl)) pss_nil)
      (pss_one (ps_ret (pe_callB (cr_all rfl) (by rfl) T.all (by decide +kernel) (pa_cons (pe_lc (own := [("letter", 1)]) (g := gName 1) (tt := tYes) rfl nd (pi_str (pv 0)) (blkOk_by (N := ["value", "letter"]) (sc := defScope sName) (by decide +kernel)) (fun _ _ _ _ _ => pg_name (i := 1) nd rfl (.inl rfl)) (fun _ _ _ _ _ => pts_nil)
        (fun _ _ _ _ _ => pe_cmpR op_in_sign (pv 1) (pe_glob (v := .str abc) (by rfl) m1 ⟨_, rfl⟩) rfl)) pa_nil)))), ?_⟩
    refine ⟨_, rfl, _, _, _, _, _, rfl, .ty _, tyx hd, kit_ty (isStr d), _, rfl, ?_⟩
    cases hd with
    | non => exact q _ (Ex.refl H)
    | bl b => exact q _ (Ex.refl H)
    | int i => exact q _ (Ex.refl H)
    | lst _ _ => exact q _ (Ex.refl H)
    | tup _ _ => exact q _ (Ex.refl H)
    | dk _ _ => exact q _ (Ex.refl H)
    | str c =>
      have l1 := sh c rfl
      have q : ∀ H', Ex H H' → Q (.bl (decide (1 ≤ c.length ∧ c.length ≤ 8) && c.cps.toList.all fun x => decide (Small x))) H' := q
      refine ⟨_, rfl, c, rfl, Nat.le_trans l1 (by decide), 1, _, rfl, rfl, _, rfl, ?_⟩
      by_cases c1 : 1 ≤ c.length
      · rw [decide_eq_true (show (1 : Int) ≤ (c.length : Int) by omega)]
        refine ⟨_, _, rfl, rfl, _, rfl, ?_⟩
        by_cases c8 : c.length ≤ 8
        · rw [decide_eq_true (show (c.length : Int) ≤ 8 by omega)]
          refine ⟨_, rfl, c, rfl, fun D nD => lc_it walk_str (fun i H' => Ex H H' ∧ H' D = some (.lst (((c.cps.toList.take i).map fun x => decide (Small x)).map V.bl))) ⟨Ex.new nD, upd_same⟩ (fun _ _ _ _ => trivial) (fun i x H1 H2 hi h y => ?_) (fun H' h => ?_)⟩
          · obtain ⟨rfl, z, hz, rfl⟩ := y
            obtain ⟨ex, eD⟩ := h
            have hz2 : c.cps.toList[i]? = some z := by rw [Array.getElem?_toList]; exact hz
            refine ⟨rfl, _, rfl, z, abc, rfl, rfl, _, eD, ?_, ex.mut nD, ?_⟩
            · rw [List.length_map, List.length_map, List.length_take]
              have : c.cps.size ≤ 8 := c8
              exact room1000 (by omega)
            · rw [upd_same, take_all hz2, List.map_append]
              have : decide (z ∈ abc.cps.toList) = decide (Small z) := by
                by_cases y : Small z
                · rw [decide_eq_true y, decide_eq_true (abc_mem.mpr y)]
                · rw [decide_eq_false y, decide_eq_false fun m => y (abc_mem.mp m)]
              rw [this]
              rfl
          · obtain ⟨ex, eD⟩ := h
            have e : c.cps.toList.take c.cps.size = c.cps.toList := List.take_of_length_le (Nat.le_of_eq Array.length_toList)
            rw [e] at eD
            refine ⟨D, _, rfl, .inl (.inl eD), ?_⟩
            rw [all_id]
            have := q _ ex
            rw [decide_eq_true ⟨c1, c8⟩, Bool.true_and] at this
            exact this
        · rw [decide_eq_false (show ¬ (c.length : Int) ≤ 8 by omega)]
          have := q _ (Ex.refl H)
          rw [decide_eq_false (fun z => c8 z.2), Bool.false_and] at this
          exact this
      · rw [decide_eq_false (show ¬ (1 : Int) ≤ (c.length : Int) by omega)]
        have := q _ (Ex.refl H)
        rw [decide_eq_false (fun z => c1 z.1), Bool.false_and] at this
        exact ⟨false, rfl, this⟩

theorem names_strs {K : PySem.W.Frag} {H : Hp} : ∀ {xs : List V} {ds : List PyData}, DxAll K H xs ds → ds.all nameB = true → xs = (ds.map strOf).map V.str
  | _, _, .nil, _ => rfl
  | _, _, .cons (d := d) h t, e => by
    rw [List.all_cons] at e
    obtain ⟨e1, e2⟩ := Bool.and_eq_true_iff.mp e
    rw [List.map_cons, List.map_cons, names_strs t e2]
    cases h with
    | str x => rfl
    | _ => exact absurd e1 Bool.false_ne_true
def spIsCols (K : PySem.W.Frag) : Sp := fun vs H Q _ => ∃ (v : V) (d : PyData) (b : Nat), vs = [v, .int b] ∧ b ≤ 8 ∧ Dx K H v d ∧ Short d ∧ ∀ H', Ex H H' → Q (.bl (colsB d b)) H'
theorem ok_isCols {f : Addr} {fd : FuncData} (F : FunD K "is_columns" "is_columns" (defArgs sCols) (defBody sCols) (defScope sCols) [] [("least", .int 0)] f fd) (T : Blt mg) (C : Cst mg)
    (I : Df P w K mg base 2 "is_index" ["value", "many"] spIndex) (N : Df P w K mg base 1 "is_name" ["value"] (spName K)) (A : Df P w K mg base 1 "is_ascending" ["values"] spAsc) : FnOk P w K mg base CX0 3 f fd ["value", "least"] (spIsCols K) := by
  refine F.ok scCols (fun vs H Q E h => ?_) (fun cdv A0 outer s H vs Q E hr h => ?_)
  · obtain ⟨v, d, b, rfl, _⟩ := h
    rfl
  · obtain ⟨v, d, b, rfl, b8, hd, sh, q⟩ := h
    have nd := scCols.nd
    obtain ⟨t2, m2⟩ := C.mostN
    refine ⟨_, pss_cons (ps_if (pt_not (pt_val (pe_call I.G hr (by rfl) I.g I.kp I.b .nil pass0 (pa_cons (pv 1) (pa_cons (pe_op op_add (pe_glob (v := .int 8) (by rfl) m2 ⟨_, rfl⟩) pe_int) pa_nil))))) pss_never pss_nil)
      (pss_cons (ps_if (pw_or (pt_not (pt_val (pe_callB call_isi (by rfl) T.isinstance (by decide +kernel) (pa_cons (pv 0) (pa_cons (pe_bltn (v := .ty "tuple") (by rfl) T.tuple (by decide +kernel) rfl) pa_nil)))))
        (pw_or1 (pt_not (pt_chain op_le op_le (pv 1) (pe_callB call_len_seq (by rfl) T.len PySem.boot_len (pa_cons (pv 0) pa_nil)) (pe_glob (v := .int 8) (by rfl) m2 ⟨_, rfl⟩))))).pt
        (pss_one (ps_ret pe_bl)) pss_nil)
      (pss_one (ps_ret (pe_and (pe_callB (cr_all rfl) (by rfl) T.all (by decide +kernel) (pa_cons (pe_lc (own := [("one", 2)]) (g := gName 2) (tt := tYes) rfl nd (pi_tup (pv 0)) (blkOk_by (N := ["value", "least", "one"]) (sc := defScope sCols) (by decide +kernel)) (fun _ _ _ _ _ => pg_name (i := 2) nd rfl (.inl rfl)) (fun _ _ _ _ _ => pts_nil)
        (fun _ _ _ _ _ => pe_call N.G (hr.mono (by decide)) (by rfl) N.g N.kp N.b .nil pass0 (pa_cons (pv 2) pa_nil))) pa_nil))
        (pe_one (pe_call A.G (hr.mono (by decide)) (by rfl) A.g A.kp A.b .nil pass0 (pa_cons (pv 0) pa_nil))))))), ?_⟩
    refine ⟨_, rfl, _, _, rfl, rfl, b, _, rfl, by omega, (show (b : Int) < 8 + 1 by omega), true, rfl, ?_⟩
    refine ⟨_, rfl, _, _, _, _, _, rfl, .ty _, tyx hd, kit_ty (isTup d), _, rfl, ?_⟩
    cases hd with
    | non => exact q _ (Ex.refl H)
    | bl b => exact q _ (Ex.refl H)
    | int i => exact q _ (Ex.refl H)
    | lst _ _ => exact q _ (Ex.refl H)
    | str _ => exact q _ (Ex.refl H)
    | dk _ _ => exact q _ (Ex.refl H)
    | @tup p xs ds hp ha =>
      have ln := ha.length
      have q : ∀ H', Ex H H' → Q (.bl (decide (b ≤ ds.length ∧ ds.length ≤ 8) && (ds.all nameB && ascB (ds.map strOf)))) H' := q
      refine ⟨_, rfl, _, rfl, p, _, rfl, .inr (.inl hp), _, _, rfl, rfl, _, rfl, ?_⟩
      rw [ln]
      by_cases c1 : b ≤ ds.length
      · rw [decide_eq_true (show (b : Int) ≤ (ds.length : Int) by omega)]
        refine ⟨_, _, rfl, rfl, _, rfl, ?_⟩
        by_cases c8 : ds.length ≤ 8
        · rw [decide_eq_true (show (ds.length : Int) ≤ 8 by omega)]
          refine ⟨_, rfl, p, rfl, ⟨_, .inl hp⟩, fun D nD => lc_tup (xs := xs) (fun i H' => Ex H H' ∧ H' D = some (.lst (((ds.take i).map nameB).map V.bl)))
            ⟨Ex.new nD, upd_same⟩ (fun i H' _ h => .inl (h.1.rd hp)) (fun i x H' hx h => ?_) (fun H' h => ?_)⟩
          · obtain ⟨ex, eD⟩ := h
            obtain ⟨d1, hd1, hx1⟩ := ha.get hx
            refine ⟨rfl, _, rfl, x, d1, rfl, hx1.ex ex, (fun y e => sh.2 y (by rw [← e]; exact List.mem_of_getElem? hd1)), fun H2 ex2 => ⟨_, ex2 D _ eD, ?_, (ex.trans ex2).mut nD, ?_⟩⟩
            · rw [List.length_map, List.length_map, List.length_take]
              exact room1000 (by omega)
            · rw [upd_same, take_all hd1, List.map_append]
              rfl
          · obtain ⟨ex, eD⟩ := h
            rw [ln, List.take_length] at eD
            refine ⟨D, _, rfl, .inl (.inl eD), _, rfl, ?_⟩
            rw [all_id]
            rw [decide_eq_true ⟨c1, c8⟩, Bool.true_and] at q
            by_cases e : ds.all nameB = true
            · rw [e] at q ⊢
              have exs := names_strs ha e
              refine ⟨_, rfl, p, ds.map strOf, rfl, by rw [← exs]; exact ex.rd hp, by rw [List.length_map]; omega, fun H2 ex2 => ?_⟩
              exact q _ (ex.trans ex2)
            · rw [Bool.eq_false_iff.mpr e] at q ⊢
              exact q _ ex
        · rw [decide_eq_false (show ¬ (ds.length : Int) ≤ 8 by omega)]
          have := q _ (Ex.refl H)
          rw [decide_eq_false (fun z => c8 z.2), Bool.false_and] at this
          exact this
      · rw [decide_eq_false (show ¬ (b : Int) ≤ (ds.length : Int) by omega)]
        have := q _ (Ex.refl H)
        rw [decide_eq_false (fun z => c1 z.1), Bool.false_and] at this
        exact ⟨false, rfl, this⟩
end
end Gl

namespace Gl
open PySem PySem.Spec PyProof.Rows L2
/-! ### ascending: three ways to say it -/
def NameOk (c : Str) : Prop := 1 ≤ c.length ∧ c.length ≤ 8 ∧ ∀ x ∈ c.cps.toList, Small x
def Asc (cs : List Str) : Prop := cs.Pairwise fun x y => x.cps.toList < y.cps.toList
structure ColsOk (cs : List Str) : Prop where
  nm : ∀ c ∈ cs, NameOk c
  asc : Asc cs
  len : cs.length ≤ 8
def ColsAt (H : Hp) (p : Addr) (cs : List Str) : Prop := ColsOk cs ∧ Rd H p (.tup (cs.map V.str))
theorem Ex.colsAt {H H' : Hp} {p : Addr} {cs : List Str} (e : Ex H H') (h : ColsAt H p cs) : ColsAt H' p cs := ⟨h.1, e.rd h.2⟩
theorem nameB_of {c : Str} (h : NameOk c) : nameB (.str c) = true := by
  show (decide (1 ≤ c.length ∧ c.length ≤ 8) && c.cps.toList.all fun x => decide (Small x)) = true
  rw [decide_eq_true ⟨h.1, h.2.1⟩, Bool.true_and, List.all_eq_true]
  exact fun x hx => decide_eq_true (h.2.2 x hx)
theorem of_nameB {d : PyData} (h : nameB d = true) : ∃ c, d = .str c ∧ NameOk c := by
  cases d with
  | str c =>
    unfold nameB at h
    obtain ⟨h1, h2⟩ := Bool.and_eq_true_iff.mp h
    obtain ⟨a, b⟩ := of_decide_eq_true h1
    exact ⟨c, rfl, a, b, fun x hx => of_decide_eq_true (List.all_eq_true.mp h2 x hx)⟩
  | _ => exact absurd h Bool.false_ne_true
theorem ascB_iff (cs : List Str) : ascB cs = true ↔ Asc cs := by
  unfold ascB Asc
  rw [List.all_eq_true]
  constructor
  · intro h
    have step : ∀ i, i + 1 < cs.length → (cs.getD i "").cps.toList < (cs.getD (i + 1) "").cps.toList := fun i hi => of_decide_eq_true (h i (List.mem_range.mpr (by omega)))
    have far : ∀ d i, i + d + 1 < cs.length → (cs.getD i "").cps.toList < (cs.getD (i + d + 1) "").cps.toList := by
      intro d
      induction d with
      | zero => exact fun i hi => step i hi
      | succ d ih =>
        intro i hi
        exact List.lt_trans (ih i (by omega)) (step (i + d + 1) (by omega))
    refine List.pairwise_iff_getElem.mpr fun i j hi hj lt => ?_
    have := far (j - i - 1) i (by omega)
    rw [show i + (j - i - 1) + 1 = j by omega] at this
    rw [List.getD_eq_getElem?_getD, List.getD_eq_getElem?_getD, List.getElem?_eq_getElem hi, List.getElem?_eq_getElem hj] at this
    exact this
  · intro h i hi
    have hi := List.mem_range.mp hi
    have h1 : i < cs.length := by omega
    have h2 : i + 1 < cs.length := by omega
    have := List.pairwise_iff_getElem.mp h i (i + 1) h1 h2 (by omega)
    unfold ascAt
    rw [List.getD_eq_getElem?_getD, List.getD_eq_getElem?_getD, List.getElem?_eq_getElem h1, List.getElem?_eq_getElem h2]
    exact decide_eq_true this
theorem strOf_map (cs : List Str) : (cs.map PyData.str).map strOf = cs := by
  rw [List.map_map]
  exact List.map_id'' (fun _ => rfl) cs
theorem colsB_of {cs : List Str} (h : ColsOk cs) : colsB (.tuple (cs.map PyData.str)) 0 = true := by
  show (decide (0 ≤ (cs.map PyData.str).length ∧ (cs.map PyData.str).length ≤ 8) && ((cs.map PyData.str).all nameB && ascB ((cs.map PyData.str).map strOf))) = true
  rw [strOf_map, (ascB_iff cs).mpr h.asc, decide_eq_true ⟨Nat.zero_le _, by rw [List.length_map]; exact h.len⟩, Bool.true_and, Bool.and_true, List.all_eq_true]
  intro d hd
  obtain ⟨c, hc, rfl⟩ := List.mem_map.mp hd
  exact nameB_of (h.nm c hc)
/-- not falling -/
def Up (cs : List Str) : Prop := cs.Pairwise fun x y => ¬ y.cps.toList < x.cps.toList
theorem not_lt_trans {a b c : List Nat} (h1 : ¬ b < a) (h2 : ¬ c < b) : ¬ c < a := fun z => by
  rcases List.le_iff_lt_or_eq.mp (List.not_lt.mp h2) with q | q
  · exact h1 (List.lt_trans q z)
  · exact h1 (q ▸ z)
theorem rising_mem : ∀ {p : Str} {l : List Str}, risingS p l = true → (∀ x ∈ l, ¬ x.cps.toList < p.cps.toList) ∧ Up l
  | p, [], _ => ⟨fun _ h => (nomatch h), List.Pairwise.nil⟩
  | p, x :: l, h => by
    have h' : (!ltCps x.cps.toList p.cps.toList && risingS x l) = true := h
    rw [ltCps_eq] at h'
    obtain ⟨h1, h2⟩ := Bool.and_eq_true_iff.mp h'
    obtain ⟨a, b⟩ := rising_mem h2
    have h3 : ¬ x.cps.toList < p.cps.toList := fun z => by rw [decide_eq_true z] at h1; exact nomatch h1
    refine ⟨fun y hy => ?_, List.Pairwise.cons a b⟩
    rcases List.mem_cons.mp hy with rfl | hy
    · exact h3
    · exact not_lt_trans h3 (a y hy)
theorem up_of_sorted {l : List Str} (h : sortedS l = true) : Up l := by
  cases l with
  | nil => exact List.Pairwise.nil
  | cons x l =>
    obtain ⟨a, b⟩ := rising_mem (show risingS x l = true from h)
    exact List.Pairwise.cons a b
theorem str_ext {x y : Str} (h : x.cps.toList = y.cps.toList) : x = y := by
  cases x
  cases y
  exact congrArg Str.mk (Array.toList_inj.mp h)
theorem up_anti {x y : Str} (h1 : ¬ y.cps.toList < x.cps.toList) (h2 : ¬ x.cps.toList < y.cps.toList) : x = y := by
  rcases List.le_iff_lt_or_eq.mp (List.not_lt.mp h1) with q | q
  · exact absurd q h2
  · exact str_ext q
theorem met_mem (zs : List Str) (x : Str) : ∀ i, i ≤ zs.length → (x ∈ met zs i ↔ x ∈ zs.take i)
  | 0, _ => by simp [met, dd]
  | i + 1, hi => by
    have hz : zs[i]? = some zs[i] := List.getElem?_eq_getElem (by omega)
    have ih := met_mem zs x i (by omega)
    rw [met_succ hz, List.take_add_one, hz]
    by_cases q : zs[i] ∈ met zs i
    · rw [if_pos q]
      have q2 := (met_mem zs zs[i] i (by omega)).mp q
      constructor
      · intro h
        exact List.mem_append_left _ (ih.mp h)
      · intro h
        rcases List.mem_append.mp h with h | h
        · exact ih.mpr h
        · rw [List.mem_singleton.mp h]; exact q
    · rw [if_neg q, List.mem_append, List.mem_append, ih]
      rfl
theorem met_nodup (zs : List Str) : ∀ i, i ≤ zs.length → ((met zs i).length = i ↔ (zs.take i).Nodup)
  | 0, _ => by simp [met, dd]
  | i + 1, hi => by
    have hz : zs[i]? = some zs[i] := List.getElem?_eq_getElem (by omega)
    have ih := met_nodup zs i (by omega)
    have mm := met_mem zs zs[i] i (by omega)
    have ml := met_len zs i
    rw [met_succ hz, List.take_add_one, hz]
    show _ ↔ (zs.take i ++ [zs[i]]).Nodup
    rw [List.nodup_append]
    by_cases q : zs[i] ∈ met zs i
    · rw [if_pos q]
      constructor
      · intro h; omega
      · intro h
        exact absurd rfl (h.2.2 _ (mm.mp q) _ (List.mem_singleton.mpr rfl))
    · rw [if_neg q, List.length_append]
      constructor
      · intro h
        refine ⟨ih.mp (by simp only [List.length_singleton] at h; omega), by simp, fun a ha b hb e => ?_⟩
        rw [List.mem_singleton.mp hb] at e
        exact q (mm.mpr (e ▸ ha))
      · intro h
        rw [ih.mpr h.1]
        rfl
theorem asc_told {cs ys : List Str} (h1 : ys.Perm cs) (h2 : Up ys) : (decide (cs = ys) && decide ((met cs cs.length).length = cs.length)) = ascB cs := by
  have md := met_nodup cs cs.length (Nat.le_refl _)
  rw [List.take_length] at md
  by_cases a : Asc cs
  · have u : Up cs := a.imp fun {x y} h z => absurd (List.lt_trans h z) (List.lt_irrefl _)
    have e : ys = cs := h1.eq_of_pairwise (le := fun x y : Str => ¬ y.cps.toList < x.cps.toList) (fun x y _ _ p q => up_anti p q) h2 u
    have nd : cs.Nodup := a.imp fun {x y} h z => by rw [z] at h; exact absurd h (List.lt_irrefl _)
    rw [(ascB_iff cs).mpr a, decide_eq_true e.symm, decide_eq_true (md.mpr nd)]
    rfl
  · have f : ascB cs = false := by
      rcases q : ascB cs with _ | _
      · rfl
      · exact absurd ((ascB_iff cs).mp q) a
    rw [f]
    by_cases e : cs = ys
    · rw [decide_eq_true e, Bool.true_and]
      apply decide_eq_false
      intro l
      have nd := md.mp l
      refine a (List.Pairwise.imp (fun {x y} (h : ¬ y.cps.toList < x.cps.toList ∧ x ≠ y) => ?_) ((show Up cs from e ▸ h2).and nd))
      rcases List.le_iff_lt_or_eq.mp (List.not_lt.mp h.1) with q | q
      · exact q
      · exact absurd (str_ext q) h.2
    · rw [decide_eq_false e]
      rfl
end Gl

namespace Gl
open PySem PySem.Spec PyProof.Rows L2
abbrev sGoodN : Stmt := topS 22
abbrev sGoodC : Stmt := topS 23
theorem scGoodN : FnScope ["_law_value", "_law_sign"] ["_law_value"] (defScope sGoodN) := ⟨rfl, rfl, rfl, by decide +kernel, rfl, by decide +kernel, by decide +kernel⟩
theorem scGoodC : FnScope ["_law_value", "_law_bottom", "_law_one"] ["_law_value", "_law_bottom"] (defScope sGoodC) := ⟨rfl, rfl, rfl, by decide +kernel, rfl, by decide +kernel, by decide +kernel⟩
/-- further names that are left to the built-ins -/
structure Blt2 (mg : Str → Option Value) : Prop where
  sorted : mg "sorted" = none
  set : mg "set" = none
theorem filter_take {α : Type} {f : α → Bool} {l : List α} {i : Nat} {x : α} (h : l[i]? = some x) : (l.take (i + 1)).filter f = (l.take i).filter f ++ (if f x = true then [x] else []) := by
  rw [List.take_add_one, h, List.filter_append]
  show _ ++ List.filter f [x] = _
  rw [List.filter_cons]
  rfl
theorem filter_len {α : Type} (f : α → Bool) (l : List α) : (l.filter f).length ≤ l.length := List.length_filter_le _ _
theorem eqv_strs2 : ∀ cs ys : List Str, PyData.eqvAll (cs.map PyData.str) (ys.map PyData.str) = decide (cs = ys)
  | [], [] => by simp only [List.map_nil, PyData.eqvAll]; rfl
  | [], _ :: _ => by simp only [List.map_nil, List.map_cons, PyData.eqvAll]; rfl
  | _ :: _, [] => by simp only [List.map_nil, List.map_cons, PyData.eqvAll]; rfl
  | c :: cs, y :: ys => by
    simp only [List.map_cons, PyData.eqvAll, PyData.eqv, eqv_strs2 cs ys]
    by_cases e : c = y
    · subst e
      rw [beq_self_eq_true, Bool.true_and]
      by_cases f : cs = ys
      · rw [decide_eq_true f, f, decide_eq_true rfl]
      · rw [decide_eq_false f, decide_eq_false fun z => f (List.cons.inj z).2]
    · rw [decide_eq_false fun z => e (List.cons.inj z).1, beq_eq_false_iff_ne.mpr e]
      rfl
theorem lay_strs : ∀ {cs : List Str}, (∀ c ∈ cs, NameOk c) → PyData.canLayAll0 (cs.map PyData.str) = true
  | [], _ => by simp only [List.map_nil, PyData.canLayAll0]
  | c :: cs, h => by
    have hc := h c (List.mem_cons_self ..)
    have l1 : PyData.canLay0 (.str c) = true := by
      simp only [PyData.canLay0]
      unfold PyData.strOk
      rw [Array.all_eq_true']
      intro x hx
      have := hc.2.2 x (Array.mem_toList_iff.mpr hx)
      unfold Small at this
      exact decide_eq_true (by omega)
    simp only [List.map_cons, PyData.canLayAll0]
    rw [l1, lay_strs fun x hx => h x (List.mem_cons_of_mem _ hx)]
    rfl
theorem dep_strs : ∀ ns : List Str, PyData.depthAll (ns.map PyData.str) = 0
  | [] => by simp only [List.map_nil, PyData.depthAll]
  | n :: ns => by simp only [List.map_cons, PyData.depthAll, PyData.depth, dep_strs ns, Nat.max_self]
theorem shaped_strs {cs : List Str} (h : ∀ c ∈ cs, NameOk c) : SeqAt.shaped (.list (cs.map PyData.str)) = true := by
  unfold SeqAt.shaped
  simp only [PyData.canLay0, PyData.depth, lay_strs h, dep_strs]
  decide
theorem dp_strs {K : PySem.W.Frag} {H : Hp} : ∀ cs : List Str, DpAll K H (cs.map V.str) (cs.map PyData.str)
  | [] => .nil
  | c :: cs => .cons (.str c) (dp_strs cs)
theorem dx_strs {K : PySem.W.Frag} {H : Hp} : ∀ cs : List Str, DxAll K H (cs.map V.str) (cs.map PyData.str)
  | [] => .nil
  | c :: cs => .cons (.str c) (dx_strs cs)
theorem short_strs {cs : List Str} (h : ColsOk cs) : Short (.tuple (cs.map PyData.str)) := by
  refine ⟨by rw [List.length_map]; have := h.len; omega, fun x hx => ?_⟩
  obtain ⟨c, hc, e⟩ := List.mem_map.mp hx
  obtain rfl := PyData.str.inj e
  have := (h.nm c hc).2.1
  omega
section
variable {P : Program} {w : World} {K : PySem.W.Frag} {mg : Str → Option Value} {base : Heap}
structure DfK (P : Program) (w : World) (K : PySem.W.Frag) (mg : Str → Option Value) (base : Heap) (k : Nat) (x : Str) (ps : List Str) (sp : Sp) where
  f : Addr
  fd : FuncData
  G : FnOk P w K mg base CX0 k f fd ps sp
  g : mg x = some (.ref f)
  kp : PySem.W.keepIn K (.ref f) = true
theorem kbn_isCols {f : Addr} {fd : FuncData} (F : FunD K "is_columns" "is_columns" (defArgs sCols) (defBody sCols) (defScope sCols) [] [("least", .int 0)] f fd) :
    KBn K fd ["value", "least"] 1 ["least"] (fun us ws => us ++ ws) (fun vs zs => vs ++ zs) := by
  obtain ⟨oc, od, dV, kV, doc, pm, an, cdv, ct, osl, rfl, lk, hcd, hD, hK⟩ := F.ex
  rcases hD with ⟨_, rfl⟩ | ⟨e, _⟩
  · refine ⟨fun s us ws X l1 l2 => ?_, fun r rz => r.append rz⟩
    match us, ws, l1, l2 with
    | [u], [z], _, _ => exact .of_eq rfl
  · exact absurd rfl e
theorem bind_isCols {f : Addr} {fd : FuncData} (F : FunD K "is_columns" "is_columns" (defArgs sCols) (defBody sCols) (defScope sCols) [] [("least", .int 0)] f fd) :
    ∃ ds, Vals [V.int 0] ds ∧ Binds K fd ["value", "least"] ds :=
  F.binds0 1 (by simp) rfl fun D doc pm an cdv ct us ks l1 l2 => by
    match us, ks, l1, l2 with
    | [u], [z], _, _ => exact ⟨_, _, _, _, _, _, rfl, rfl, rfl⟩
theorem bind_chkC {f : Addr} {fd : FuncData} (F : FunD K "check_columns" "check_columns" (defArgs sChkC) (defBody sChkC) (defScope sChkC) [] [("least", .int 0)] f fd) :
    ∃ ds, Vals [V.int 0] ds ∧ Binds K fd ["columns", "least"] ds :=
  F.binds0 1 (by simp) rfl fun D doc pm an cdv ct us ks l1 l2 => by
    match us, ks, l1, l2 with
    | [u], [z], _, _ => exact ⟨_, _, _, _, _, _, rfl, rfl, rfl⟩
def spChkC : Sp := fun vs H Q _ => ∃ (p : Addr) (cs : List Str), vs = [.ref p, .int 0] ∧ ColsAt H p cs ∧ ∀ H', Ex H H' → Q .non H'
theorem ok_chkC {f : Addr} {fd : FuncData} (F : FunD K "check_columns" "check_columns" (defArgs sChkC) (defBody sChkC) (defScope sChkC) [] [("least", .int 0)] f fd)
    (I : DfK P w K mg base 3 "is_columns" ["value", "least"] (spIsCols K)) (kb : KBn K I.fd ["value", "least"] 1 ["least"] (fun us ws => us ++ ws) (fun vs zs => vs ++ zs)) : FnOk P w K mg base CX0 4 f fd ["columns", "least"] spChkC := by
  refine F.ok scChkC (fun vs H Q E h => ?_) (fun cdv A0 outer s H vs Q E hr h => ?_)
  · obtain ⟨p, cs, rfl, _⟩ := h
    rfl
  · obtain ⟨p, cs, rfl, ⟨ok, hp⟩, q⟩ := h
    refine ⟨_, pss_one (ps_if (pt_not (pt_val (pe_callN I.G hr (by rfl) I.g I.kp kb pass0 (pa_cons (pv 0) pa_nil) (pk_cons (pv 1) pk_nil)))) pss_never pss_nil), ?_⟩
    refine ⟨_, rfl, _, rfl, rfl, rfl, .ref p, .tuple (cs.map PyData.str), 0, rfl, by decide, .tup hp (dx_strs cs), short_strs ok, fun H' ex => ⟨_, rfl, ?_⟩⟩
    rw [colsB_of ok]
    exact q _ ex
structure DfC (P : Program) (w : World) (K : PySem.W.Frag) (mg : Str → Option Value) (base : Heap) where
  f : Addr
  fd : FuncData
  ds : List Value
  G : FnOk P w K mg base CX0 4 f fd ["columns", "least"] spChkC
  g : mg "check_columns" = some (.ref f)
  kp : PySem.W.keepIn K (.ref f) = true
  b : Binds K fd ["columns", "least"] ds
  v : Vals [V.int 0] ds
def spRow (K : PySem.W.Frag) : Sp := fun vs H Q _ => ∃ (p : Addr) (cs : List Str) (v : V) (d : PyData), vs = [.ref p, v] ∧ ColsAt H p cs ∧ Dx K H v d ∧ Short d ∧ ∀ H', Ex H H' → Q (.bl (wholesB d cs.length)) H'
theorem ok_row {f : Addr} {fd : FuncData} (F : Fun K "is_row" "is_row" sRow f fd) (T : Blt mg) (C : DfC P w K mg base) (W : Df P w K mg base 2 "are_whole" ["value", "many"] (spWholes K)) : FnOk P w K mg base CX0 5 f fd ["columns", "value"] (spRow K) := by
  refine F.ok scRow (fun vs H Q E h => ?_) (fun cdv A0 outer s H vs Q E hr h => ?_)
  · obtain ⟨p, cs, v, d, rfl, _⟩ := h
    rfl
  · obtain ⟨p, cs, v, d, rfl, hc, hd, sh, q⟩ := h
    refine ⟨_, pss_cons (ps_expr (pe_call C.G hr (by rfl) C.g C.kp C.b C.v pass0 (pa_cons (pv 0) pa_nil)))
      (pss_one (ps_ret (pe_call W.G (hr.mono (by decide)) (by rfl) W.g W.kp W.b .nil pass0 (pa_cons (pv 1) (pa_cons (pe_callB call_len_seq (by rfl) T.len PySem.boot_len (pa_cons (pv 0) pa_nil)) pa_nil))))), ?_⟩
    refine ⟨_, rfl, p, cs, rfl, hc, fun H1 e1 => ?_⟩
    refine ⟨_, rfl, _, rfl, p, _, rfl, .inr (.inl (e1.rd hc.2)), v, d, _, rfl, hd.ex e1, sh, fun H2 e2 => ?_⟩
    rw [List.length_map]
    exact q _ (e1.trans e2)

def spGoodN (K : PySem.W.Frag) : Sp := fun vs H Q _ => ∃ v d, vs = [v] ∧ Dx K H v d ∧ ShortS d ∧ ∀ H', Ex H H' → Q (.bl (nameB d)) H'
theorem ok_goodN {f : Addr} {fd : FuncData} (F : Fun K "_law_good_name" "_law_good_name" sGoodN f fd) (T : Blt mg) : FnOk P w K mg base CX0 1 f fd ["_law_value"] (spGoodN K) := by
  refine F.ok scGoodN (fun vs H Q E h => ?_) (fun cdv A outer s H vs Q E hr h => ?_)
  · obtain ⟨v, d, rfl, _⟩ := h
    rfl
  · obtain ⟨v, d, rfl, hd, sh, q⟩ := h
    have nd := scGoodN.nd
    have hu : (A.deeper (envOfC "_law_good_name" (defScope sGoodN) s.heap.objs.size f cdv)).units < cLine := by have := hr.un; omega
    refine ⟨_, pss_cons (ps_if (pw_or (pt_not (pt_val (pe_callB call_isi (by rfl) T.isinstance (by decide +kernel) (pa_cons (pv 0) (pa_cons (pe_bltn (v := .ty "str") (by rfl) T.str (by decide +kernel) rfl) pa_nil)))))
        (pw_or (pt_cmpR op_eq (pe_callB call_len_str (by rfl) T.len PySem.boot_len (pa_cons (pv 0) pa_nil)) pe_int (nomark _))
        (pw_or1 (pt_cmpR op_gt (pe_callB call_len_str (by rfl) T.len PySem.boot_len (pa_cons (pv 0) pa_nil)) pe_int (nomark _))))).pt
        (pss_one (ps_ret pe_bl)) pss_nil)
      (pss_one (ps_ret (pe_cmpR (op_eqNil hu) (pe_lc (own := [("_law_sign", 1)]) (g := gName 1) rfl nd (pi_str (pv 0)) (blkOk_by (N := ["_law_value", "_law_sign"]) (sc := defScope sGoodN) (by decide +kernel)) (fun _ _ _ _ _ => pg_name (i := 1) nd rfl (.inl rfl)) (fun _ _ _ _ _ => pts_one (pt_cmpR op_notIn_sign (pv 1) pe_str rfl))
        (fun _ _ _ _ _ => pv 1)) (pe_lst pa_nil) (nomark _)))), ?_⟩
    refine ⟨_, rfl, _, _, _, _, _, rfl, .ty _, tyx hd, kit_ty (isStr d), _, rfl, ?_⟩
    cases hd with
    | non => exact q _ (Ex.refl H)
    | bl b => exact q _ (Ex.refl H)
    | int i => exact q _ (Ex.refl H)
    | lst _ _ => exact q _ (Ex.refl H)
    | tup _ _ => exact q _ (Ex.refl H)
    | dk _ _ => exact q _ (Ex.refl H)
    | str c =>
      have l1 := sh c rfl
      have q : ∀ H', Ex H H' → Q (.bl (decide (1 ≤ c.length ∧ c.length ≤ 8) && c.cps.toList.all fun x => decide (Small x))) H' := q
      have lz : c.length ≤ sizeLine := Nat.le_trans l1 (by decide)
      refine ⟨_, rfl, c, rfl, lz, rfl, _, rfl, ?_⟩
      by_cases c1 : c.length = 0
      · rw [decide_eq_true (show V.int (c.length : Int) = V.int 0 by rw [c1]; rfl)]
        have := q _ (Ex.refl H)
        rw [decide_eq_false (fun z => by omega), Bool.false_and] at this
        exact this
      · rw [decide_eq_false (show ¬ V.int (c.length : Int) = V.int 0 from fun z => c1 (by have := V.int.inj z; omega))]
        refine ⟨_, rfl, c, rfl, lz, _, _, rfl, rfl, _, rfl, ?_⟩
        by_cases c8 : c.length ≤ 8
        · rw [decide_eq_false (show ¬ (8 : Int) < (c.length : Int) by omega)]
          refine ⟨_, rfl, c, rfl, fun D nD => lc_it walk_str (fun i H' => Ex H H' ∧ H' D = some (.lst (((c.cps.toList.take i).filter fun x => !decide (Small x)).map fun x => V.str ⟨#[x]⟩))) ⟨Ex.new nD, upd_same⟩ (fun _ _ _ _ => trivial) (fun i x H1 H2 hi h y => ?_) (fun H' h => ?_)⟩
          · obtain ⟨rfl, z, hz, rfl⟩ := y
            obtain ⟨ex, eD⟩ := h
            have hz2 : c.cps.toList[i]? = some z := by rw [Array.getElem?_toList]; exact hz
            have ft := filter_take (f := fun x => !decide (Small x)) hz2
            have dm : decide (z ∈ abc.cps.toList) = decide (Small z) := by
              by_cases y : Small z
              · rw [decide_eq_true y, decide_eq_true (abc_mem.mpr y)]
              · rw [decide_eq_false y, decide_eq_false fun m => y (abc_mem.mp m)]
            refine ⟨rfl, _, rfl, z, abc, rfl, rfl, _, rfl, ?_⟩
            rw [dm]
            by_cases y : Small z
            · rw [decide_eq_true y]
              rw [decide_eq_true y] at ft
              refine ⟨ex, ?_⟩
              rw [ft]
              simpa using eD
            · rw [decide_eq_false y]
              rw [decide_eq_false y] at ft
              refine ⟨_, rfl, _, eD, ?_, ex.mut nD, ?_⟩
              · rw [List.length_map]
                have := filter_len (fun x => !decide (Small x)) (c.cps.toList.take i)
                rw [List.length_take] at this
                have : c.cps.size ≤ 8 := c8
                exact room1000 (by omega)
              · rw [upd_same, ft, List.map_append]
                rfl
          · obtain ⟨ex, eD⟩ := h
            have e : c.cps.toList.take c.cps.size = c.cps.toList := List.take_of_length_le (Nat.le_of_eq Array.length_toList)
            rw [e] at eD
            refine ⟨Nat.zero_le _, fun m nm => ⟨D, m, _, rfl, rfl, .inl (.inl (Ex.new nm D _ eD)), upd_same, ?_⟩⟩
            have fin := q _ (ex.trans (Ex.new (o := .lst []) nm))
            rw [decide_eq_true (show 1 ≤ c.length ∧ c.length ≤ 8 by omega), Bool.true_and] at fin
            rw [if_pos rfl]
            have : decide (((c.cps.toList.filter fun x => !decide (Small x)).map fun x => V.str ⟨#[x]⟩) = []) = (c.cps.toList.all fun x => decide (Small x)) := by
              by_cases y : (c.cps.toList.all fun x => decide (Small x)) = true
              · rw [y]
                apply decide_eq_true
                rw [List.map_eq_nil_iff, List.filter_eq_nil_iff]
                intro x hx
                have := List.all_eq_true.mp y x hx
                rw [this]
                exact Bool.false_ne_true
              · rw [Bool.eq_false_iff.mpr y]
                apply decide_eq_false
                intro z
                rw [List.map_eq_nil_iff, List.filter_eq_nil_iff] at z
                refine y (List.all_eq_true.mpr fun x hx => ?_)
                have := z x hx
                simpa using this
            rw [this]
            exact fin
        · rw [decide_eq_true (show (8 : Int) < (c.length : Int) by omega)]
          have := q _ (Ex.refl H)
          rw [decide_eq_false (fun z => c8 z.2), Bool.false_and] at this
          exact this
end
end Gl

namespace Gl
open PySem PySem.Spec PyProof.Rows L2
section
variable {P : Program} {w : World} {K : PySem.W.Frag} {mg : Str → Option Value} {base : Heap}
theorem strs_named : ∀ {ds : List PyData}, ds.all nameB = true → ds = (ds.map strOf).map PyData.str ∧ ∀ c ∈ ds.map strOf, NameOk c
  | [], _ => ⟨rfl, fun _ h => (nomatch h)⟩
  | d :: ds, h => by
    rw [List.all_cons] at h
    obtain ⟨h1, h2⟩ := Bool.and_eq_true_iff.mp h
    obtain ⟨c, rfl, hc⟩ := of_nameB h1
    obtain ⟨e, f⟩ := strs_named h2
    refine ⟨?_, fun x hx => ?_⟩
    · rw [List.map_cons, List.map_cons, ← e]
      rfl
    · rcases List.mem_cons.mp hx with rfl | hx
      · exact hc
      · exact f x hx
def spGoodC (K : PySem.W.Frag) : Sp := fun vs H Q _ => ∃ (v : V) (d : PyData) (b : Nat), vs = [v, .int b] ∧ Dx K H v d ∧ Short d ∧ ∀ H', Ex H H' → Q (.bl (colsB d b)) H'
theorem ok_goodC {f : Addr} {fd : FuncData} (F : Fun K "_law_good_columns" "_law_good_columns" sGoodC f fd) (T : Blt mg) (T2 : Blt2 mg) (Gn : Df P w K mg base 1 "_law_good_name" ["_law_value"] (spGoodN K)) : FnOk P w K mg base CX0 2 f fd ["_law_value", "_law_bottom"] (spGoodC K) := by
  refine F.ok scGoodC (fun vs H Q E h => ?_) (fun cdv A outer s H vs Q E hr h => ?_)
  · obtain ⟨v, d, b, rfl, _⟩ := h
    rfl
  · obtain ⟨v, d, b, rfl, hd, sh, q⟩ := h
    have nd := scGoodC.nd
    have hu : (A.deeper (envOfC "_law_good_columns" (defScope sGoodC) s.heap.objs.size f cdv)).units + 64 < cLine := by have := hr.un; omega
    have hu0 : (A.deeper (envOfC "_law_good_columns" (defScope sGoodC) s.heap.objs.size f cdv)).units < cLine := by omega
    refine ⟨_, pss_cons (ps_if (pw_or (pt_not (pt_val (pe_callB call_isi (by rfl) T.isinstance (by decide +kernel) (pa_cons (pv 0) (pa_cons (pe_bltn (v := .ty "tuple") (by rfl) T.tuple (by decide +kernel) rfl) pa_nil)))))
        (pw_or (pt_cmpR op_gt (pe_callB call_len_seq (by rfl) T.len PySem.boot_len (pa_cons (pv 0) pa_nil)) pe_int (nomark _))
        (pw_or1 (pt_cmpR op_lt (pe_callB call_len_seq (by rfl) T.len PySem.boot_len (pa_cons (pv 0) pa_nil)) (pv 1) (nomark _))))).pt
        (pss_one (ps_ret pe_bl)) pss_nil)
      (pss_cons (ps_if (pt_cmpR (op_neNil hu0) (pe_lc (own := [("_law_one", 2)]) (g := gName 2) rfl nd (pi_tup (pv 0)) (blkOk_by (N := ["_law_value", "_law_bottom", "_law_one"]) (sc := defScope sGoodC) (by decide +kernel)) (fun _ _ _ _ _ => pg_name (i := 2) nd rfl (.inl rfl))
          (fun _ _ _ _ _ => pts_one (pt_not (pt_val (pe_call Gn.G hr (by rfl) Gn.g Gn.kp Gn.b .nil pass0 (pa_cons (pv 2) pa_nil)))))
          (fun _ _ _ _ _ => pv 2)) (pe_lst pa_nil) (nomark _)) (pss_one (ps_ret pe_bl)) pss_nil)
      (pss_one (ps_ret (pe_and (pe_cmpR (op_eqD hu) (pe_callTy call_list_of (by rfl) T.list (by decide +kernel) (pa_cons (pv 0) pa_nil)) (pe_callB cr_sortedS (by rfl) T2.sorted (by decide +kernel) (pa_cons (pe_lc (own := [("_law_one", 2)]) (g := gName 2) (tt := tYes) rfl nd (pi_tup (pv 0)) (blkOk_by (N := ["_law_value", "_law_bottom", "_law_one"]) (sc := defScope sGoodC) (by decide +kernel)) (fun _ _ _ _ _ => pg_name (i := 2) nd rfl (.inl rfl)) (fun _ _ _ _ _ => pts_nil)
          (fun _ _ _ _ _ => pe_callTy SkE.call_str_str (by rfl) T.str (by decide +kernel) (pa_cons (pv 2) pa_nil))) pa_nil)) (nomark _))
        (pe_one (pe_cmpR op_eq (pe_lenSetS (by rfl) T.len (by rfl) T2.set (pv 0)) (pe_callB call_len_seq (by rfl) T.len PySem.boot_len (pa_cons (pv 0) pa_nil)) (nomark _))))))), ?_⟩
    refine ⟨_, rfl, _, _, _, _, _, rfl, .ty _, tyx hd, kit_ty (isTup d), _, rfl, ?_⟩
    cases hd with
    | non => exact q _ (Ex.refl H)
    | bl b => exact q _ (Ex.refl H)
    | int i => exact q _ (Ex.refl H)
    | lst _ _ => exact q _ (Ex.refl H)
    | str _ => exact q _ (Ex.refl H)
    | dk _ _ => exact q _ (Ex.refl H)
    | @tup p xs ds hp ha =>
      have ln := ha.length
      have q : ∀ H', Ex H H' → Q (.bl (decide (b ≤ ds.length ∧ ds.length ≤ 8) && (ds.all nameB && ascB (ds.map strOf)))) H' := q
      refine ⟨_, rfl, p, _, rfl, .inr (.inl hp), _, _, rfl, rfl, _, rfl, ?_⟩
      rw [ln]
      by_cases c8 : ds.length ≤ 8
      · rw [decide_eq_false (show ¬ (8 : Int) < (ds.length : Int) by omega)]
        refine ⟨_, rfl, p, _, rfl, .inr (.inl hp), _, rfl, _, _, rfl, rfl, _, rfl, ?_⟩
        rw [ln]
        by_cases c1 : b ≤ ds.length
        · rw [decide_eq_false (show ¬ (ds.length : Int) < (b : Int) by omega)]
          rw [decide_eq_true ⟨c1, c8⟩, Bool.true_and] at q
          -- the names that are none
          refine ⟨_, rfl, p, rfl, ⟨_, .inl hp⟩, fun D nD => lc_tup (xs := xs) (fun i H' => ∃ ks : List V, Ex H H' ∧ H' D = some (.lst ks) ∧ (ks = [] ↔ (ds.take i).all nameB = true) ∧ ks.length ≤ i)
            ⟨[], Ex.new nD, upd_same, by simp, Nat.le_refl _⟩ (fun i H' _ h => ?_) (fun i x H' hx h => ?_) (fun H1 h => ?_)⟩
          · obtain ⟨_, ex, _⟩ := h
            exact .inl (ex.rd hp)
          · obtain ⟨ks, ex, eD, iff, lk⟩ := h
            obtain ⟨d1, hd1, hx1⟩ := ha.get hx
            have tk : (ds.take (i + 1)).all nameB = ((ds.take i).all nameB && nameB d1) := by
              rw [List.take_add_one, hd1, List.all_append]
              simp
            have il := (List.getElem?_eq_some_iff.mp hd1).1
            refine ⟨rfl, _, rfl, x, d1, rfl, hx1.ex ex, (fun y e => sh.2 y (by rw [← e]; exact List.mem_of_getElem? hd1)), fun H2 ex2 => ⟨_, rfl, ?_⟩⟩
            rw [tk]
            by_cases y : nameB d1 = true
            · rw [y, Bool.and_true]
              exact ⟨ks, ex.trans ex2, ex2 D _ eD, iff, by omega⟩
            · rw [Bool.eq_false_iff.mpr y, Bool.and_false]
              refine ⟨_, rfl, ks, ex2 D _ eD, room1000 (by omega), ks ++ [x], (ex.trans ex2).mut nD, upd_same, ?_, by rw [List.length_append]; exact Nat.succ_le_succ lk⟩
              constructor
              · intro z
                have := congrArg List.length z
                rw [List.length_append] at this
                exact nomatch this
              · intro z; exact absurd z Bool.false_ne_true
          · obtain ⟨ks, ex, eD, iff, lk⟩ := h
            rw [ln, List.take_length] at iff
            refine ⟨Nat.zero_le _, fun m nm => ⟨D, m, _, rfl, rfl, .inl (.inl (Ex.new nm D _ eD)), upd_same, _, rfl, ?_⟩⟩
            have e1 := ex.trans (Ex.new (o := .lst []) nm)
            rw [if_neg Bool.false_ne_true]
            by_cases y : ds.all nameB = true
            · rw [decide_eq_true (iff.mpr y)]
              rw [y, Bool.true_and] at q
              obtain ⟨eds, nms⟩ := strs_named y
              have exs := names_strs ha y
              generalize hcs : ds.map strOf = cs at q eds nms exs
              subst exs
              have lcs : cs.length = ds.length := by rw [← hcs, List.length_map]
              -- list(value) == sorted([str(one) for one in value])
              refine ⟨_, rfl, p, _, rfl, .inr (.inl (e1.rd hp)), fun l nl => ?_⟩
              have xl := Ex.new (o := .lst (cs.map V.str)) nl
              have e2 := e1.trans xl
              refine ⟨_, rfl, p, rfl, ⟨_, .inl (e2.rd hp)⟩, fun D2 nD2 => lc_tup (xs := cs.map V.str) (fun i H' => Ex (upd (upd H1 m (.lst [])) l (.lst (cs.map V.str))) H' ∧ H' D2 = some (.lst ((cs.take i).map V.str)))
                ⟨Ex.new nD2, upd_same⟩ (fun i H' _ h => .inl (h.1.rd (e2.rd hp))) (fun i x H' hx h => ?_) (fun H3 h => ?_)⟩
              · obtain ⟨ex3, eD3⟩ := h
                rw [List.getElem?_map] at hx
                obtain ⟨c, hc, rfl⟩ := Option.map_eq_some_iff.mp hx
                refine ⟨rfl, _, rfl, c, rfl, _, eD3, ?_, ex3.mut nD2, ?_⟩
                · rw [List.length_map, List.length_take]
                  exact room1000 (by omega)
                · rw [upd_same, List.take_add_one, hc, List.map_append]
                  rfl
              · obtain ⟨ex3, eD3⟩ := h
                rw [List.length_map, List.take_length] at eD3
                refine ⟨D2, cs, rfl, .inl (.inl eD3), by omega, fun ys p2 perm srt np2 => ?_⟩
                have x4 := Ex.new (o := .lst (ys.map V.str)) np2
                have e4 := (e2.trans ex3).trans x4
                have nys : ∀ c ∈ ys, NameOk c := fun c hc => nms c (perm.mem_iff.mp hc)
                refine ⟨.list (cs.map PyData.str), .list (ys.map PyData.str), .lst (.inl (.inl (x4 l _ (ex3 l _ upd_same)))) (dp_strs cs), .lst (.inl (.inl upd_same)) (dp_strs ys), shaped_strs nms, shaped_strs nys, _, rfl, ?_⟩
                have told := asc_told perm (up_of_sorted srt)
                have ev : PyData.eqv (.list (cs.map PyData.str)) (.list (ys.map PyData.str)) = decide (cs = ys) := by simp only [PyData.eqv, eqv_strs2]
                rw [ev]
                rw [← told] at q
                by_cases z : cs = ys
                · rw [decide_eq_true z]
                  rw [decide_eq_true z, Bool.true_and] at q
                  refine ⟨_, rfl, p, cs, rfl, .inl (e4.rd hp), by omega, _, rfl, p, _, rfl, .inr (.inl (e4.rd hp)), rfl, ?_⟩
                  have eq : decide (V.int ((met cs cs.length).length : Nat) = V.int ((cs.map V.str).length : Nat)) = decide ((met cs cs.length).length = cs.length) := by
                    rw [List.length_map]
                    by_cases u : (met cs cs.length).length = cs.length
                    · rw [decide_eq_true u, decide_eq_true (by rw [u])]
                    · rw [decide_eq_false u, decide_eq_false fun v => u (by have := V.int.inj v; omega)]
                  rw [eq]
                  exact q _ e4
                · rw [decide_eq_false z]
                  rw [decide_eq_false z, Bool.false_and] at q
                  exact q _ e4
            · rw [decide_eq_false fun z => y (iff.mp z)]
              rw [Bool.eq_false_iff.mpr y, Bool.false_and] at q
              exact q _ e1
        · rw [decide_eq_true (show (ds.length : Int) < (b : Int) by omega)]
          have := q _ (Ex.refl H)
          rw [decide_eq_false (fun z => c1 z.1), Bool.false_and] at this
          exact this
      · rw [decide_eq_true (show (8 : Int) < (ds.length : Int) by omega)]
        have := q _ (Ex.refl H)
        rw [decide_eq_false (fun z => c8 z.2), Bool.false_and] at this
        exact this
end
end Gl

namespace Gl
open PySem PySem.Spec PyProof.Rows L2
theorem fold_size (c : Array Nat) : ∀ (n : Nat) (acc : Array Nat), ((List.replicate n c).foldl (· ++ ·) acc).size = acc.size + n * c.size
  | 0, acc => by simp
  | n + 1, acc => by
    rw [List.replicate_succ, List.foldl_cons, fold_size c n (acc ++ c), Array.size_append, Nat.succ_mul]
    omega
/-- text * n, told by its length alone -/
def rMulS : R2 := fun x y H Q => ∃ (z : Str) (n : Nat), x = .str z ∧ y = .int n ∧ 2 ≤ n ∧ n ≤ 1000 ∧ 1 ≤ z.length ∧ z.length ≤ 1000 ∧ ∀ u : Str, u.length = n * z.length → Q (.str u) H
section
variable {X : Cx}
theorem op_mulS : OpR X (binaryOp .Mult) rMulS := by
  rintro pins s σ H x y v u Q I rx ry ⟨z, n, rfl, rfl, n2, nk, z1, zk, q⟩
  obtain ⟨t, rfl⟩ := rx
  obtain ⟨t', rfl⟩ := ry
  have m : z.length * n ≤ 1000 * 1000 := Nat.mul_le_mul zk nk
  have ne : ¬ (((n : Int) == 1 || z.length == 0) = true) := by
    rw [Bool.or_eq_true, beq_iff_eq, beq_iff_eq]
    omega
  refine PySem.P.mul_str ?_ (fun _ _ => ?_) (fun _ _ => ?_) ?_
  · rw [decide_eq_false (show ¬ (n : Int) < -(2 ^ 63) by omega), decide_eq_false (show ¬ (n : Int) ≥ 2 ^ 63 by omega)]
    rfl
  · have h1 : (1000 : Int) ≤ (2 ^ 63 - 1) / (n : Int) := (Int.le_ediv_iff_mul_le (by omega)).mpr (by omega)
    omega
  · unfold Builtin.Str.tooLong
    exact decide_eq_false (by rw [sizeLine_eq]; simp only [Int.toNat_natCast]; omega)
  · rw [if_neg (show ¬ (n : Int) < 1 by omega), if_neg ne]
    have sz : (⟨(List.replicate (n : Int).toNat z.cps).foldl (· ++ ·) #[]⟩ : Str).length = n * z.length := by
      show ((List.replicate (n : Int).toNat z.cps).foldl (· ++ ·) #[]).size = _
      rw [fold_size, Int.toNat_natCast]
      show 0 + n * z.cps.size = n * z.cps.size
      omega
    exact ⟨by rw [sz, sizeLine_eq, Nat.mul_comm]; omega, .str _, H, I.tok _, ⟨_, rfl⟩, q _ sz⟩
end
/-! ### data off the dice -/
mutual
inductive DxN (n : Addr) (K : PySem.W.Frag) (H : Hp) : V → PyData → Prop
  | non : DxN n K H .non .none
  | bl (b : Bool) : DxN n K H (.bl b) (.bool b)
  | int (i : Int) : DxN n K H (.int i) (.int i)
  | str (x : Str) : DxN n K H (.str x) (.str x)
  | lst {a : Addr} {xs : List V} {ds : List PyData} : a ≠ n → H a = some (.lst xs) → DxNs n K H xs ds → DxN n K H (.ref a) (.list ds)
  | tup {a : Addr} {xs : List V} {ds : List PyData} : Rd H a (.tup xs) → DxNs n K H xs ds → DxN n K H (.ref a) (.tuple ds)
  | dk {a : Addr} (ps : List (Str × Int)) : H a = some (.dK (ps.map fun p => (.inr p.1, .int p.2))) → DxN n K H (.ref a) (.dict (ps.map fun p => (.str p.1, .int p.2)))
inductive DxNs (n : Addr) (K : PySem.W.Frag) (H : Hp) : List V → List PyData → Prop
  | nil : DxNs n K H [] []
  | cons {v : V} {vs : List V} {d : PyData} {ds : List PyData} : DxN n K H v d → DxNs n K H vs ds → DxNs n K H (v :: vs) (d :: ds)
end
section
variable {n : Addr} {K : PySem.W.Frag} {H H' : Hp}
mutual
theorem DxN.dx : ∀ {v : V} {d : PyData}, DxN n K H v d → Dx K H v d
  | _, _, .non => .non
  | _, _, .bl b => .bl b
  | _, _, .int i => .int i
  | _, _, .str x => .str x
  | _, _, .lst _ h t => .lst h (DxNs.dx t)
  | _, _, .tup h t => .tup h (DxNs.dx t)
  | _, _, .dk ps h => .dk ps h
theorem DxNs.dx : ∀ {v : List V} {d : List PyData}, DxNs n K H v d → DxAll K H v d
  | _, _, .nil => .nil
  | _, _, .cons h t => .cons (DxN.dx h) (DxNs.dx t)
end
mutual
theorem DxN.ex (e : Ex H H') : ∀ {v : V} {d : PyData}, DxN n K H v d → DxN n K H' v d
  | _, _, .non => .non
  | _, _, .bl b => .bl b
  | _, _, .int i => .int i
  | _, _, .str x => .str x
  | _, _, .lst q h t => .lst q (e _ _ h) (DxNs.ex e t)
  | _, _, .tup h t => .tup (e.rd h) (DxNs.ex e t)
  | _, _, .dk ps h => .dk ps (e _ _ h)
theorem DxNs.ex (e : Ex H H') : ∀ {v : List V} {d : List PyData}, DxNs n K H v d → DxNs n K H' v d
  | _, _, .nil => .nil
  | _, _, .cons h t => .cons (DxN.ex e h) (DxNs.ex e t)
end
mutual
theorem DxN.gro (g : Gro n H H') (di : Dice H n) : ∀ {v : V} {d : PyData}, DxN n K H v d → DxN n K H' v d
  | _, _, .non => .non
  | _, _, .bl b => .bl b
  | _, _, .int i => .int i
  | _, _, .str x => .str x
  | _, _, .lst q h t => .lst q (g.st _ _ q h) (DxNs.gro g di t)
  | _, _, .tup h t => .tup (g.rd di h) (DxNs.gro g di t)
  | _, _, .dk ps h => .dk ps (g.st _ _ (fun e => by obtain ⟨i, j, k, z⟩ := di; rw [e, z] at h; exact nomatch h) h)
theorem DxNs.gro (g : Gro n H H') (di : Dice H n) : ∀ {v : List V} {d : List PyData}, DxNs n K H v d → DxNs n K H' v d
  | _, _, .nil => .nil
  | _, _, .cons h t => .cons (DxN.gro g di h) (DxNs.gro g di t)
end
end
/-- shown without trouble, and short -/
structure Fine (d : PyData) : Prop where
  sh : Short d
  sw : d.showable = true
  dp : d.depth ≤ 10
  wt : wt d ≤ 100000
  dl : d.hasDict = false ∨ noList d = true
theorem Fine.ok {d : PyData} (h : Fine d) : (d.hasDict = false ∨ noList d = true) ∧ d.showable = true ∧ d.depth ≤ 100 ∧ d.shown.length ≤ sizeLine :=
  ⟨h.dl, h.sw, Nat.le_trans h.dp (by decide), Nat.le_trans (Nat.le_trans (shown_le d h.sw) h.wt) (by decide)⟩
end Gl

namespace Gl
open PySem PySem.Spec PyProof.Rows L2
abbrev sOdd : Stmt := topS 24
theorem scOdd : FnScope ["_law_dice_here"] ["_law_dice_here"] (defScope sOdd) := ⟨rfl, rfl, rfl, by decide +kernel, rfl, by decide +kernel, by decide +kernel⟩
/-- a part of something fine -/
structure Bit (d : PyData) : Prop where
  ss : ShortS d
  sw : d.showable = true
  dp : d.depth ≤ 5
  wt : wt d ≤ 4000
theorem bits_all : ∀ {ds : List PyData}, (∀ d ∈ ds, Bit d) → PyData.showableAll ds = true ∧ PyData.depthAll ds ≤ 5 ∧ wtAll ds ≤ 4002 * ds.length
  | [], _ => ⟨by simp only [PyData.showableAll], by simp only [PyData.depthAll]; exact Nat.zero_le _, by simp only [wtAll]; exact Nat.zero_le _⟩
  | d :: ds, h => by
    have b := h d (List.mem_cons_self ..)
    obtain ⟨h1, h2, h3⟩ := bits_all (ds := ds) fun x hx => h x (List.mem_cons_of_mem _ hx)
    refine ⟨?_, ?_, ?_⟩
    · simp only [PyData.showableAll]
      rw [b.sw, h1]
      rfl
    · simp only [PyData.depthAll]
      have := b.dp
      omega
    · simp only [wtAll, List.length_cons]
      have := b.wt
      omega
theorem noDict_all : ∀ {ds : List PyData}, (∀ d ∈ ds, d.hasDict = false) → PyData.hasDictAll ds = false
  | [], _ => by simp only [PyData.hasDictAll]
  | d :: ds, h => by
    simp only [PyData.hasDictAll]
    rw [h d (List.mem_cons_self ..), noDict_all fun x hx => h x (List.mem_cons_of_mem _ hx)]
    rfl
theorem noList_all : ∀ {ds : List PyData}, (∀ d ∈ ds, noList d = true) → noLists ds = true
  | [], _ => by simp only [noLists]
  | d :: ds, h => by
    simp only [noLists]
    rw [h d (List.mem_cons_self ..), noList_all fun x hx => h x (List.mem_cons_of_mem _ hx)]
    rfl
theorem fine_tup {ds : List PyData} (h : ∀ d ∈ ds, Bit d) (l : ds.length ≤ 20) (k : (∀ d ∈ ds, d.hasDict = false) ∨ (∀ d ∈ ds, noList d = true)) : Fine (.tuple ds) := by
  obtain ⟨h1, h2, h3⟩ := bits_all h
  refine ⟨⟨by omega, fun x hx => (h _ hx).ss x rfl⟩, by simp only [PyData.showable, h1], by simp only [PyData.depth]; omega, by simp only [wt]; omega, ?_⟩
  rcases k with k | k
  · exact .inl (by simp only [PyData.hasDict, noDict_all k])
  · exact .inr (by simp only [noList, noList_all k])
theorem fine_lst {ds : List PyData} (h : ∀ d ∈ ds, Bit d) (l : ds.length ≤ 20) (k : ∀ d ∈ ds, d.hasDict = false) : Fine (.list ds) := by
  obtain ⟨h1, h2, h3⟩ := bits_all h
  exact ⟨trivial, by simp only [PyData.showable, h1], by simp only [PyData.depth]; omega, by simp only [wt]; omega, .inl (by simp only [PyData.hasDict, noDict_all k])⟩
def big39 : Int := (10 : Int) ^ (39 : Int).toNat
def oddData : List PyData := [.none, .bool true, .bool false, .int 0, .int 7, .int (-3), .int big39, .list [], .dict [], .tuple [.none], .tuple [.tuple [.str "a"]], .list [.str "a"], .dict [(.str "a", .int 1)], .tuple [.tuple []]]
theorem odd_each : ∀ d ∈ oddData, d.showable = true ∧ d.depth ≤ 5 ∧ wt d ≤ 4000 ∧ (d.hasDict = false ∨ noList d = true) := by decide +kernel
theorem odd_short : ∀ d ∈ oddData, Short d ∧ ShortS d := by
  intro d hd
  unfold oddData at hd
  simp only [List.mem_cons, List.not_mem_nil, or_false] at hd
  have ns : ∀ {d : PyData}, (∀ x, d ≠ .str x) → ShortS d := fun h x e => absurd e (h x)
  rcases hd with rfl | rfl | rfl | rfl | rfl | rfl | rfl | rfl | rfl | rfl | rfl | rfl | rfl | rfl
  · exact ⟨trivial, ns fun _ e => nomatch e⟩
  · exact ⟨trivial, ns fun _ e => nomatch e⟩
  · exact ⟨trivial, ns fun _ e => nomatch e⟩
  · exact ⟨trivial, ns fun _ e => nomatch e⟩
  · exact ⟨trivial, ns fun _ e => nomatch e⟩
  · exact ⟨trivial, ns fun _ e => nomatch e⟩
  · exact ⟨trivial, ns fun _ e => nomatch e⟩
  · exact ⟨trivial, ns fun _ e => nomatch e⟩
  · exact ⟨trivial, ns fun _ e => nomatch e⟩
  · exact ⟨⟨by decide, fun x hx => by simp at hx⟩, ns fun _ e => nomatch e⟩
  · exact ⟨⟨by decide, fun x hx => by simp at hx⟩, ns fun _ e => nomatch e⟩
  · exact ⟨trivial, ns fun _ e => nomatch e⟩
  · exact ⟨trivial, ns fun _ e => nomatch e⟩
  · exact ⟨⟨by decide, fun x hx => by simp at hx⟩, ns fun _ e => nomatch e⟩
theorem odd_fine {d : PyData} (h : d ∈ oddData) : Fine d :=
  let ⟨a, b, c, e⟩ := odd_each d h
  ⟨(odd_short d h).1, a, Nat.le_trans b (by decide), Nat.le_trans c (by decide), e⟩
theorem odd_bit {d : PyData} (h : d ∈ oddData) : Bit d :=
  let ⟨a, b, c, _⟩ := odd_each d h
  ⟨(odd_short d h).2, a, b, c⟩
section
variable {P : Program} {w : World} {K : PySem.W.Frag} {mg : Str → Option Value} {base : Heap}
theorem cpw39 : CPw 10 39 := ⟨by decide, by decide +kernel⟩
def spOdd (K : PySem.W.Frag) : Sp := fun vs H Q _ => ∃ a : Addr, vs = [.ref a] ∧ Dice H a ∧ ∀ v d H', Gro a H H' → DxN a K H' v d → d ∈ oddData → Q v H'
theorem ok_odd {f : Addr} {fd : FuncData} (F : Fun K "_law_odd_value" "_law_odd_value" sOdd f fd) (Pk : DfG P w K mg base 2 "_law_pick" ["_law_dice_here", "_law_items"] spPick) : FnG P w K mg base CX0 3 f fd ["_law_dice_here"] (spOdd K) := by
  refine okG F scOdd (fun vs H Q E h => ?_) (fun cdv A outer s H vs Q E hr h => ?_)
  · obtain ⟨a, rfl, _⟩ := h
    rfl
  · obtain ⟨a, rfl, hd, q⟩ := h
    refine ⟨_, pss_one (ps_ret (pe_callG Pk.G hr (by rfl) Pk.g Pk.kp Pk.b .nil pass0 (pa_cons (pv 0) (pa_cons (pe_lst (pa_cons pe_non (pa_cons pe_bl (pa_cons pe_bl (pa_cons pe_int (pa_cons pe_int (pa_cons (pe_un un_neg pe_int) (pa_cons (pe_op op_powW pe_int pe_int)
      (pa_cons (pe_lst pa_nil) (pa_cons pe_dnewK (pa_cons (pe_tup (pa_cons pe_non pa_nil)) (pa_cons (pe_tup (pa_cons (pe_tup (pa_cons pe_str pa_nil)) pa_nil)) (pa_cons (pe_lst (pa_cons pe_str pa_nil)) (pa_cons (pe_disp (pps_cons pe_str pe_int pps_nil) rfl rfl (by simp) (by decide)) (pa_cons (pe_tup (pa_cons (pe_tup pa_nil) pa_nil)) pa_nil))))))))))))))) pa_nil)))), ?_⟩
    have s1 : 1 ≤ sizeLine := by decide
    refine ⟨_, rfl, _, rfl, _, _, rfl, rfl, cpw39, Nat.zero_le _, fun l1 n1 d1 m1 => ⟨s1, fun t1 k1 => ⟨s1, fun t2 k2 => ⟨s1, fun t3 k3 => ⟨s1, fun l2 n2 d2 m2 => ⟨upd_same, [(.inr "a", .int 1)], rfl, by decide, Nat.zero_le _, fun t4 k4 => ⟨s1, fun t5 k5 => ⟨by show 14 ≤ sizeLine; decide, fun L nL => ?_⟩⟩⟩⟩⟩⟩⟩⟩
    have x1 := Ex.new (o := .lst []) n1
    have y1 := Ex.new (o := .dK []) m1
    have z1 := Ex.new (o := .tup [.non]) k1
    have z2 := Ex.new (o := .tup [.str "a"]) k2
    have z3 := Ex.new (o := .tup [.ref t2]) k3
    have x2 := Ex.new (o := .lst [.str "a"]) n2
    have y2 := (Ex.new (o := .dK []) m2).mut (o := .dK [(.inr "a", .int 1)]) m2
    have z4 := Ex.new (o := .tup []) k4
    have z5 := Ex.new (o := .tup [.ref t4]) k5
    have xL := Ex.new (o := .lst [.non, .bl true, .bl false, .int 0, .int 7, .int (-3), .int big39, .ref l1, .ref d1, .ref t1, .ref t3, .ref l2, .ref d2, .ref t5]) nL
    have e5 := z5.trans xL
    have e4 := z4.trans e5
    have ey := (y2.trans e4)
    have ex2 := x2.trans ey
    have e3 := z3.trans ex2
    have e2 := z2.trans e3
    have e1 := z1.trans e2
    have ey1 := y1.trans e1
    have all := x1.trans ey1
    have l1a := hd.ne n1
    have l2a := ((((x1.trans y1).trans z1).trans z2).trans z3).dice hd |>.ne n2
    have La := ((((((((x1.trans y1).trans z1).trans z2).trans z3).trans x2).trans y2).trans z4).trans z5).dice hd |>.ne nL
    refine ⟨a, L, _, rfl, upd_same, La, by simp, by show 14 ≤ 1000; decide, all.dice hd, fun v H2 hv g => ?_⟩
    have fin : ∀ {HL : Hp}, Ex H HL → Gro a HL H2 → (∃ d, d ∈ oddData ∧ DxN a K HL v d) → Q v H2 := fun e g ⟨d, hm, hx⟩ => q v d H2 ((Gro.of e hd).trans g) (hx.gro g (e.dice hd)) hm
    refine fin all g ?_
    · simp only [List.mem_cons, List.not_mem_nil, or_false] at hv
      rcases hv with rfl | rfl | rfl | rfl | rfl | rfl | rfl | rfl | rfl | rfl | rfl | rfl | rfl | rfl
      · exact ⟨.none, by simp [oddData], .non⟩
      · exact ⟨.bool true, by simp [oddData], .bl _⟩
      · exact ⟨.bool false, by simp [oddData], .bl _⟩
      · exact ⟨.int 0, by simp [oddData], .int _⟩
      · exact ⟨.int 7, by simp [oddData], .int _⟩
      · exact ⟨.int (-3), by simp [oddData], .int _⟩
      · exact ⟨.int big39, by simp [oddData], .int _⟩
      · exact ⟨.list [], by simp [oddData], .lst l1a (ey1 l1 _ upd_same) .nil⟩
      · exact ⟨.dict [], by simp [oddData], .dk [] (e1 d1 _ upd_same)⟩
      · exact ⟨.tuple [.none], by simp [oddData], .tup (.inl (e2 t1 _ upd_same)) (.cons .non .nil)⟩
      · exact ⟨.tuple [.tuple [.str "a"]], by simp [oddData], .tup (.inl (ex2 t3 _ upd_same)) (.cons (.tup (.inl (e3 t2 _ upd_same)) (.cons (.str _) .nil)) .nil)⟩
      · exact ⟨.list [.str "a"], by simp [oddData], .lst l2a (ey l2 _ upd_same) (.cons (.str _) .nil)⟩
      · exact ⟨.dict [(.str "a", .int 1)], by simp [oddData], .dk [("a", 1)] (e4 d2 _ upd_same)⟩
      · exact ⟨.tuple [.tuple []], by simp [oddData], .tup (.inl (xL t5 _ upd_same)) (.cons (.tup (.inl (e5 t4 _ upd_same)) .nil) .nil)⟩
end
end Gl

namespace Gl
open PySem PySem.Spec PyProof.Rows L2
abbrev sStr : Stmt := topS 25
abbrev sNms : Stmt := topS 26
theorem scStr : FnScope ["_law_dice_here", "_law_found", "_law_way"] ["_law_dice_here"] (defScope sStr) := ⟨rfl, rfl, rfl, by decide +kernel, rfl, by decide +kernel, by decide +kernel⟩
theorem scNms : FnScope ["_law_dice_here", "_law_found", "_law_way"] ["_law_dice_here"] (defScope sNms) := ⟨rfl, rfl, rfl, by decide +kernel, rfl, by decide +kernel, by decide +kernel⟩
theorem cut_to (xs : List V) (k : Nat) : cutV xs none (some (k : Int)) = xs.take k := by
  unfold cutV
  rw [HT.sIx_none, HT.sIx_nat]
  show (xs.drop 0).take (min k xs.length - 0) = _
  rw [List.drop_zero, Nat.sub_zero]
  by_cases h : k ≤ xs.length
  · rw [Nat.min_eq_left h]
  · rw [Nat.min_eq_right (by omega), List.take_length, List.take_of_length_le (by omega)]
theorem bit_small {c : Str} (l : c.length ≤ 8) (h : ∀ x ∈ c.cps.toList, Small x) : Bit (.str c) := by
  refine ⟨fun x e => by obtain rfl := PyData.str.inj e; omega, by simp only [PyData.showable], by simp only [PyData.depth]; omega, ?_⟩
  simp only [wt]
  have := PySem.StrLaws.reprText_len c fun x hx => by
    have := h x hx
    unfold Small at this
    have : (122 : Nat) < 16 ^ 8 := by decide
    omega
  omega
theorem words_bits {cs : List Str} (h : Words cs) (l : cs.length ≤ 12) : ∀ c ∈ cs, Bit (.str c) ∧ c.length ≤ 3 ∧ 1 ≤ c.length := by
  intro c hc
  obtain ⟨i, hi⟩ := List.getElem?_of_mem hc
  obtain ⟨d, r, e, hd, hr, sm⟩ := h i c hi
  have il := (List.getElem?_eq_some_iff.mp hi).1
  have len : c.length = r.length + 1 := by
    show c.cps.size = _
    rw [← Array.length_toList, e, List.length_cons]
  refine ⟨bit_small (by omega) fun x hx => ?_, by omega, by omega⟩
  rw [e] at hx
  rcases List.mem_cons.mp hx with rfl | hx
  · unfold Small; omega
  · exact sm x hx
theorem dxn_strs {n : Addr} {K : PySem.W.Frag} {H : Hp} : ∀ cs : List Str, DxNs n K H (cs.map V.str) (cs.map PyData.str)
  | [] => .nil
  | c :: cs => .cons (.str c) (dxn_strs cs)
theorem dxn_app {n : Addr} {K : PySem.W.Frag} {H : Hp} : ∀ {xs ys : List V} {ds es : List PyData}, DxNs n K H xs ds → DxNs n K H ys es → DxNs n K H (xs ++ ys) (ds ++ es)
  | _, _, _, _, .nil, h => h
  | _, _, _, _, .cons a b, h => .cons a (dxn_app b h)
theorem strs_plain (cs : List Str) : ∀ d ∈ cs.map PyData.str, d.hasDict = false ∧ noList d = true := by
  intro d hd
  obtain ⟨c, _, rfl⟩ := List.mem_map.mp hd
  exact ⟨by simp only [PyData.hasDict], by simp only [noList]⟩
theorem bits_map {cs : List Str} (h : ∀ c ∈ cs, Bit (.str c)) : ∀ d ∈ cs.map PyData.str, Bit d := by
  intro d hd
  obtain ⟨c, hc, rfl⟩ := List.mem_map.mp hd
  exact h c hc
section
variable {P : Program} {w : World} {K : PySem.W.Frag} {mg : Str → Option Value} {base : Heap}
def spStr : Sp := fun vs H Q _ => ∃ a : Addr, vs = [.ref a] ∧ Dice H a ∧ ∀ x H', Gro a H H' → x.length ≤ 1000 → Q (.str x) H'
theorem ok_str {f : Addr} {fd : FuncData} (F : Fun K "_law_string" "_law_string" sStr f fd) (D : Dc P w K mg base) (Pk : DfG P w K mg base 2 "_law_pick" ["_law_dice_here", "_law_items"] spPick)
    (Co : DfG P w K mg base 2 "_law_columns" ["_law_dice_here", "_law_total"] spColumns) : FnG P w K mg base CX0 3 f fd ["_law_dice_here"] spStr := by
  refine okG F scStr (fun vs H Q E h => ?_) (fun cdv A outer s H vs Q E hr h => ?_)
  · obtain ⟨a, rfl, _⟩ := h
    rfl
  · obtain ⟨a, rfl, hd, q⟩ := h
    have nd := scStr.nd
    have r1 := hr.mono (show 1 ≤ 2 by decide)
    refine ⟨_, pss_cons (ps_set (i := 1) nd rfl (.inl rfl) (pe_ix ix_tup (pe_callG Co.G hr (by rfl) Co.g Co.kp Co.b .nil pass0 (pa_cons (pv 0) (pa_cons pe_int pa_nil))) pe_int (fun _ _ => rfl)))
      (pss_cons (ps_set (i := 2) nd rfl (.inl rfl) (pe_callG D.G r1 (by rfl) D.g D.kp D.b .nil pass0 (pa_cons (pv 0) (pa_cons pe_int pa_nil))))
      (pss_cons (ps_if (pt_cmpR op_eq (pv 2) pe_int (nomark _)) (pss_one (ps_ret (pe_op op_mulS (pv 1) pe_int))) pss_nil)
      (pss_cons (ps_if (pt_cmpR op_eq (pv 2) pe_int (nomark _)) (pss_one (ps_ret (pe_callG Pk.G hr (by rfl) Pk.g Pk.kp Pk.b .nil pass0 (pa_cons (pv 0) (pa_cons (pe_lst (pa_cons pe_str (pa_cons pe_str (pa_cons pe_str (pa_cons pe_str (pa_cons pe_str (pa_cons pe_str (pa_cons pe_str (pa_cons pe_str (pa_cons pe_str (pa_cons pe_str (pa_cons pe_str (pa_cons pe_str pa_nil))))))))))))) pa_nil))))) pss_nil)
      (pss_cons (ps_if (pt_cmpR op_eq (pv 2) pe_int (nomark _)) (pss_one (ps_ret (pe_callG Pk.G hr (by rfl) Pk.g Pk.kp Pk.b .nil pass0 (pa_cons (pv 0) (pa_cons (pe_lst (pa_cons pe_str (pa_cons pe_str (pa_cons pe_str (pa_cons pe_str (pa_cons (pe_op op_mulS pe_str pe_int) pa_nil)))))) pa_nil))))) pss_nil)
      (pss_one (ps_ret (pv 1))))))), ?_⟩
    refine ⟨_, rfl, a, 1, rfl, by decide, hd, fun cs p H1 wd hl g1 np tp => ?_⟩
    obtain ⟨c, rfl⟩ : ∃ c, cs = [c] := by
      match cs, hl with
      | [c], _ => exact ⟨c, rfl⟩
    obtain ⟨_, c3, c1⟩ := words_bits wd (by show 1 ≤ 12; decide) c (List.mem_singleton.mpr rfl)
    refine ⟨p, _, 0, .str c, rfl, rfl, .inl tp.rd, rfl, ?_⟩
    refine ⟨_, rfl, a, 8, rfl, by decide, by decide, g1.di, fun v H2 v0 v1 g2 => ?_⟩
    have g12 := g1.trans g2
    refine ⟨_, rfl, rfl, _, rfl, ite2 (fun _ => ?_) (fun _ => ?_)⟩
    · refine ⟨_, rfl, c, 3, rfl, rfl, by decide, by decide, c1, by omega, fun u hu => q u _ g12 (by omega)⟩
    refine ⟨_, rfl, rfl, _, rfl, ite2 (fun _ => ?_) (fun _ => ?_)⟩
    · refine ⟨_, rfl, by show 12 ≤ sizeLine; decide, fun L nL => ?_⟩
      have xL := Ex.new (o := .lst [.str "", .str "A", .str "aB", .str "a1", .str "a_b", .str "a b", .str " a", .str "a ", .str "a\n", .str "-", .str "a-b", .str "name.s"]) nL
      refine ⟨a, L, _, rfl, upd_same, g12.di.ne nL, by simp, by show 12 ≤ 1000; decide, xL.dice g12.di, fun v H3 hv g3 => ?_⟩
      have g13 := (g12.ex xL).trans g3
      obtain ⟨x, hx, hl⟩ : ∃ x : Str, v = .str x ∧ x.length ≤ 1000 := by
        have : ∀ v ∈ ([.str "", .str "A", .str "aB", .str "a1", .str "a_b", .str "a b", .str " a", .str "a ", .str "a\n", .str "-", .str "a-b", .str "name.s"] : List V), ∃ x : Str, v = .str x ∧ x.length ≤ 1000 := by
          intro v hv
          simp only [List.mem_cons, List.not_mem_nil, or_false] at hv
          rcases hv with rfl | rfl | rfl | rfl | rfl | rfl | rfl | rfl | rfl | rfl | rfl | rfl <;> exact ⟨_, rfl, by decide +kernel⟩
        exact this v hv
      subst hx
      exact q x _ g13 hl
    refine ⟨_, rfl, rfl, _, rfl, ite2 (fun _ => ?_) (fun _ => ?_)⟩
    · refine ⟨_, rfl, "a", 300, rfl, rfl, by decide, by decide, by decide +kernel, by decide +kernel, fun u hu => ⟨by show 5 ≤ sizeLine; decide, fun L nL => ?_⟩⟩
      have xL := Ex.new (o := .lst [.str "abcdefgh", .str "abcdefghi", .str "zzzzzzzz", .str "zzzzzzzzz", .str u]) nL
      refine ⟨a, L, _, rfl, upd_same, g12.di.ne nL, by simp, by show 5 ≤ 1000; decide, xL.dice g12.di, fun v H3 hv g3 => ?_⟩
      have g13 := (g12.ex xL).trans g3
      have la : ("a" : Str).length = 1 := by decide +kernel
      simp only [List.mem_cons, List.not_mem_nil, or_false] at hv
      rcases hv with rfl | rfl | rfl | rfl | rfl
      · exact q _ _ g13 (by decide +kernel)
      · exact q _ _ g13 (by decide +kernel)
      · exact q _ _ g13 (by decide +kernel)
      · exact q _ _ g13 (by decide +kernel)
      · exact q _ _ g13 (by omega)
    exact ⟨_, rfl, q c _ g12 (by omega)⟩
end
end Gl

namespace Gl
open PySem PySem.Spec PyProof.Rows L2
theorem bit_z : Bit (.str "Z") ∧ Bit (.str "zzzzzzzzz") ∧ Bit (.str "") ∧ Bit (.str "zz") ∧ Bit (.str "zzz") := by
  have h : ∀ c ∈ (["Z", "zzzzzzzzz", "", "zz", "zzz"] : List Str), c.length ≤ 1000 ∧ (PyData.str c).showable = true ∧ (PyData.str c).depth ≤ 5 ∧ wt (.str c) ≤ 4000 := by decide +kernel
  have g : ∀ c ∈ (["Z", "zzzzzzzzz", "", "zz", "zzz"] : List Str), Bit (.str c) := fun c hc => ⟨fun x e => by obtain rfl := PyData.str.inj e; exact (h _ hc).1, (h c hc).2.1, (h c hc).2.2.1, (h c hc).2.2.2⟩
  exact ⟨g _ (by simp), g _ (by simp), g _ (by simp), g _ (by simp), g _ (by simp)⟩
theorem fine_strs {cs : List Str} (h : ∀ c ∈ cs, Bit (.str c)) (l : cs.length ≤ 20) : Fine (.tuple (cs.map PyData.str)) :=
  fine_tup (bits_map h) (by rw [List.length_map]; exact l) (.inl fun d hd => (strs_plain cs d hd).1)
section
variable {P : Program} {w : World} {K : PySem.W.Frag} {mg : Str → Option Value} {base : Heap}
def spNames (K : PySem.W.Frag) : Sp := fun vs H Q _ => ∃ a : Addr, vs = [.ref a] ∧ Dice H a ∧ ∀ v d H', Gro a H H' → DxN a K H' v d → Fine d → Q v H'
theorem ok_names {f : Addr} {fd : FuncData} (F : Fun K "_law_names" "_law_names" sNms f fd) (T : Blt mg) (D : Dc P w K mg base) (Pk : DfG P w K mg base 2 "_law_pick" ["_law_dice_here", "_law_items"] spPick)
    (Co : DfG P w K mg base 2 "_law_columns" ["_law_dice_here", "_law_total"] spColumns) (Od : DfG P w K mg base 3 "_law_odd_value" ["_law_dice_here"] (spOdd K)) : FnG P w K mg base CX0 4 f fd ["_law_dice_here"] (spNames K) := by
  refine okG F scNms (fun vs H Q E h => ?_) (fun cdv A outer s H vs Q E hr h => ?_)
  · obtain ⟨a, rfl, _⟩ := h
    rfl
  · obtain ⟨a, rfl, hd, q⟩ := h
    have nd := scNms.nd
    have r1 := hr.mono (show 1 ≤ 3 by decide)
    have r2 := hr.mono (show 2 ≤ 3 by decide)
    refine ⟨_, pss_cons (ps_set (i := 1) nd rfl (.inl rfl) (pe_callTy call_list_of (by rfl) T.list (by decide +kernel) (pa_cons (pe_callG Co.G r2 (by rfl) Co.g Co.kp Co.b .nil pass0 (pa_cons (pv 0) (pa_cons (pe_callG D.G r1 (by rfl) D.g D.kp D.b .nil pass0 (pa_cons (pv 0) (pa_cons pe_int pa_nil))) pa_nil))) pa_nil)))
      (pss_cons (ps_set (i := 2) nd rfl (.inl rfl) (pe_callG D.G r1 (by rfl) D.g D.kp D.b .nil pass0 (pa_cons (pv 0) (pa_cons pe_int pa_nil))))
      (pss_cons (ps_if (pt_cmpR op_eq (pv 2) pe_int (nomark _)) (pss_one (ps_ret (pe_callTy call_tupleF (by rfl) T.tuple (by decide +kernel) (pa_cons (pe_revL (pv 1)) pa_nil)))) pss_nil)
      (pss_cons (ps_if (pt_cmpR op_eq (pv 2) pe_int (nomark _)) (pss_one (ps_ret (pe_callTy call_list_of (by rfl) T.list (by decide +kernel) (pa_cons (pv 1) pa_nil)))) pss_nil)
      (pss_cons (ps_if (pt_cmpR op_eq (pv 2) pe_int (nomark _)) (pss_one (ps_ret (pe_callTy call_tupleF (by rfl) T.tuple (by decide +kernel) (pa_cons (pe_op op_cat (pv 1) (pe_slice sl_list (pv 1) po_none (po_some pe_int))) pa_nil)))) pss_nil)
      (pss_cons (ps_if (pt_cmpR op_eq (pv 2) pe_int (nomark _)) (pss_one (ps_ret (pe_callTy call_tupleF (by rfl) T.tuple (by decide +kernel) (pa_cons (pe_op op_cat (pv 1) (pe_lst (pa_cons (pe_callG Pk.G r2 (by rfl) Pk.g Pk.kp Pk.b .nil pass0 (pa_cons (pv 0) (pa_cons (pe_lst (pa_cons (pe_callG Od.G hr (by rfl) Od.g Od.kp Od.b .nil pass0 (pa_cons (pv 0) pa_nil)) (pa_cons pe_str (pa_cons pe_str (pa_cons pe_str pa_nil))))) pa_nil))) pa_nil))) pa_nil)))) pss_nil)
      (pss_cons (ps_if (pt_cmpR op_eq (pv 2) pe_int (nomark _)) (pss_one (ps_ret (pe_callTy call_tupleF (by rfl) T.tuple (by decide +kernel) (pa_cons (pe_op op_cat (pe_callTy call_list_of (by rfl) T.list (by decide +kernel) (pa_cons (pe_callG Co.G r2 (by rfl) Co.g Co.kp Co.b .nil pass0 (pa_cons (pv 0) (pa_cons pe_int pa_nil))) pa_nil)) (pe_slice sl_list (pe_lst (pa_cons pe_str (pa_cons pe_str pa_nil))) po_none (po_some (pe_op op_add pe_int (pe_callG D.G r1 (by rfl) D.g D.kp D.b .nil pass0 (pa_cons (pv 0) (pa_cons pe_int pa_nil))))))) pa_nil)))) pss_nil)
      (pss_one (ps_ret (pe_callTy call_tupleF (by rfl) T.tuple (by decide +kernel) (pa_cons (pv 1) pa_nil)))))))))), ?_⟩
    have fin : ∀ (xs : List V) (ds : List PyData) (H' : Hp) (t : Addr) (o : Obj), Gro a H H' → H' t = none → DxNs a K H' xs ds → Fine (.tuple ds) → Q (.ref t) (upd H' t (.frz o (.tup xs))) :=
      fun xs ds H' t o g nt dx fi => q _ _ _ (g.ex (Ex.new nt)) (.tup (.inr ⟨o, upd_same⟩) (DxNs.ex (Ex.new nt) dx)) fi
    refine ⟨_, rfl, _, rfl, a, 9, rfl, by decide, by decide, hd, fun v H1 v0 v1 g1 => ?_⟩
    obtain ⟨n, rfl⟩ : ∃ n : Nat, v = n := ⟨v.toNat, by omega⟩
    refine ⟨a, n, rfl, by omega, g1.di, fun cs p H2 wd hl g2 np tp => ⟨p, _, rfl, .inr (.inl tp.rd), fun l nl => ?_⟩⟩
    have g12 := g1.trans g2
    have la := g12.di.ne nl
    have g3 : Gro a H (upd H2 l (.lst (cs.map V.str))) := g12.ex (Ex.new nl)
    have bs : ∀ c ∈ cs, Bit (.str c) := fun c hc => (words_bits wd (by omega) c hc).1
    refine ⟨_, rfl, a, 7, rfl, by decide, by decide, g3.di, fun v H4 w0 w1 g4 => ?_⟩
    have g := g3.trans g4
    have el : H4 l = some (.lst (cs.map V.str)) := g4.st l _ la upd_same
    have el' : SqL K H4 l (cs.map V.str) := .inl (.inl el)
    refine ⟨_, rfl, rfl, _, rfl, ite2 (fun _ => ?_) (fun _ => ?_)⟩
    · refine ⟨_, rfl, l, _, rfl, el', fun p2 n2 => ⟨p2, _, rfl, .inl (.inl upd_same), fun t o nt _ => ?_⟩⟩
      refine fin _ (cs.reverse.map PyData.str) _ t o (g.ex (Ex.new n2)) nt ?_ (fine_strs (fun c hc => bs c (List.mem_reverse.mp hc)) (by rw [List.length_reverse]; omega))
      rw [← List.map_reverse]
      exact dxn_strs _
    refine ⟨_, rfl, rfl, _, rfl, ite2 (fun _ => ?_) (fun _ => ?_)⟩
    · refine ⟨_, rfl, l, _, rfl, .inl el', fun p2 n2 => ?_⟩
      exact q _ (.list (cs.map PyData.str)) _ (g.ex (Ex.new n2)) (.lst (g.di.ne n2) upd_same (dxn_strs cs)) (fine_lst (bits_map bs) (by rw [List.length_map]; omega) fun d hd => (strs_plain cs d hd).1)
    refine ⟨_, rfl, rfl, _, rfl, ite2 (fun _ => ?_) (fun _ => ?_)⟩
    · refine ⟨_, rfl, _, rfl, _, rfl, l, _, rfl, el', fun p2 n2 => ?_⟩
      have ce : cutV (cs.map V.str) none (some 1) = (cs.take 1).map V.str := by
        rw [show cutV (cs.map V.str) none (some 1) = (cs.map V.str).take 1 from cut_to _ 1, List.map_take]
      rw [ce]
      refine ⟨l, p2, _, _, rfl, rfl, Ex.new n2 l _ el, upd_same, ?_, fun p3 n3 => ⟨p3, _, rfl, .inl (.inl upd_same), fun t o nt _ => ?_⟩⟩
      · rw [List.length_map, List.length_map, List.length_take]
        exact Nat.le_trans (show cs.length + min 1 cs.length ≤ 100 by omega) (by decide)
      · rw [← List.map_append] at nt ⊢
        exact fin _ ((cs ++ cs.take 1).map PyData.str) _ t o ((g.ex (Ex.new n2)).ex (Ex.new n3)) nt (dxn_strs _) (fine_strs (fun c hc => by
          rcases List.mem_append.mp hc with z | z
          · exact bs c z
          · exact bs c (List.mem_of_mem_take z)) (by rw [List.length_append, List.length_take]; omega))
    refine ⟨_, rfl, rfl, _, rfl, ite2 (fun _ => ?_) (fun _ => ?_)⟩
    · refine ⟨_, rfl, _, rfl, _, rfl, a, rfl, g.di, fun v d H5 g5 dx dm => ⟨by show 4 ≤ sizeLine; decide, fun L nL => ?_⟩⟩
      have g45 := g.trans g5
      have xL := Ex.new (o := .lst [v, .str "Z", .str "zzzzzzzzz", .str ""]) nL
      refine ⟨a, L, _, rfl, upd_same, g45.di.ne nL, by simp, by show 4 ≤ 1000; decide, xL.dice g45.di, fun u H6 hu g6 => ⟨by show 1 ≤ sizeLine; decide, fun M nM => ?_⟩⟩
      have g46 := (g45.ex xL).trans g6
      have xM := Ex.new (o := .lst [u]) nM
      have e6 : H6 l = some (.lst (cs.map V.str)) := g6.st l _ la (xL l _ (g5.st l _ la el))
      refine ⟨l, M, _, _, rfl, rfl, xM l _ e6, upd_same, ?_, fun p3 n3 => ⟨p3, _, rfl, .inl (.inl upd_same), fun t o nt _ => ?_⟩⟩
      · rw [List.length_map]
        exact Nat.le_trans (show cs.length + 1 ≤ 100 by omega) (by decide)
      · obtain ⟨e, he, be, ke⟩ : ∃ e, DxN a K H6 u e ∧ Bit e ∧ (e.hasDict = false ∨ noList e = true) := by
          simp only [List.mem_cons, List.not_mem_nil, or_false] at hu
          rcases hu with rfl | rfl | rfl | rfl
          · exact ⟨d, (dx.ex xL).gro g6 (xL.dice g45.di), odd_bit dm, (odd_each d dm).2.2.2⟩
          · exact ⟨_, .str _, bit_z.1, .inl (by simp only [PyData.hasDict])⟩
          · exact ⟨_, .str _, bit_z.2.1, .inl (by simp only [PyData.hasDict])⟩
          · exact ⟨_, .str _, bit_z.2.2.1, .inl (by simp only [PyData.hasDict])⟩
        have x3 := Ex.new (o := .lst (cs.map V.str ++ [u])) n3
        refine fin _ (cs.map PyData.str ++ [e]) _ t o ((g46.ex xM).ex x3) nt (dxn_app (dxn_strs cs) (.cons ((he.ex xM).ex x3) .nil)) (fine_tup (fun d hd => ?_) (by rw [List.length_append, List.length_map]; show cs.length + 1 ≤ 20; omega) ?_)
        · rcases List.mem_append.mp hd with z | z
          · exact bits_map bs d z
          · rw [List.mem_singleton.mp z]; exact be
        · rcases ke with k | k
          · exact .inl fun d hd => by
              rcases List.mem_append.mp hd with z | z
              · exact (strs_plain cs d z).1
              · rw [List.mem_singleton.mp z]; exact k
          · exact .inr fun d hd => by
              rcases List.mem_append.mp hd with z | z
              · exact (strs_plain cs d z).2
              · rw [List.mem_singleton.mp z]; exact k
    refine ⟨_, rfl, rfl, _, rfl, ite2 (fun _ => ?_) (fun _ => ?_)⟩
    · refine ⟨_, rfl, a, 8, rfl, by decide, g.di, fun cs2 p2 H5 wd2 hl2 g5 np2 tp2 => ⟨p2, _, rfl, .inr (.inl tp2.rd), fun l2 nl2 => ⟨by show 2 ≤ sizeLine; decide, fun L nL => ?_⟩⟩⟩
      have g45 := g.trans g5
      have x2 := Ex.new (o := .lst (cs2.map V.str)) nl2
      have xL := Ex.new (o := .lst [.str "zz", .str "zzz"]) nL
      have gL := (g45.ex x2).ex xL
      have l2a := g45.di.ne nl2
      have La := (g45.ex x2).di.ne nL
      refine ⟨_, rfl, a, 2, rfl, by decide, by decide, gL.di, fun v H6 y0 y1 g6 => ⟨_, _, rfl, rfl, _, rfl, L, _, rfl, .inl (.inl (g6.st L _ La upd_same)), fun p3 n3 => ?_⟩⟩
      obtain ⟨k, rfl⟩ : ∃ k : Nat, v = k := ⟨v.toNat, by omega⟩
      have ce : cutV [.str "zz", .str "zzz"] none (some (1 + (k : Int))) = ((["zz", "zzz"] : List Str).take (1 + k)).map V.str := by
        rw [show (1 + (k : Int)) = ((1 + k : Nat) : Int) by omega, cut_to, List.map_take]
        rfl
      rw [ce]
      have x3 := Ex.new (o := .lst (((["zz", "zzz"] : List Str).take (1 + k)).map V.str)) n3
      have tl : ((["zz", "zzz"] : List Str).take (1 + k)).length ≤ 2 := by rw [List.length_take]; exact Nat.min_le_right _ _
      refine ⟨l2, p3, _, _, rfl, rfl, x3 l2 _ (g6.st l2 _ l2a (xL l2 _ upd_same)), upd_same, ?_, fun p4 n4 => ⟨p4, _, rfl, .inl (.inl upd_same), fun t o nt _ => ?_⟩⟩
      · rw [List.length_map, List.length_map]
        exact Nat.le_trans (show cs2.length + _ ≤ 100 by omega) (by decide)
      · rw [← List.map_append] at nt ⊢
        refine fin _ ((cs2 ++ (["zz", "zzz"] : List Str).take (1 + k)).map PyData.str) _ t o (((gL.trans g6).ex x3).ex (Ex.new n4)) nt (dxn_strs _) (fine_strs (fun c hc => ?_) (by rw [List.length_append]; omega))
        rcases List.mem_append.mp hc with z | z
        · exact (words_bits wd2 (by omega) c z).1
        · have := List.mem_of_mem_take z
          simp only [List.mem_cons, List.not_mem_nil, or_false] at this
          rcases this with rfl | rfl
          · exact bit_z.2.2.2.1
          · exact bit_z.2.2.2.2
    · refine ⟨_, rfl, l, _, rfl, .inl (.inl el), fun t o nt _ => ?_⟩
      exact fin _ (cs.map PyData.str) _ t o g nt (dxn_strs cs) (fine_strs bs (by omega))
end
end Gl

namespace Gl
open PySem PySem.Spec PyProof.Rows L2
abbrev sVls : Stmt := topS 27
abbrev sDue : Stmt := topS 28
theorem scVls : FnScope ["_law_dice_here", "_law_total", "_law_found", "_law_way", "_law_turn"] ["_law_dice_here", "_law_total"] (defScope sVls) := ⟨rfl, rfl, rfl, by decide +kernel, rfl, by decide +kernel, by decide +kernel⟩
theorem scDue : FnScope ["_law_total", "_law_value", "_law_one"] ["_law_total", "_law_value"] (defScope sDue) := ⟨rfl, rfl, rfl, by decide +kernel, rfl, by decide +kernel, by decide +kernel⟩
theorem cut_from1 (xs : List V) : cutV xs (some 1) none = xs.drop 1 := by
  unfold cutV
  rw [HT.sIx_none, show HT.sIx xs.length 0 (some 1) = min 1 xs.length from HT.sIx_nat .. ]
  cases xs with
  | nil => rfl
  | cons x xs =>
    rw [List.length_cons, Nat.min_eq_left (by omega)]
    exact List.take_of_length_le (by rw [List.length_drop, List.length_cons]; omega)
section
variable {n : Addr} {K : PySem.W.Frag} {H : Hp}
theorem dxn_ints : ∀ ns : List Int, DxNs n K H (ns.map V.int) (ns.map PyData.int)
  | [] => .nil
  | c :: cs => .cons (.int c) (dxn_ints cs)
theorem dxn_set : ∀ {xs : List V} {ds : List PyData} {u : V} {e : PyData} (m : Nat), DxNs n K H xs ds → DxN n K H u e → DxNs n K H (xs.set m u) (ds.set m e)
  | _, _, _, _, _, .nil, _ => .nil
  | _, _, _, _, 0, .cons _ t, h => .cons h t
  | _, _, _, _, m + 1, .cons a t, h => .cons a (dxn_set m t h)
end
theorem bit_ints : ∀ d ∈ ([.int 0, .int 1, .int (-1), .int 7, .int big39, .bool true, .bool false, .none, .str "1", .tuple [.int 1], .list []] : List PyData), Bit d := by
  have h : ∀ d ∈ ([.int 0, .int 1, .int (-1), .int 7, .int big39, .bool true, .bool false, .none, .str "1", .tuple [.int 1], .list []] : List PyData), d.showable = true ∧ d.depth ≤ 5 ∧ wt d ≤ 4000 := by decide +kernel
  intro d hd
  refine ⟨?_, (h d hd).1, (h d hd).2.1, (h d hd).2.2⟩
  intro x e
  subst e
  simp only [List.mem_cons, List.not_mem_nil, or_false, reduceCtorEq, PyData.str.injEq, false_or] at hd
  subst hd
  decide +kernel
theorem ints_plain (ns : List Int) : ∀ d ∈ ns.map PyData.int, d.hasDict = false := by
  intro d hd
  obtain ⟨c, _, rfl⟩ := List.mem_map.mp hd
  simp only [PyData.hasDict]
section
variable {P : Program} {w : World} {K : PySem.W.Frag} {mg : Str → Option Value} {base : Heap}
def spVls (K : PySem.W.Frag) : Sp := fun vs H Q _ => ∃ (a : Addr) (n : Nat), vs = [.ref a, .int n] ∧ n ≤ 8 ∧ Dice H a ∧ ∀ v d H', Gro a H H' → DxN a K H' v d → Fine d → Q v H'
theorem ok_vls {f : Addr} {fd : FuncData} (F : Fun K "_law_values" "_law_values" sVls f fd) (T : Blt mg) (D : Dc P w K mg base) (Pk : DfG P w K mg base 2 "_law_pick" ["_law_dice_here", "_law_items"] spPick) : FnG P w K mg base CX0 3 f fd ["_law_dice_here", "_law_total"] (spVls K) := by
  refine okG F scVls (fun vs H Q E h => ?_) (fun cdv A outer s H vs Q E hr h => ?_)
  · obtain ⟨a, n, rfl, _⟩ := h
    rfl
  · obtain ⟨a, n, rfl, n8, hd, q⟩ := h
    have nd := scVls.nd
    have r1 := hr.mono (show 1 ≤ 2 by decide)
    have hu : (A.deeper (envOfC "_law_values" (defScope sVls) s.heap.objs.size f cdv)).units < cLine := by have := hr.rm.un; omega
    refine ⟨_, pss_cons (ps_setLc (i := 2) (own := [("_law_turn", 4)]) (g := gName 4) (tt := tYes) rfl nd rfl rfl (sw_true rfl rfl rfl (by decide +kernel)) (pi_range1 rfl T.range (pa_cons (pv 1) pa_nil)) (blkOk_by (N := ["_law_dice_here", "_law_total", "_law_found", "_law_way", "_law_turn"]) (sc := defScope sVls) (by decide +kernel)) (fun _ _ _ _ _ => pg_name (i := 4) nd rfl (.inl rfl)) (fun _ _ _ _ _ => pts_nil)
        (fun _ _ _ _ _ => pe_callG Pk.G hr (by rfl) Pk.g Pk.kp Pk.b .nil pass0 (pa_cons (pv 0) (pa_cons (pe_lst (pa_cons pe_int (pa_cons pe_int (pa_cons (pe_un un_neg pe_int) (pa_cons pe_int (pa_cons (pe_op op_powW pe_int pe_int) pa_nil)))))) pa_nil))))
      (pss_cons (ps_set (i := 3) nd rfl (.inl rfl) (pe_callG D.G r1 (by rfl) D.g D.kp D.b .nil pass0 (pa_cons (pv 0) (pa_cons pe_int pa_nil))))
      (pss_cons (ps_if (pt_cmpR op_eq (pv 3) pe_int (nomark _)) (pss_one (ps_ret (pe_callTy call_tupleF (by rfl) T.tuple (by decide +kernel) (pa_cons (pe_op op_cat (pv 2) (pe_lst (pa_cons pe_int pa_nil))) pa_nil)))) pss_nil)
      (pss_cons (ps_if (pt_cmpR op_eq (pv 3) pe_int (nomark _)) (pss_one (ps_ret (pe_callTy call_tupleF (by rfl) T.tuple (by decide +kernel) (pa_cons (pe_slice sl_list (pv 2) (po_some pe_int) po_none) pa_nil)))) pss_nil)
      (pss_cons (ps_if (pt_cmpR op_eq (pv 3) pe_int (nomark _)) (pss_one (ps_ret (pe_callTy call_list_of (by rfl) T.list (by decide +kernel) (pa_cons (pv 2) pa_nil)))) pss_nil)
      (pss_cons (ps_if (pw_and (pt_cmpR op_eq (pv 3) pe_int (nomark _)) (pw_and1 (pt_cmpR (op_neNil hu) (pv 2) (pe_lst pa_nil) (nomark _)))).pt
        (pss_one (ps_asg (pe_callG Pk.G hr (by rfl) Pk.g Pk.kp Pk.b .nil pass0 (pa_cons (pv 0) (pa_cons (pe_lst (pa_cons pe_bl (pa_cons pe_bl (pa_cons pe_non (pa_cons pe_str (pa_cons (pe_tup (pa_cons pe_int pa_nil)) (pa_cons (pe_lst pa_nil) (pa_cons (pe_op op_powW pe_int pe_int) pa_nil)))))))) pa_nil)))
          (pg_sub (pv 2) (pe_callG D.G r1 (by rfl) D.g D.kp D.b .nil pass0 (pa_cons (pv 0) (pa_cons (pv 1) pa_nil))) set_list))) pss_nil)
      (pss_one (ps_ret (pe_callTy call_tupleF (by rfl) T.tuple (by decide +kernel) (pa_cons (pv 2) pa_nil))))))))), ?_⟩
    have fin : ∀ (xs : List V) (ds : List PyData) (H' : Hp) (t : Addr) (o : Obj), Gro a H H' → H' t = none → DxNs a K H' xs ds → (∀ d ∈ ds, Bit d) → ds.length ≤ 20 → (∀ d ∈ ds, d.hasDict = false) → Q (.ref t) (upd H' t (.frz o (.tup xs))) :=
      fun xs ds H' t o g nt dx bt l k => q _ _ _ (g.ex (Ex.new nt)) (.tup (.inr ⟨o, upd_same⟩) (DxNs.ex (Ex.new nt) dx)) (fine_tup bt l (.inl k))
    refine ⟨_, rfl, n, rfl, by omega, by omega, fun l nl => ?_⟩
    have la := hd.ne nl
    refine lc_range (n := n) (fun i H' => ∃ ns : List Int, Gro a H H' ∧ H' l = some (.lst (ns.map V.int)) ∧ ns.length = i ∧ ∀ n ∈ ns, Bit (.int n))
      ⟨[], Gro.of (Ex.new nl) hd, upd_same, rfl, fun _ z => (nomatch z)⟩ (fun i H1 hi h => ?_) (fun H1 h => ?_)
    · obtain ⟨ns, g, el, len, bt⟩ := h
      refine ⟨rfl, _, rfl, _, rfl, _, _, rfl, rfl, cpw39, by show 5 ≤ sizeLine; decide, fun L nL => ?_⟩
      have xL := Ex.new (o := .lst [.int 0, .int 1, .int (-1), .int 7, .int ((10 : Int) ^ (39 : Int).toNat)]) nL
      refine ⟨a, L, _, rfl, upd_same, g.di.ne nL, by simp, by show 5 ≤ 1000; decide, xL.dice g.di, fun v H2 hv g2 => ?_⟩
      obtain ⟨z, rfl, bz⟩ : ∃ z : Int, v = .int z ∧ Bit (.int z) := by
        simp only [List.mem_cons, List.not_mem_nil, or_false] at hv
        rcases hv with rfl | rfl | rfl | rfl | rfl <;> exact ⟨_, rfl, bit_ints _ (by simp [big39])⟩
      refine ⟨_, g2.st l _ la (xL l _ el), ?_, ns ++ [z], ((g.ex xL).trans g2).mut nl la, by rw [upd_same, List.map_append]; rfl, by rw [List.length_append, len]; rfl, fun m hm => ?_⟩
      · rw [List.length_map, len]
        exact room1000 (by omega)
      · rcases List.mem_append.mp hm with z | z
        · exact bt m z
        · rw [List.mem_singleton.mp z]; exact bz
    · obtain ⟨ns, g1, e1, len, bt⟩ := h
      have bts : ∀ d ∈ ns.map PyData.int, Bit d := by
        intro d hd
        obtain ⟨c, hc, rfl⟩ := List.mem_map.mp hd
        exact bt c hc
      refine ⟨_, rfl, a, 6, rfl, by decide, by decide, g1.di, fun v H2 v0 v1 g2 => ?_⟩
      have g := g1.trans g2
      have el := g2.st l _ la e1
      refine ⟨_, rfl, rfl, _, rfl, ite2 (fun _ => ?_) (fun _ => ?_)⟩
      · refine ⟨_, rfl, by show 1 ≤ sizeLine; decide, fun M nM => ?_⟩
        have xM := Ex.new (o := .lst [.int 1]) nM
        refine ⟨l, M, _, _, rfl, rfl, xM l _ el, upd_same, ?_, fun p3 n3 => ⟨p3, _, rfl, .inl (.inl upd_same), fun t o nt _ => ?_⟩⟩
        · rw [List.length_map]
          exact Nat.le_trans (show ns.length + 1 ≤ 100 by omega) (by decide)
        · refine fin _ (ns.map PyData.int ++ [.int 1]) _ t o ((g.ex xM).ex (Ex.new n3)) nt (dxn_app (dxn_ints ns) (.cons (.int 1) .nil)) (fun d hd => ?_) (by rw [List.length_append, List.length_map]; show ns.length + 1 ≤ 20; omega) (fun d hd => ?_)
          · rcases List.mem_append.mp hd with z | z
            · exact bts d z
            · rw [List.mem_singleton.mp z]; exact bit_ints _ (by simp)
          · rcases List.mem_append.mp hd with z | z
            · exact ints_plain ns d z
            · rw [List.mem_singleton.mp z]; simp only [PyData.hasDict]
      refine ⟨_, rfl, rfl, _, rfl, ite2 (fun _ => ?_) (fun _ => ?_)⟩
      · refine ⟨_, rfl, _, rfl, l, _, rfl, .inl (.inl el), fun p3 n3 => ?_⟩
        rw [cut_from1, ← List.map_drop]
        refine ⟨p3, _, rfl, .inl (.inl upd_same), fun t o nt _ => ?_⟩
        exact fin _ ((ns.drop 1).map PyData.int) _ t o (g.ex (Ex.new n3)) nt (dxn_ints _) (fun d hd => bts d (List.map_subset _ (List.drop_subset 1 ns) hd)) (by rw [List.length_map, List.length_drop]; omega) (ints_plain _)
      refine ⟨_, rfl, rfl, _, rfl, ite2 (fun _ => ?_) (fun _ => ?_)⟩
      · refine ⟨_, rfl, l, _, rfl, .inl (.inl (.inl el)), fun p2 n2 => ?_⟩
        exact q _ (.list (ns.map PyData.int)) _ (g.ex (Ex.new n2)) (.lst (g.di.ne n2) upd_same (dxn_ints ns)) (fine_lst bts (by rw [List.length_map]; omega) (ints_plain ns))
      have last : ∀ (H' : Hp) (xs : List V) (ds : List PyData), Gro a H H' → H' l = some (.lst xs) → DxNs a K H' xs ds → (∀ d ∈ ds, Bit d) → ds.length ≤ 20 → (∀ d ∈ ds, d.hasDict = false) →
          ∀ t o, H' t = none → Q (.ref t) (upd H' t (.frz o (.tup xs))) := fun H' xs ds g e dx bt l k t o nt => fin xs ds H' t o g nt dx bt l k
      refine ⟨_, rfl, rfl, _, rfl, ?_⟩
      have plain : ∀ H', Ex H2 H' → ∀ t o, H' t = none → Q (.ref t) (upd H' t (.frz o (.tup (ns.map V.int)))) := fun H' e t o nt => last H' _ (ns.map PyData.int) (g.ex e) (e l _ el) (dxn_ints ns) bts (by rw [List.length_map]; omega) (ints_plain ns) t o nt
      generalize decide (V.int v = V.int 3) = c
      cases c with
      | false => exact ⟨_, rfl, l, _, rfl, .inl (.inl el), fun t o nt _ => plain _ (Ex.refl _) t o nt⟩
      | true =>
        refine ⟨_, rfl, Nat.zero_le _, fun m nm => ⟨l, m, _, rfl, rfl, .inl (.inl (Ex.new nm l _ el)), upd_same, _, rfl, ?_⟩⟩
        have xm := Ex.new (o := .lst []) nm
        rw [if_neg Bool.false_ne_true]
        by_cases z : ns.map V.int = []
        · rw [decide_eq_true z]
          exact ⟨_, rfl, l, _, rfl, .inl (.inl (xm l _ el)), fun t o nt _ => plain _ xm t o nt⟩
        · rw [decide_eq_false z]
          have n0 : 0 < n := by
            rw [← len]
            cases ns with
            | nil => exact absurd rfl z
            | cons _ _ => exact Nat.succ_pos _
          have gm := g.ex xm
          refine ⟨_, rfl, by show 1 ≤ sizeLine; decide, fun t1 k1 => ⟨Nat.zero_le _, fun l1 n1 => ⟨_, _, rfl, rfl, cpw39, by show 7 ≤ sizeLine; decide, fun L nL => ?_⟩⟩⟩
          have z1 := Ex.new (o := .tup [.int 1]) k1
          have y1 := Ex.new (o := .lst []) n1
          have xL := Ex.new (o := .lst [.bl true, .bl false, .non, .str "1", .ref t1, .ref l1, .int ((10 : Int) ^ (39 : Int).toNat)]) nL
          have l1a := (gm.ex z1).di.ne n1
          have La := ((gm.ex z1).ex y1).di.ne nL
          have gL := (gm.ex (z1.trans y1)).ex xL
          have eL := xL l _ (y1 l _ (z1 l _ (xm l _ el)))
          refine ⟨a, L, _, rfl, upd_same, La, by simp, by show 7 ≤ 1000; decide, gL.di, fun u H6 hu g6 => ?_⟩
          refine ⟨_, rfl, _, rfl, _, rfl, a, n, rfl, by omega, Nat.lt_of_le_of_lt (show ((n : Int)).natAbs ≤ 1000 by omega) (by decide), g6.di, fun j H7 j0 j1 g7 => ?_⟩
          obtain ⟨j, rfl⟩ : ∃ k : Nat, j = k := ⟨j.toNat, by omega⟩
          have e7 := g7.st l _ la (g6.st l _ la eL)
          refine ⟨l, _, j, j, rfl, rfl, e7, (by unfold ixN; rw [if_pos (by omega), if_pos (by rw [List.length_map, len]; omega)]; rfl), ?_⟩
          have t1l : t1 ≠ l := fun e => by
            rw [e, xm l _ el] at k1
            exact nomatch k1
          have l1l : l1 ≠ l := fun e => by
            rw [e, z1 l _ (xm l _ el)] at n1
            exact nomatch n1
          have g67 := g6.trans g7
          obtain ⟨e, he, be, ke⟩ : ∃ e, DxN a K (upd H7 l (.lst ((ns.map V.int).set j u))) u e ∧ Bit e ∧ e.hasDict = false := by
            simp only [List.mem_cons, List.not_mem_nil, or_false] at hu
            rcases hu with rfl | rfl | rfl | rfl | rfl | rfl | rfl
            · exact ⟨_, .bl _, bit_ints _ (by simp), by simp only [PyData.hasDict]⟩
            · exact ⟨_, .bl _, bit_ints _ (by simp), by simp only [PyData.hasDict]⟩
            · exact ⟨_, .non, bit_ints _ (by simp), by simp only [PyData.hasDict]⟩
            · exact ⟨_, .str _, bit_ints _ (by simp), by simp only [PyData.hasDict]⟩
            · refine ⟨.tuple [.int 1], .tup (.inl ?_) (.cons (.int 1) .nil), bit_ints _ (by simp), by simp only [PyData.hasDict, PyData.hasDictAll]; rfl⟩
              rw [upd_ne t1l]
              exact g67.tup ((gm.ex (z1.trans y1)).ex xL).di (xL t1 _ (y1 t1 _ upd_same))
            · refine ⟨.list [], .lst l1a ?_ .nil, bit_ints _ (by simp), by simp only [PyData.hasDict, PyData.hasDictAll]⟩
              rw [upd_ne l1l]
              exact g67.st l1 _ l1a (xL l1 _ upd_same)
            · exact ⟨.int big39, .int _, bit_ints _ (by simp), by simp only [PyData.hasDict]⟩
          refine ⟨_, rfl, l, _, rfl, .inl (.inl upd_same), fun t o nt _ => ?_⟩
          refine last _ _ ((ns.map PyData.int).set j e) ((gL.trans g67).mut nl la) upd_same (dxn_set j (dxn_ints ns) he) (fun d hd => ?_) (by rw [List.length_set, List.length_map]; omega) (fun d hd => ?_) t o nt
          · rcases List.mem_or_eq_of_mem_set hd with z | rfl
            · exact bts d z
            · exact be
          · rcases List.mem_or_eq_of_mem_set hd with z | rfl
            · exact ints_plain ns d z
            · exact ke

def spDue (K : PySem.W.Frag) : Sp := fun vs H Q _ => ∃ (v : V) (d : PyData) (n : Int), vs = [.int n, v] ∧ Dx K H v d ∧ Short d ∧ ∀ H', Ex H H' → Q (.bl (wholesB d n)) H'
theorem ok_due {f : Addr} {fd : FuncData} (F : Fun K "_law_row_due" "_law_row_due" sDue f fd) (T : Blt mg) : FnOk P w K mg base CX0 1 f fd ["_law_total", "_law_value"] (spDue K) := by
  refine F.ok scDue (fun vs H Q E h => ?_) (fun cdv A outer s H vs Q E hr h => ?_)
  · obtain ⟨v, d, n, rfl, _⟩ := h
    rfl
  · obtain ⟨v, d, n, rfl, hd, sh, q⟩ := h
    have nd := scDue.nd
    have hu : (A.deeper (envOfC "_law_row_due" (defScope sDue) s.heap.objs.size f cdv)).units < cLine := by have := hr.un; omega
    refine ⟨_, pss_cons (ps_if (pw_or (pt_not (pt_val (pe_callB call_isi (by rfl) T.isinstance (by decide +kernel) (pa_cons (pv 1) (pa_cons (pe_bltn (v := .ty "tuple") (by rfl) T.tuple (by decide +kernel) rfl) pa_nil)))))
        (pw_or1 (pt_cmpR op_ne (pe_callB call_len_seq (by rfl) T.len PySem.boot_len (pa_cons (pv 1) pa_nil)) (pv 0) (nomark _)))).pt
        (pss_one (ps_ret pe_bl)) pss_nil)
      (pss_one (ps_ret (pe_cmpR (op_eqNil hu) (pe_lc (own := [("_law_one", 2)]) (g := gName 2) rfl nd (pi_tup (pv 1)) (blkOk_by (N := ["_law_total", "_law_value", "_law_one"]) (sc := defScope sDue) (by decide +kernel)) (fun _ _ _ _ _ => pg_name (i := 2) nd rfl (.inl rfl))
          (fun _ _ _ _ _ => pts_one (PW.pt (pw_or (pt_val (pe_callB (r := rIsi K) (id := "isinstance") call_isi (by rfl) T.isinstance (by decide +kernel) (pa_cons (pv 2) (pa_cons (pe_bltn (v := .ty "bool") (by rfl) T.bool (by decide +kernel) rfl) pa_nil))))
            (pw_or1 (pt_not (pt_val (pe_callB (r := rIsi K) (id := "isinstance") call_isi (by rfl) T.isinstance (by decide +kernel) (pa_cons (pv 2) (pa_cons (pe_bltn (v := .ty "int") (by rfl) T.int (by decide +kernel) rfl) pa_nil)))))))))
          (fun _ _ _ _ _ => pv 2)) (pe_lst pa_nil) (nomark _)))), ?_⟩
    refine ⟨_, rfl, _, _, _, _, _, rfl, .ty _, tyx hd, kit_ty (isTup d), _, rfl, ?_⟩
    cases hd with
    | non => exact q _ (Ex.refl H)
    | bl b => exact q _ (Ex.refl H)
    | int i => exact q _ (Ex.refl H)
    | lst _ _ => exact q _ (Ex.refl H)
    | str _ => exact q _ (Ex.refl H)
    | dk _ _ => exact q _ (Ex.refl H)
    | @tup p xs ds hp ha =>
      have ln := ha.length
      have q : ∀ H', Ex H H' → Q (.bl (decide ((ds.length : Int) = n) && ds.all wholeB)) H' := q
      refine ⟨_, rfl, p, _, rfl, .inr (.inl hp), _, rfl, rfl, _, rfl, ?_⟩
      rw [ln]
      by_cases e : (ds.length : Int) = n
      · rw [decide_eq_true (show V.int (ds.length : Int) = V.int n by rw [e])]
        rw [decide_eq_true e, Bool.true_and] at q
        refine ⟨_, rfl, p, rfl, ⟨_, .inl hp⟩, fun D nD => lc_tup (xs := xs) (fun i H' => ∃ ks : List V, Ex H H' ∧ H' D = some (.lst ks) ∧ (ks = [] ↔ (ds.take i).all wholeB = true) ∧ ks.length ≤ i)
            ⟨[], Ex.new nD, upd_same, by simp, Nat.le_refl _⟩ (fun i H' _ h => ?_) (fun i x H' hx h => ?_) (fun H1 h => ?_)⟩
        · obtain ⟨_, ex, _⟩ := h
          exact .inl (ex.rd hp)
        · obtain ⟨ks, ex, eD, iff, lk⟩ := h
          obtain ⟨d1, hd1, hx1⟩ := ha.get hx
          have tk : (ds.take (i + 1)).all wholeB = ((ds.take i).all wholeB && wholeB d1) := by
            rw [List.take_add_one, hd1, List.all_append]
            simp
          have il := (List.getElem?_eq_some_iff.mp hd1).1
          have l1000 := sh.1
          have put : wholeB d1 = false → ∃ ks' : List V, Ex H (upd H' D (.lst (ks ++ [x]))) ∧ (upd H' D (.lst (ks ++ [x]))) D = some (.lst ks') ∧ (ks' = [] ↔ (ds.take (i + 1)).all wholeB = true) ∧ ks'.length ≤ i + 1 := by
            intro y
            refine ⟨ks ++ [x], ex.mut nD, upd_same, ?_, by rw [List.length_append]; exact Nat.succ_le_succ lk⟩
            rw [tk, y, Bool.and_false]
            constructor
            · intro z
              have := congrArg List.length z
              rw [List.length_append] at this
              exact nomatch this
            · intro z; exact absurd z Bool.false_ne_true
          refine ⟨rfl, _, rfl, _, _, _, _, _, rfl, .ty _, tyx (hx1.ex ex), kit_ty (isBool d1), _, rfl, ?_⟩
          cases d1 with
          | bool b => exact ⟨_, rfl, ks, eD, room1000 (by omega), put rfl⟩
          | none =>
            refine ⟨_, rfl, _, _, _, _, _, rfl, .ty _, tyx (hx1.ex ex), kit_ty (isInt _), _, rfl, ?_⟩
            exact ⟨_, rfl, ks, eD, room1000 (by omega), put rfl⟩
          | str _ =>
            refine ⟨_, rfl, _, _, _, _, _, rfl, .ty _, tyx (hx1.ex ex), kit_ty (isInt _), _, rfl, ?_⟩
            exact ⟨_, rfl, ks, eD, room1000 (by omega), put rfl⟩
          | list _ =>
            refine ⟨_, rfl, _, _, _, _, _, rfl, .ty _, tyx (hx1.ex ex), kit_ty (isInt _), _, rfl, ?_⟩
            exact ⟨_, rfl, ks, eD, room1000 (by omega), put rfl⟩
          | tuple _ =>
            refine ⟨_, rfl, _, _, _, _, _, rfl, .ty _, tyx (hx1.ex ex), kit_ty (isInt _), _, rfl, ?_⟩
            exact ⟨_, rfl, ks, eD, room1000 (by omega), put rfl⟩
          | dict _ =>
            refine ⟨_, rfl, _, _, _, _, _, rfl, .ty _, tyx (hx1.ex ex), kit_ty (isInt _), _, rfl, ?_⟩
            exact ⟨_, rfl, ks, eD, room1000 (by omega), put rfl⟩
          | int i => 
            refine ⟨_, rfl, _, _, _, _, _, rfl, .ty _, tyx (hx1.ex ex), kit_ty (isInt _), _, rfl, ?_⟩
            refine ⟨ks, ex, eD, ?_, by omega⟩
            rw [tk]
            simpa [wholeB] using iff
        · obtain ⟨ks, ex, eD, iff, lk⟩ := h
          rw [ln, List.take_length] at iff
          refine ⟨Nat.zero_le _, fun m nm => ⟨D, m, _, rfl, rfl, .inl (.inl (Ex.new nm D _ eD)), upd_same, ?_⟩⟩
          rw [if_pos rfl]
          have fin := q _ (ex.trans (Ex.new (o := .lst []) nm))
          have : decide (ks = []) = ds.all wholeB := by
            by_cases y : ds.all wholeB = true
            · rw [y]; exact decide_eq_true (iff.mpr y)
            · rw [Bool.eq_false_iff.mpr y]; exact decide_eq_false fun z => y (iff.mp z)
          rw [this]
          exact fin
      · rw [decide_eq_false (show ¬ V.int (ds.length : Int) = V.int n from fun z => e (V.int.inj z))]
        have := q _ (Ex.refl H)
        rw [decide_eq_false e, Bool.false_and] at this
        exact this
end
end Gl

namespace Gl
open PySem PySem.Spec PyProof.Rows L2
abbrev sStrR : Stmt := topS 29
abbrev sColR : Stmt := topS 30
abbrev sRowR : Stmt := topS 31
theorem scStrR : FnScope ["_law_dice_here", "_law_turn", "_law_value"] ["_law_dice_here"] (defScope sStrR) := ⟨rfl, rfl, rfl, by decide +kernel, rfl, by decide +kernel, by decide +kernel⟩
theorem scColR : FnScope ["_law_dice_here", "_law_turn", "_law_value", "_law_kept", "_law_told", "_law_bottom"] ["_law_dice_here"] (defScope sColR) := ⟨rfl, rfl, rfl, by decide +kernel, rfl, by decide +kernel, by decide +kernel⟩
theorem scRowR : FnScope ["_law_dice_here", "_law_turn", "_law_total", "_law_columns_here", "_law_value", "_law_kept"] ["_law_dice_here"] (defScope sRowR) := ⟨rfl, rfl, rfl, by decide +kernel, rfl, by decide +kernel, by decide +kernel⟩
def tMid (t u : TS) : TS := fun D σ H => ∃ M : L2.St → Hp → Prop, t { D with nx := M } σ H ∧ ∀ σ' H', M σ' H' → u D σ' H'
theorem pss_mid {X : Cx} {st : Stmt} {l : List Stmt} {t u : TS} (a : PS X st t) (b : PSs X l u) : PSs X (st :: l) (tMid t u) := .mk fun pins s σ H D I h => by
  obtain ⟨M, hm, hu⟩ := h
  apply wpAny_execs_cons
  apply thn (a.run pins s σ H { D with nx := M } I hm)
  rintro f s1 q
  match f, q with
  | .next, ⟨σ', H', J, q⟩ => exact b.run pins s1 σ' H' D J (hu σ' H' q)
  | .ret v, q => exact q
  | .brk, q => exact q
  | .cont, q => exact q
theorem bit_bool (b : Bool) : Bit (.bool b) := by cases b <;> exact bit_ints _ (by simp)
theorem bits_bools (bs : List Bool) : ∀ d ∈ bs.map PyData.bool, Bit d := by
  intro d hd
  obtain ⟨c, _, rfl⟩ := List.mem_map.mp hd
  exact bit_bool c
theorem fine_bools (bs : List Bool) (l : bs.length ≤ 20) : Fine (.list (bs.map PyData.bool)) := fine_lst (bits_bools bs) (by rw [List.length_map]; exact l) fun d hd => by
  obtain ⟨c, _, rfl⟩ := List.mem_map.mp hd
  simp only [PyData.hasDict]
theorem dx_bools {K : PySem.W.Frag} {H : Hp} : ∀ bs : List Bool, DxAll K H (bs.map V.bl) (bs.map PyData.bool)
  | [] => .nil
  | b :: bs => .cons (.bl b) (dx_bools bs)
theorem fine_bool (b : Bool) : Fine (.bool b) := ⟨trivial, (bit_bool b).sw, Nat.le_trans (bit_bool b).dp (by decide), Nat.le_trans (bit_bool b).wt (by decide), .inl (by simp only [PyData.hasDict])⟩
theorem words_ok {cs : List Str} (h : Words cs) (l : cs.length ≤ 8) : ColsOk cs := by
  refine ⟨fun c hc => ?_, ?_, l⟩
  · obtain ⟨i, hi⟩ := List.getElem?_of_mem hc
    obtain ⟨d, r, e, hd, hr, sm⟩ := h i c hi
    have il := (List.getElem?_eq_some_iff.mp hi).1
    have len : c.length = r.length + 1 := by
      show c.cps.size = _
      rw [← Array.length_toList, e, List.length_cons]
    refine ⟨by omega, by omega, fun x hx => ?_⟩
    rw [e] at hx
    rcases List.mem_cons.mp hx with rfl | hx
    · unfold Small; omega
    · exact sm x hx
  · refine List.pairwise_iff_getElem.mpr fun i j hi hj lt => ?_
    obtain ⟨d, r, e, hd, _⟩ := h i _ (List.getElem?_eq_getElem hi)
    obtain ⟨d2, r2, e2, hd2, _⟩ := h j _ (List.getElem?_eq_getElem hj)
    rw [e, e2]
    exact List.Lex.rel (by omega)
section
variable {P : Program} {w : World} {K : PySem.W.Frag} {mg : Str → Option Value} {base : Heap}
def spR : Sp := fun vs H Q _ => ∃ a : Addr, vs = [.ref a] ∧ Dice H a ∧ ∀ H', Gro a H H' → Q (.bl true) H'
theorem ok_strR {f : Addr} {fd : FuncData} (F : Fun K "_law_strings_right" "_law_strings_right" sStrR f fd) (T : Blt mg) (D : Dc P w K mg base) (St : DfG P w K mg base 3 "_law_string" ["_law_dice_here"] spStr) (Od : DfG P w K mg base 3 "_law_odd_value" ["_law_dice_here"] (spOdd K))
    (Nm : Df P w K mg base 1 "is_name" ["value"] (spName K)) (Gn : Df P w K mg base 1 "_law_good_name" ["_law_value"] (spGoodN K)) : FnG P w K mg base CX0 4 f fd ["_law_dice_here"] spR := by
  refine okG F scStrR (fun vs H Q E h => ?_) (fun cdv A outer s H vs Q E hr h => ?_)
  · obtain ⟨a, rfl, _⟩ := h
    rfl
  · obtain ⟨a, rfl, hd, k⟩ := h
    have nd := scStrR.nd
    have r1 := hr.mono (show 1 ≤ 3 by decide)
    refine ⟨_, pss_cons (ps_for PassesOwn.never rfl (pi_range1 rfl T.range (pa_cons pe_int pa_nil)) (pg_name (i := 1) nd rfl (.inl rfl))
        (pss_mid (ps_set (i := 2) nd rfl (.inl rfl) (pe_ifExp (pt_cmpR op_gt (pe_callG D.G r1 (by rfl) D.g D.kp D.b .nil pass0 (pa_cons (pv 0) (pa_cons pe_int pa_nil))) pe_int (nomark _)) (pe_callG St.G hr (by rfl) St.g St.kp St.b .nil pass0 (pa_cons (pv 0) pa_nil)) (pe_callG Od.G hr (by rfl) Od.g Od.kp Od.b .nil pass0 (pa_cons (pv 0) pa_nil))))
        (pss_one (ps_if (pt_cmpR op_ne (pe_callB (call_reprX hr) (by rfl) T.repr (by decide +kernel) (pa_cons (pe_lst (pa_cons (pe_call Nm.G r1.rm (by rfl) Nm.g Nm.kp Nm.b .nil pass0 (pa_cons (pv 2) pa_nil)) (pa_cons (pe_call Nm.G r1.rm (by rfl) Nm.g Nm.kp Nm.b .nil pass0 (pa_cons (pv 2) pa_nil)) pa_nil))) pa_nil))
          (pe_callB (call_reprX hr) (by rfl) T.repr (by decide +kernel) (pa_cons (pe_op op_rep (pe_lst (pa_cons (pe_call Gn.G r1.rm (by rfl) Gn.g Gn.kp Gn.b .nil pass0 (pa_cons (pv 2) pa_nil)) pa_nil)) pe_int) pa_nil)) (nomark _)) pss_never pss_nil))))
      (pss_one (ps_ret pe_bl)), ?_⟩
    refine ⟨6, rfl, by decide, by decide, ?_⟩
    refine for_range (n := 6) (fun j σ H' => ∃ y1 y2 : Option V, σ = [some (.ref a), y1, y2] ∧ Gro a H H') ⟨none, none, rfl, Gro.refl hd⟩ (fun j σ H1 hj h => ?_) (fun σ H1 h => ?_)
    · obtain ⟨y1, y2, rfl, g1⟩ := h
      refine ⟨fun σ H' => ∃ v d, σ = [some (.ref a), some (.int (0 + (j : Int))), some v] ∧ Gro a H H' ∧ Dx K H' v d ∧ ShortS d, ?_, fun σ H4 hM => ?_⟩
      · refine ⟨_, rfl, a, 4, rfl, by decide, by decide, g1.di, fun u H2 u0 u1 g2 => ?_⟩
        have g12 := g1.trans g2
        refine ⟨_, _, rfl, rfl, _, rfl, ite2 (fun _ => ?_) (fun _ => ?_)⟩
        · exact ⟨_, rfl, a, rfl, g12.di, fun x H3 g3 lx => ⟨.str x, .str x, rfl, g12.trans g3, .str x, fun y e => by obtain rfl := PyData.str.inj e; exact lx⟩⟩
        · exact ⟨_, rfl, a, rfl, g12.di, fun v d H3 g3 dx dm => ⟨v, d, rfl, g12.trans g3, dx.dx, (odd_short d dm).2⟩⟩
      · obtain ⟨v, d, rfl, g4, dx, ss⟩ := hM
        refine ⟨_, rfl, v, d, rfl, dx, ss, fun H5 e5 => ?_⟩
        refine ⟨_, rfl, v, d, rfl, dx.ex e5, ss, fun H6 e6 => ⟨by show 2 ≤ sizeLine; decide, fun t nt => ?_⟩⟩
        have xt := Ex.new (o := .lst [.bl (nameB d), .bl (nameB d)]) nt
        obtain ⟨w0, w1, w2, w3⟩ := (fine_bools [nameB d, nameB d] (by show 2 ≤ 20; decide)).ok
        refine ⟨_, _, rfl, .lst upd_same (dx_bools [nameB d, nameB d]), w0, w1, w2, w3, ?_⟩
        have e46 := (e5.trans e6).trans xt
        refine ⟨_, rfl, v, d, rfl, dx.ex e46, ss, fun H7 e7 => ⟨by show 1 ≤ sizeLine; decide, fun u nu => ?_⟩⟩
        have xu := Ex.new (o := .lst [.bl (nameB d)]) nu
        refine ⟨u, 2, [.bl (nameB d)], rfl, rfl, upd_same, by decide, by decide, by show 1 * 2 ≤ sizeLine; decide, fun p np => ?_⟩
        have xp := Ex.new (o := .lst (List.replicate (2 : Int).toNat [V.bl (nameB d)]).flatten) np
        refine ⟨_, .list ([nameB d, nameB d].map PyData.bool), rfl, .lst upd_same (dx_bools [nameB d, nameB d]), w0, w1, w2, w3, rfl, _, rfl, ?_⟩
        rw [decide_eq_true rfl]
        exact ⟨_, _, rfl, g4.ex (((e46.trans e7).trans xu).trans xp)⟩
    · obtain ⟨y1, y2, rfl, g1⟩ := h
      exact k _ g1

theorem ok_colR {f : Addr} {fd : FuncData} (F : Fun K "_law_columns_right" "_law_columns_right" sColR f fd) (T : Blt mg) (D : Dc P w K mg base) (Ns : DfG P w K mg base 4 "_law_names" ["_law_dice_here"] (spNames K)) (Od : DfG P w K mg base 3 "_law_odd_value" ["_law_dice_here"] (spOdd K))
    (I : DfK P w K mg base 3 "is_columns" ["value", "least"] (spIsCols K)) {ids : List Value} (iv : Vals [V.int 0] ids) (ib : Binds K I.fd ["value", "least"] ids) (kb : KBn K I.fd ["value", "least"] 1 ["least"] (fun us ws => us ++ ws) (fun vs zs => vs ++ zs))
    (Gc : Df P w K mg base 2 "_law_good_columns" ["_law_value", "_law_bottom"] (spGoodC K)) : FnG P w K mg base CX0 5 f fd ["_law_dice_here"] spR := by
  refine okG F scColR (fun vs H Q E h => ?_) (fun cdv A outer s H vs Q E hr h => ?_)
  · obtain ⟨a, rfl, _⟩ := h
    rfl
  · obtain ⟨a, rfl, hd, k⟩ := h
    have nd := scColR.nd
    have r1 := hr.mono (show 1 ≤ 4 by decide)
    have r2 := hr.mono (show 2 ≤ 4 by decide)
    have r3 := hr.mono (show 3 ≤ 4 by decide)
    refine ⟨_, pss_cons (ps_for PassesOwn.never rfl (pi_range1 rfl T.range (pa_cons pe_int pa_nil)) (pg_name (i := 1) nd rfl (.inl rfl))
        (pss_mid (ps_set (i := 2) nd rfl (.inr rfl) (pe_ifExp (pt_cmpR op_gt (pe_callG D.G r1 (by rfl) D.g D.kp D.b .nil pass0 (pa_cons (pv 0) (pa_cons pe_int pa_nil))) pe_int (nomark _)) (pe_callG Ns.G hr (by rfl) Ns.g Ns.kp Ns.b .nil pass0 (pa_cons (pv 0) pa_nil)) (pe_callG Od.G r3 (by rfl) Od.g Od.kp Od.b .nil pass0 (pa_cons (pv 0) pa_nil))))
        (pss_cons (ps_set (i := 3) nd rfl (.inl rfl) (pe_callB (call_reprX hr) (by rfl) T.repr (by decide +kernel) (pa_cons (pv 2) pa_nil)))
        (pss_cons (ps_if (pt_cmpR op_ne (pe_callB (call_reprX hr) (by rfl) T.repr (by decide +kernel) (pa_cons (pe_call I.G r3.rm (by rfl) I.g I.kp ib iv pass0 (pa_cons (pv 2) pa_nil)) pa_nil))
          (pe_callB (call_reprX hr) (by rfl) T.repr (by decide +kernel) (pa_cons (pe_call Gc.G r2.rm (by rfl) Gc.g Gc.kp Gc.b .nil pass0 (pa_cons (pv 2) (pa_cons pe_int pa_nil))) pa_nil)) (nomark _)) pss_never pss_nil)
        (pss_cons (ps_setLc (i := 4) (own := [("_law_bottom", 5)]) (g := gName 5) (tt := tYes) rfl nd rfl rfl (sw_true rfl rfl rfl (by decide +kernel)) (pi_range1 rfl T.range (pa_cons pe_int pa_nil)) (blkOk_by (N := ["_law_dice_here", "_law_turn", "_law_value", "_law_kept", "_law_told", "_law_bottom"]) (sc := defScope sColR) (by decide +kernel)) (fun _ _ _ _ _ => pg_name (i := 5) nd rfl (.inl rfl)) (fun _ _ _ _ _ => pts_nil)
            (fun _ _ _ _ _ => pe_callN I.G r3.rm (by rfl) I.g I.kp kb pass0 (pa_cons (pv 2) pa_nil) (pk_cons (pv 5) pk_nil)))
        (pss_one (ps_if (PW.pt (pw_or (pt_cmpR op_ne (pe_callB (call_reprX hr) (by rfl) T.repr (by decide +kernel) (pa_cons (pv 4) pa_nil)) (pe_callB (call_reprX hr) (by rfl) T.repr (by decide +kernel) (pa_cons (pe_lc (own := [("_law_bottom", 5)]) (g := gName 5) (tt := tYes) rfl nd (pi_range1 rfl T.range (pa_cons pe_int pa_nil)) (blkOk_by (N := ["_law_dice_here", "_law_turn", "_law_value", "_law_kept", "_law_told", "_law_bottom"]) (sc := defScope sColR) (by decide +kernel)) (fun _ _ _ _ _ => pg_name (i := 5) nd rfl (.inl rfl)) (fun _ _ _ _ _ => pts_nil)
            (fun _ _ _ _ _ => pe_call Gc.G r2.rm (by rfl) Gc.g Gc.kp Gc.b .nil pass0 (pa_cons (pv 2) (pa_cons (pv 5) pa_nil)))) pa_nil)) (nomark _))
          (pw_or1 (pt_cmpR op_ne (pe_callB (call_reprX hr) (by rfl) T.repr (by decide +kernel) (pa_cons (pv 2) pa_nil)) (pv 3) (nomark _))))) pss_never pss_nil)))))))
      (pss_one (ps_ret pe_bl)), ?_⟩
    refine ⟨6, rfl, by decide, by decide, ?_⟩
    refine for_range (n := 6) (fun j σ H' => ∃ y1 y2 y3 y4 : Option V, σ = [some (.ref a), y1, y2, y3, y4, none] ∧ Gro a H H') ⟨none, none, none, none, rfl, Gro.refl hd⟩ (fun j σ H1 hj h => ?_) (fun σ H1 h => ?_)
    · obtain ⟨y1, y2, y3, y4, rfl, g1⟩ := h
      refine ⟨fun σ H' => ∃ v d, σ = [some (.ref a), some (.int (0 + (j : Int))), some v, y3, y4, none] ∧ Gro a H H' ∧ Dx K H' v d ∧ Fine d, ?_, fun σ H4 hM => ?_⟩
      · refine ⟨_, rfl, a, 5, rfl, by decide, by decide, g1.di, fun u H2 u0 u1 g2 => ?_⟩
        have g12 := g1.trans g2
        refine ⟨_, _, rfl, rfl, _, rfl, ite2 (fun _ => ?_) (fun _ => ?_)⟩
        · exact ⟨_, rfl, a, rfl, g12.di, fun v d H3 g3 dx fi => ⟨v, d, rfl, g12.trans g3, dx.dx, fi⟩⟩
        · exact ⟨_, rfl, a, rfl, g12.di, fun v d H3 g3 dx dm => ⟨v, d, rfl, g12.trans g3, dx.dx, odd_fine dm⟩⟩
      · obtain ⟨v, d, rfl, g4, dx, fi⟩ := hM
        obtain ⟨f0, f1, f2, f3⟩ := fi.ok
        obtain ⟨b0, b1, b2, b3⟩ := (fine_bool (colsB d 0)).ok
        refine ⟨_, rfl, v, d, rfl, dx, f0, f1, f2, f3, ?_⟩
        refine ⟨_, rfl, v, d, 0, rfl, by decide, dx, fi.sh, fun H5 e5 => ⟨_, _, rfl, .bl _, b0, b1, b2, b3, ?_⟩⟩
        refine ⟨_, rfl, v, d, 0, rfl, dx.ex e5, fi.sh, fun H6 e6 => ⟨_, _, rfl, .bl _, b0, b1, b2, b3, rfl, _, rfl, ?_⟩⟩
        rw [decide_eq_true rfl]
        have e46 := e5.trans e6
        -- told
        refine ⟨9, rfl, by decide, by decide, fun l nl => ?_⟩
        have xl := Ex.new (o := .lst []) nl
        refine lc_range (n := 9) (fun i H' => Ex H6 H' ∧ H' l = some (.lst (((List.range i).map (colsB d)).map V.bl))) ⟨xl, upd_same⟩ (fun i H' hi h => ?_) (fun H7 h => ?_)
        · obtain ⟨ex, el⟩ := h
          refine ⟨rfl, _, rfl, _, rfl, rfl, rfl, v, d, i, by rw [Int.zero_add]; rfl, by omega, dx.ex (e46.trans ex), fi.sh, fun H8 e8 => ⟨_, e8 l _ el, ?_, (ex.trans e8).mut nl, ?_⟩⟩
          · rw [List.length_map, List.length_map, List.length_range]
            exact room1000 (by omega)
          · rw [upd_same, List.range_succ, List.map_append, List.map_append]
            rfl
        · obtain ⟨e7, el⟩ := h
          have e47 := e46.trans e7
          obtain ⟨c0, c1, c2, c3⟩ := (fine_bools ((List.range 9).map (colsB d)) (by rw [List.length_map, List.length_range]; decide)).ok
          generalize hbs : (List.range 9).map (colsB d) = bs at c0 c1 c2 c3 el
          refine ⟨_, rfl, _, _, rfl, .lst el (dx_bools bs), c0, c1, c2, c3, ?_⟩
          refine ⟨9, rfl, by decide, by decide, fun m nm => ?_⟩
          have xm := Ex.new (o := .lst []) nm
          refine lc_range (n := 9) (fun i H' => Ex H7 H' ∧ H' m = some (.lst (((List.range i).map (colsB d)).map V.bl))) ⟨xm, upd_same⟩ (fun i H' hi h => ?_) (fun H8 h => ?_)
          · obtain ⟨ex, em⟩ := h
            refine ⟨rfl, _, rfl, _, rfl, v, d, i, by rw [Int.zero_add]; rfl, dx.ex (e47.trans ex), fi.sh, fun H9 e9 => ⟨_, e9 m _ em, ?_, (ex.trans e9).mut nm, ?_⟩⟩
            · rw [List.length_map, List.length_map, List.length_range]
              exact room1000 (by omega)
            · rw [upd_same, List.range_succ, List.map_append, List.map_append]
              rfl
          · obtain ⟨e8, em⟩ := h
            rw [hbs] at em
            refine ⟨_, _, rfl, .lst em (dx_bools bs), c0, c1, c2, c3, rfl, _, rfl, ?_⟩
            rw [decide_eq_true rfl]
            have e48 := e47.trans e8
            refine ⟨_, rfl, v, d, rfl, dx.ex e48, f0, f1, f2, f3, _, rfl, rfl, _, rfl, ?_⟩
            rw [decide_eq_true rfl]
            exact ⟨_, _, _, _, rfl, g4.ex e48⟩
    · obtain ⟨y1, y2, y3, y4, rfl, g1⟩ := h
      exact k _ g1
end
end Gl

namespace Gl
open PySem PySem.Spec PyProof.Rows L2
section
variable {P : Program} {w : World} {K : PySem.W.Frag} {mg : Str → Option Value} {base : Heap}
theorem ok_rowR {f : Addr} {fd : FuncData} (F : Fun K "_law_rows_right" "_law_rows_right" sRowR f fd) (T : Blt mg) (D : Dc P w K mg base) (Co : DfG P w K mg base 2 "_law_columns" ["_law_dice_here", "_law_total"] spColumns)
    (Vs : DfG P w K mg base 3 "_law_values" ["_law_dice_here", "_law_total"] (spVls K)) (Od : DfG P w K mg base 3 "_law_odd_value" ["_law_dice_here"] (spOdd K))
    (Ir : Df P w K mg base 5 "is_row" ["columns", "value"] (spRow K)) (Du : Df P w K mg base 1 "_law_row_due" ["_law_total", "_law_value"] (spDue K)) : FnG P w K mg base CX0 6 f fd ["_law_dice_here"] spR := by
  refine okG F scRowR (fun vs H Q E h => ?_) (fun cdv A outer s H vs Q E hr h => ?_)
  · obtain ⟨a, rfl, _⟩ := h
    rfl
  · obtain ⟨a, rfl, hd, k⟩ := h
    have nd := scRowR.nd
    have r1 := hr.mono (show 1 ≤ 5 by decide)
    have r2 := hr.mono (show 2 ≤ 5 by decide)
    have r3 := hr.mono (show 3 ≤ 5 by decide)
    refine ⟨_, pss_cons (ps_for PassesOwn.never rfl (pi_range1 rfl T.range (pa_cons pe_int pa_nil)) (pg_name (i := 1) nd rfl (.inl rfl))
        (pss_cons (ps_set (i := 2) nd rfl (.inl rfl) (pe_callG D.G r1 (by rfl) D.g D.kp D.b .nil pass0 (pa_cons (pv 0) (pa_cons pe_int pa_nil))))
        (pss_cons (ps_set (i := 3) nd rfl (.inl rfl) (pe_callG Co.G r2 (by rfl) Co.g Co.kp Co.b .nil pass0 (pa_cons (pv 0) (pa_cons (pv 2) pa_nil))))
        (pss_mid (ps_set (i := 4) nd rfl (.inl rfl) (pe_ifExp (pt_cmpR op_gt (pe_callG D.G r1 (by rfl) D.g D.kp D.b .nil pass0 (pa_cons (pv 0) (pa_cons pe_int pa_nil))) pe_int (nomark _)) (pe_callG Vs.G r3 (by rfl) Vs.g Vs.kp Vs.b .nil pass0 (pa_cons (pv 0) (pa_cons (pv 2) pa_nil))) (pe_callG Od.G r3 (by rfl) Od.g Od.kp Od.b .nil pass0 (pa_cons (pv 0) pa_nil))))
        (pss_cons (ps_set (i := 5) nd rfl (.inl rfl) (pe_callB (call_reprX hr) (by rfl) T.repr (by decide +kernel) (pa_cons (pv 4) pa_nil)))
        (pss_one (ps_if (PW.pt (pw_or (pt_cmpR op_ne (pe_callB (call_reprX hr) (by rfl) T.repr (by decide +kernel) (pa_cons (pe_call Ir.G hr.rm (by rfl) Ir.g Ir.kp Ir.b .nil pass0 (pa_cons (pv 3) (pa_cons (pv 4) pa_nil))) pa_nil))
            (pe_callB (call_reprX hr) (by rfl) T.repr (by decide +kernel) (pa_cons (pe_call Du.G r1.rm (by rfl) Du.g Du.kp Du.b .nil pass0 (pa_cons (pv 2) (pa_cons (pv 4) pa_nil))) pa_nil)) (nomark _))
          (pw_or1 (pt_cmpR op_ne (pe_callB (call_reprX hr) (by rfl) T.repr (by decide +kernel) (pa_cons (pv 4) pa_nil)) (pv 5) (nomark _))))) pss_never pss_nil)))))))
      (pss_one (ps_ret pe_bl)), ?_⟩
    refine ⟨6, rfl, by decide, by decide, ?_⟩
    refine for_range (n := 6) (fun j σ H' => ∃ y1 y2 y3 y4 y5 : Option V, σ = [some (.ref a), y1, y2, y3, y4, y5] ∧ Gro a H H') ⟨none, none, none, none, none, rfl, Gro.refl hd⟩ (fun j σ H1 hj h => ?_) (fun σ H1 h => ?_)
    · obtain ⟨y1, y2, y3, y4, y5, rfl, g1⟩ := h
      refine ⟨_, rfl, a, 9, rfl, by decide, by decide, g1.di, fun v H2 v0 v1 g2 => ?_⟩
      obtain ⟨n, rfl⟩ : ∃ n : Nat, v = n := ⟨v.toNat, by omega⟩
      have g12 := g1.trans g2
      refine ⟨_, rfl, _, rfl, a, n, rfl, by omega, g12.di, fun cs p H3 wd hl g3 np tp => ?_⟩
      have g13 := g12.trans g3
      have ok : ColsOk cs := words_ok wd (by omega)
      refine ⟨fun σ H' => ∃ v d, σ = [some (.ref a), some (.int (0 + (j : Int))), some (.int n), some (.ref p), some v, y5] ∧ Gro a H H' ∧ Rd H' p (.tup (cs.map V.str)) ∧ Dx K H' v d ∧ Fine d, ?_, fun σ H4 hM => ?_⟩
      · refine ⟨_, rfl, a, 5, rfl, by decide, by decide, g13.di, fun u H4 u0 u1 g4 => ?_⟩
        have g14 := g13.trans g4
        have tp4 := g4.tupF g13.di tp
        refine ⟨_, _, rfl, rfl, _, rfl, ite2 (fun _ => ?_) (fun _ => ?_)⟩
        · exact ⟨_, rfl, _, rfl, a, n, rfl, by omega, g14.di, fun v d H5 g5 dx fi => ⟨v, d, rfl, g14.trans g5, (g5.tupF g14.di tp4).rd, dx.dx, fi⟩⟩
        · exact ⟨_, rfl, a, rfl, g14.di, fun v d H5 g5 dx dm => ⟨v, d, rfl, g14.trans g5, (g5.tupF g14.di tp4).rd, dx.dx, odd_fine dm⟩⟩
      · obtain ⟨v, d, rfl, g4, rp, dx, fi⟩ := hM
        obtain ⟨f0, f1, f2, f3⟩ := fi.ok
        obtain ⟨b0, b1, b2, b3⟩ := (fine_bool (wholesB d n)).ok
        refine ⟨_, rfl, v, d, rfl, dx, f0, f1, f2, f3, ?_⟩
        refine ⟨_, rfl, _, rfl, p, cs, v, d, rfl, ⟨ok, rp⟩, dx, fi.sh, fun H5 e5 => ?_⟩
        rw [hl]
        refine ⟨_, _, rfl, .bl _, b0, b1, b2, b3, ?_⟩
        refine ⟨_, rfl, _, rfl, v, d, n, rfl, dx.ex e5, fi.sh, fun H6 e6 => ⟨_, _, rfl, .bl _, b0, b1, b2, b3, rfl, _, rfl, ?_⟩⟩
        rw [decide_eq_true rfl]
        have e46 := e5.trans e6
        refine ⟨_, rfl, v, d, rfl, dx.ex e46, f0, f1, f2, f3, _, rfl, rfl, _, rfl, ?_⟩
        rw [decide_eq_true rfl]
        exact ⟨_, _, _, _, _, rfl, g4.ex e46⟩
    · obtain ⟨y1, y2, y3, y4, y5, rfl, g1⟩ := h
      exact k _ g1
end
end Gl

namespace Gl
open PySem PySem.Spec PyProof.Rows L2
abbrev sLaw : Stmt := topS 32
theorem scLaw : FnScope ["_law_script", "_law_at", "_law_dice_here", "_law_alphabet", "_law_eight", "_law_told", "_law_sign"] ["_law_script"] (defScope sLaw) := ⟨rfl, rfl, rfl, by decide +kernel, rfl, by decide +kernel, by decide +kernel⟩
/-- what stood ahead of the dice stands -/
theorem Gro.toEx {p : Addr} {H H1 H2 : Hp} (e : Ex H H1) (n : H p = none) (g : Gro p H1 H2) : Ex H H2 := fun b o h => g.st b o (ne_of_none h n) (e b o h)
abbrev eightS : List Str := ["a", "b", "c", "d", "e", "f", "g", "h"]
abbrev nineS : List Str := ["a", "b", "c", "d", "e", "f", "g", "h", "i"]
abbrev fourS : List Str := ["a", "aa", "ab", "b"]
theorem ok_eight : ColsOk eightS := ⟨by unfold NameOk Small; decide +kernel, by unfold Asc; decide +kernel, by decide⟩
theorem ok_four : ColsOk fourS := ⟨by unfold NameOk Small; decide +kernel, by unfold Asc; decide +kernel, by decide⟩
theorem ok_none : ColsOk [] := ⟨fun _ h => (nomatch h), List.Pairwise.nil, by decide⟩
theorem short_nine : Short (.tuple (nineS.map PyData.str)) := by
  refine ⟨by decide, fun x hx => ?_⟩
  obtain ⟨c, hc, e⟩ := List.mem_map.mp hx
  obtain rfl := PyData.str.inj e
  exact (show ∀ c ∈ nineS, c.length ≤ 1000 by decide +kernel) c hc
theorem t_eight : colsB (.tuple (eightS.map PyData.str)) 8 = true := by decide +kernel
theorem t_nine : colsB (.tuple (nineS.map PyData.str)) 0 = false := by decide +kernel
theorem t_nil0 : colsB (.tuple []) 0 = true := by decide +kernel
theorem t_nil1 : colsB (.tuple []) 1 = false := by decide +kernel
theorem t_four : colsB (.tuple (fourS.map PyData.str)) 0 = true := by decide +kernel
theorem t_row0 : wholesB (.tuple []) (([] : List Str).length : Nat) = true := by decide +kernel
theorem t_row1 : wholesB (.tuple [.int 1]) (([] : List Str).length : Nat) = false := by decide +kernel
theorem t_row8 : wholesB (.tuple ((List.replicate 8 (0 : Int)).map PyData.int)) (eightS.length : Nat) = true := by decide +kernel
theorem t_abc9 : nameB (.str (cutS abc none (some 9))) = false ∧ (cutS abc none (some 9)).length ≤ 1000 := by decide +kernel
theorem t_abc18 : nameB (.str (cutS abc (some 18) none)) = true ∧ (cutS abc (some 18) none).length ≤ 1000 := by decide +kernel
theorem name_one {z : Nat} (h : Small z) : nameB (.str ⟨#[z]⟩) = true := by
  show (decide (1 ≤ 1 ∧ 1 ≤ 8) && [z].all fun c => decide (Small c)) = true
  simp [h]
theorem dx_ints {K : PySem.W.Frag} {H : Hp} : ∀ ns : List Int, DxAll K H (ns.map V.int) (ns.map PyData.int)
  | [] => .nil
  | c :: cs => .cons (.int c) (dx_ints cs)
def dTold : PyData := .list [.bool true, .bool false, .bool true, .bool false, .bool true, .bool false, .bool true, .bool true]
theorem eqv_told : PyData.eqv dTold dTold = true := by simp [dTold, PyData.eqv, PyData.eqvAll]
theorem shaped_told : SeqAt.shaped dTold = true := by decide +kernel
section
variable {P : Program} {w : World} {K : PySem.W.Frag} {mg : Str → Option Value} {base : Heap}
theorem dp_told {H : Hp} {p : Addr} (h : H p = some (.lst [.bl true, .bl false, .bl true, .bl false, .bl true, .bl false, .bl true, .bl true])) : Dp K H (.ref p) dTold :=
  .lst (.inl (.inl h)) (.cons (.bl _) (.cons (.bl _) (.cons (.bl _) (.cons (.bl _) (.cons (.bl _) (.cons (.bl _) (.cons (.bl _) (.cons (.bl _) .nil))))))))
def spLaw (K : PySem.W.Frag) : Sp := fun vs H Q _ => ∃ (a : Addr) (ns : List Int), vs = [.ref a] ∧ SqL K H a (ns.map V.int) ∧ ns.length ≤ 63 ∧ ∀ H', Q (.bl true) H'
theorem ok_law {f : Addr} {fd : FuncData} (F : Fun K "law" "law" sLaw f fd) (T : Blt mg) (Di : DfG P w K mg base 1 "_law_dice" ["_law_script", "_law_at"] (spDice K)) (Sr : DfG P w K mg base 4 "_law_strings_right" ["_law_dice_here"] spR)
    (Cr : DfG P w K mg base 5 "_law_columns_right" ["_law_dice_here"] spR) (Rr : DfG P w K mg base 6 "_law_rows_right" ["_law_dice_here"] spR)
    (Nm : Df P w K mg base 1 "is_name" ["value"] (spName K)) (I : DfK P w K mg base 3 "is_columns" ["value", "least"] (spIsCols K)) {ids : List Value} (iv : Vals [V.int 0] ids) (ib : Binds K I.fd ["value", "least"] ids) (kb : KBn K I.fd ["value", "least"] 1 ["least"] (fun us ws => us ++ ws) (fun vs zs => vs ++ zs))
    (Ir : Df P w K mg base 5 "is_row" ["columns", "value"] (spRow K)) : FnG P w K mg base CX0 7 f fd ["_law_script"] (spLaw K) := by
  refine okG F scLaw (fun vs H Q E h => ?_) (fun cdv A outer s H vs Q E hr h => ?_)
  · obtain ⟨a, ns, rfl, _⟩ := h
    rfl
  · obtain ⟨a, ns, rfl, hS, hl, k⟩ := h
    have nd := scLaw.nd
    have hu : (A.deeper (envOfC "law" (defScope sLaw) s.heap.objs.size f cdv)).units + 64 < cLine := by have := hr.rm.un; omega
    have hu0 : (A.deeper (envOfC "law" (defScope sLaw) s.heap.objs.size f cdv)).units < cLine := by omega
    have r1 := hr.mono (show 1 ≤ 6 by decide)
    have r3 := hr.mono (show 3 ≤ 6 by decide)
    have r4 := hr.mono (show 4 ≤ 6 by decide)
    have r5 := hr.mono (show 5 ≤ 6 by decide)
    refine ⟨_, pss_cons (ps_for PassesOwn.never rfl (pi_range1 rfl T.range (pa_cons (pe_callB (call_max2 rfl) (by rfl) T.max (by decide +kernel) (pa_cons pe_int (pa_cons (pe_callB (call_min2 rfl) (by rfl) T.min (by decide +kernel) (pa_cons pe_int (pa_cons (pe_callB call_len_seq (by rfl) T.len PySem.boot_len (pa_cons (pv 0) pa_nil)) pa_nil))) pa_nil))) pa_nil)) (pg_name (i := 1) nd rfl (.inl rfl))
        (pss_cons (ps_set (i := 2) nd rfl (.inl rfl) (pe_callG Di.G r1 (by rfl) Di.g Di.kp Di.b .nil pass0 (pa_cons (pv 0) (pa_cons (pv 1) pa_nil))))
        (pss_one (ps_if (PW.pt (pw_or (pt_not (pt_val (pe_callG Sr.G r4 (by rfl) Sr.g Sr.kp Sr.b .nil pass0 (pa_cons (pv 2) pa_nil)))) (pw_or (pt_not (pt_val (pe_callG Cr.G r5 (by rfl) Cr.g Cr.kp Cr.b .nil pass0 (pa_cons (pv 2) pa_nil)))) (pw_or1 (pt_not (pt_val (pe_callG Rr.G hr (by rfl) Rr.g Rr.kp Rr.b .nil pass0 (pa_cons (pv 2) pa_nil)))))))) pss_never pss_nil))))
      (pss_cons (ps_set (i := 3) nd rfl (.inl rfl) pe_str)
      (pss_cons (ps_if (PW.pt (pw_or (pt_cmpR (op_neNil hu0) (pe_lc (own := [("_law_sign", 6)]) (g := gName 6) rfl nd (pi_str (pv 3)) (blkOk_by (N := ["_law_script", "_law_at", "_law_dice_here", "_law_alphabet", "_law_eight", "_law_told", "_law_sign"]) (sc := defScope sLaw) (by decide +kernel)) (fun _ _ _ _ _ => pg_name (i := 6) nd rfl (.inl rfl))
            (fun _ _ _ _ _ => pts_one (pt_not (pt_val (pe_call Nm.G r1.rm (by rfl) Nm.g Nm.kp Nm.b .nil pass0 (pa_cons (pv 6) pa_nil))))) (fun _ _ _ _ _ => pv 6)) (pe_lst pa_nil) (nomark _))
          (pw_or (pt_val (pe_call Nm.G r1.rm (by rfl) Nm.g Nm.kp Nm.b .nil pass0 (pa_cons (pe_slice sl_str (pv 3) po_none (po_some pe_int)) pa_nil)))
          (pw_or1 (pt_not (pt_val (pe_call Nm.G r1.rm (by rfl) Nm.g Nm.kp Nm.b .nil pass0 (pa_cons (pe_slice sl_str (pv 3) (po_some pe_int) po_none) pa_nil)))))))) pss_never pss_nil)
      (pss_cons (ps_set (i := 4) nd rfl (.inl rfl) (pe_tup (pa_cons pe_str (pa_cons pe_str (pa_cons pe_str (pa_cons pe_str (pa_cons pe_str (pa_cons pe_str (pa_cons pe_str (pa_cons pe_str pa_nil))))))))))
      (pss_cons (ps_set (i := 5) nd rfl (.inl rfl) (pe_lst (pa_cons (pe_callN I.G r3.rm (by rfl) I.g I.kp kb pass0 (pa_cons (pv 4) pa_nil) (pk_cons pe_int pk_nil))
          (pa_cons (pe_call I.G r3.rm (by rfl) I.g I.kp ib iv pass0 (pa_cons (pe_op op_catA (pv 4) (pe_tup (pa_cons pe_str pa_nil))) pa_nil))
          (pa_cons (pe_call I.G r3.rm (by rfl) I.g I.kp ib iv pass0 (pa_cons (pe_tup pa_nil) pa_nil))
          (pa_cons (pe_callN I.G r3.rm (by rfl) I.g I.kp kb pass0 (pa_cons (pe_tup pa_nil) pa_nil) (pk_cons pe_int pk_nil)) pa_nil))))))
      (pss_cons (ps_set (i := 5) nd rfl (.inl rfl) (pe_op op_cat (pv 5) (pe_lst (pa_cons (pe_call Ir.G r5.rm (by rfl) Ir.g Ir.kp Ir.b .nil pass0 (pa_cons (pe_tup pa_nil) (pa_cons (pe_tup pa_nil) pa_nil)))
          (pa_cons (pe_call Ir.G r5.rm (by rfl) Ir.g Ir.kp Ir.b .nil pass0 (pa_cons (pe_tup pa_nil) (pa_cons (pe_tup (pa_cons pe_int pa_nil)) pa_nil)))
          (pa_cons (pe_call Ir.G r5.rm (by rfl) Ir.g Ir.kp Ir.b .nil pass0 (pa_cons (pv 4) (pa_cons (pe_op op_repT (pe_tup (pa_cons pe_int pa_nil)) pe_int) pa_nil)))
          (pa_cons (pe_call I.G r3.rm (by rfl) I.g I.kp ib iv pass0 (pa_cons (pe_tup (pa_cons pe_str (pa_cons pe_str (pa_cons pe_str (pa_cons pe_str pa_nil))))) pa_nil)) pa_nil)))))))
      (pss_one (ps_ret (pe_cmpR (op_eqD hu) (pv 5) (pe_lst (pa_cons pe_bl (pa_cons pe_bl (pa_cons pe_bl (pa_cons pe_bl (pa_cons pe_bl (pa_cons pe_bl (pa_cons pe_bl (pa_cons pe_bl pa_nil))))))))) (nomark _))))))))), ?_⟩
    refine ⟨_, rfl, a, _, rfl, .inl hS, _, _, rfl, _, _, rfl, _, rfl, ?_, ?_, ?_⟩
    · split <;> split <;> omega
    · split <;> split <;> (try rw [List.length_map] at *) <;> omega
    refine for_range (fun i σ H' => ∃ y1 y2 : Option V, σ = [some (.ref a), y1, y2, none, none, none, none] ∧ Ex H H') ⟨none, none, rfl, Ex.refl H⟩ (fun i σ H1 hi h => ?_) (fun σ H1 h => ?_)
    · obtain ⟨y1, y2, rfl, e1⟩ := h
      refine ⟨_, rfl, _, rfl, a, ns, i, by rw [Int.zero_add]; rfl, e1.sqL hS, hl, fun H2 p e2 np dp => ?_⟩
      refine ⟨_, rfl, p, rfl, dp, fun H3 g3 => ⟨_, rfl, ?_⟩⟩
      refine ⟨_, rfl, p, rfl, g3.di, fun H4 g4 => ⟨_, rfl, ?_⟩⟩
      refine ⟨_, rfl, p, rfl, g4.di, fun H5 g5 => ⟨_, rfl, ?_⟩⟩
      exact ⟨_, _, rfl, e1.trans (Gro.toEx e2 np ((g3.trans g4).trans g5))⟩
    · obtain ⟨y1, y2, rfl, e1⟩ := h
      -- the signs that are no names
      refine ⟨_, rfl, abc, rfl, fun D nD => lc_it walk_str (fun i H' => Ex H1 H' ∧ H' D = some (.lst [])) ⟨Ex.new nD, upd_same⟩ (fun _ _ _ _ => trivial) (fun i x H2 H3 hi h y => ?_) (fun H2 h => ?_)⟩
      · obtain ⟨rfl, z, hz, rfl⟩ := y
        obtain ⟨ex, eD⟩ := h
        have hz2 : abc.cps.toList[i]? = some z := by rw [Array.getElem?_toList]; exact hz
        have sm : Small z := abc_mem.mp (List.mem_of_getElem? hz2)
        refine ⟨rfl, _, rfl, _, _, rfl, .str _, (fun x e => by obtain rfl := PyData.str.inj e; show 1 ≤ 1000; decide), fun H4 e4 => ⟨_, rfl, ?_⟩⟩
        rw [name_one sm]
        exact ⟨ex.trans e4, e4 D _ eD⟩
      · obtain ⟨ex, eD⟩ := h
        refine ⟨Nat.zero_le _, fun m nm => ⟨D, m, _, rfl, rfl, .inl (.inl (Ex.new nm D _ eD)), upd_same, _, rfl, ?_⟩⟩
        rw [if_neg Bool.false_ne_true, decide_eq_true rfl]
        have la : abc.length ≤ sizeLine := by rw [abc_len]; decide
        refine ⟨_, rfl, _, rfl, abc, rfl, la, _, _, rfl, .str _, (fun x e => by obtain rfl := PyData.str.inj e; exact t_abc9.2), fun H3 e3 => ⟨_, rfl, ?_⟩⟩
        rw [t_abc9.1]
        refine ⟨_, rfl, _, rfl, abc, rfl, la, _, _, rfl, .str _, (fun x e => by obtain rfl := PyData.str.inj e; exact t_abc18.2), fun H4 e4 => ⟨_, rfl, ?_⟩⟩
        rw [t_abc18.1]
        -- eight
        refine ⟨by show 8 ≤ sizeLine; decide, fun q nq => ?_⟩
        have rq : Rd (upd H4 q (.tup (eightS.map V.str))) q (.tup (eightS.map V.str)) := .inl upd_same
        -- told
        refine ⟨_, rfl, rfl, rfl, _, .tuple (eightS.map PyData.str), 8, rfl, by decide, .tup rq (dx_strs eightS), short_strs ok_eight, fun H5 e5 => ?_⟩
        rw [t_eight]
        refine ⟨_, rfl, by show 1 ≤ sizeLine; decide, fun t1 n1 => ?_⟩
        have x1 := Ex.new (o := .tup [.str "i"]) n1
        refine ⟨q, t1, _, _, rfl, rfl, .inl ((e5.trans x1).rd rq), .inl (.inl upd_same), by show 9 ≤ sizeLine; decide, fun z => (nomatch z), fun _ z => (nomatch z), fun _ _ t2 n2 => ?_⟩
        have x2 := Ex.new (o := .tup (nineS.map V.str)) n2
        refine ⟨.ref t2, .tuple (nineS.map PyData.str), 0, rfl, by decide, .tup (.inl upd_same) (dx_strs nineS), short_nine, fun H6 e6 => ?_⟩
        rw [t_nine]
        refine ⟨Nat.zero_le _, fun t3 n3 => ?_⟩
        have x3 := Ex.new (o := .tup []) n3
        refine ⟨.ref t3, .tuple [], 0, rfl, by decide, .tup (.inl upd_same) .nil, ⟨by decide, fun x hx => nomatch hx⟩, fun H7 e7 => ?_⟩
        rw [t_nil0]
        refine ⟨Nat.zero_le _, fun t4 n4 => ?_⟩
        have x4 := Ex.new (o := .tup []) n4
        refine ⟨rfl, rfl, .ref t4, .tuple [], 1, rfl, by decide, .tup (.inl upd_same) .nil, ⟨by decide, fun x hx => nomatch hx⟩, fun H8 e8 => ?_⟩
        rw [t_nil1]
        refine ⟨by show 4 ≤ sizeLine; decide, fun l1 nl1 => ?_⟩
        have xl1 := Ex.new (o := .lst [.bl true, .bl false, .bl true, .bl false]) nl1
        have toL : Ex (upd H4 q (.tup (eightS.map V.str))) (upd H8 l1 (.lst [.bl true, .bl false, .bl true, .bl false])) := ((((((((e5.trans x1).trans x2).trans e6).trans x3).trans e7).trans x4).trans e8).trans xl1)
        -- told + [..]
        refine ⟨_, rfl, Nat.zero_le _, fun t5 n5 => ⟨Nat.zero_le _, fun t6 n6 => ?_⟩⟩
        have x5 := Ex.new (o := .tup []) n5
        have x6 := Ex.new (o := .tup []) n6
        refine ⟨t5, [], .ref t6, .tuple [], rfl, ⟨ok_none, x6.rd (.inl upd_same)⟩, .tup (.inl upd_same) .nil, ⟨by decide, fun x hx => nomatch hx⟩, fun H9 e9 => ?_⟩
        rw [t_row0]
        refine ⟨Nat.zero_le _, fun t7 n7 => ⟨by show 1 ≤ sizeLine; decide, fun t8 n8 => ?_⟩⟩
        have x7 := Ex.new (o := .tup []) n7
        have x8 := Ex.new (o := .tup [.int 1]) n8
        refine ⟨t7, [], .ref t8, .tuple [.int 1], rfl, ⟨ok_none, x8.rd (.inl upd_same)⟩, .tup (.inl upd_same) (.cons (.int 1) .nil), ⟨by decide, fun x hx => by simp at hx⟩, fun H10 e10 => ?_⟩
        rw [t_row1]
        refine ⟨_, rfl, by show 1 ≤ sizeLine; decide, fun t9 n9 => ?_⟩
        have x9 := Ex.new (o := .tup [.int 0]) n9
        refine ⟨t9, 8, [.int 0], rfl, rfl, .inl (.inl upd_same), by simp, by decide, by decide, by decide, fun t10 n10 => ?_⟩
        have x10 := Ex.new (o := .tup (List.replicate (8 : Int).toNat [V.int 0]).flatten) n10
        have toR := ((((((x5.trans x6).trans e9).trans x7).trans x8).trans e10).trans x9).trans x10
        refine ⟨q, eightS, .ref t10, .tuple ((List.replicate 8 (0 : Int)).map PyData.int), rfl, ⟨ok_eight, (toL.trans toR).rd rq⟩, .tup (xs := (List.replicate 8 (0 : Int)).map V.int) (.inl upd_same) (dx_ints _), ⟨by decide, fun x hx => by simp at hx⟩, fun H11 e11 => ?_⟩
        rw [t_row8]
        refine ⟨by show 4 ≤ sizeLine; decide, fun t11 n11 => ?_⟩
        have x11 := Ex.new (o := .tup (fourS.map V.str)) n11
        refine ⟨.ref t11, .tuple (fourS.map PyData.str), 0, rfl, by decide, .tup (.inl upd_same) (dx_strs fourS), short_strs ok_four, fun H12 e12 => ?_⟩
        rw [t_four]
        refine ⟨by show 4 ≤ sizeLine; decide, fun l2 nl2 => ?_⟩
        have xl2 := Ex.new (o := .lst [.bl true, .bl false, .bl true, .bl true]) nl2
        refine ⟨l1, l2, [.bl true, .bl false, .bl true, .bl false], [.bl true, .bl false, .bl true, .bl true], rfl, rfl, ((((toR.trans e11).trans x11).trans e12).trans xl2) l1 _ upd_same, upd_same, by show 8 ≤ sizeLine; decide, fun l3 nl3 => ?_⟩
        refine ⟨_, rfl, by show 8 ≤ sizeLine; decide, fun l4 nl4 => ?_⟩
        have xl4 := Ex.new (o := .lst [.bl true, .bl false, .bl true, .bl false, .bl true, .bl false, .bl true, .bl true]) nl4
        refine ⟨dTold, dTold, dp_told (xl4 l3 _ upd_same), dp_told upd_same, shaped_told, shaped_told, ?_⟩
        rw [eqv_told]
        exact k _
end
end Gl

namespace Gl
open PySem PySem.Spec PyProof.Rows L2
section
/-- a def of the text, by what the top has left -/
structure Has (K : PySem.W.Frag) (x : Str) (st : Stmt) (f : Addr) : Prop where
  at_ : PySem.W.nsIn K mainGlobals x = some (some (.ref f))
  fn : ∃ fd : FuncData, Fun K x x st f fd
theorem Has.mk' {K : PySem.W.Frag} {x : Str} {st : Stmt} {f : Addr} {oc kV doc pm cdv ct : Value} {od an : Option Addr} {sl : Array (Option Value)}
    (a : PySem.W.nsIn K mainGlobals x = some (some (.ref f)))
    (l : K.lookup f = some ⟨oc, od, .func (PySem.W.fnOf x x (defArgs st) (defBody st) (defScope st) .none kV doc pm an cdv ct), sl⟩)
    (c : PySem.W.codeIn K cdv x = true) (k : PySem.W.keepIn K (.ref f) = true) : Has K x st f := ⟨a, _, fun_mk l c k⟩
/-- one with the keyword-only default least=0 -/
structure HasD (K : PySem.W.Frag) (x : Str) (st : Stmt) (f : Addr) : Prop where
  at_ : PySem.W.nsIn K mainGlobals x = some (some (.ref f))
  fn : ∃ fd : FuncData, FunD K x x (defArgs st) (defBody st) (defScope st) [] [("least", .int 0)] f fd
theorem HasD.mk' {K : PySem.W.Frag} {x : Str} {st : Stmt} {f D : Addr} {oc doc pm cdv ct : Value} {od an : Option Addr} {sl : Array (Option Value)} {t : Tok}
    (a : PySem.W.nsIn K mainGlobals x = some (some (.ref f)))
    (l : K.lookup f = some ⟨oc, od, .func (PySem.W.fnOf x x (defArgs st) (defBody st) (defScope st) .none (.ref D) doc pm an cdv ct), sl⟩)
    (c : PySem.W.codeIn K cdv x = true) (k : PySem.W.keepIn K (.ref f) = true) (d : PySem.W.nsIn K D "least" = some (some (.int 0 t))) : HasD K x st f :=
  ⟨a, _, ⟨oc, od, .none, .ref D, doc, pm, an, cdv, ct, sl, rfl, l, c, .inl ⟨rfl, rfl⟩, .inr ⟨D, rfl, fun q hq => by
    rw [List.mem_singleton.mp hq]
    exact ⟨_, d, _, rfl⟩⟩⟩, k⟩
/-- what the law rests on -/
structure Facts (K : PySem.W.Frag) : Prop where
  d0 : ∃ f, Has K "is_whole" sWhole f
  d1 : ∃ f, Has K "are_whole" sWholes f
  d2 : ∃ f, Has K "is_index" sIndex f
  d3 : ∃ f, Has K "is_ascending" sAsc f
  d4 : ∃ f, Has K "is_name" sName f
  d5 : ∃ f, HasD K "is_columns" sCols f
  d6 : ∃ f, HasD K "check_columns" sChkC f
  d7 : ∃ f, Has K "is_row" sRow f
  d8 : ∃ f, Has K "_law_dice" sDice f
  d9 : ∃ f, Has K "_law_pull" sPull f
  d10 : ∃ f, Has K "_law_pick" sPick f
  d11 : ∃ f, Has K "_law_columns" sColumns f
  d12 : ∃ f, Has K "_law_good_name" sGoodN f
  d13 : ∃ f, Has K "_law_good_columns" sGoodC f
  d14 : ∃ f, Has K "_law_odd_value" sOdd f
  d15 : ∃ f, Has K "_law_string" sStr f
  d16 : ∃ f, Has K "_law_names" sNms f
  d17 : ∃ f, Has K "_law_values" sVls f
  d18 : ∃ f, Has K "_law_row_due" sDue f
  d19 : ∃ f, Has K "_law_strings_right" sStrR f
  d20 : ∃ f, Has K "_law_columns_right" sColR f
  d21 : ∃ f, Has K "_law_rows_right" sRowR f
  d22 : ∃ f, Has K "law" sLaw f
  b_len : PySem.W.nsIn K mainGlobals "len" = some none
  b_int : PySem.W.nsIn K mainGlobals "int" = some none
  b_abs : PySem.W.nsIn K mainGlobals "abs" = some none
  b_max : PySem.W.nsIn K mainGlobals "max" = some none
  b_min : PySem.W.nsIn K mainGlobals "min" = some none
  b_range : PySem.W.nsIn K mainGlobals "range" = some none
  b_tuple : PySem.W.nsIn K mainGlobals "tuple" = some none
  b_list : PySem.W.nsIn K mainGlobals "list" = some none
  b_repr : PySem.W.nsIn K mainGlobals "repr" = some none
  b_zip : PySem.W.nsIn K mainGlobals "zip" = some none
  b_isinstance : PySem.W.nsIn K mainGlobals "isinstance" = some none
  b_all : PySem.W.nsIn K mainGlobals "all" = some none
  b_str : PySem.W.nsIn K mainGlobals "str" = some none
  b_bool : PySem.W.nsIn K mainGlobals "bool" = some none
  b_sorted : PySem.W.nsIn K mainGlobals "sorted" = some none
  b_set : PySem.W.nsIn K mainGlobals "set" = some none
  c_LETTERS : ∃ t, PySem.W.nsIn K mainGlobals "LETTERS" = some (some (.str abc t))
  c_MOST_LETTERS : ∃ t, PySem.W.nsIn K mainGlobals "MOST_LETTERS" = some (some (.int 8 t))
  c_MOST_NAMES : ∃ t, PySem.W.nsIn K mainGlobals "MOST_NAMES" = some (some (.int 8 t))
variable {w : World} {K : PySem.W.Frag} {mg : Str → Option Value} {h : Heap} {fa : Addr}
theorem all_law (P : Program) (Z : Facts K) (X : K.In h) (G : h.Ns mainGlobals mg) (hfa : mg "law" = some (.ref fa)) :
    ∃ fd : FuncData, (∀ (s : Shared) (v : Value), BindsTo s fd ⟨[v], []⟩ [("_law_script", v)]) ∧
      ∀ base : Heap, K.In base → base.Ns mainGlobals mg → FnG P w K mg base CX0 7 fa fd ["_law_script"] (spLaw K) := by
  obtain ⟨f0, h0⟩ := Z.d0
  obtain ⟨e0, F0⟩ := h0.fn
  have g0 := PySem.W.mg_of X G h0.at_
  obtain ⟨f1, h1⟩ := Z.d1
  obtain ⟨e1, F1⟩ := h1.fn
  have g1 := PySem.W.mg_of X G h1.at_
  obtain ⟨f2, h2⟩ := Z.d2
  obtain ⟨e2, F2⟩ := h2.fn
  have g2 := PySem.W.mg_of X G h2.at_
  obtain ⟨f3, h3⟩ := Z.d3
  obtain ⟨e3, F3⟩ := h3.fn
  have g3 := PySem.W.mg_of X G h3.at_
  obtain ⟨f4, h4⟩ := Z.d4
  obtain ⟨e4, F4⟩ := h4.fn
  have g4 := PySem.W.mg_of X G h4.at_
  obtain ⟨f5, h5⟩ := Z.d5
  obtain ⟨e5, F5⟩ := h5.fn
  have g5 := PySem.W.mg_of X G h5.at_
  obtain ⟨f6, h6⟩ := Z.d6
  obtain ⟨e6, F6⟩ := h6.fn
  have g6 := PySem.W.mg_of X G h6.at_
  obtain ⟨f7, h7⟩ := Z.d7
  obtain ⟨e7, F7⟩ := h7.fn
  have g7 := PySem.W.mg_of X G h7.at_
  obtain ⟨f8, h8⟩ := Z.d8
  obtain ⟨e8, F8⟩ := h8.fn
  have g8 := PySem.W.mg_of X G h8.at_
  obtain ⟨f9, h9⟩ := Z.d9
  obtain ⟨e9, F9⟩ := h9.fn
  have g9 := PySem.W.mg_of X G h9.at_
  obtain ⟨f10, h10⟩ := Z.d10
  obtain ⟨e10, F10⟩ := h10.fn
  have g10 := PySem.W.mg_of X G h10.at_
  obtain ⟨f11, h11⟩ := Z.d11
  obtain ⟨e11, F11⟩ := h11.fn
  have g11 := PySem.W.mg_of X G h11.at_
  obtain ⟨f12, h12⟩ := Z.d12
  obtain ⟨e12, F12⟩ := h12.fn
  have g12 := PySem.W.mg_of X G h12.at_
  obtain ⟨f13, h13⟩ := Z.d13
  obtain ⟨e13, F13⟩ := h13.fn
  have g13 := PySem.W.mg_of X G h13.at_
  obtain ⟨f14, h14⟩ := Z.d14
  obtain ⟨e14, F14⟩ := h14.fn
  have g14 := PySem.W.mg_of X G h14.at_
  obtain ⟨f15, h15⟩ := Z.d15
  obtain ⟨e15, F15⟩ := h15.fn
  have g15 := PySem.W.mg_of X G h15.at_
  obtain ⟨f16, h16⟩ := Z.d16
  obtain ⟨e16, F16⟩ := h16.fn
  have g16 := PySem.W.mg_of X G h16.at_
  obtain ⟨f17, h17⟩ := Z.d17
  obtain ⟨e17, F17⟩ := h17.fn
  have g17 := PySem.W.mg_of X G h17.at_
  obtain ⟨f18, h18⟩ := Z.d18
  obtain ⟨e18, F18⟩ := h18.fn
  have g18 := PySem.W.mg_of X G h18.at_
  obtain ⟨f19, h19⟩ := Z.d19
  obtain ⟨e19, F19⟩ := h19.fn
  have g19 := PySem.W.mg_of X G h19.at_
  obtain ⟨f20, h20⟩ := Z.d20
  obtain ⟨e20, F20⟩ := h20.fn
  have g20 := PySem.W.mg_of X G h20.at_
  obtain ⟨f21, h21⟩ := Z.d21
  obtain ⟨e21, F21⟩ := h21.fn
  have g21 := PySem.W.mg_of X G h21.at_
  obtain ⟨f22, h22⟩ := Z.d22
  obtain ⟨e22, F22⟩ := h22.fn
  have g22 := PySem.W.mg_of X G h22.at_
  have T : Blt mg := { len := PySem.W.mg_none_of X G Z.b_len, int := PySem.W.mg_none_of X G Z.b_int, abs := PySem.W.mg_none_of X G Z.b_abs, max := PySem.W.mg_none_of X G Z.b_max, min := PySem.W.mg_none_of X G Z.b_min, range := PySem.W.mg_none_of X G Z.b_range, tuple := PySem.W.mg_none_of X G Z.b_tuple, list := PySem.W.mg_none_of X G Z.b_list, repr := PySem.W.mg_none_of X G Z.b_repr, zip := PySem.W.mg_none_of X G Z.b_zip, isinstance := PySem.W.mg_none_of X G Z.b_isinstance, all := PySem.W.mg_none_of X G Z.b_all, str := PySem.W.mg_none_of X G Z.b_str, bool := PySem.W.mg_none_of X G Z.b_bool }
  have T2 : Blt2 mg := { sorted := PySem.W.mg_none_of X G Z.b_sorted, set := PySem.W.mg_none_of X G Z.b_set }
  obtain ⟨t1, k1⟩ := Z.c_LETTERS
  obtain ⟨t2, k2⟩ := Z.c_MOST_LETTERS
  obtain ⟨t3, k3⟩ := Z.c_MOST_NAMES
  have C : Cst mg := ⟨⟨_, PySem.W.mg_of X G k1⟩, ⟨_, PySem.W.mg_of X G k2⟩, ⟨_, PySem.W.mg_of X G k3⟩⟩
  have b0 := F0.binds (ps := ["value"]) fun _ _ _ _ _ _ us hl => match us, hl with | [_], _ => rfl
  have b1 := F1.binds (ps := ["value", "many"]) fun _ _ _ _ _ _ us hl => match us, hl with | [_, _], _ => rfl
  have b2 := F2.binds (ps := ["value", "many"]) fun _ _ _ _ _ _ us hl => match us, hl with | [_, _], _ => rfl
  have b3 := F3.binds (ps := ["values"]) fun _ _ _ _ _ _ us hl => match us, hl with | [_], _ => rfl
  have b4 := F4.binds (ps := ["value"]) fun _ _ _ _ _ _ us hl => match us, hl with | [_], _ => rfl
  have b7 := F7.binds (ps := ["columns", "value"]) fun _ _ _ _ _ _ us hl => match us, hl with | [_, _], _ => rfl
  have b8 := F8.binds (ps := ["_law_script", "_law_at"]) fun _ _ _ _ _ _ us hl => match us, hl with | [_, _], _ => rfl
  have b9 := F9.binds (ps := ["_law_dice_here", "_law_total"]) fun _ _ _ _ _ _ us hl => match us, hl with | [_, _], _ => rfl
  have b10 := F10.binds (ps := ["_law_dice_here", "_law_items"]) fun _ _ _ _ _ _ us hl => match us, hl with | [_, _], _ => rfl
  have b11 := F11.binds (ps := ["_law_dice_here", "_law_total"]) fun _ _ _ _ _ _ us hl => match us, hl with | [_, _], _ => rfl
  have b12 := F12.binds (ps := ["_law_value"]) fun _ _ _ _ _ _ us hl => match us, hl with | [_], _ => rfl
  have b13 := F13.binds (ps := ["_law_value", "_law_bottom"]) fun _ _ _ _ _ _ us hl => match us, hl with | [_, _], _ => rfl
  have b14 := F14.binds (ps := ["_law_dice_here"]) fun _ _ _ _ _ _ us hl => match us, hl with | [_], _ => rfl
  have b15 := F15.binds (ps := ["_law_dice_here"]) fun _ _ _ _ _ _ us hl => match us, hl with | [_], _ => rfl
  have b16 := F16.binds (ps := ["_law_dice_here"]) fun _ _ _ _ _ _ us hl => match us, hl with | [_], _ => rfl
  have b17 := F17.binds (ps := ["_law_dice_here", "_law_total"]) fun _ _ _ _ _ _ us hl => match us, hl with | [_, _], _ => rfl
  have b18 := F18.binds (ps := ["_law_total", "_law_value"]) fun _ _ _ _ _ _ us hl => match us, hl with | [_, _], _ => rfl
  have b19 := F19.binds (ps := ["_law_dice_here"]) fun _ _ _ _ _ _ us hl => match us, hl with | [_], _ => rfl
  have b20 := F20.binds (ps := ["_law_dice_here"]) fun _ _ _ _ _ _ us hl => match us, hl with | [_], _ => rfl
  have b21 := F21.binds (ps := ["_law_dice_here"]) fun _ _ _ _ _ _ us hl => match us, hl with | [_], _ => rfl
  obtain rfl : f22 = fa := Value.ref.inj (Option.some.inj (g22.symm.trans hfa))
  refine ⟨e22, fun s v => ?_, fun base KB NB => ?_⟩
  · obtain ⟨_, _, _, _, _, _, _, _, _, rfl, _, _⟩ := F22.ex
    exact .of_eq rfl
  let Wh : Df P w K mg base 1 "is_whole" ["value"] (spWhole K) := ⟨f0, e0, ok_whole F0 T, g0, F0.kp, b0⟩
  let Ws : Df P w K mg base 2 "are_whole" ["value", "many"] (spWholes K) := ⟨f1, e1, ok_wholes F1 T Wh, g1, F1.kp, b1⟩
  let In : Df P w K mg base 2 "is_index" ["value", "many"] spIndex := ⟨f2, e2, ok_index F2 T Wh, g2, F2.kp, b2⟩
  let As : Df P w K mg base 1 "is_ascending" ["values"] spAsc := ⟨f3, e3, ok_asc F3 T, g3, F3.kp, b3⟩
  let Nm : Df P w K mg base 1 "is_name" ["value"] (spName K) := ⟨f4, e4, ok_name F4 T C, g4, F4.kp, b4⟩
  let Ic : DfK P w K mg base 3 "is_columns" ["value", "least"] (spIsCols K) := ⟨f5, e5, ok_isCols F5 T C In Nm As, g5, F5.kp⟩
  obtain ⟨ids, vids, bids⟩ := bind_isCols F5
  obtain ⟨ds, vds, bds⟩ := bind_chkC F6
  let Cc : DfC P w K mg base := ⟨f6, e6, ds, ok_chkC F6 Ic (kbn_isCols F5), g6, F6.kp, bds, vds⟩
  let Ir : Df P w K mg base 5 "is_row" ["columns", "value"] (spRow K) := ⟨f7, e7, ok_row F7 T Cc Ws, g7, F7.kp, b7⟩
  let Dd : Dc P w K mg base := ⟨f9, e9, ok_pull F9 T, g9, F9.kp, b9⟩
  let Di : DfG P w K mg base 1 "_law_dice" ["_law_script", "_law_at"] (spDice K) := ⟨f8, e8, ok_dice F8 T, g8, F8.kp, b8⟩
  let Pk : DfG P w K mg base 2 "_law_pick" ["_law_dice_here", "_law_items"] spPick := ⟨f10, e10, ok_pick F10 T Dd, g10, F10.kp, b10⟩
  let Co : DfG P w K mg base 2 "_law_columns" ["_law_dice_here", "_law_total"] spColumns := ⟨f11, e11, ok_columns F11 T Dd, g11, F11.kp, b11⟩
  let Gn : Df P w K mg base 1 "_law_good_name" ["_law_value"] (spGoodN K) := ⟨f12, e12, ok_goodN F12 T, g12, F12.kp, b12⟩
  let Gc : Df P w K mg base 2 "_law_good_columns" ["_law_value", "_law_bottom"] (spGoodC K) := ⟨f13, e13, ok_goodC F13 T T2 Gn, g13, F13.kp, b13⟩
  let Od : DfG P w K mg base 3 "_law_odd_value" ["_law_dice_here"] (spOdd K) := ⟨f14, e14, ok_odd F14 Pk, g14, F14.kp, b14⟩
  let St : DfG P w K mg base 3 "_law_string" ["_law_dice_here"] spStr := ⟨f15, e15, ok_str F15 Dd Pk Co, g15, F15.kp, b15⟩
  let Ns : DfG P w K mg base 4 "_law_names" ["_law_dice_here"] (spNames K) := ⟨f16, e16, ok_names F16 T Dd Pk Co Od, g16, F16.kp, b16⟩
  let Vs : DfG P w K mg base 3 "_law_values" ["_law_dice_here", "_law_total"] (spVls K) := ⟨f17, e17, ok_vls F17 T Dd Pk, g17, F17.kp, b17⟩
  let Du : Df P w K mg base 1 "_law_row_due" ["_law_total", "_law_value"] (spDue K) := ⟨f18, e18, ok_due F18 T, g18, F18.kp, b18⟩
  let Sr : DfG P w K mg base 4 "_law_strings_right" ["_law_dice_here"] spR := ⟨f19, e19, ok_strR F19 T Dd St Od Nm Gn, g19, F19.kp, b19⟩
  let Cr : DfG P w K mg base 5 "_law_columns_right" ["_law_dice_here"] spR := ⟨f20, e20, ok_colR F20 T Dd Ns Od Ic vids bids (kbn_isCols F5) Gc, g20, F20.kp, b20⟩
  let Rr : DfG P w K mg base 6 "_law_rows_right" ["_law_dice_here"] spR := ⟨f21, e21, ok_rowR F21 T Dd Co Vs Od Ir Du, g21, F21.kp, b21⟩
  exact ok_law F22 T Di Sr Cr Rr Nm Ic vids bids (kbn_isCols F5) Ir
end
end Gl

open PySem PySem.W PyProof.Rows
set_option maxHeartbeats 0 in
theorem PySem.Challenge.cw_mostkept_k01_names_columns_and_rows_holds : PySem.Challenge.rw_mostkept_k01_names_columns_and_rows.Holds := by
  w_on; o_law; k_head; (case hw => w_witness2)
  k_fill
  refine Gl.walkG (l := PySem.Challenge.rw_mostkept_k01_names_columns_and_rows) (n := 63) (k := 7) (x := "_law_script") (sp := Gl.spLaw) rfl (by decide) rfl ⟨rfl, by decide, by decide⟩ (fun w h Y => PySem.W.kIn_of Y) ?F (fun _ _ a ns hl _ hS => ⟨a, ns, rfl, hS, hl, fun _ => rfl⟩)
  case F =>
    intro w mg fa h KX G hmg
    refine Gl.all_law _ ?Z KX G hmg
    case Z =>
      constructor
      · refine' ⟨_, Gl.Has.mk' ?a ?l ?c ?k⟩
        (case a => k_is); (case l => k_is); (case c => k_is); (case k => k_is)
      · refine' ⟨_, Gl.Has.mk' ?a ?l ?c ?k⟩
        (case a => k_is); (case l => k_is); (case c => k_is); (case k => k_is)
      · refine' ⟨_, Gl.Has.mk' ?a ?l ?c ?k⟩
        (case a => k_is); (case l => k_is); (case c => k_is); (case k => k_is)
      · refine' ⟨_, Gl.Has.mk' ?a ?l ?c ?k⟩
        (case a => k_is); (case l => k_is); (case c => k_is); (case k => k_is)
      · refine' ⟨_, Gl.Has.mk' ?a ?l ?c ?k⟩
        (case a => k_is); (case l => k_is); (case c => k_is); (case k => k_is)
      · refine' ⟨_, Gl.HasD.mk' ?a ?l ?c ?k ?d⟩
        (case a => k_is); (case l => k_is); (case c => k_is); (case k => k_is); (case d => k_is)
      · refine' ⟨_, Gl.HasD.mk' ?a ?l ?c ?k ?d⟩
        (case a => k_is); (case l => k_is); (case c => k_is); (case k => k_is); (case d => k_is)
      · refine' ⟨_, Gl.Has.mk' ?a ?l ?c ?k⟩
        (case a => k_is); (case l => k_is); (case c => k_is); (case k => k_is)
      · refine' ⟨_, Gl.Has.mk' ?a ?l ?c ?k⟩
        (case a => k_is); (case l => k_is); (case c => k_is); (case k => k_is)
      · refine' ⟨_, Gl.Has.mk' ?a ?l ?c ?k⟩
        (case a => k_is); (case l => k_is); (case c => k_is); (case k => k_is)
      · refine' ⟨_, Gl.Has.mk' ?a ?l ?c ?k⟩
        (case a => k_is); (case l => k_is); (case c => k_is); (case k => k_is)
      · refine' ⟨_, Gl.Has.mk' ?a ?l ?c ?k⟩
        (case a => k_is); (case l => k_is); (case c => k_is); (case k => k_is)
      · refine' ⟨_, Gl.Has.mk' ?a ?l ?c ?k⟩
        (case a => k_is); (case l => k_is); (case c => k_is); (case k => k_is)
      · refine' ⟨_, Gl.Has.mk' ?a ?l ?c ?k⟩
        (case a => k_is); (case l => k_is); (case c => k_is); (case k => k_is)
      · refine' ⟨_, Gl.Has.mk' ?a ?l ?c ?k⟩
        (case a => k_is); (case l => k_is); (case c => k_is); (case k => k_is)
      · refine' ⟨_, Gl.Has.mk' ?a ?l ?c ?k⟩
        (case a => k_is); (case l => k_is); (case c => k_is); (case k => k_is)
      · refine' ⟨_, Gl.Has.mk' ?a ?l ?c ?k⟩
        (case a => k_is); (case l => k_is); (case c => k_is); (case k => k_is)
      · refine' ⟨_, Gl.Has.mk' ?a ?l ?c ?k⟩
        (case a => k_is); (case l => k_is); (case c => k_is); (case k => k_is)
      · refine' ⟨_, Gl.Has.mk' ?a ?l ?c ?k⟩
        (case a => k_is); (case l => k_is); (case c => k_is); (case k => k_is)
      · refine' ⟨_, Gl.Has.mk' ?a ?l ?c ?k⟩
        (case a => k_is); (case l => k_is); (case c => k_is); (case k => k_is)
      · refine' ⟨_, Gl.Has.mk' ?a ?l ?c ?k⟩
        (case a => k_is); (case l => k_is); (case c => k_is); (case k => k_is)
      · refine' ⟨_, Gl.Has.mk' ?a ?l ?c ?k⟩
        (case a => k_is); (case l => k_is); (case c => k_is); (case k => k_is)
      · refine' ⟨_, Gl.Has.mk' ?a ?l ?c ?k⟩
        (case a => k_is); (case l => k_is); (case c => k_is); (case k => k_is)
      · k_is
      · k_is
      · k_is
      · k_is
      · k_is
      · k_is
      · k_is
      · k_is
      · k_is
      · k_is
      · k_is
      · k_is
      · k_is
      · k_is
      · k_is
      · k_is
      · exact ⟨_, by k_is⟩
      · exact ⟨_, by k_is⟩
      · exact ⟨_, by k_is⟩
