import PyProof.Rows.All
import Wide.All
import OpenK.AllK
import Wide.FinOn
import HandS.ForMost
import HandS.Wide
import HandS.Zip
import PyProof.ReprRoads
import HandS.IsInst
import HandS.Walk
import HandS.Strs
import HandS.Defaults
import PyProof.NeData
import PyProof.EqAt
import HandS.List
import HandS.Gcd
import HandS.TupMul
import PyProof.StrLawsRepr
import HandS.OwnEq
import HandS.ClsMeth
import KE.KCallOwn
import HandS.Property
import HandS.FStr
import HandS.RaiseMore
import HandS.Iter
import KE.GoesMore
import HandS.Style
import KE.KRevSl
import HandS.Star
import KE.KTupSum
import HandS.CallLocal
import HandS.MakeKwOnly
import HandS.TupAny
import HandS.Conv
import KE.GoesEnum
import HandS.Deep
import PyProof.Rows.RegStrFacts
import HandS.Small
import KE.KDictZip
import PyProof.ListNew
import KE.KStateDown
import HandS.Head0
import HandS.Head1
import HandS.Head2
import HandS.HeadHook2
import HandS.Head3
import PySem.Challenge.RW_mostkept_k11_tables_made
set_option Elab.async false
set_option linter.all false
set_option maxRecDepth 100000
set_option maxHeartbeats 4000000
/-! Defs called while no repr is under way: the promise FnG of a def, and the rules that go with it. -/
namespace Gl
open PySem PySem.Spec PyProof.Rows L2
/-- there is room for k calls, and the stack holds no repr -/
structure RmG (k : Nat) (A : Around) : Prop where
  rm : Room k A
  gd : A.guards = some []
theorem RmG.mono {j k : Nat} {A : Around} (r : RmG k A) (h : j ≤ k) : RmG j A := ⟨r.rm.mono h, r.gd⟩
theorem RmG.deeper {k : Nat} {A : Around} (r : RmG (k + 1) A) (v : Env) : RmG k (A.deeper v) := ⟨r.rm.deeper v, r.gd⟩
structure FnG (P : Program) (w : World) (K : PySem.W.Frag)
    (mg : Str → Option Value) (base : Heap) (CX : CXT) (k : Nat)
    (f : Addr) (fd : FuncData) (ps : List Str) (sp : Sp) : Prop where
  len : ∀ vs H Q E, sp vs H Q E → vs.length = ps.length
  go : ∀ (A : Around) (o : List Env) (s : Shared) (H : Hp)
    (ar : Args) (us : List Value) (vs : List V) (Q : VK) (E : XK),
    RmG k A → Env0 P w K mg base A o s H → BindsTo s fd ar (ps.zip us) →
    Vals vs us → sp vs H Q E →
    codeAny (model P w) A (.call (.ref f) ar) (CR CX o P w H s Q E) s
section
variable {P : Program} {w : World} {K : PySem.W.Frag} {mg : Str → Option Value} {base : Heap} {CX : CXT} {k : Nat} {f : Addr} {fd : FuncData} {ps : List Str} {sp : Sp}
theorem FnG.mono {j : Nat} (F : FnG P w K mg base CX j f fd ps sp) (h : j ≤ k) : FnG P w K mg base CX k f fd ps sp :=
  ⟨F.len, fun A o s H ar us vs Q E r => F.go A o s H ar us vs Q E (r.mono h)⟩
theorem FnG.imp {sp' : Sp} (F : FnG P w K mg base CX k f fd ps sp) (h : ∀ vs H Q E, sp' vs H Q E → sp vs H Q E) : FnG P w K mg base CX k f fd ps sp' :=
  ⟨fun vs H Q E q => F.len vs H Q E (h _ _ _ _ q), fun A o s H ar us vs Q E r e b v q => F.go A o s H ar us vs Q E r e b v (h _ _ _ _ q)⟩
end
section
variable {X : Cx} {CX : CXT} {k : Nat} {f : Addr} {fd : FuncData} {ps : List Str} {sp : Sp} {dvs : List V} {ds : List Value} {E : XK} {x : Str} {p pos : Pos} {e : Expr} {es : List Expr} {t : TA}
theorem runG {pins : List (Addr × Obj)} {σ : L2.St} {H : Hp} {s : Shared} {Q : VK} {us : List Value} {vs : List V}
    (F : FnG X.prog X.w X.K X.mg X.base CX k f fd ps sp) (r : RmG k X.A)
    (hb : Binds X.K fd ps ds) (hd : Vals dvs ds) (hx : Passes CX X E) (I : Inv X pins σ H s)
    (hv : Vals vs us) (q : sp (vs ++ dvs) H Q E) : wpAny (model X.prog X.w) X.A (call (.ref f) us) (EP X pins σ Q) X.xe s := by
  have hv2 : Vals (vs ++ dvs) (us ++ ds) := hv.append hd
  have n1 : (us ++ ds).length = ps.length := hv2.length.symm.trans (F.len _ _ _ _ q)
  have c := F.go X.A X.stack s H ⟨us, []⟩ (us ++ ds) (vs ++ dvs) Q E r I.env0 (hb s us I.kIn n1) hv2 q
  apply wpAny_call
  apply codeAny_mono c
  intro y s2 z
  match y, z with
  | .error a, z => exact hx pins σ H s a s2 I z
  | .ok (.ret u), z => exact I.after z
  | .ok .next, z => exact z.elim
  | .ok .brk, z => exact z.elim
  | .ok .cont, z => exact z.elim
/-- f(e, ..), a def of the text -/
theorem pe_callG (F : FnG X.prog X.w X.K X.mg X.base CX k f fd ps sp) (r : RmG k X.A)
    (hg : Gl X x) (hm : X.mg x = some (.ref f)) (hk : PySem.W.keepIn X.K (.ref f) = true)
    (hb : Binds X.K fd ps ds) (hd : Vals dvs ds) (hx : Passes CX X E) (ha : PA X (e :: es) t)
    (h1 : (x == ("__debug__" : Str)) = false := by decide)
    (h2 : starEach (e :: es) X.env = (false, eval e X.env) :: starEach es X.env := by rfl)
    (h3 : (backTo pos (starEach es X.env)).any (·.1) = false := by rfl) :
    PE X (.Call (.Name x p) (e :: es) [] pos) (tCall sp dvs E t) := .mk fun pins s σ H Q I q => by
  apply wpAny_Call_Name_kw
  apply ld_glob I hg hm _ h1
  apply PySem.W.callWith_K (h₀ := X.base) I.ok.mod.kin hk _ h2 h3
  apply thn (ha.run pos pins s σ H _ I q)
  rintro us s2 ⟨vs, H2, I2, v2, q2⟩
  exact ⟨I2.kIn, runG F r hb hd hx I2 v2 q2⟩
end
/-! ### a def's body -/
section
variable {P : Program} {w : World} {K : PySem.W.Frag} {mg : Str → Option Value} {base : Heap}
theorem okG_of {CX : CXT} {k : Nat} {f : Addr} {nm qual : Str} {pr : Arguments} {body : List Stmt} {sc : Scope} {dV kV doc pm cdv ct oc : Value} {an od : Option Addr}
    {sl : Array (Option Value)} {N ps : List Str} {sp : Sp}
    (lk : K.lookup f = some ⟨oc, od, .func (PySem.W.fnOf nm qual pr body sc dV kV doc pm an cdv ct), sl⟩)
    (hc : PySem.W.codeIn K cdv qual = true) (S : FnScope N ps sc)
    (len : ∀ vs H Q E, sp vs H Q E → vs.length = ps.length)
    (bd : ∀ (A : Around) (o : List Env) (s : Shared) (H : Hp) (vs : List V) (Q : VK) (E : XK),
      RmG k (A.deeper (envOfC qual sc s.heap.objs.size f cdv)) → sp vs H Q E →
      ∃ t, PSs (cxOf CX P w K mg base N qual sc f cdv A o s H E) body t ∧ t { nx := fun _ H' => Q .non H', rt := Q } (start N vs) H) :
    FnG P w K mg base CX (k + 1) f (PySem.W.fnOf nm qual pr body sc dV kV doc pm an cdv ct) ps sp where
  len := len
  go := by
    intro A o s H ar us vs Q E r e0 hb hv q
    have n1 := len _ _ _ _ q
    have up : ∀ b u, base.get? b = some u → s.heap.get? b = some u := fun b u z => (e0.bs b u z).1
    have KX : K.In s.heap := e0.mod.kin.keeps up
    have par : ∀ y ∈ ps.zip us, sc.names.lookup y.1 = some .local ∨
        (sc.names.lookup y.1 = some .cell ∧ ((cellsFrom (s.heap.objs.size + 1) sc.names []).lookup y.1).isSome = true) := by
      rintro ⟨a, v⟩ hy
      have := S.par a (List.of_mem_zip hy).1
      exact this.imp id fun z => ⟨z, PySem.W.cellsFrom_some _ _ _ (.inl z)⟩
    apply codeAny_call_function r.rm.depth (KX _ _ lk) rfl S.co S.gen rfl (PySem.W.codeRec_of KX hc)
    apply hb
    apply wpAny_newFunctionEnv_cells S.kind par
    rintro env rfl s1 ic
    refine ⟨(e0.mod.nolimit.keeps up).keeps ic.toInCall.keep, codeAny_func ?_⟩
    obtain ⟨t, d, z⟩ := bd A o s H vs Q E (r.deeper _) q
    have I := inv_start (CX := CX) (E := E) S r.rm.hd e0 n1 hv ic
    refine wpAny_mono (d.run [] s1 (start N vs) H _ I z) ?_ fun _ _ z => z
    rintro fl s2 y
    match fl, y with
    | .ret u, ⟨v, σ', H', J, rv, q⟩ => exact ⟨v, H', J.os, J.bare, J.base, J.hok, rv, q⟩
    | .next, ⟨σ', H', J, q⟩ => exact ⟨.non, H', J.os, J.bare, J.base, J.hok, rfl, q⟩
    | .brk, ⟨_, _, _, q⟩ => exact q.elim
    | .cont, ⟨_, _, _, q⟩ => exact q.elim
theorem okG {x qual : Str} {st : Stmt} {f : Addr} {fd : FuncData} {N ps : List Str} {k : Nat} {sp : Sp}
    (F : Fun K x qual st f fd) (S : FnScope N ps (defScope st)) (len : ∀ vs H Q E, sp vs H Q E → vs.length = ps.length)
    (bd : ∀ (cdv : Value) (A : Around) (o : List Env) (s : Shared) (H : Hp) (vs : List V) (Q : VK) (E : XK),
      RmG k (A.deeper (envOfC qual (defScope st) s.heap.objs.size f cdv)) → sp vs H Q E →
      ∃ t, PSs (cxOf CX0 P w K mg base N qual (defScope st) f cdv A o s H E).nox (defBody st) t ∧
        t { nx := fun _ H' => Q .non H', rt := Q } (start N vs) H) : FnG P w K mg base CX0 (k + 1) f fd ps sp := by
  obtain ⟨_, _, _, _, _, _, _, _, _, rfl, lk, hc⟩ := F.ex
  apply okG_of lk hc S len
  intro A o s H vs Q E r q
  obtain ⟨t, d, z⟩ := bd _ A o s H vs Q E r q
  exact ⟨t, d.nox, z⟩
end
end Gl
/-! repr of data as a whole. -/
namespace Gl
open PySem PySem.Spec PyProof.Rows L2
mutual
theorem Dp.noDict {K : PySem.W.Frag} {H : Hp} : ∀ {v : V} {d : PyData}, Dp K H v d → d.hasDict = false
  | _, _, .non => by simp only [PyData.hasDict]
  | _, _, .bl b => by simp only [PyData.hasDict]
  | _, _, .int i => by simp only [PyData.hasDict]
  | _, _, .str x => by simp only [PyData.hasDict]
  | _, _, .lst _ h => by simp only [PyData.hasDict]; exact DpAll.noDict h
  | _, _, .tup _ h => by simp only [PyData.hasDict]; exact DpAll.noDict h
theorem DpAll.noDict {K : PySem.W.Frag} {H : Hp} : ∀ {v : List V} {d : List PyData}, DpAll K H v d → PyData.hasDictAll d = false
  | _, _, .nil => by simp only [PyData.hasDictAll]
  | _, _, .cons a b => by simp only [PyData.hasDictAll]; rw [Dp.noDict a, DpAll.noDict b]; rfl
end
/-- repr(x), x data of any shape without dicts -/
def rRepr (K : PySem.W.Frag) : List V → Hp → VK → Prop := fun xs H Q => ∃ x d, xs = [x] ∧ Dp K H x d ∧ d.showable = true ∧ d.depth ≤ 100 ∧ d.shown.length ≤ sizeLine ∧ Q (.str d.shown) H
section
variable {X : Cx}
theorem repr_core {pins : List (Addr × Obj)} {s : Shared} {σ : L2.St} {H : Hp} {Q : VK} {k : Nat} (r : RmG k X.A) (I : Inv X pins σ H s) : ∀ {x : V} {d : PyData} {u : Value}, Dp X.K H x d → RelV x u → d.showable = true → d.depth ≤ 100 → d.shown.length ≤ sizeLine → Q (.str d.shown) H →
    wpAny (model X.prog X.w) X.A (call (.builtin "repr") [u]) (EP X pins σ Q) X.xe s := by
  intro x d u hd ru hs hp hz q
  have nd := Dp.noDict hd
  obtain ⟨as, R⟩ := Dp.reads I d x u hd ru
  have room := r.rm.un
  have refs : ∀ a, u = .ref a → wpAny (model X.prog X.w) X.A (call (.builtin "repr") [u]) (EP X pins σ Q) X.xe s := by
    rintro a rfl
    refine repr_of_reads' R hs (PyData.noDict_hsm nd) r.gd (by omega) (fun _ _ z => z) (fun h' t tk hk => ?_) hz
    exact ⟨.str _, H, I.kept hk, ⟨_, rfl⟩, q⟩
  cases hd with
  | non =>
    cases ru
    exact PySem.P.repr_of_none ⟨.str _, H, I.tok _, ⟨_, rfl⟩, q⟩
  | bl b =>
    cases ru
    exact PySem.P.repr_of_bool ⟨.str _, H, I.tok _, ⟨_, rfl⟩, q⟩
  | int i =>
    obtain ⟨t, rfl⟩ := ru
    have hs' : i.natAbs.log2 < 1920 := of_decide_eq_true (by simpa only [PyData.showable] using hs)
    exact PySem.P.repr_of_int hs' ⟨.str _, H, I.tok _, ⟨_, rfl⟩, q⟩
  | str y =>
    obtain ⟨t, rfl⟩ := ru
    exact PySem.P.repr_of_str ⟨.str _, H, I.tok _, ⟨_, rfl⟩, q⟩ hz
  | lst _ _ =>
    cases ru
    exact refs _ rfl
  | tup _ _ =>
    cases ru
    exact refs _ rfl
theorem call_reprD {k : Nat} (r : RmG k X.A) : CallR X (.builtin "repr") (rRepr X.K) := by
  intro pins s σ H xs us Q I hv h
  obtain ⟨x, d, rfl, hd, hs, hp, hz, q⟩ := h
  obtain ⟨u, rfl, ru⟩ := vals1 hv
  exact repr_core r I hd ru hs hp hz q
/-- a ** n of written numbers -/
def CPw (i j : Int) : Prop := 0 ≤ j ∧ (Builtin.Int.intBits i : Int) * j ≤ 2 ^ 27
theorem op_powW : OpR X (binaryOp .Pow) (rI CPw fun i j => .int (i ^ j.toNat)) := opI fun _ _ _ _ _ _ _ hc q => pow_int hc.1 hc.2 q
end
/-! ### a bound of a shown text -/
mutual
def wt : PyData → Nat
  | .none => 4
  | .bool _ => 5
  | .int _ => 1930
  | .str x => (reprText x).length
  | .list xs => wtAll xs + 2
  | .tuple xs => wtAll xs + 3
  | .dict kvs => (PyData.dict kvs).shown.length
def wtAll : List PyData → Nat
  | [] => 0
  | x :: xs => wt x + 2 + wtAll xs
end
theorem textFrom_le : ∀ (ts : List Str) (k : Nat) (acc : Str), (textFrom k acc ts).length ≤ acc.length + piled ts
  | [], k, acc => by show acc.length ≤ _; omega
  | t :: ts, k, acc => by
    have h := textFrom_le ts (k + 1) (acc ++ (if k > 0 then ", " else "" : String) ++ t)
    have e : (acc ++ (if k > 0 then ", " else "" : String) ++ t).length ≤ acc.length + 2 + t.length := by
      rw [strLen_append, strLen_append]
      split
      · show _ + 2 + _ ≤ _; omega
      · show _ + 0 + _ ≤ _; omega
    rw [piled_cons]
    show (textFrom (k + 1) _ ts).length ≤ _
    omega
theorem join_le : ∀ ts : List Str, (Str.join ", " ts).length ≤ piled ts
  | [] => Nat.zero_le _
  | t :: ts => by
    have h := join_length_add (t :: ts) (by simp)
    omega
theorem listText_le (ts : List Str) : (listText ts).length ≤ piled ts + 2 := by
  unfold listText
  rw [strLen_append]
  have h := textFrom_le ts 0 "["
  have e1 : (("[" : String) : Str).length = 1 := rfl
  have e2 : (("]" : String) : Str).length = 1 := rfl
  omega
theorem tupleText_le (ts : List Str) : (tupleText ts).length ≤ piled ts + 3 := by
  unfold tupleText
  rw [strLen_append, strLen_append]
  have h := join_le ts
  have e1 : (("(" : Str)).length = 1 := rfl
  split
  · have e2 : ((",)" : String) : Str).length = 2 := rfl
    omega
  · have e2 : ((")" : String) : Str).length = 1 := rfl
    omega
mutual
theorem shown_le : ∀ d : PyData, d.showable = true → d.shown.length ≤ wt d
  | .none, _ => by simp only [PyData.shown, wt]; decide
  | .bool b, _ => by simp only [PyData.shown, wt]; cases b <;> decide
  | .int i, h => by
    simp only [PyData.shown, wt]
    have h' : i.natAbs.log2 < 1920 := of_decide_eq_true (by simpa only [PyData.showable] using h)
    have e := int_text_length_le (k := 1920) (by decide) h'
    have e2 : (Str.ofString (toString i)).length = (toString i).length := PySem.ofString_length _
    show (Str.ofString (toString i)).length ≤ _
    omega
  | .str x, _ => by simp only [PyData.shown, wt]; exact Nat.le_refl _
  | .list xs, h => by
    simp only [PyData.shown, wt]
    have h1 := listText_le (PyData.shownAll xs)
    have h2 := shownAll_le xs (by simpa only [PyData.showable] using h)
    omega
  | .tuple xs, h => by
    simp only [PyData.shown, wt]
    have h1 := tupleText_le (PyData.shownAll xs)
    have h2 := shownAll_le xs (by simpa only [PyData.showable] using h)
    omega
  | .dict kvs, _ => by simp only [wt]; exact Nat.le_refl _
theorem shownAll_le : ∀ xs : List PyData, PyData.showableAll xs = true → piled (PyData.shownAll xs) ≤ wtAll xs
  | [], _ => by simp only [PyData.shownAll, wtAll]; exact Nat.le_refl _
  | x :: xs, h => by
    have h' : (x.showable && PyData.showableAll xs) = true := by simpa only [PyData.showableAll] using h
    have h2 := Bool.and_eq_true_iff.mp h'
    simp only [PyData.shownAll, wtAll]
    rw [piled_cons]
    have a := shown_le x h2.1
    have b := shownAll_le xs h2.2
    omega
end
end Gl
/-! The end of a law over FnG. -/
namespace Gl
open PySem PySem.Spec PyProof.Rows L2
open PySem.W (OpenLaw)
theorem rmCaller {k : Nat} (h : Room k callerA) : RmG k callerA := ⟨h, rfl⟩
section
variable {P : Program} {w : World} {K : PySem.W.Frag} {mg mb : Str → Option Value} {k : Nat} {fa a : Addr} {fd : FuncData} {x : Str} {sp : Sp} {s1 : Shared} {vs : List Value} {ns : List Int}
/-- what stands at the law's entry -/
structure Entry (P : Program) (w : World) (K : PySem.W.Frag) (mg mb : Str → Option Value) (k : Nat) (fa a : Addr) (fd : FuncData) (x : Str) (sp : Sp) (s1 : Shared) (vs : List Value) (ns : List Int) : Prop where
  kin : K.In s1.heap
  ng : s1.heap.Ns mainGlobals mg
  nb : s1.heap.Ns builtinsNs mb
  bb : ∀ y : Str, y ≠ "__name__" → mb y = bootBuiltins y
  lim : s1.heap.NoLimit
  gn : s1.gens = #[]
  at_ : s1.heap.get? a = some { cls := .type "list", data := .seq vs.toArray }
  ia : IntsAre vs ns
  sz : ns.length ≤ sizeLine
  rm : Room k callerA
  F : ∀ base : Heap, K.In base → base.Ns mainGlobals mg → FnG P w K mg base CX0 k fa fd [x] sp
  bind : ∀ (s : Shared) (u : Value), BindsTo s fd ⟨[u], []⟩ [(x, u)]
  sp_ : ∀ H : Hp, Only H → SqL K H a (ns.map V.int) → sp [.ref a] H (fun v _ => v = .bl true) fun _ _ _ => False
abbrev Fin (s1 : Shared) (r : Result) (s' : Shared) : Prop := r = .ok (.ret (.bool true)) ∧ OldK s1.heap s'.heap ∧ s'.os = s1.os ∧ AllBare s'.gens
theorem Entry.from (N : Entry P w K mg mb k fa a fd x sp s1 vs ns) (H : Hp) (only : Only H) (sq : SqL K H a (ns.map V.int)) (ok : HOk P w H s1.heap)
    (just : ∀ b, H b ≠ none → b = a) (own : H a ≠ none → K.lookup a = none) :
    codeAny (model P w) callerA (.call (.ref fa) ⟨[.ref a], []⟩) (Fin s1) s1 := by
  have none_of : ∀ b, (H b ≠ none → False) → H b = none := fun b z => by
    rcases h : H b with _ | u
    · rfl
    · exact (z (by rw [h]; exact fun e => nomatch e)).elim
  have dict_free : ∀ {b : Addr} {o : Obj} {es : Array DictEntry} {ep : Nat}, s1.heap.get? b = some o → o.data = .dict es ep → H b = none := by
    intro b o es ep e d
    apply none_of
    intro z
    obtain rfl := just b z
    rw [N.at_] at e
    obtain rfl := Option.some.inj e
    exact nomatch d
  have keepNs : ∀ {b : Addr} {m : Str → Option Value}, s1.heap.Ns b m → (hidT s1.heap H).Ns b m := by
    rintro b m ⟨o, es, ep, e, d, r⟩
    exact ⟨o, es, ep, hidT_get e (dict_free e d), d, r⟩
  have kb : K.In (hidT s1.heap H) := by
    intro b o e
    apply hidT_get (N.kin b o e)
    apply none_of
    intro z
    obtain rfl := just b z
    rw [own z] at e
    exact nomatch e
  have lim : (hidT s1.heap H).NoLimit := by
    obtain ⟨m, h1, h2⟩ := N.lim
    exact ⟨m, keepNs h1, h2⟩
  have md : Mod K mg (hidT s1.heap H) := ⟨kb, keepNs N.ng, ⟨mb, keepNs N.nb, N.bb⟩, lim⟩
  have e0 : Env0 P w K mg (hidT s1.heap H) callerA [] s1 H :=
    { frames := rfl, mod := md, bs := fun _ _ e => of_hidT e, bsz := Nat.le_of_eq (hidT_size _ _), funs := trivial,
      frf := (fun b z => absurd (show b ∈ ([] : List Addr) from z) (by simp)), hok := ok, bare := .of_eq N.gn }
  have c := (N.F _ kb (keepNs N.ng)).go callerA [] s1 H ⟨[.ref a], []⟩ [.ref a] [.ref a] _ _ (rmCaller N.rm) e0 (N.bind s1 (.ref a)) (.cons rfl .nil) (N.sp_ H only sq)
  apply codeAny_mono c
  intro r s2 z
  match r, z with
  | .error e, z => exact z.elim
  | .ok .next, z => exact z.elim
  | .ok .brk, z => exact z.elim
  | .ok .cont, z => exact z.elim
  | .ok (.ret u), ⟨v, H2, os, br, un, ok2, rv, q⟩ =>
    obtain rfl : v = .bl true := q
    obtain rfl : u = Value.bool true := rv
    refine ⟨rfl, OldK.of_keep ?_, os, br⟩
    intro b o e
    rcases h : H b with _ | u
    · exact un.keep b o e h (fun z => nomatch z) (fun z => nomatch z)
    · rcases only b with z | ⟨ob, xs, z⟩
      · rw [h] at z
        exact nomatch z
      · have y1 := (ok b _ z).1
        have y2 := (ok2 b _ (un.frzs b ob _ z)).1
        obtain rfl := Option.some.inj (e.symm.trans y1)
        exact y2
theorem Entry.run (N : Entry P w K mg mb k fa a fd x sp s1 vs ns) : codeAny (model P w) callerA (.call (.ref fa) ⟨[.ref a], []⟩) (Fin s1) s1 := by
  have rv := vals_ints N.ia
  rcases hk : K.lookup a with _ | o
  · let ob : Obj := { cls := .type "list", data := .seq vs.toArray }
    let H : Hp := upd (fun _ => none) a (.frz ob (.lst (ns.map V.int)))
    have ha : H a = some (.frz ob (.lst (ns.map V.int))) := upd_same
    have hn : ∀ b, b ≠ a → H b = none := fun b z => upd_ne z
    have just : ∀ b, H b ≠ none → b = a := fun b z => Decidable.byContradiction fun y => z (hn b y)
    refine N.from H ?_ (.inl (.inr ⟨ob, ha⟩)) ?_ just fun _ => hk
    · intro b
      by_cases z : b = a
      · subst z
        exact .inr ⟨ob, ns.map V.int, ha⟩
      · exact .inl (hn b z)
    · intro b o z
      obtain rfl := just b (by rw [z]; exact fun e => nomatch e)
      rw [ha] at z
      obtain rfl := Option.some.inj z
      exact ⟨N.at_, by rw [List.length_map]; exact N.sz, vs, _, rv, N.at_⟩
  · have e := N.kin a o hk
    rw [N.at_] at e
    obtain rfl := Option.some.inj e
    refine N.from (fun _ => none) (fun _ => .inl rfl) (.inr ⟨_, vs.toArray, _, hk, rfl, rfl, rfl, ?_, by simpa using rv⟩) (fun b u z => nomatch (show (none : Option HO) = some u from z)) (fun b z => (z rfl).elim) fun z => (z rfl).elim
    rw [List.size_toArray, N.ia.length]
    exact N.sz
end
end Gl
namespace Gl
open PySem PySem.Spec PyProof.Rows L2
def topS (i : Nat) : Stmt := PySem.Challenge.pw_mostkept_k11_tables_made.main.body.getD i (.Pass ⟨0, 0, 0, 0⟩)
/-- what the dice are: a list of three ints -/
def Dice (H : Hp) (a : Addr) : Prop := ∃ x y z : Int, H a = some (.lst [.int x, .int y, .int z])
/-- all that stands stays -/
def Ex (H H' : Hp) : Prop := ∀ b o, H b = some o → H' b = some o
/-- all that stands stays, but the dice at a -/
structure Gro (a : Addr) (H H' : Hp) : Prop where
  st : ∀ b o, b ≠ a → H b = some o → H' b = some o
  di : Dice H' a
theorem Ex.refl (H : Hp) : Ex H H := fun _ _ e => e
theorem Ex.trans {H H1 H2 : Hp} (a : Ex H H1) (b : Ex H1 H2) : Ex H H2 := fun _ _ e => b _ _ (a _ _ e)
theorem Ex.new {H : Hp} {p : Addr} {o : HO} (h : H p = none) : Ex H (upd H p o) := fun b u e => by rw [upd_ne (ne_of_none e h)]; exact e
/-- an object that was not there may change -/
theorem Ex.mut {H H' : Hp} {p : Addr} {o : HO} (e : Ex H H') (h : H p = none) : Ex H (upd H' p o) := fun b u q => by rw [upd_ne (ne_of_none q h)]; exact e b u q
theorem Ex.sqL {K : PySem.W.Frag} {H H' : Hp} {a : Addr} {xs : List V} (e : Ex H H') (h : SqL K H a xs) : SqL K H' a xs := by
  rcases h with (h | ⟨o, h⟩) | h
  · exact .inl (.inl (e a _ h))
  · exact .inl (.inr ⟨o, e a _ h⟩)
  · exact .inr h
theorem Ex.rd {H H' : Hp} {a : Addr} {u : HO} (e : Ex H H') (h : Rd H a u) : Rd H' a u := by
  rcases h with h | ⟨o, h⟩
  · exact .inl (e a _ h)
  · exact .inr ⟨o, e a _ h⟩
theorem Ex.dice {H H' : Hp} {a : Addr} (e : Ex H H') (h : Dice H a) : Dice H' a := let ⟨x, y, z, q⟩ := h; ⟨x, y, z, e a _ q⟩
theorem Ex.back {H H' : Hp} {p : Addr} (e : Ex H H') (h : H' p = none) : H p = none := by
  rcases q : H p with _ | o
  · rfl
  · rw [e p o q] at h; exact nomatch h
theorem Gro.refl {H : Hp} {a : Addr} (d : Dice H a) : Gro a H H := ⟨fun _ _ _ e => e, d⟩
theorem Gro.trans {a : Addr} {H H1 H2 : Hp} (x : Gro a H H1) (y : Gro a H1 H2) : Gro a H H2 := ⟨fun b o n e => y.st b o n (x.st b o n e), y.di⟩
theorem Gro.ex {a : Addr} {H H1 H2 : Hp} (x : Gro a H H1) (y : Ex H1 H2) : Gro a H H2 := ⟨fun b o n e => y b o (x.st b o n e), y.dice x.di⟩
theorem Gro.of {a : Addr} {H H1 : Hp} (y : Ex H H1) (d : Dice H a) : Gro a H H1 := (Gro.refl d).ex y
theorem Gro.mut {a : Addr} {H H' : Hp} {p : Addr} {o : HO} (x : Gro a H H') (h : H p = none) (n : p ≠ a) : Gro a H (upd H' p o) :=
  ⟨fun b u nb e => by rw [upd_ne (ne_of_none e h)]; exact x.st b u nb e, let ⟨i, j, k, q⟩ := x.di; ⟨i, j, k, by rw [upd_ne n.symm]; exact q⟩⟩
theorem Gro.tup {a p : Addr} {H H' : Hp} {xs : List V} (x : Gro a H H') (d : Dice H a) (h : H p = some (.tup xs)) : H' p = some (.tup xs) :=
  x.st p _ (fun e => by obtain ⟨i, j, k, q⟩ := d; rw [e, q] at h; exact nomatch h) h
theorem Gro.rd {a p : Addr} {H H' : Hp} {xs : List V} (x : Gro a H H') (d : Dice H a) (h : Rd H p (.tup xs)) : Rd H' p (.tup xs) := by
  obtain ⟨i, j, k, q⟩ := d
  rcases h with h | ⟨o, h⟩
  · exact .inl (x.st p _ (fun e => by rw [e, q] at h; exact nomatch h) h)
  · exact .inr ⟨o, x.st p _ (fun e => by rw [e, q] at h; exact nomatch h) h⟩
theorem Gro.frz {a p : Addr} {H H' : Hp} {o : Obj} {u : HO} (x : Gro a H H') (d : Dice H a) (h : H p = some (.frz o u)) : H' p = some (.frz o u) := by
  obtain ⟨i, j, k, q⟩ := d
  exact x.st p _ (fun e => by rw [e, q] at h; exact nomatch h) h
theorem Gro.sqL {K : PySem.W.Frag} {a p : Addr} {H H' : Hp} {xs : List V} (x : Gro a H H') (n : p ≠ a) (h : SqL K H p xs) : SqL K H' p xs := by
  rcases h with (h | ⟨o, h⟩) | h
  · exact .inl (.inl (x.st p _ n h))
  · exact .inl (.inr ⟨o, x.st p _ n h⟩)
  · exact .inr h
theorem Gro.back {a p : Addr} {H H' : Hp} (x : Gro a H H') (d : Dice H a) (h : H' p = none) : H p = none ∧ p ≠ a := by
  have n : p ≠ a := fun e => by obtain ⟨i, j, k, q⟩ := x.di; rw [← e, h] at q; exact nomatch q
  refine ⟨?_, n⟩
  rcases q : H p with _ | o
  · rfl
  · rw [x.st p o n q] at h; exact nomatch h
theorem Dice.ne {H : Hp} {a p : Addr} (d : Dice H a) (h : H p = none) : p ≠ a := fun e => by obtain ⟨i, j, k, q⟩ := d; rw [← e, h] at q; exact nomatch q
/-- names that the module leaves to the built-ins -/
structure Blt (mg : Str → Option Value) : Prop where
  len : mg "len" = none
  int : mg "int" = none
  abs : mg "abs" = none
  max : mg "max" = none
  min : mg "min" = none
  range : mg "range" = none
  tuple : mg "tuple" = none
  list : mg "list" = none
  repr : mg "repr" = none
  zip : mg "zip" = none
  isinstance : mg "isinstance" = none
  all : mg "all" = none
  str : mg "str" = none
  bool : mg "bool" = none
end Gl
namespace Gl
open PySem PySem.Spec PyProof.Rows L2
abbrev sDice : Stmt := topS 38
abbrev sPull : Stmt := topS 39
abbrev sPick : Stmt := topS 40
theorem scDice : FnScope ["_law_script", "_law_at", "_law_cell", "_law_great", "_law_mixed"] ["_law_script", "_law_at"] (defScope sDice) := ⟨rfl, rfl, rfl, by decide +kernel, rfl, by decide +kernel, by decide +kernel⟩
theorem scPull : FnScope ["_law_dice_here", "_law_total_here", "_law_found", "_law_one", "_law_two"] ["_law_dice_here", "_law_total_here"] (defScope sPull) := ⟨rfl, rfl, rfl, by decide +kernel, rfl, by decide +kernel, by decide +kernel⟩
theorem scPick : FnScope ["_law_dice_here", "_law_items"] ["_law_dice_here", "_law_items"] (defScope sPick) := ⟨rfl, rfl, rfl, by decide +kernel, rfl, by decide +kernel, by decide +kernel⟩
section
variable {P : Program} {w : World} {K : PySem.W.Frag} {mg : Str → Option Value} {base : Heap}
def spDice (K : PySem.W.Frag) : Sp := fun vs H Q _ => ∃ (a : Addr) (ns : List Int) (at_ : Nat), vs = [.ref a, .int at_] ∧ SqL K H a (ns.map V.int) ∧ ns.length ≤ 63 ∧
  ∀ H' p, Ex H H' → H p = none → Dice H' p → Q (.ref p) H'
theorem cmul_l {i j : Int} (h1 : -(2 ^ 64) < i) (h2 : i < 2 ^ 64) : CMul i j := .inl ⟨h1, h2⟩
theorem cpw60 : CPw 10 60 := ⟨by decide, by decide +kernel⟩
theorem cpw12 : CPw ((10 : Int) ^ (60 : Int).toNat) 12 := ⟨by decide, by decide +kernel⟩
theorem cpw18 : CPw 10 18 := ⟨by decide, by decide +kernel⟩
theorem pos720 : (0 : Int) < ((10 : Int) ^ (60 : Int).toNat) ^ (12 : Int).toNat := by decide +kernel
theorem ok_dice {f : Addr} {fd : FuncData} {k : Nat} (F : Fun K "_law_dice" "_law_dice" sDice f fd) (T : Blt mg) : FnG P w K mg base CX0 (k + 1) f fd ["_law_script", "_law_at"] (spDice K) := by
  refine okG F scDice (fun vs H Q E h => ?_) (fun cdv A outer s H vs Q E hr h => ?_)
  · obtain ⟨a, ns, i, rfl, _⟩ := h
    rfl
  · obtain ⟨a, ns, i, rfl, hS, hl, q⟩ := h
    have nd := scDice.nd
    refine ⟨_, pss_cons (ps_set (i := 2) nd rfl (.inl rfl) (pe_op op_add (pe_op op_mul pe_int (pv 1)) pe_int))
      (pss_cons (ps_if (pt_cmpR op_lt (pv 1) (pe_callB call_len_seq (by rfl) T.len PySem.boot_len (pa_cons (pv 0) pa_nil)) (nomark _)) (pss_one (ps_set (i := 2) nd rfl (.inl rfl) (pe_ix ix_list (pv 0) (pv 1) (fun _ _ => rfl)))) pss_nil)
      (pss_cons (ps_set (i := 3) nd rfl (.inl rfl) (pe_op op_mod (pe_callTy call_int1 (by rfl) T.int (by decide +kernel) (pa_cons (pe_callB call_abs (by rfl) T.abs (by decide +kernel) (pa_cons (pv 2) pa_nil)) pa_nil)) (pe_op op_powW (pe_op op_powW pe_int pe_int) pe_int)))
      (pss_cons (ps_set (i := 4) nd rfl (.inl rfl) (pe_op op_add (pe_op op_add (pe_op op_add (pe_op op_mul (pe_op op_mod (pe_callTy call_int1 (by rfl) T.int (by decide +kernel) (pa_cons (pv 3) pa_nil)) pe_int) pe_int) (pe_op op_mul pe_int (pv 1))) (pe_op op_mul pe_int (pe_callTy call_int1 (by rfl) T.int (by decide +kernel) (pa_cons (pe_cmpR op_lt (pv 2) pe_int (nomark _)) pa_nil)))) pe_int))
      (pss_one (ps_ret (pe_lst (pa_cons (pe_callB (call_max2 rfl) (by rfl) T.max (by decide +kernel) (pa_cons pe_int (pa_cons (pe_op op_sub (pv 3) (pe_op op_powW pe_int pe_int)) pa_nil))) (pa_cons (pe_op op_mod (pe_callTy call_int1 (by rfl) T.int (by decide +kernel) (pa_cons (pv 4) pa_nil)) pe_int) (pa_cons pe_int pa_nil))))))))), ?_⟩
    -- cell = 13 * at + 6
    refine ⟨_, rfl, 13, i, rfl, rfl, cmul_l (by decide) (by decide), _, _, rfl, rfl, ?_⟩
    -- if at < len(script): cell = script[at]
    refine ⟨_, rfl, .ref a, rfl, a, _, rfl, .inl hS, i, _, rfl, rfl, _, rfl, ?_⟩
    refine ite2 (fun e => ?_) (fun e => ?_)
    have hi : i < ns.length := by
      have := of_decide_eq_true e
      rw [List.length_map] at this
      omega
    refine ⟨_, rfl, _, rfl, a, _, i, .int ns[i], rfl, rfl, hS, atI_nat (j := i) (by rw [List.getElem?_map, List.getElem?_eq_getElem hi]; rfl), ?_⟩
    generalize ns[i] = c
    revert c
    rotate_left
    generalize 13 * (i : Int) + 6 = c
    revert c
    all_goals
      intro c
      refine ⟨_, rfl, _, rfl, .inl ⟨_, rfl, 10, 60, rfl, rfl, cpw60, _, 12, rfl, rfl, cpw12, _, _, rfl, rfl, pos720, ?_⟩⟩
      refine ⟨_, rfl, .inl ⟨_, rfl, _, _, rfl, rfl, (show (0 : Int) < 2147483497 by decide), _, _, rfl, rfl, .inr ⟨by decide, by decide⟩, _, rfl, _, _, rfl, rfl, cmul_l (by decide) (by decide), _, _, rfl, rfl, _, rfl, _, _, rfl, rfl, .inr ⟨_, rfl, _, _, rfl, rfl, cmul_l (by decide) (by decide), _, _, rfl, rfl, _, _, rfl, rfl, ?_⟩⟩⟩
      refine ⟨_, rfl, 10, 18, rfl, rfl, cpw18, _, _, rfl, rfl, _, _, rfl, _, rfl, .inl ⟨_, rfl, _, _, rfl, rfl, (show (0 : Int) < 2147483489 by decide), by show 3 ≤ sizeLine; decide, fun p np => ?_⟩⟩
      exact q _ p (Ex.new np) np ⟨_, _, _, upd_same⟩
def spPull : Sp := fun vs H Q _ => ∃ (a : Addr) (n : Int), vs = [.ref a, .int n] ∧ 0 < n ∧ n.natAbs < 2 ^ 200 ∧ Dice H a ∧
  ∀ (v : Int) H', 0 ≤ v → v < n → Gro a H H' → Q (.int v) H'
theorem ok_pull {f : Addr} {fd : FuncData} {k : Nat} (F : Fun K "_law_pull" "_law_pull" sPull f fd) (T : Blt mg) : FnG P w K mg base CX0 (k + 1) f fd ["_law_dice_here", "_law_total_here"] spPull := by
  refine okG F scPull (fun vs H Q E h => ?_) (fun cdv A outer s H vs Q E hr h => ?_)
  · obtain ⟨a, n, rfl, _⟩ := h
    rfl
  · obtain ⟨a, n, rfl, hn, hn2, ⟨x, y, z, hd⟩, q⟩ := h
    have nd := scPull.nd
    have hu := hu_of hr.rm
    refine ⟨_, pss_cons (ps_if (pt_cmpR op_gt (pe_ix ix_list (pv 0) pe_int (fun _ _ => rfl)) pe_int (nomark _))
        (pss_cons (ps_set (i := 2) nd rfl (.inl rfl) (pe_op op_mod (pe_callTy call_int1 (by rfl) T.int (by decide +kernel) (pa_cons (pe_ix ix_list (pv 0) pe_int (fun _ _ => rfl)) pa_nil)) (pv 1)))
        (pss_cons (ps_asg (pe_op op_fdivW (pe_ix ix_list (pv 0) pe_int (fun _ _ => rfl)) (pv 1)) (pg_sub (pv 0) pe_int set_list))
        (pss_one (ps_ret (pv 2))))) pss_nil)
      (pss_cons (ps_asg (pe_op op_add (pe_ix ix_list (pv 0) pe_int (fun _ _ => rfl)) pe_int) (pg_sub (pv 0) pe_int set_list))
      (pss_cons (ps_set (i := 3) nd rfl (.inl rfl) (pe_op op_mod (pe_callTy call_int1 (by rfl) T.int (by decide +kernel) (pa_cons (pe_op op_add (pe_ix ix_list (pv 0) pe_int (fun _ _ => rfl)) (pe_op op_mul pe_int (pe_ix ix_list (pv 0) pe_int (fun _ _ => rfl)))) pa_nil)) pe_int))
      (pss_cons (ps_set (i := 4) nd rfl (.inl rfl) (pe_op op_mul (pe_op op_mod (pe_callTy call_int1 (by rfl) T.int (by decide +kernel) (pa_cons (pe_op op_mul (pv 3) (pv 3)) pa_nil)) pe_int) (pv 3)))
      (pss_one (ps_ret (pe_op op_mod (pe_callTy call_int1 (by rfl) T.int (by decide +kernel) (pa_cons (pe_op op_fdiv (pe_op op_mod (pe_callTy call_int1 (by rfl) T.int (by decide +kernel) (pa_cons (pe_op op_add (pv 4) (pe_op op_mul pe_int (pe_ix ix_list (pv 0) pe_int (fun _ _ => rfl)))) pa_nil)) pe_int) pe_int) pa_nil)) (pv 1))))))), ?_⟩
    have at0 : atI [V.int x, .int y, .int z] 0 = some (.int x) := rfl
    have hl : SqL K H a [.int x, .int y, .int z] := .inl (.inl hd)
    have hdi : ∀ H', H' a = some (.lst [.int x, .int y, .int z]) → SqL K H' a [.int x, .int y, .int z] := fun _ h => .inl (.inl h)
    have grow : ∀ x' y' z' : Int, Gro a H (upd H a (.lst [.int x', .int y', .int z'])) := fun x' y' z' => ⟨fun b o n e => by rw [upd_ne n]; exact e, x', y', z', upd_same⟩
    refine ⟨_, rfl, a, _, 0, _, rfl, rfl, hl, rfl, _, _, rfl, rfl, _, rfl, ite2 (fun e => ?_) (fun e => ?_)⟩
    · refine ⟨_, rfl, a, _, 0, _, rfl, rfl, hl, rfl, .inl ⟨_, rfl, _, rfl, x, n, rfl, rfl, hn, ?_⟩⟩
      refine ⟨_, rfl, a, _, 0, _, rfl, rfl, hl, rfl, _, rfl, x, n, rfl, rfl, wide_div hn hn2 (by decide) (by decide), ?_⟩
      refine ⟨_, rfl, a, _, 0, 0, rfl, rfl, hd, rfl, ?_⟩
      exact ⟨_, rfl, q (x % n) _ (Int.emod_nonneg _ (by omega)) (Int.emod_lt_of_pos _ hn) (grow _ _ _)⟩
    · refine ⟨_, rfl, a, _, 2, _, rfl, rfl, hl, rfl, z, 1, rfl, rfl, ?_⟩
      refine ⟨_, rfl, a, _, 2, 2, rfl, rfl, hd, rfl, ?_⟩
      have hl2 : SqL K (upd H a (.lst [.int x, .int y, .int (z + 1)])) a [.int x, .int y, .int (z + 1)] := .inl (.inl upd_same)
      refine ⟨_, rfl, a, _, 1, _, rfl, rfl, hl2, rfl, _, rfl, a, _, 2, _, rfl, rfl, hl2, rfl, _, _, rfl, rfl, cmul_l (by decide) (by decide), _, _, rfl, rfl, .inl ⟨_, rfl, _, _, rfl, rfl, (show (0 : Int) < 2305843009213693951 by decide), ?_⟩⟩
      have b1 : ∀ u : Int, 0 ≤ u % 2305843009213693951 ∧ u % 2305843009213693951 < 2305843009213693951 := fun u => ⟨Int.emod_nonneg _ (by decide), Int.emod_lt_of_pos _ (by decide)⟩
      have b2 : ∀ u : Int, 0 ≤ u % 2305843009213693921 ∧ u % 2305843009213693921 < 2305843009213693921 := fun u => ⟨Int.emod_nonneg _ (by decide), Int.emod_lt_of_pos _ (by decide)⟩
      have c1 : ∀ u v : Int, CMul (u % 2305843009213693951) v := fun u v => cmul_l (by have := b1 u; omega) (by have := b1 u; omega)
      have c2 : ∀ u v : Int, CMul (u % 2305843009213693921) v := fun u v => cmul_l (by have := b2 u; omega) (by have := b2 u; omega)
      refine ⟨_, rfl, _, rfl, _, _, rfl, rfl, c1 _ _, .inl ⟨_, rfl, _, _, rfl, rfl, (show (0 : Int) < 2305843009213693921 by decide), _, rfl, _, _, rfl, rfl, c2 _ _, ?_⟩⟩
      refine ⟨_, rfl, _, rfl, a, _, 2, _, rfl, rfl, hl2, rfl, _, _, rfl, rfl, cmul_l (by decide) (by decide), _, _, rfl, rfl, .inl ⟨_, rfl, _, _, rfl, rfl, (show (0 : Int) < 2305843009213693907 by decide), _, _, rfl, rfl, ⟨by decide, by decide⟩, .inl ⟨_, rfl, _, rfl, _, _, rfl, rfl, hn, ?_⟩⟩⟩
      exact q _ _ (Int.emod_nonneg _ (by omega)) (Int.emod_lt_of_pos _ hn) (grow _ _ _)
end
end Gl
namespace Gl
open PySem PySem.Spec PyProof.Rows L2
/-- a tuple that carries no dict of its own: known to the object -/
def TupF (H : Hp) (p : Addr) (xs : List V) : Prop := ∃ o : Obj, o.dict = none ∧ H p = some (.frz o (.tup xs))
theorem TupF.rd {H : Hp} {p : Addr} {xs : List V} (h : TupF H p xs) : Rd H p (.tup xs) := let ⟨o, _, e⟩ := h; .inr ⟨o, e⟩
theorem tupF_new {H : Hp} {p : Addr} {xs : List V} {o : Obj} (d : o.dict = none) : TupF (upd H p (.frz o (.tup xs))) p xs := ⟨o, d, upd_same⟩
section
variable {X : Cx}
/-- tuple(a list): new, without a dict -/
def rTupF (K : PySem.W.Frag) : List V → Hp → VK → Prop := fun xs H Q => ∃ p ys, xs = [.ref p] ∧ SqL K H p ys ∧ ∀ l o, H l = none → o.dict = none → Q (.ref l) (upd H l (.frz o (.tup ys)))
theorem call_tupleF : CallR X (.type "tuple") (rTupF X.K) := by
  rintro pins s σ H xs us Q I rv ⟨p, ys, rfl, hq, q⟩
  obtain ⟨u, rfl, ru⟩ := vals1 rv
  obtain rfl : u = Value.ref p := ru
  obtain ⟨its, ri, pl, hz⟩ := I.list hq
  have n1 := ri.length
  apply call_tuple_list pl.isList _ (by simp only [List.size_toArray]; omega)
  intro h' kp
  have J : Inv X pins σ H { s with heap := h' } := I.kept (t' := s.toks) kp
  let o : Obj := { cls := .type "tuple", data := .seq its.toArray }
  have g : (h'.push o).get? h'.objs.size = some o := Heap.get?_push_size _ rfl
  have ok : ObjOk X.prog X.w (upd H h'.objs.size (.frz o (.tup ys))) (h'.push o) h'.objs.size (.frz o (.tup ys)) :=
    ⟨g, hz, its, ri, o, g, rfl, _, rfl⟩
  exact ⟨.ref h'.objs.size, _, J.laid (t' := s.toks) (fun _ _ e => Heap.get?_push_of_some _ e) (Nat.le_refl _) ok, rfl, q _ o (J.hok.fresh (Nat.le_refl _)) rfl⟩
variable {es : List Expr} {pos : Pos} {t : TA}
end
end Gl
namespace Gl
open PySem PySem.Spec PyProof.Rows L2
section
variable {P : Program} {w : World} {K : PySem.W.Frag} {mg : Str → Option Value} {base : Heap}
def spPick : Sp := fun vs H Q _ => ∃ (a p : Addr) (xs : List V), vs = [.ref a, .ref p] ∧ H p = some (.lst xs) ∧ p ≠ a ∧ xs ≠ [] ∧ xs.length ≤ 1000 ∧ Dice H a ∧
  ∀ (v : V) H', v ∈ xs → Gro a H H' → Q v H'
/-- the dice's defs -/
structure Dc (P : Program) (w : World) (K : PySem.W.Frag) (mg : Str → Option Value) (base : Heap) where
  f : Addr
  fd : FuncData
  G : FnG P w K mg base CX0 1 f fd ["_law_dice_here", "_law_total_here"] spPull
  g : mg "_law_pull" = some (.ref f)
  kp : PySem.W.keepIn K (.ref f) = true
  b : Binds K fd ["_law_dice_here", "_law_total_here"] []
theorem ok_pick {f : Addr} {fd : FuncData} (F : Fun K "_law_pick" "_law_pick" sPick f fd) (T : Blt mg) (D : Dc P w K mg base) : FnG P w K mg base CX0 2 f fd ["_law_dice_here", "_law_items"] spPick := by
  refine okG F scPick (fun vs H Q E h => ?_) (fun cdv A outer s H vs Q E hr h => ?_)
  · obtain ⟨a, n, xs, rfl, _⟩ := h
    rfl
  · obtain ⟨a, p, xs, rfl, hp, pa, hx, hl, hd, q⟩ := h
    have nd := scPick.nd
    refine ⟨_, pss_one (ps_ret (pe_ix ix_list (pv 1) (pe_callG D.G hr (by rfl) D.g D.kp D.b .nil pass0 (pa_cons (pv 0) (pa_cons (pe_callB call_len_seq (by rfl) T.len PySem.boot_len (pa_cons (pv 1) pa_nil)) pa_nil))) (fun _ _ => rfl))), ?_⟩
    have hl0 : 0 < xs.length := List.length_pos_iff.mpr hx
    refine ⟨_, rfl, _, rfl, _, rfl, p, xs, rfl, .inl (.inl (.inl hp)), a, _, rfl, by omega, Nat.lt_of_le_of_lt (show ((xs.length : Int)).natAbs ≤ 1000 by omega) (by decide), hd, fun v H' h0 h1 gr => ?_⟩
    obtain ⟨m, rfl⟩ : ∃ m : Nat, v = m := ⟨v.toNat, by omega⟩
    have hi : m < xs.length := by omega
    exact ⟨p, xs, m, xs[m], rfl, rfl, .inl (.inl (gr.st p _ pa hp)), atI_nat (List.getElem?_eq_getElem hi), q _ _ (List.getElem_mem hi) gr⟩
end
end Gl
namespace Gl
open PySem PySem.Spec PyProof.Rows L2
/-! ### data of any shape, with dicts from texts to ints -/
mutual
inductive Dx (K : PySem.W.Frag) (H : Hp) : V → PyData → Prop
  | non : Dx K H .non .none
  | bl (b : Bool) : Dx K H (.bl b) (.bool b)
  | int (i : Int) : Dx K H (.int i) (.int i)
  | str (x : Str) : Dx K H (.str x) (.str x)
  | lst {a : Addr} {xs : List V} {ds : List PyData} : H a = some (.lst xs) → DxAll K H xs ds → Dx K H (.ref a) (.list ds)
  | tup {a : Addr} {xs : List V} {ds : List PyData} : Rd H a (.tup xs) → DxAll K H xs ds → Dx K H (.ref a) (.tuple ds)
  | dk {a : Addr} (ps : List (Str × Int)) : H a = some (.dK (ps.map fun p => (.inr p.1, .int p.2))) → Dx K H (.ref a) (.dict (ps.map fun p => (.str p.1, .int p.2)))
inductive DxAll (K : PySem.W.Frag) (H : Hp) : List V → List PyData → Prop
  | nil : DxAll K H [] []
  | cons {v : V} {vs : List V} {d : PyData} {ds : List PyData} : Dx K H v d → DxAll K H vs ds → DxAll K H (v :: vs) (d :: ds)
end
mutual
def noList : PyData → Bool
  | .list _ => false
  | .tuple xs => noLists xs
  | _ => true
def noLists : List PyData → Bool
  | [] => true
  | x :: xs => noList x && noLists xs
end
section
variable {X : Cx} {pins : List (Addr × Obj)} {σ : L2.St} {H : Hp} {s : Shared}
theorem dict_key {P : Program} {w : World} {h : Heap} : ∀ (ps : List (Str × Int)) (vs : List (Key × Value)) (l : List DictEntry), KV (ps.map fun p => ((Sum.inr p.1 : Key), V.int p.2)) vs → Pairs (mixKind P w) l vs →
    ReadsAll h (l.map (·.key)) ((ps.map fun p => (PyData.str p.1, PyData.int p.2)).map (·.1)) [] ∧ ReadsAll h (l.map (·.val)) ((ps.map fun p => (PyData.str p.1, PyData.int p.2)).map (·.2)) []
  | [], _, _, .nil, .nil => ⟨.nil, .nil⟩
  | p :: ps, (k, v) :: vs, e :: l, .cons ⟨e1, e2⟩ r, .cons h1 h2 h3 => by
    obtain ⟨r1, r2⟩ := dict_key ps vs l r h3
    have e1 : (Sum.inr p.1 : Key) = k := e1
    subst e1
    obtain ⟨t, rfl⟩ : ∃ t, v = Value.int p.2 t := e2
    have h1 : keyIs (.inr p.1) e.key = true := h1
    have h2 : e.val = Value.int p.2 t := h2
    constructor
    · show ReadsAll h (e.key :: l.map (·.key)) (PyData.str p.1 :: _) ([] ++ [])
      refine .cons ?_ r1
      rcases keyIs_shape h1 with ⟨i, u, e3, _⟩ | ⟨x, u, e3, e4⟩
      · exact nomatch e3
      · rw [e4, Sum.inr.inj e3]; exact .str x u
    · show ReadsAll h (e.val :: l.map (·.val)) (PyData.int p.2 :: _) ([] ++ [])
      rw [h2]
      exact .cons (.int _ _) r2
theorem dict_reads (I : Inv X pins σ H s) {a : Addr} {ps : List (Str × Int)} (h : H a = some (.dK (ps.map fun p => (.inr p.1, .int p.2)))) :
    ∃ as, Reads s.heap (.ref a) (.dict (ps.map fun p => (.str p.1, .int p.2))) as ∧ sysModules ∉ as := by
  obtain ⟨_, hs, vs, kv, o, es, ep, g, hx, hd, _, pr, _⟩ := I.hok a _ h
  obtain ⟨k1, k2⟩ := dict_key (h := s.heap) ps vs es.toList kv pr
  refine ⟨[a], .dict (as := []) (bs := []) g hx.1 hd k1 k2, ?_⟩
  intro z
  rw [List.mem_singleton.mp z] at hs
  simp at hs
mutual
theorem Dx.reads (I : Inv X pins σ H s) : ∀ (d : PyData) (v : V) (u : Value), Dx X.K H v d → RelV v u → ∃ as, Reads s.heap u d as ∧ (noList d = true → sysModules ∉ as)
  | .none, _, _, .non, r => by
    cases r
    exact ⟨_, .none, fun _ z => nomatch z⟩
  | .bool b, _, _, .bl _, r => by
    cases r
    exact ⟨_, .bool b, fun _ z => nomatch z⟩
  | .int i, _, _, .int _, r => by
    obtain ⟨t, rfl⟩ := r
    exact ⟨_, .int i t, fun _ z => nomatch z⟩
  | .str x, _, _, .str _, r => by
    obtain ⟨t, rfl⟩ := r
    exact ⟨_, .str x t, fun _ z => nomatch z⟩
  | .list ds, _, _, .lst ha hd, r => by
    cases r
    obtain ⟨_, its, n, ri, g⟩ := I.hok _ _ ha
    obtain ⟨as, R, _⟩ := DxAll.reads I ds _ its hd ri
    exact ⟨_, .list g rfl rfl (by simpa using R), fun z => by simp [noList] at z⟩
  | .tuple ds, _, _, .tup ha hd, r => by
    cases r
    obtain ⟨_, its, ri, o, g, c, n, dt⟩ := ha.ok I.hok
    obtain ⟨as, R, q⟩ := DxAll.reads I ds _ its hd ri
    exact ⟨_, .tuple g c dt (by simpa using R), fun z => q (by simpa only [noList] using z)⟩
  | .dict _, _, _, .dk ps ha, r => by
    cases r
    obtain ⟨as, R, q⟩ := dict_reads I ha
    exact ⟨as, R, fun _ => q⟩
theorem DxAll.reads (I : Inv X pins σ H s) : ∀ (ds : List PyData) (vs : List V) (us : List Value), DxAll X.K H vs ds → Vals vs us → ∃ as, ReadsAll s.heap us ds as ∧ (noLists ds = true → sysModules ∉ as)
  | [], _, _, .nil, .nil => ⟨_, .nil, fun _ z => nomatch z⟩
  | d :: ds, v :: vs, u :: us, .cons h1 h2, .cons r1 r2 => by
    obtain ⟨as, R, q⟩ := Dx.reads I d v u h1 r1
    obtain ⟨bs, R2, q2⟩ := DxAll.reads I ds vs us h2 r2
    refine ⟨_, .cons R R2, fun z m => ?_⟩
    have z' : (noList d && noLists ds) = true := by simpa only [noLists] using z
    have z2 := Bool.and_eq_true_iff.mp z'
    rcases List.mem_append.mp m with y | y
    · exact q z2.1 y
    · exact q2 z2.2 y
end
/-- xs == [] and xs != [], whatever the items are -/
def rNil (b : Bool) (K : PySem.W.Frag) : R2 := fun x y H Q => ∃ p q xs, x = .ref p ∧ y = .ref q ∧ SqL K H p xs ∧ H q = some (.lst []) ∧ Q (.bl (if b then decide (xs = []) else !decide (xs = []))) H
theorem nil_core (I : Inv X pins σ H s) {p q : Addr} {xs : List V} (h1 : SqL X.K H p xs) (h2 : H q = some (.lst [])) :
    ∃ its its2 : Array Value, s.heap.IsList p its ∧ s.heap.IsList q its2 ∧ its2.size = 0 ∧ its.size = xs.length := by
  obtain ⟨its, r, pl, _⟩ := I.list h1
  obtain ⟨_, its2, n, r2, g⟩ := I.hok q _ h2
  have := r2.length
  exact ⟨its.toArray, its2.toArray, pl.isList, ⟨_, g, rfl, _, rfl⟩, by simpa using this.symm, by simpa using r.length.symm⟩
theorem op_eqNil (hu : X.A.units < cLine) : OpR X (compareOp .Eq) (rNil true X.K) := by
  rintro pins s σ H x y v u Q I rx ry ⟨p, q, xs, rfl, rfl, h1, h2, k⟩
  obtain rfl : v = Value.ref p := rx
  obtain rfl : u = Value.ref q := ry
  obtain ⟨i1, i2, l1, l2, z, n⟩ := nil_core I h1 h2
  by_cases e : xs = []
  · refine SeqAt.eq_listAt (e := fun _ => true) l1 l2 (by rw [z, n, e]; rfl) hu (fun j j1 j2 => by omega) ⟨.bl true, H, I, ?_, ?_⟩
    · rw [n, e]; rfl
    · rw [if_pos rfl, decide_eq_true e] at k; exact k
  · refine SeqAt.eq_list_lengthsAt l1 l2 ?_ hu ⟨.bl false, H, I, rfl, ?_⟩
    · rw [z, n]
      have : xs.length ≠ 0 := fun z => e (List.length_eq_zero_iff.mp z)
      simpa using this
    · rw [if_pos rfl, decide_eq_false e] at k; exact k
end
end Gl
namespace Gl
open PySem PySem.Spec PyProof.Rows L2
abbrev sWhole : Stmt := topS 3
abbrev sWholes : Stmt := topS 4
abbrev sIndex : Stmt := topS 5
theorem scWhole : FnScope ["value"] ["value"] (defScope sWhole) := ⟨rfl, rfl, rfl, by decide +kernel, rfl, by decide +kernel, by decide +kernel⟩
theorem scWholes : FnScope ["value", "many", "one"] ["value", "many"] (defScope sWholes) := ⟨rfl, rfl, rfl, by decide +kernel, rfl, by decide +kernel, by decide +kernel⟩
theorem scIndex : FnScope ["value", "many"] ["value", "many"] (defScope sIndex) := ⟨rfl, rfl, rfl, by decide +kernel, rfl, by decide +kernel, by decide +kernel⟩
/-! ### the answers as plain functions -/
def tyName : PyData → String
  | .none => "NoneType"
  | .bool _ => "bool"
  | .int _ => "int"
  | .str _ => "str"
  | .list _ => "list"
  | .tuple _ => "tuple"
  | .dict _ => "dict"
def wholeB : PyData → Bool
  | .int _ => true
  | _ => false
def wholesB (d : PyData) (n : Int) : Bool := match d with
  | .tuple ds => decide ((ds.length : Int) = n) && ds.all wholeB
  | _ => false
theorem room1000 {n : Nat} (h : n ≤ 100000) : n < sizeLine := Nat.lt_of_le_of_lt h (by decide)
/-- texts of at most 1000 signs, tuples of at most 1000 things -/
def Short : PyData → Prop
  | .tuple ds => ds.length ≤ 1000 ∧ True
  | _ => True
theorem DxAll.get {K : PySem.W.Frag} {H : Hp} : ∀ {xs : List V} {ds : List PyData} {i : Nat} {v : V}, DxAll K H xs ds → xs[i]? = some v → ∃ d, ds[i]? = some d ∧ Dx K H v d
  | _, _, _, _, .nil, e => by simp at e
  | _, _, 0, _, .cons h _, e => by simp at e; subst e; exact ⟨_, rfl, h⟩
  | _, _, i + 1, _, .cons _ t, e => DxAll.get (i := i) t (by simpa using e)
theorem DxAll.length {K : PySem.W.Frag} {H : Hp} : ∀ {xs : List V} {ds : List PyData}, DxAll K H xs ds → xs.length = ds.length
  | _, _, .nil => rfl
  | _, _, .cons _ t => congrArg (· + 1) (DxAll.length t)
mutual
theorem Dx.ex {K : PySem.W.Frag} {H H' : Hp} (e : Ex H H') : ∀ {v : V} {d : PyData}, Dx K H v d → Dx K H' v d
  | _, _, .non => .non
  | _, _, .bl b => .bl b
  | _, _, .int i => .int i
  | _, _, .str x => .str x
  | _, _, .lst h t => .lst (e _ _ h) (DxAll.ex e t)
  | _, _, .tup h t => .tup (e.rd h) (DxAll.ex e t)
  | _, _, .dk ps h => .dk ps (e _ _ h)
theorem DxAll.ex {K : PySem.W.Frag} {H H' : Hp} (e : Ex H H') : ∀ {v : List V} {d : List PyData}, DxAll K H v d → DxAll K H' v d
  | _, _, .nil => .nil
  | _, _, .cons h t => .cons (Dx.ex e h) (DxAll.ex e t)
end
theorem tyx {K : PySem.W.Frag} {H : Hp} {v : V} {d : PyData} (h : Dx K H v d) : TyX K H v (.type (tyName d)) := by
  cases h with
  | non => exact .base .non
  | bl b => exact .base (.bl b)
  | int i => exact .base (.int i)
  | str x => exact .base (.str x)
  | lst h _ => exact .base (.lst h)
  | tup h _ =>
    rcases h with h | ⟨o, h⟩
    · exact .base (.tup h)
    · exact .fTuple h
  | dk ps h => exact .base (.dK h)
abbrev tys : List String := ["NoneType", "bool", "int", "str", "list", "tuple", "dict"]
theorem tyName_in (d : PyData) : tyName d ∈ tys := by cases d <;> simp [tyName]
theorem isInt (d : PyData) : L2.kitB (tyName d) "int" = some (tyName d == "int" || tyName d == "bool") := (show ∀ t ∈ tys, L2.kitB t "int" = some (t == "int" || t == "bool") by decide +kernel) _ (tyName_in d)
theorem isBool (d : PyData) : L2.kitB (tyName d) "bool" = some (tyName d == "bool") := (show ∀ t ∈ tys, L2.kitB t "bool" = some (t == "bool") by decide +kernel) _ (tyName_in d)
theorem isTup (d : PyData) : L2.kitB (tyName d) "tuple" = some (tyName d == "tuple") := (show ∀ t ∈ tys, L2.kitB t "tuple" = some (t == "tuple") by decide +kernel) _ (tyName_in d)
/-- what is known of the class, as a type -/
structure ClsT (K : PySem.W.Frag) (C : Addr) : Prop where
  c : Cls K C
  t1 : PySem.W.findIn K (.ref C) "__class__" = some (some (.builtin "object.__class__"))
  t2 : PySem.W.specialIn K (.builtin "object.__class__") "__get__" = some (some (.builtin "getset_descriptor.__get__"))
  t3 : PySem.W.takesIn K (.builtin "object.__class__") = some true
  t4 : PySem.W.mroIn K C (.type "object") = some true
  ki : PySem.W.kitOne K (.ref C) (.type "int") = some false
  kt : PySem.W.kitOne K (.ref C) (.type "tuple") = some false
/-- data, or an instance of the class, which is neither an int nor a tuple and counts as none here -/
inductive Od (K : PySem.W.Frag) (H : Hp) : V → PyData → Prop
  | dx {v : V} {d : PyData} : Dx K H v d → Od K H v d
  | ins {a C dx : Addr} {fs : List (Str × V)} : H a = some (.ins C dx fs) → ClsT K C → Od K H (.ref a) .none
theorem Od.ex {K : PySem.W.Frag} {H H' : Hp} (e : Ex H H') {v : V} {d : PyData} (h : Od K H v d) : Od K H' v d := by
  cases h with
  | dx h => exact .dx (h.ex e)
  | ins h a => exact .ins (e _ _ h) a
section
variable {P : Program} {w : World} {K : PySem.W.Frag} {mg : Str → Option Value} {base : Heap}
structure Df (P : Program) (w : World) (K : PySem.W.Frag) (mg : Str → Option Value) (base : Heap) (k : Nat) (x : Str) (ps : List Str) (sp : Sp) where
  f : Addr
  fd : FuncData
  G : FnOk P w K mg base CX0 k f fd ps sp
  g : mg x = some (.ref f)
  kp : PySem.W.keepIn K (.ref f) = true
  b : Binds K fd ps []
structure DfG (P : Program) (w : World) (K : PySem.W.Frag) (mg : Str → Option Value) (base : Heap) (k : Nat) (x : Str) (ps : List Str) (sp : Sp) where
  f : Addr
  fd : FuncData
  G : FnG P w K mg base CX0 k f fd ps sp
  g : mg x = some (.ref f)
  kp : PySem.W.keepIn K (.ref f) = true
  b : Binds K fd ps []
def spWhole (K : PySem.W.Frag) : Sp := fun vs H Q _ => ∃ v d, vs = [v] ∧ Od K H v d ∧ Q (.bl (wholeB d)) H
theorem ok_whole {f : Addr} {fd : FuncData} (F : Fun K "is_whole" "is_whole" sWhole f fd) (T : Blt mg) : FnOk P w K mg base CX0 1 f fd ["value"] (spWhole K) := by
  refine F.ok scWhole (fun vs H Q E h => ?_) (fun cdv A outer s H vs Q E hr h => ?_)
  · obtain ⟨v, d, rfl, _⟩ := h
    rfl
  · obtain ⟨v, d, rfl, hd, q⟩ := h
    refine ⟨_, pss_one (ps_ret (pe_and (pe_callB call_isi (by rfl) T.isinstance (by decide +kernel) (pa_cons (pv 0) (pa_cons (pe_bltn (v := .ty "int") (by rfl) T.int (by decide +kernel) rfl) pa_nil)))
      (pe_one (pe_not (pe_callB call_isi (by rfl) T.isinstance (by decide +kernel) (pa_cons (pv 0) (pa_cons (pe_bltn (v := .ty "bool") (by rfl) T.bool (by decide +kernel) rfl) pa_nil))))))), ?_⟩
    rcases hd with hd | ⟨hd, z⟩
    case ins => exact ⟨_, rfl, _, _, _, _, _, rfl, .ty _, .base (.ins hd z.c z.t1 z.t2 z.t3 z.t4), z.ki, false, rfl, q⟩
    refine ⟨_, rfl, _, _, _, _, _, rfl, .ty _, tyx hd, kit_ty (isInt d), _, rfl, ?_⟩
    cases d with
    | bool b => exact ⟨_, rfl, _, _, _, _, _, rfl, .ty _, tyx hd, kit_ty (isBool _), true, rfl, q⟩
    | int i => exact ⟨_, rfl, _, _, _, _, _, rfl, .ty _, tyx hd, kit_ty (isBool _), false, rfl, q⟩
    | none => exact q
    | str x => exact q
    | list xs => exact q
    | tuple xs => exact q
    | dict xs => exact q
def spWholes (K : PySem.W.Frag) : Sp := fun vs H Q _ => ∃ v d n, vs = [v, .int n] ∧ Od K H v d ∧ Short d ∧ ∀ H', Ex H H' → Q (.bl (wholesB d n)) H'
theorem take_all {α : Type} {f : α → Bool} {l : List α} {i : Nat} {x : α} (h : l[i]? = some x) : (l.take (i + 1)).map f = (l.take i).map f ++ [f x] := by
  rw [List.take_add_one, h, List.map_append]
  rfl
theorem all_id {α : Type} (f : α → Bool) (l : List α) : (l.map f).all id = l.all f := by
  rw [List.all_map]
  rfl
theorem ok_wholes {f : Addr} {fd : FuncData} (F : Fun K "are_whole" "are_whole" sWholes f fd) (T : Blt mg) (W : Df P w K mg base 1 "is_whole" ["value"] (spWhole K)) : FnOk P w K mg base CX0 2 f fd ["value", "many"] (spWholes K) := by
  refine F.ok scWholes (fun vs H Q E h => ?_) (fun cdv A outer s H vs Q E hr h => ?_)
  · obtain ⟨v, d, n, rfl, _⟩ := h
    rfl
  · obtain ⟨v, d, n, rfl, hd, sh, q⟩ := h
    have nd := scWholes.nd
    refine ⟨_, pss_one (ps_ret (pe_and (pe_callB call_isi (by rfl) T.isinstance (by decide +kernel) (pa_cons (pv 0) (pa_cons (pe_bltn (v := .ty "tuple") (by rfl) T.tuple (by decide +kernel) rfl) pa_nil)))
      (pe_and (pe_cmpR op_eq (pe_callB call_len_seq (by rfl) T.len PySem.boot_len (pa_cons (pv 0) pa_nil)) (pv 1) (nomark _))
      (pe_one (pe_callB (cr_all rfl) (by rfl) T.all (by decide +kernel) (pa_cons (pe_lc (own := [("one", 2)]) (g := gName 2) (tt := tYes) rfl nd (pi_tup (pv 0)) (blkOk_by (N := ["value", "many", "one"]) (sc := defScope sWholes) (by decide +kernel)) (fun _ _ _ _ _ => pg_name (i := 2) nd rfl (.inl rfl)) (fun _ _ _ _ _ => pts_nil)
        (fun _ _ _ _ _ => pe_call W.G hr (by rfl) W.g W.kp W.b .nil pass0 (pa_cons (pv 2) pa_nil))) pa_nil)))))), ?_⟩
    rcases hd with hd | ⟨hd, z⟩
    case ins => exact ⟨_, rfl, _, _, _, _, _, rfl, .ty _, .base (.ins hd z.c z.t1 z.t2 z.t3 z.t4), z.kt, false, rfl, q _ (Ex.refl H)⟩
    refine ⟨_, rfl, _, _, _, _, _, rfl, .ty _, tyx hd, kit_ty (isTup d), _, rfl, ?_⟩
    cases hd with
    | non => exact q _ (Ex.refl H)
    | bl b => exact q _ (Ex.refl H)
    | int i => exact q _ (Ex.refl H)
    | str x => exact q _ (Ex.refl H)
    | lst _ _ => exact q _ (Ex.refl H)
    | dk _ _ => exact q _ (Ex.refl H)
    | @tup p xs ds hp ha =>
      have ln := ha.length
      have q : ∀ H', Ex H H' → Q (.bl (decide ((ds.length : Int) = n) && ds.all wholeB)) H' := q
      refine ⟨_, rfl, p, _, rfl, .inr (.inl hp), _, rfl, rfl, _, rfl, ?_⟩
      by_cases e : (ds.length : Int) = n
      · rw [decide_eq_true (show V.int (xs.length : Int) = V.int n by rw [ln, e])]
        refine ⟨_, rfl, p, rfl, ⟨_, .inl hp⟩, fun D nD => lc_tup (xs := xs) (fun i H' => Ex H H' ∧ H' D = some (.lst (((ds.take i).map wholeB).map V.bl)))
          ⟨Ex.new nD, upd_same⟩ (fun i H' _ h => .inl (h.1.rd hp)) (fun i x H' hx h => ?_) (fun H' h => ?_)⟩
        · obtain ⟨ex, eD⟩ := h
          obtain ⟨d1, hd1, hx1⟩ := ha.get hx
          refine ⟨rfl, _, rfl, x, d1, rfl, .dx (hx1.ex ex), _, eD, ?_, ex.mut nD, ?_⟩
          · rw [List.length_map, List.length_map, List.length_take]
            have := sh.1
            exact room1000 (by omega)
          · rw [upd_same, take_all hd1, List.map_append]
            rfl
        · obtain ⟨ex, eD⟩ := h
          rw [ln, List.take_length] at eD
          refine ⟨D, _, rfl, .inl (.inl eD), ?_⟩
          rw [all_id]
          have := q _ ex
          rw [decide_eq_true e, Bool.true_and] at this
          exact this
      · rw [decide_eq_false (show ¬ V.int (xs.length : Int) = V.int n from fun z => e (by rw [← ln]; exact V.int.inj z))]
        have := q _ (Ex.refl H)
        rw [decide_eq_false e, Bool.false_and] at this
        exact this
def spIndex : Sp := fun vs H Q _ => ∃ i n : Int, vs = [.int i, .int n] ∧ 0 ≤ i ∧ i < n ∧ Q (.bl true) H
theorem ok_index {f : Addr} {fd : FuncData} (F : Fun K "is_index" "is_index" sIndex f fd) (T : Blt mg) (W : Df P w K mg base 1 "is_whole" ["value"] (spWhole K)) : FnOk P w K mg base CX0 2 f fd ["value", "many"] spIndex := by
  refine F.ok scIndex (fun vs H Q E h => ?_) (fun cdv A outer s H vs Q E hr h => ?_)
  · obtain ⟨i, n, rfl, _⟩ := h
    rfl
  · obtain ⟨i, n, rfl, h0, h1, q⟩ := h
    refine ⟨_, pss_one (ps_ret (pe_and (pe_call W.G hr (by rfl) W.g W.kp W.b .nil pass0 (pa_cons (pv 0) pa_nil)) (pe_one (pe_chain op_le op_lt pe_int (pv 0) (pv 1))))), ?_⟩
    refine ⟨_, rfl, _, .int i, rfl, .dx (.int i), true, rfl, ?_⟩
    refine ⟨_, rfl, _, _, rfl, rfl, decide (0 ≤ i), rfl, ?_⟩
    rw [decide_eq_true h0]
    refine ⟨_, rfl, _, _, rfl, rfl, ?_⟩
    show Q (.bl (decide (i < n))) H
    rw [decide_eq_true h1]
    exact q
end
end Gl
namespace Gl
/-! the order of amounts: greater ones first, equal ones in their order -/
section
variable {α : Type} (lt : α → α → Prop) [DecidableRel lt] [DecidableEq α]
/-- x stands ahead of y -/
def Bef (k : Nat → α) (x y : Nat) : Prop := lt (k y) (k x) ∨ (k x = k y ∧ x < y)
instance (k : Nat → α) (x y : Nat) : Decidable (Bef lt k x y) := inferInstanceAs (Decidable (_ ∨ _))
variable {lt} {k : Nat → α}
/-- the indices below i, in this order -/
structure Ord (k : Nat → α) (i : Nat) (o : List Nat) : Prop where
  pw : o.Pairwise (Bef lt k)
  pm : o.Perm (List.range i)
theorem Ord.nil : Ord (lt := lt) k 0 [] := ⟨List.Pairwise.nil, List.Perm.refl _⟩
theorem Ord.length {i : Nat} {o : List Nat} (h : Ord (lt := lt) k i o) : o.length = i := by
  rw [h.pm.length_eq, List.length_range]
theorem Ord.has {i x : Nat} {o : List Nat} (h : Ord (lt := lt) k i o) (l : x < i) : ∃ j : Nat, o[j]? = some x := List.getElem?_of_mem (h.pm.mem_iff.mpr (List.mem_range.mpr l))
end
end Gl
namespace Gl
open PySem PySem.Spec PyProof.Rows L2
/-- a fraction in lowest terms -/
structure Low (p q : Nat) : Prop where
  p0 : 0 < p
  q0 : 0 < q
  co : Nat.gcd p q = 1
abbrev Odds := { x : Nat × Nat // Low x.1 x.2 }
theorem low_eq {p q r s : Nat} (a : Low p q) (b : Low r s) (e : p * s = r * q) : p = r ∧ q = s := by
  have h1 : p ∣ r := (Nat.Coprime.dvd_of_dvd_mul_right (show Nat.Coprime p q from a.co) ⟨s, e.symm⟩)
  have h2 : r ∣ p := (Nat.Coprime.dvd_of_dvd_mul_right (show Nat.Coprime r s from b.co) ⟨q, e⟩)
  have h3 : p = r := Nat.dvd_antisymm h1 h2
  subst h3
  exact ⟨rfl, (Nat.eq_of_mul_eq_mul_left a.p0 e).symm⟩
/-- divided by the greatest divisor -/
theorem low_div {p q : Nat} (hp : 0 < p) (hq : 0 < q) : Low (p / Nat.gcd p q) (q / Nat.gcd p q) :=
  have g0 : 0 < Nat.gcd p q := Nat.gcd_pos_of_pos_left _ hp
  ⟨Nat.div_pos (Nat.le_of_dvd hp (Nat.gcd_dvd_left ..)) g0, Nat.div_pos (Nat.le_of_dvd hq (Nat.gcd_dvd_right ..)) g0, by rw [Nat.gcd_div (Nat.gcd_dvd_left ..) (Nat.gcd_dvd_right ..), Nat.div_self g0]⟩
end Gl
namespace Gl
open PySem PySem.Spec PyProof.Rows L2
/-- an amount of any scale -/
inductive Am
  | n (i : Int)
  | c (ns : List Int)
  | o (x : Odds)
deriving DecidableEq
/-- a scale, as the law has it -/
inductive Ms
  | sums
  | classes (n : Nat)
  | odds
deriving DecidableEq
def Ms.word : Ms → Str
  | .sums => "sums"
  | .classes _ => "classes"
  | .odds => "odds"
def Ms.size : Ms → Nat
  | .classes n => n
  | _ => 1
def Ms.ok : Ms → Prop
  | .classes n => 1 ≤ n ∧ n ≤ 4
  | _ => True
/-- an amount of this scale -/
def Ms.has : Ms → Am → Prop
  | .sums, .n _ => True
  | .classes k, .c ns => ns.length = k
  | .odds, .o _ => True
  | _, _ => False
def one1 : Odds := ⟨(1, 1), by decide, by decide, by decide⟩
def Ms.zero : Ms → Am
  | .sums => .n 0
  | .classes k => .c (List.replicate k 0)
  | .odds => .o one1
theorem Ms.zero_has (m : Ms) : m.has m.zero := by
  cases m with
  | sums => trivial
  | classes k => exact List.length_replicate
  | odds => trivial
def Am.data : Am → PyData
  | .n i => .int i
  | .c ns => .tuple (ns.map PyData.int)
  | .o x => .tuple [.int (x.1.1 : Nat), .int (x.1.2 : Nat)]
/-- an amount, in the heap -/
def AmV (H : Hp) (v : V) : Am → Prop
  | .n i => v = .int i
  | .c ns => ∃ p, v = .ref p ∧ Rd H p (.tup (ns.map V.int))
  | .o x => ∃ p, v = .ref p ∧ Rd H p (.tup [.int (x.1.1 : Nat), .int (x.1.2 : Nat)])
end Gl
namespace Gl
open PySem PySem.Spec PyProof.Rows L2
abbrev sPart : Stmt := topS 29
abbrev sLowest : Stmt := topS 30
abbrev sAreOdds : Stmt := topS 31
theorem scPart : FnScope ["value"] ["value"] (defScope sPart) := ⟨rfl, rfl, rfl, by decide +kernel, rfl, by decide +kernel, by decide +kernel⟩
theorem scLowest : FnScope ["value"] ["value"] (defScope sLowest) := ⟨rfl, rfl, rfl, by decide +kernel, rfl, by decide +kernel, by decide +kernel⟩
theorem scAreOdds : FnScope ["right", "wrong"] ["right", "wrong"] (defScope sAreOdds) := ⟨rfl, rfl, rfl, by decide +kernel, rfl, by decide +kernel, by decide +kernel⟩
def big40 : Int := (10 : Int) ^ (40 : Int).toNat
theorem cpw40 : CPw 10 40 := ⟨by decide, by decide +kernel⟩
/-- the answers -/
def partB : PyData → Bool
  | .int i => decide (0 ≤ i) && decide (i < big40)
  | _ => false
def lowB : PyData → Bool
  | .tuple [.int a, .int b] => decide (0 < a) && (decide (0 < b) && decide (Nat.gcd a.natAbs b.natAbs = 1))
  | _ => false
def oddsB (a b : Int) : Bool := decide (a ≤ 1000000) && decide (b < a)
section
variable {P : Program} {w : World} {K : PySem.W.Frag} {mg : Str → Option Value} {base : Heap}
theorem iteT {A B : Prop} (h : A) : if true = true then A else B := by rw [if_pos rfl]; exact h
theorem iteF {A B : Prop} (h : B) : if false = true then A else B := by rw [if_neg Bool.false_ne_true]; exact h
def spPart (K : PySem.W.Frag) : Sp := fun vs H Q _ => ∃ v d, vs = [v] ∧ Od K H v d ∧ Q (.bl (partB d)) H
theorem ok_part {f : Addr} {fd : FuncData} (F : Fun K "_is_part" "_is_part" sPart f fd) (W : Df P w K mg base 1 "is_whole" ["value"] (spWhole K)) : FnOk P w K mg base CX0 2 f fd ["value"] (spPart K) := by
  refine F.ok scPart (fun vs H Q E h => ?_) (fun cdv A outer s H vs Q E hr h => ?_)
  · obtain ⟨v, d, rfl, _⟩ := h
    rfl
  · obtain ⟨v, d, rfl, hd, q⟩ := h
    refine ⟨_, pss_one (ps_ret (pe_and (pe_call W.G hr (by rfl) W.g W.kp W.b .nil pass0 (pa_cons (pv 0) pa_nil)) (pe_one (pe_chain op_le op_lt pe_int (pv 0) (pe_op op_powW pe_int pe_int))))), ?_⟩
    refine ⟨_, rfl, _, d, rfl, hd, _, rfl, ?_⟩
    cases d with
    | int i =>
      rcases hd with hd | _
      cases hd
      refine ⟨_, rfl, _, _, rfl, rfl, decide (0 ≤ i), rfl, ?_⟩
      by_cases z : 0 ≤ i
      · rw [decide_eq_true z]
        refine ⟨_, _, rfl, rfl, cpw40, _, _, rfl, rfl, ?_⟩
        have q' := q
        simp only [partB, decide_eq_true z, Bool.true_and] at q'
        exact q'
      · rw [decide_eq_false z]
        have q' := q
        simp only [partB, decide_eq_false z, Bool.false_and] at q'
        exact q'
    | none => exact q
    | bool b => exact q
    | str x => exact q
    | list xs => exact q
    | tuple xs => exact q
    | dict xs => exact q
def spAreOdds : Sp := fun vs H Q _ => ∃ a b : Int, vs = [.int a, .int b] ∧ Q (.bl (oddsB a b)) H
theorem ok_areOdds {f : Addr} {fd : FuncData} (F : Fun K "_are_odds" "_are_odds" sAreOdds f fd) (ms : ∃ t, mg "MAX_ODDS" = some (.int 1000000 t)) : FnOk P w K mg base CX0 1 f fd ["right", "wrong"] spAreOdds := by
  refine F.ok scAreOdds (fun vs H Q E h => ?_) (fun cdv A outer s H vs Q E hr h => ?_)
  · obtain ⟨a, b, rfl, _⟩ := h
    rfl
  · obtain ⟨a, b, rfl, q⟩ := h
    obtain ⟨t, ms⟩ := ms
    refine ⟨_, pss_one (ps_ret (pe_chain op_ge op_gt (pe_glob (v := .int 1000000) (by rfl) ms ⟨t, rfl⟩) (pv 0) (pv 1))), ?_⟩
    refine ⟨_, rfl, _, _, rfl, rfl, decide (a ≤ 1000000), rfl, ?_⟩
    unfold oddsB at q
    by_cases z : a ≤ 1000000
    · rw [decide_eq_true z] at q ⊢
      rw [Bool.true_and] at q
      exact ⟨_, rfl, _, _, rfl, rfl, q⟩
    · rw [decide_eq_false z] at q ⊢
      exact q
theorem wholes_two {d : PyData} (h : wholesB d 2 = true) : ∃ a b, d = .tuple [.int a, .int b] := by
  cases d with
  | tuple ds =>
    simp only [wholesB, Bool.and_eq_true, decide_eq_true_eq] at h
    obtain ⟨l, h⟩ := h
    match ds, l, h with
    | [x, y], _, h =>
      simp only [List.all_cons, List.all_nil, Bool.and_true, Bool.and_eq_true] at h
      obtain ⟨hx, hy⟩ := h
      cases x <;> first | cases hx; done | skip
      cases y <;> first | cases hy; done | skip
      exact ⟨_, _, rfl⟩
    | [], l, _ => simp at l
    | [_], l, _ => simp at l
    | _ :: _ :: _ :: _, l, _ => simp only [List.length_cons] at l; omega
  | _ => cases h
theorem low_not {d : PyData} (h : wholesB d 2 = false) : lowB d = false := by
  unfold lowB
  split
  · simp [wholesB, wholeB] at h
  · rfl
def spLowest (K : PySem.W.Frag) : Sp := fun vs H Q _ => ∃ v d, vs = [v] ∧ Od K H v d ∧ Short d ∧ ∀ H', Ex H H' → Q (.bl (lowB d)) H'
theorem ok_lowest {f : Addr} {fd : FuncData} (F : Fun K "_is_lowest" "_is_lowest" sLowest f fd) (hg : mg "gcd" = some (.builtin "math.gcd")) (W : Df P w K mg base 2 "are_whole" ["value", "many"] (spWholes K)) : FnOk P w K mg base CX0 3 f fd ["value"] (spLowest K) := by
  refine F.ok scLowest (fun vs H Q E h => ?_) (fun cdv A outer s H vs Q E hr h => ?_)
  · obtain ⟨v, d, rfl, _⟩ := h
    rfl
  · obtain ⟨v, d, rfl, hd, sh, q⟩ := h
    refine ⟨_, pss_one (ps_ret (pe_and (pe_call W.G hr (by rfl) W.g W.kp W.b .nil pass0 (pa_cons (pv 0) (pa_cons pe_int pa_nil)))
      (pe_and (pe_cmpR op_gt (pe_ix ix_tup (pv 0) pe_int (fun _ _ => rfl)) pe_int (nomark _))
      (pe_and (pe_cmpR op_gt (pe_ix ix_tup (pv 0) pe_int (fun _ _ => rfl)) pe_int (nomark _))
      (pe_one (pe_cmpR op_eq (pe_callBfun cr_gcd (by rfl) hg (pa_cons (pe_ix ix_tup (pv 0) pe_int (fun _ _ => rfl)) (pa_cons (pe_ix ix_tup (pv 0) pe_int (fun _ _ => rfl)) pa_nil))) pe_int (nomark _))))))), ?_⟩
    refine ⟨_, rfl, _, d, 2, rfl, hd, sh, fun H1 e1 => ⟨_, rfl, ?_⟩⟩
    have q := q H1 e1
    cases hw : wholesB d 2 with
    | false =>
      rw [low_not hw] at q
      exact q
    | true =>
      obtain ⟨a, b, rfl⟩ := wholes_two hw
      rcases hd with hd | _
      cases hd with
      | @tup p xs _ hp ha =>
        cases ha with
        | cons h1 ha =>
        cases ha with
        | cons h2 ha =>
        cases ha
        cases h1
        cases h2
        have hp1 : SqT K H1 p [.int a, .int b] := .inl (e1.rd hp)
        simp only [lowB] at q
        refine ⟨_, rfl, p, _, 0, _, rfl, rfl, hp1, rfl, _, _, rfl, rfl, decide (0 < a), rfl, ?_⟩
        by_cases za : 0 < a
        · rw [decide_eq_true za] at q ⊢
          rw [Bool.true_and] at q
          refine ⟨_, rfl, p, _, 1, _, rfl, rfl, hp1, rfl, _, _, rfl, rfl, decide (0 < b), rfl, ?_⟩
          by_cases zb : 0 < b
          · rw [decide_eq_true zb] at q ⊢
            rw [Bool.true_and] at q
            refine ⟨_, rfl, p, _, 0, _, rfl, rfl, hp1, rfl, _, rfl, p, _, 1, _, rfl, rfl, hp1, rfl, _, _, rfl, rfl, ?_⟩
            have g : decide (V.int ((Nat.gcd a.natAbs b.natAbs : Nat) : Int) = V.int 1) = decide (Nat.gcd a.natAbs b.natAbs = 1) := decide_eq_decide.mpr ⟨fun z => by injection z with z; exact Int.natCast_inj.mp z, fun z => by rw [z]; rfl⟩
            rw [g]
            exact q
          · rw [decide_eq_false zb] at q ⊢
            exact q
        · rw [decide_eq_false za] at q ⊢
          exact q
end
end Gl
namespace Gl
open PySem PySem.Spec PyProof.Rows L2
abbrev sLowL : Stmt := topS 44
theorem scLowL : FnScope ["_law_top", "_law_bottom", "_law_one", "_law_other"] ["_law_top", "_law_bottom"] (defScope sLowL) := ⟨rfl, rfl, rfl, by decide +kernel, rfl, by decide +kernel, by decide +kernel⟩
section
variable {P : Program} {w : World} {K : PySem.W.Frag} {mg : Str → Option Value} {base : Heap}
def oddV (x : Odds) : List V := [.int (x.1.1 : Nat), .int (x.1.2 : Nat)]
def spLowL : Sp := fun vs H Q _ => ∃ a b : Nat, vs = [.int a, .int b] ∧ 0 < a ∧ 0 < b ∧ a < 2 ^ 190 ∧ b < 2 ^ 190 ∧ ∀ (p : Addr) H' (h : Low (a / Nat.gcd a b) (b / Nat.gcd a b)), Ex H H' → H p = none → Rd H' p (.tup (oddV ⟨(a / Nat.gcd a b, b / Nat.gcd a b), h⟩)) → Q (.ref p) H'
theorem ok_lowL {f : Addr} {fd : FuncData} (F : Fun K "_law_lowest" "_law_lowest" sLowL f fd) (T : Blt mg) : FnG P w K mg base CX0 1 f fd ["_law_top", "_law_bottom"] spLowL := by
  refine okG F scLowL (fun vs H Q E h => ?_) (fun cdv A outer s H vs Q E hr h => ?_)
  · obtain ⟨a, b, rfl, _⟩ := h
    rfl
  · obtain ⟨a, b, rfl, ha, hb, la, lb, q⟩ := h
    have nd := scLowL.nd
    refine ⟨_, pss_cons (ps_par (i := 2) (j := 3) rfl nd rfl rfl (by decide) rfl rfl (pa_cons (pv 0) (pa_cons (pv 1) pa_nil)) (by rfl))
      (pss_cons (ps_while PassesOwn.never (pt_cmpR op_gt (pv 3) pe_int (nomark _)) (pss_one (ps_par (i := 2) (j := 3) rfl nd rfl rfl (by decide) rfl rfl (pa_cons (pv 3) (pa_cons (pe_op op_mod (pe_callTy call_int1 (by rfl) T.int (by decide +kernel) (pa_cons (pv 2) pa_nil)) (pv 3)) pa_nil)) (by rfl))))
      (pss_one (ps_ret (pe_tup (pa_cons (pe_op op_fdivW (pv 0) (pv 2)) (pa_cons (pe_op op_fdivW (pv 1) (pv 2)) pa_nil)))))), ?_⟩
    refine ⟨_, rfl, _, rfl, _, _, rfl, ?_⟩
    refine ⟨fun m σ H' => ∃ u v : Nat, σ = [some (.int a), some (.int b), some (.int u), some (.int v)] ∧ H' = H ∧ v = m ∧ Nat.gcd u v = Nat.gcd a b ∧ 0 < u ∧ u < 2 ^ 190 ∧ v < 2 ^ 190, ⟨b, a, b, rfl, rfl, rfl, rfl, ha, la, lb⟩, fun m σ H' h => ?_⟩
    obtain ⟨u, v, rfl, rfl, rfl, g, u0, ul, vl⟩ := h
    refine ⟨_, rfl, _, _, rfl, rfl, _, rfl, ?_⟩
    by_cases z : v = 0
    · subst z
      rw [decide_eq_false (show ¬ (0 : Int) < ((0 : Nat) : Int) by omega)]
      refine iteF ?_
      rw [Nat.gcd_zero_right] at g
      subst g
      refine ⟨_, rfl, _, rfl, _, _, rfl, rfl, wide_div (by omega) (show ((Nat.gcd a b : Nat) : Int).natAbs < 2 ^ 190 by rw [Int.natAbs_natCast]; exact ul) (by decide) (by decide), _, rfl, _, rfl, _, _, rfl, rfl, wide_div (by omega) (show ((Nat.gcd a b : Nat) : Int).natAbs < 2 ^ 190 by rw [Int.natAbs_natCast]; exact ul) (by decide) (by decide), by show 2 ≤ sizeLine; decide, fun p np => ?_⟩
      exact q p _ (low_div ha hb) (Ex.new np) np (.inl (by rw [upd_same]; rfl))
    · rw [decide_eq_true (show (0 : Int) < (v : Int) by omega)]
      refine iteT ?_
      refine ⟨fun σ' H'' => σ' = [some (.int a), some (.int b), some (.int v), some (.int (u % v : Nat))] ∧ H'' = H', fun σ' H'' h => ?_, ?_⟩
      · obtain ⟨rfl, rfl⟩ := h
        refine ⟨u % v, Nat.mod_lt _ (by omega), v, u % v, rfl, rfl, rfl, ?_, by omega, by omega, Nat.lt_trans (Nat.mod_lt _ (by omega)) vl⟩
        rw [← g, Nat.gcd_comm u v, Nat.gcd_rec v u, Nat.gcd_comm]
      · refine ⟨_, rfl, _, rfl, .inl ⟨_, rfl, _, rfl, _, _, rfl, rfl, (show (0 : Int) < v by omega), _, _, rfl, rfl, rfl⟩⟩
end
end Gl
namespace Gl
open PySem PySem.Spec PyProof.Rows L2
/-- tuple * 1: the tuple itself -/
theorem tuple_mul1 (l : Addr) (items : Array Value) (n : Nat) (dd : Option Addr) (sl : Array (Option Value)) (u : Tok) :
    Meets (Builtin.«tuple.__mul__» ⟨[.ref l, .int 1 u], []⟩) (fun _ R s => s.heap.get? l = some { cls := .type "tuple", dict := dd, data := .seq items n, slots := sl } ∧
      R (.ok (.ret (Value.ref l))) s) :=
  .of_wp fun prog w A R s h => by
    obtain ⟨hp, g, d, tk, os⟩ := s
    obtain ⟨hl, h⟩ := h
    have f1 := AutoSeq1.idx_int
    have c1 : (items.isEmpty || (1 : Int) == 1) = true := by rw [show ((1 : Int) == 1) = true from rfl, Bool.or_true]
    have c0 : (decide ((1 : Int) < -(2 ^ 63)) || decide ((1 : Int) ≥ 2 ^ 63)) = false := by decide
    wp_walk using wpAny_loadPart' hl
    exact ⟨_, rfl, h⟩
def rRepT1 (K : PySem.W.Frag) : R2 := fun x y H Q => ∃ l xs, x = .ref l ∧ y = .int 1 ∧ SqT K H l xs ∧ Q (.ref l) H
section
variable {X : Cx}
theorem op_repT1 : OpR X (binaryOp .Mult) (rRepT1 X.K) := by
  intro pins s σ H x y v u Q I rx ry h
  obtain ⟨l, xs, rfl, rfl, hT, q⟩ := h
  cases rx
  obtain ⟨t, rfl⟩ := ry
  obtain ⟨its, r, ⟨⟨cls, dd, data, sl⟩, ho, hc, n, hd⟩, hs⟩ := I.tuple hT
  simp only at hc hd
  subst hc hd
  refine wpAny_binaryOp_repeat_ref (T := "tuple") (U := "int") (by decide) ⟨_, ho, rfl⟩ (fun s' => typeIs_int s' 1 t) noFill_tuple_mul F.fills_int_mul F.slot_int_rmul repeat_tuple F.slot_int_index.lookup
    (call_meets F.slot_int_rmul (typeIs_int s 1 t) F.entry_int_rmul (F.args_int_rmul_2 _ _) (int_rmul_tuple 1 t l its.toArray n dd sl)
      ⟨ho, rfl, ⟨_, ho, rfl⟩, call_meets F.slot_tuple_mul ⟨_, ho, rfl⟩ F.entry_tuple_mul (F.args_tuple_mul_2 _ _) (tuple_mul1 l its.toArray n dd sl t) ⟨ho, ?_⟩⟩)
  exact ⟨.ref l, H, I, rfl, q⟩
end
end Gl
namespace Gl
open PySem PySem.Spec PyProof.Rows L2
abbrev sScaleL : Stmt := topS 43
theorem scScaleL : FnScope ["_law_dice_here"] ["_law_dice_here"] (defScope sScaleL) := ⟨rfl, rfl, rfl, by decide +kernel, rfl, by decide +kernel, by decide +kernel⟩
/-- the pair (word, size) -/
def MsV (H : Hp) (p : Addr) (m : Ms) : Prop := Rd H p (.tup [.str m.word, .int (m.size : Nat)])
/-- parts that fit a product -/
def Am.wide : Am → Prop
  | .o x => x.1.1 < 2 ^ 2000 ∧ x.1.2 < 2 ^ 2000
  | _ => True
theorem cmulW {a b : Nat} (h1 : a < 2 ^ 2000) (h2 : b < 2 ^ 2000) : CMulW a b := by
  unfold CMulW
  rw [Int.natAbs_natCast, Int.natAbs_natCast]
  have l : ∀ n : Nat, n < 2 ^ 2000 → n.log2 < 2001 := fun n h => by
    by_cases z : n = 0
    · subst z; decide
    · have := (Nat.log2_lt z).mpr h
      omega
  have := l a h1
  have := l b h2
  omega
theorem word_odds (m : Ms) : decide (V.str m.word = V.str "odds") = decide (m = .odds) := by
  cases m with
  | sums => decide +kernel
  | classes k =>
    rw [decide_eq_false (fun z => nomatch z)]
    exact (show decide (V.str "classes" = V.str "odds") = false by decide +kernel)
  | odds => decide +kernel
section
variable {P : Program} {w : World} {K : PySem.W.Frag} {mg : Str → Option Value} {base : Heap}
def spScaleL : Sp := fun vs H Q _ => ∃ a : Addr, vs = [.ref a] ∧ Dice H a ∧ ∀ (m : Ms) p H', m.ok → Gro a H H' → MsV H' p m → Q (.ref p) H'
theorem ok_scaleL {f : Addr} {fd : FuncData} (F : Fun K "_law_scale" "_law_scale" sScaleL f fd) (D : Dc P w K mg base) : FnG P w K mg base CX0 2 f fd ["_law_dice_here"] spScaleL := by
  refine okG F scScaleL (fun vs H Q E h => ?_) (fun cdv A outer s H vs Q E hr h => ?_)
  · obtain ⟨a, rfl, _⟩ := h
    rfl
  · obtain ⟨a, rfl, hd, q⟩ := h
    refine ⟨_, pss_one (ps_ret (pe_ix ix_list (pe_lst (pa_cons (pe_tup (pa_cons pe_str (pa_cons pe_int pa_nil))) (pa_cons (pe_tup (pa_cons pe_str (pa_cons (pe_op op_add pe_int (pe_callG D.G hr (by rfl) D.g D.kp D.b .nil pass0 (pa_cons (pv 0) (pa_cons pe_int pa_nil)))) pa_nil))) (pa_cons (pe_tup (pa_cons pe_str (pa_cons pe_int pa_nil))) pa_nil))))
      (pe_callG D.G hr (by rfl) D.g D.kp D.b .nil pass0 (pa_cons (pv 0) (pa_cons pe_int pa_nil))) (fun _ _ => rfl))), ?_⟩
    have s2 : 2 ≤ sizeLine := by decide
    refine ⟨s2, fun t1 n1 => ⟨_, rfl, a, 4, rfl, by decide, by decide, (Ex.new n1).dice hd, fun v H1 v0 v1 g1 => ?_⟩⟩
    have x1 := Ex.new (o := .tup [.str "sums", .int 1]) n1
    obtain ⟨n, rfl⟩ : ∃ n : Nat, v = n := ⟨v.toNat, by omega⟩
    have gA := (Gro.of x1 hd).trans g1
    refine ⟨_, _, rfl, rfl, s2, fun t2 n2 => ⟨s2, fun t3 n3 => ⟨by show 3 ≤ sizeLine; decide, fun L nL => ?_⟩⟩⟩
    have x2 := Ex.new (o := .tup [.str "classes", .int (1 + (n : Int))]) n2
    have x3 := Ex.new (o := .tup [.str "odds", .int 1]) n3
    have xL := Ex.new (o := .lst [.ref t1, .ref t2, .ref t3]) nL
    have gB := ((gA.ex x2).ex x3).ex xL
    have La := ((gA.ex x2).ex x3).di.ne nL
    refine ⟨_, rfl, a, 3, rfl, by decide, by decide, gB.di, fun v H2 w0 w1 g2 => ?_⟩
    have g := gB.trans g2
    have eL := g2.st L _ La upd_same
    have d0 := gB.di
    obtain ⟨m, rfl⟩ : ∃ m : Nat, v = m := ⟨v.toNat, by omega⟩
    match m, w1 with
    | 0, _ => exact ⟨L, _, 0, _, rfl, rfl, .inl (.inl eL), rfl, q .sums t1 H2 trivial g (g2.rd d0 ((x2.trans (x3.trans xL)).rd (g1.rd (x1.dice hd) (.inl upd_same))))⟩
    | 1, _ =>
      refine ⟨L, _, 1, _, rfl, rfl, .inl (.inl eL), rfl, q (.classes (1 + n)) t2 H2 ⟨by omega, by omega⟩ g (g2.rd d0 ((x3.trans xL).rd (.inl ?_)))⟩
      rw [upd_same]
      show some (HO.tup [.str "classes", .int (1 + (n : Int))]) = some (HO.tup [.str "classes", .int ((1 + n : Nat) : Int)])
      rw [show ((1 + n : Nat) : Int) = 1 + (n : Int) by omega]
    | 2, _ => exact ⟨L, _, 2, _, rfl, rfl, .inl (.inl eL), rfl, q .odds t3 H2 trivial g (g2.rd d0 (xL.rd (.inl upd_same)))⟩
    | m + 3, z => omega
end
end Gl
namespace Gl
open PySem PySem.Spec PyProof.Rows L2
/-- not far from zero -/
def Am.near : Am → Prop
  | .n i => i.natAbs < 2 ^ 190
  | .c ns => ∀ n ∈ ns, n.natAbs < 2 ^ 190
  | .o x => x.1.1 < 2 ^ 190 ∧ x.1.2 < 2 ^ 190
theorem Am.near.wide {x : Am} (h : x.near) : x.wide := by
  cases x with
  | n _ => trivial
  | c _ => trivial
  | o x =>
    have l : (2 : Nat) ^ 190 ≤ 2 ^ 2000 := Nat.pow_le_pow_right (by decide) (by decide)
    exact ⟨Nat.lt_of_lt_of_le h.1 l, Nat.lt_of_lt_of_le h.2 l⟩
theorem word_sums (m : Ms) : decide (V.str m.word = V.str "sums") = decide (m = .sums) := by
  cases m with
  | sums => decide +kernel
  | classes k =>
    rw [decide_eq_false (show ¬ Ms.classes k = .sums from fun z => nomatch z)]
    exact (show decide (V.str "classes" = V.str "sums") = false by decide +kernel)
  | odds => decide +kernel
def Ms.isC : Ms → Bool
  | .classes _ => true
  | _ => false
theorem word_classes (m : Ms) : decide (V.str m.word = V.str "classes") = m.isC := by
  cases m with
  | sums => exact (show decide (V.str "sums" = V.str "classes") = false by decide +kernel)
  | classes k => exact (show decide (V.str "classes" = V.str "classes") = true by decide +kernel)
  | odds => exact (show decide (V.str "odds" = V.str "classes") = false by decide +kernel)
theorem Gro.msV {a p : Addr} {H H' : Hp} {m : Ms} (g : Gro a H H') (d : Dice H a) (h : MsV H p m) : MsV H' p m := g.rd d h
end Gl
namespace Gl
open PySem PySem.Spec PyProof.Rows L2
abbrev sWgtL : Stmt := topS 45
theorem scWgtL : FnScope ["_law_dice_here", "_law_measure", "_law_found", "_law_bottom", "_law_turn", "_law_one"] ["_law_dice_here", "_law_measure"] (defScope sWgtL) := ⟨rfl, rfl, rfl, by decide +kernel, rfl, by decide +kernel, by decide +kernel⟩
section
variable {P : Program} {w : World} {K : PySem.W.Frag} {mg : Str → Option Value} {base : Heap}
theorem cpw30 : CPw 10 30 := ⟨by decide, by decide +kernel⟩
end
end Gl
namespace Gl
open PySem PySem.Spec PyProof.Rows L2
theorem AmV.ex {H H' : Hp} (e : Ex H H') {v : V} : ∀ {x : Am}, AmV H v x → AmV H' v x
  | .n _, h => h
  | .c _, ⟨p, h, r⟩ => ⟨p, h, e.rd r⟩
  | .o _, ⟨p, h, r⟩ => ⟨p, h, e.rd r⟩
theorem AmV.gro {a : Addr} {H H' : Hp} (g : Gro a H H') (d : Dice H a) {v : V} : ∀ {x : Am}, AmV H v x → AmV H' v x
  | .n _, h => h
  | .c _, ⟨p, h, r⟩ => ⟨p, h, g.rd d r⟩
  | .o _, ⟨p, h, r⟩ => ⟨p, h, g.rd d r⟩
end Gl
namespace Gl
open PySem PySem.Spec PyProof.Rows L2
def clsS (i : Nat) : Stmt := match topS 28 with
  | .ClassDef _ _ _ body _ _ _ _ _ _ _ => body.getD i (.Pass ⟨0, 0, 0, 0⟩)
  | _ => .Pass ⟨0, 0, 0, 0⟩
/-- a scale of the program -/
def SclAt (H : Hp) (a C : Addr) (m : Ms) : Prop := ∃ dx fs, H a = some (.ins C dx fs) ∧ fs.lookup ("_word" : Str) = some (V.str m.word) ∧ fs.lookup ("_size" : Str) = some (V.int (m.size : Nat)) ∧ ∀ x : Str, x ≠ ("_word" : Str) → x ≠ ("_size" : Str) → fs.lookup x = none
theorem Ex.scl {H H' : Hp} {a C : Addr} {m : Ms} (e : Ex H H') (h : SclAt H a C m) : SclAt H' a C m := let ⟨dx, fs, h1, h2⟩ := h; ⟨dx, fs, e _ _ h1, h2⟩
/-- what is known of the class -/
structure ClsK (K : PySem.W.Frag) (C : Addr) : Prop where
  cls : Cls K C
  nw : NoAttr K C "_word"
  ns : NoAttr K C "_size"
end Gl
namespace Gl
open PySem PySem.Spec PyProof.Rows L2
abbrev sInit : Stmt := clsS 0
abbrev sSums : Stmt := clsS 1
abbrev sClasses : Stmt := clsS 2
abbrev sOddsM : Stmt := clsS 3
abbrev sZero : Stmt := clsS 6
abbrev sMadeL : Stmt := topS 51
theorem scInit : FnScope ["self", "word", "size"] ["self", "word", "size"] (defScope sInit) := ⟨rfl, rfl, rfl, by decide +kernel, rfl, by decide +kernel, by decide +kernel⟩
theorem scSums : FnScope [] [] (defScope sSums) := ⟨rfl, rfl, rfl, by decide +kernel, rfl, by decide +kernel, by decide +kernel⟩
theorem scClasses : FnScope ["size"] ["size"] (defScope sClasses) := ⟨rfl, rfl, rfl, by decide +kernel, rfl, by decide +kernel, by decide +kernel⟩
theorem scOddsM : FnScope [] [] (defScope sOddsM) := ⟨rfl, rfl, rfl, by decide +kernel, rfl, by decide +kernel, by decide +kernel⟩
theorem scZero : FnScope ["self"] ["self"] (defScope sZero) := ⟨rfl, rfl, rfl, by decide +kernel, rfl, by decide +kernel, by decide +kernel⟩
theorem scMadeL : FnScope ["_law_kind"] ["_law_kind"] (defScope sMadeL) := ⟨rfl, rfl, rfl, by decide +kernel, rfl, by decide +kernel, by decide +kernel⟩
section
variable {P : Program} {w : World} {K : PySem.W.Frag} {mg : Str → Option Value} {base : Heap} {C : Addr}
def spInit (C : Addr) : Sp := fun vs H Q _ => ∃ (x dx : Addr) (m : Ms), vs = [.ref x, .str m.word, .int (m.size : Nat)] ∧ H x = some (.ins C dx []) ∧ ∀ H', (∀ b o, b ≠ x → H b = some o → H' b = some o) → SclAt H' x C m → Q .non H'
theorem ok_init {f : Addr} {fd : FuncData} (F : Fun K "__init__" "Scale.__init__" sInit f fd) (Z : ClsK K C) : FnOk P w K mg base CX0 1 f fd ["self", "word", "size"] (spInit C) := by
  refine F.ok scInit (fun vs H Q E h => ?_) (fun cdv A outer s H vs Q E hr h => ?_)
  · obtain ⟨x, dx, m, rfl, _⟩ := h
    rfl
  · obtain ⟨x, dx, m, rfl, hx, q⟩ := h
    refine ⟨_, pss_cons (ps_fld (pv 0) (pv 1) rfl) (pss_one (ps_fld (pv 0) (pv 2) rfl)), ?_⟩
    refine ⟨_, rfl, _, rfl, x, C, dx, [], rfl, hx, Z.cls, Z.nw, (by show 0 < 1000; decide), ?_⟩
    refine ⟨_, rfl, _, rfl, x, C, dx, _, rfl, upd_same, Z.cls, Z.ns, (by show 1 < 1000; decide), ?_⟩
    refine q _ (fun b o nb e => ?_) ⟨dx, _, upd_same, ?_, ?_, fun y n1 n2 => ?_⟩
    · rw [upd_ne nb, upd_ne nb]; exact e
    · rw [lookup_putF, if_neg (by decide +kernel), lookup_putF, if_pos rfl]
    · rw [lookup_putF, if_pos rfl]
    · rw [lookup_putF, if_neg n2, lookup_putF, if_neg n1]
      rfl
/-- the class as the module has it -/
structure SclD (P : Program) (w : World) (K : PySem.W.Frag) (mg : Str → Option Value) (base : Heap) (C : Addr) where
  k : ClsK K C
  f : Addr
  fd : FuncData
  G : FnOk P w K mg base CX0 1 f fd ["self", "word", "size"] (spInit C)
  made : Mk K C f
  g : mg "Scale" = some (.ref C)
  b : Binds K fd ["self", "word", "size"] []
def spNew (C : Addr) (m : Ms) : Sp := fun vs H Q _ => vs = [] ∧ ∀ a H', Ex H H' → H a = none → SclAt H' a C m → Q (.ref a) H'
def spClasses (C : Addr) : Sp := fun vs H Q _ => ∃ k : Nat, vs = [.int k] ∧ 1 ≤ k ∧ k ≤ 4 ∧ ∀ a H', Ex H H' → H a = none → SclAt H' a C (.classes k) → Q (.ref a) H'
theorem scl_made {H1 H2 : Hp} {x dx : Addr} (nx : H1 x = none) (nd : H1 dx = none) (hk : ∀ b o, b ≠ x → upd (upd H1 dx (.own x)) x (.ins C dx []) b = some o → H2 b = some o) : Ex H1 H2 := fun b o e => by
  have b1 := ne_of_none e nx
  have b2 := ne_of_none e nd
  refine hk b o b1 ?_
  rw [upd_ne b1, upd_ne b2]
  exact e
theorem ok_sums {f : Addr} {fd : FuncData} (F : Fun K "sums" "Scale.sums" sSums f fd) (Z : SclD P w K mg base C) : FnOk P w K mg base CX0 3 f fd [] (spNew C .sums) := by
  refine F.ok scSums (fun vs H Q E h => ?_) (fun cdv A outer s H vs Q E hr h => ?_)
  · obtain ⟨rfl, _⟩ := h
    rfl
  · obtain ⟨rfl, q⟩ := h
    refine ⟨_, pss_one (ps_ret (pe_make Z.made Z.G hr (by rfl) Z.g Z.b .nil pass0 (pa_cons pe_str (pa_cons pe_int pa_nil)))), ?_⟩
    refine fun x dx nx nd ne => ⟨x, dx, .sums, rfl, upd_same, fun H2 hk sa => ⟨rfl, q x H2 (scl_made nx nd hk) nx sa⟩⟩
theorem ok_oddsM {f : Addr} {fd : FuncData} (F : Fun K "odds" "Scale.odds" sOddsM f fd) (Z : SclD P w K mg base C) : FnOk P w K mg base CX0 3 f fd [] (spNew C .odds) := by
  refine F.ok scOddsM (fun vs H Q E h => ?_) (fun cdv A outer s H vs Q E hr h => ?_)
  · obtain ⟨rfl, _⟩ := h
    rfl
  · obtain ⟨rfl, q⟩ := h
    refine ⟨_, pss_one (ps_ret (pe_make Z.made Z.G hr (by rfl) Z.g Z.b .nil pass0 (pa_cons pe_str (pa_cons pe_int pa_nil)))), ?_⟩
    refine fun x dx nx nd ne => ⟨x, dx, .odds, rfl, upd_same, fun H2 hk sa => ⟨rfl, q x H2 (scl_made nx nd hk) nx sa⟩⟩
theorem ok_classes {f : Addr} {fd : FuncData} (F : Fun K "classes" "Scale.classes" sClasses f fd) (Z : SclD P w K mg base C) (I : Df P w K mg base 2 "is_index" ["value", "many"] spIndex) (ms : ∃ t, mg "MAX_SIZE" = some (.int 4 t)) : FnOk P w K mg base CX0 3 f fd ["size"] (spClasses C) := by
  refine F.ok scClasses (fun vs H Q E h => ?_) (fun cdv A outer s H vs Q E hr h => ?_)
  · obtain ⟨k, rfl, _⟩ := h
    rfl
  · obtain ⟨k, rfl, k1, k4, q⟩ := h
    obtain ⟨t, ms⟩ := ms
    refine ⟨_, pss_cons (ps_if (pw_or (pt_not (pt_val (pe_call I.G hr (by rfl) I.g I.kp I.b .nil pass0 (pa_cons (pv 0) (pa_cons (pe_op op_add (pe_glob (v := .int 4) (by rfl) ms ⟨t, rfl⟩) pe_int) pa_nil))))) (pw_or1 (pt_cmpR op_eq (pv 0) pe_int (nomark _)))).pt pss_never pss_nil)
      (pss_one (ps_ret (pe_make Z.made Z.G hr (by rfl) Z.g Z.b .nil pass0 (pa_cons pe_str (pa_cons (pv 0) pa_nil))))), ?_⟩
    refine ⟨_, rfl, _, _, rfl, rfl, k, _, rfl, by omega, by omega, ⟨_, rfl, ?_⟩⟩
    refine ⟨_, rfl, rfl, _, rfl, ?_⟩
    rw [decide_eq_false (show ¬ V.int (k : Nat) = V.int 0 from fun z => by injection z with z; omega)]
    refine ⟨_, rfl, fun x dx nx nd ne => ⟨x, dx, .classes k, rfl, upd_same, fun H2 hk sa => ⟨rfl, q x H2 (scl_made nx nd hk) nx sa⟩⟩⟩
end
end Gl
namespace Gl
open PySem PySem.Spec PyProof.Rows L2
/-- a method that the class has -/
structure Dm (P : Program) (w : World) (K : PySem.W.Frag) (mg : Str → Option Value) (base : Heap) (C : Addr) (k : Nat) (m : Str) (ps : List Str) (sp : Sp) where
  f : Addr
  fd : FuncData
  G : FnOk P w K mg base CX0 k f fd ps sp
  at_ : Meth K C m f
  b : Binds K fd ps []
/-- a tuple of amounts -/
def AmsT (H : Hp) (p : Addr) (m : Ms) (ps : List (V × Am)) : Prop := Rd H p (.tup (ps.map (·.1))) ∧ ∀ q ∈ ps, m.has q.2 ∧ q.2.wide ∧ AmV H q.1 q.2
section
variable {P : Program} {w : World} {K : PySem.W.Frag} {mg : Str → Option Value} {base : Heap} {C : Addr}
def spZero (C : Addr) : Sp := fun vs H Q _ => ∃ (a : Addr) (m : Ms), vs = [.ref a] ∧ SclAt H a C m ∧ m.ok ∧ ∀ v H', Ex H H' → AmV H' v m.zero → Q v H'
theorem zeros_rep (n : Nat) : (List.replicate n [V.int 0]).flatten = (List.replicate n (0 : Int)).map V.int := by
  induction n with
  | zero => rfl
  | succ n ih => rw [List.replicate_succ, List.replicate_succ, List.flatten_cons, ih]; rfl
theorem ok_zero {f : Addr} {fd : FuncData} (F : Fun K "zero" "Scale.zero" sZero f fd) (Z : ClsK K C) : FnOk P w K mg base CX0 1 f fd ["self"] (spZero C) := by
  refine F.ok scZero (fun vs H Q E h => ?_) (fun cdv A outer s H vs Q E hr h => ?_)
  · obtain ⟨a, m, rfl, _⟩ := h
    rfl
  · obtain ⟨a, m, rfl, ⟨dx, fs, ha, hw, hs, hn⟩, mok, q⟩ := h
    refine ⟨_, pss_cons (ps_if (pt_cmpR op_eq (pe_fld (pv 0) (by rfl)) pe_str (nomark _)) (pss_one (ps_ret pe_int)) pss_nil)
      (pss_cons (ps_if (pt_cmpR op_eq (pe_fld (pv 0) (by rfl)) pe_str (nomark _)) (pss_one (ps_ret (pe_tup (pa_cons pe_int (pa_cons pe_int pa_nil))))) pss_nil)
      (pss_one (ps_ret (pe_op (op_repT1.or op_repT) (pe_tup (pa_cons pe_int pa_nil)) (pe_fld (pv 0) (by rfl)))))), ?_⟩
    refine ⟨_, rfl, a, C, dx, fs, _, rfl, ha, Z.cls, Z.nw, hw, rfl, _, rfl, ?_⟩
    rw [word_sums]
    have other : m ≠ .sums → m ≠ .odds → ∃ k, m = .classes k := fun h1 h2 => by
      cases m with
      | sums => exact absurd rfl h1
      | classes k => exact ⟨k, rfl⟩
      | odds => exact absurd rfl h2
    by_cases e : m = .sums
    · subst e
      exact q _ H (Ex.refl H) rfl
    · rw [decide_eq_false e]
      refine ⟨_, rfl, a, C, dx, fs, _, rfl, ha, Z.cls, Z.nw, hw, rfl, _, rfl, ?_⟩
      rw [word_odds]
      by_cases e2 : m = .odds
      · subst e2
        exact ⟨by show 2 ≤ sizeLine; decide, fun t nt => q _ _ (Ex.new nt) ⟨t, rfl, .inl upd_same⟩⟩
      · rw [decide_eq_false e2]
        obtain ⟨k, rfl⟩ := other e e2
        have k1 := mok.1
        have k4 := mok.2
        refine ⟨by show 1 ≤ sizeLine; decide, fun t nt => ?_⟩
        have xt := Ex.new (o := .tup [.int 0]) nt
        refine ⟨_, rfl, a, C, dx, fs, _, rfl, xt a _ ha, Z.cls, Z.ns, hs, ?_⟩
        by_cases one : k = 1
        · subst one
          exact .inl ⟨t, _, rfl, rfl, .inl (.inl upd_same), q _ _ xt ⟨t, rfl, .inl upd_same⟩⟩
        · refine .inr ⟨t, (k : Int), [.int 0], rfl, rfl, .inl (.inl upd_same), by simp, by omega, by omega, by decide, fun z nz => ?_⟩
          refine q _ _ (xt.trans (Ex.new nz)) ⟨z, rfl, .inl ?_⟩
          rw [upd_same, Int.toNat_natCast, zeros_rep]
end
end Gl
namespace Gl
open PySem PySem.Spec PyProof.Rows L2
/-! ### amounts as data -/
def Few (n : Int) : Prop := n.natAbs < 2 ^ 200
section
variable {K : PySem.W.Frag} {H : Hp}
theorem dp_ints : ∀ ns : List Int, DpAll K H (ns.map V.int) (ns.map PyData.int)
  | [] => .nil
  | n :: ns => .cons (.int n) (dp_ints ns)
theorem dp_am {v : V} : ∀ {x : Am}, AmV H v x → Dp K H v x.data
  | .n i, h => by obtain rfl := h; exact .int i
  | .c ns, ⟨p, e, h⟩ => by subst e; exact .tup (.inl h) (dp_ints ns)
  | .o x, ⟨p, e, h⟩ => by subst e; exact .tup (.inl h) (.cons (.int _) (.cons (.int _) .nil))
theorem dp_ams : ∀ {ps : List (V × Am)}, (∀ q ∈ ps, AmV H q.1 q.2) → DpAll K H (ps.map (·.1)) (ps.map fun q => q.2.data)
  | [], _ => .nil
  | q :: ps, h => .cons (dp_am (h q (List.mem_cons_self ..))) (dp_ams fun r hr => h r (List.mem_cons_of_mem _ hr))
end
theorem eqv_int (i j : Int) : PyData.eqv (.int i) (.int j) = decide (i = j) := by simp only [PyData.eqv]; rfl
theorem eqv_ints : ∀ as bs : List Int, PyData.eqvAll (as.map PyData.int) (bs.map PyData.int) = decide (as = bs)
  | [], [] => by simp only [List.map_nil, PyData.eqvAll]; rfl
  | [], _ :: _ => by simp only [List.map_nil, List.map_cons, PyData.eqvAll]; rfl
  | _ :: _, [] => by simp only [List.map_nil, List.map_cons, PyData.eqvAll]; rfl
  | a :: as, b :: bs => by
    simp only [List.map_cons, PyData.eqvAll]
    rw [eqv_int, eqv_ints as bs]
    by_cases h1 : a = b
    · subst h1
      by_cases h2 : as = bs
      · subst h2; simp
      · rw [decide_eq_false h2, decide_eq_false (show ¬ a :: as = a :: bs from fun z => h2 (List.cons.inj z).2)]; simp
    · rw [decide_eq_false h1, decide_eq_false (show ¬ a :: as = b :: bs from fun z => h1 (List.cons.inj z).1)]; simp
theorem lay_ints : ∀ ns : List Int, PyData.canLayAll0 (ns.map PyData.int) = true
  | [] => by simp only [List.map_nil, PyData.canLayAll0]
  | n :: ns => by simp only [List.map_cons, PyData.canLayAll0, PyData.canLay0, lay_ints ns, Bool.and_self]
theorem dep_ints : ∀ ns : List Int, PyData.depthAll (ns.map PyData.int) = 0
  | [] => by simp only [List.map_nil, PyData.depthAll]
  | n :: ns => by simp only [List.map_cons, PyData.depthAll, PyData.depth, dep_ints ns, Nat.max_self]
theorem shaped_of {d : PyData} (h1 : d.canLay0 = true) (h2 : d.depth ≤ 64) : SeqAt.shaped d = true := by
  unfold SeqAt.shaped
  rw [h1, decide_eq_true h2]
  rfl
theorem Am.lay : ∀ x : Am, x.data.canLay0 = true
  | .n i => by simp only [Am.data, PyData.canLay0]
  | .c ns => by simp only [Am.data, PyData.canLay0, lay_ints]
  | .o x => by simp only [Am.data, PyData.canLay0, PyData.canLayAll0, Bool.and_self]
theorem Am.dep : ∀ x : Am, x.data.depth ≤ 1
  | .n i => by simp only [Am.data, PyData.depth]; decide
  | .c ns => by simp only [Am.data, PyData.depth, dep_ints]; decide
  | .o x => by simp only [Am.data, PyData.depth, PyData.depthAll]; decide
theorem Am.shaped (x : Am) : SeqAt.shaped x.data = true := shaped_of x.lay (Nat.le_trans x.dep (by decide))
/-- shown without trouble, in at most n signs -/
structure Shows (d : PyData) (n : Nat) : Prop where
  sh : d.showable = true
  dp : d.depth ≤ 3
  wt : wt d ≤ n
theorem Shows.ok {d : PyData} {n : Nat} (h : Shows d n) (hn : n ≤ 1000000) : d.showable = true ∧ d.depth ≤ 100 ∧ d.shown.length ≤ sizeLine :=
  ⟨h.sh, Nat.le_trans h.dp (by decide), Nat.le_trans (Nat.le_trans (shown_le d h.sh) h.wt) (Nat.le_trans hn (by decide))⟩
theorem wt_ints : ∀ ns : List Int, wtAll (ns.map PyData.int) = 1932 * ns.length
  | [] => by simp only [List.map_nil, wtAll]; rfl
  | n :: ns => by
    simp only [List.map_cons, wtAll, wt, List.length_cons]
    rw [wt_ints ns]
    omega
end Gl
namespace Gl
open PySem PySem.Spec PyProof.Rows L2
section
variable {prog : Program} {w : World} {A : Around} {E : Value → Shared → Prop} {s : Shared} {K : PySem.W.Frag} {x C L f : Addr} {h₀ : Heap} {m : Str → Option Value} {ox : Obj} {od : Option Obj} {b tb : Value}
/-- x != b by the class's own ==, where no __ne__ is told -/
theorem try_neO {Q : Option Value → Shared → Prop} (hu : A.units + 1 < cLine) (X : K.In s.heap) (I : PySem.W.InstAt s.heap x ox C od)
    (hn : PySem.W.findIn K (.ref C) "__ne__" = some (some (.builtin "object.__ne__"))) (ho : PySem.W.subIn K (.ref C) (.type "object") = some true)
    (hs : PySem.W.findIn K (.ref C) "__eq__" = some (some (.ref f))) (hf : PySem.W.isFn K (.ref f) = true)
    (h : wpAny (model prog w) A.in1 (call (.ref f) [.ref x, b]) (fun v s' => ∃ r, v = .bool r ∧ Q (some (.bool (!r))) s') E s) :
    wpAny (model prog w) A (tryCompare (.ref x) "__ne__" b) Q E s := by
  unfold tryCompare
  have hc : wpAny (model prog w) A (call (.builtin "object.__ne__") [.ref x, b]) (fun v s' => ∃ r, v = .bool r ∧ Q (some v) s') E s := by
    refine wpAny_call (codeAny_call_builtin PySem.F.cmp_object.ne.plain PySem.F.cmpEntry_ne ?_)
    simp only [checkBuiltinCall, PySem.F.cmpKind_ne, PySem.F.cmpSplit_ne]
    refine wpAny_bind (wpAny_bind ?_)
    refine I.type.here ?_
    refine (PySem.W.looks_subIn X ho).here ?_
    have fin : wpAny (model prog w) A.in1 (Builtin.«object.__ne__» ⟨[.ref x, b], []⟩) (GQ.FinOf prog w A (wants (fun v s' => ∃ r, v = .bool r ∧ Q (some v) s') E)) (fun e s' => E e s') s := by
      unfold Builtin.«object.__ne__»
      refine wpAny_bind (wpAny_pure ?_)
      refine wpAny_bind (wpAny_cRoomFor hu ?_)
      refine wpAny_bind (PySem.W.ifBound_K X I hs hf (wpAny_mono h (fun r s' hr => ?_) fun _ _ e => e))
      obtain ⟨r, rfl, hq⟩ := hr
      refine wpAny_bind (wpAny_truthy_bool ?_)
      exact wpAny_pure ⟨_, rfl, hq⟩
    have ha := PySem.F.cmpArgs_ne (.ref x) b
    show wpAny _ _ (match Manifest.signature? "object.__ne__" with | some sig => Bind.checkArgs "object.__ne__" sig ⟨[.ref x, b], []⟩ | _ => pure ()) _ _ _
    cases hsig : Manifest.signature? "object.__ne__" with
    | none => exact wpAny_pure fin
    | some sig =>
      simp only [argsOk, hsig] at ha
      have h2 : Bind.checkArgs "object.__ne__" sig ⟨[.ref x, b], []⟩ = pure () := ha
      show wpAny _ _ (Bind.checkArgs "object.__ne__" sig ⟨[.ref x, b], []⟩) _ _ _
      rw [h2]
      exact wpAny_pure fin
  simp only [callSpecialIfBound?, bindSpecialIfBound?]
  refine wpAny_bind (wpAny_holding (wpAny_bind (wpAny_bind (wpAny_bind (I.type.here ((PySem.W.looks_findIn X hn).here ?_))))))
  simp only [PySem.F.cmp_object.ne.bind]
  refine wpAny_bind (wpAny_askSetting (wpAny_ite ?_))
  have fin : wpAny (model prog w) A (call (.builtin "object.__ne__") ([.ref x] ++ [b]) >>= fun v => pure (some v)) (fun v s' => ∃ r, v = some (.bool r) ∧ Q v s') E s :=
    wpAny_bind (wpAny_mono hc (fun v s' ⟨r, e, q⟩ => wpAny_pure ⟨r, e ▸ rfl, q⟩) fun _ _ h' => h')
  split
  · refine wpAny_bind (wpAny_pure (wpAny_pure (wpAny_mono fin (fun v s' q => ?_) fun _ _ e => e)))
    obtain ⟨r, rfl, q⟩ := q
    exact wpAny_pure q
  · refine wpAny_tryCatch (wpAny_bind (wpAny_pure (wpAny_pure (wpAny_mono fin (fun v s' q => ?_) fun _ _ e => e))))
    obtain ⟨r, rfl, q⟩ := q
    exact wpAny_pure q
theorem ne_KO {Q : Value → Shared → Prop} (hu : A.units + 1 < cLine) (F : Fr h₀ L s.heap m) (X₀ : K.In h₀) (I : PySem.W.InstAt s.heap x ox C od) (hb : PySem.W.Looks (model prog w) s.heap (typeOf b) tb) (hnf : PySem.W.notFirst K C tb = true)
    (hn : PySem.W.findIn K (.ref C) "__ne__" = some (some (.builtin "object.__ne__"))) (ho : PySem.W.subIn K (.ref C) (.type "object") = some true)
    (hs : PySem.W.findIn K (.ref C) "__eq__" = some (some (.ref f))) (hf : PySem.W.isFn K (.ref f) = true)
    (h : wpAny (model prog w) A.in1 (call (.ref f) [.ref x, b]) (fun v s' => ∃ r, v = .bool r ∧ Q (.bool (!r)) s') E s) : wpAny (model prog w) A (richCompare .NotEq (.ref x) b) Q E s := by
  have X := X₀.keeps F.keep
  have one : wpAny (model prog w) A (tryCompare (.ref x) (cmpInfo .NotEq).2.1 b) (fun r s' => ∃ v, r = some v ∧ Q v s') E s :=
    try_neO hu X I hn ho hs hf (wpAny_mono h (fun v s' ⟨r, e, q⟩ => ⟨r, e, _, rfl, q⟩) fun _ _ e => e)
  unfold richCompare
  simp only [oneThing_ref]
  refine wpAny_holding (wpAny_bind (wpAny_cRoomFor (Nat.lt_of_succ_lt hu) ?_))
  refine wpAny_bind (I.type.here (wpAny_bind (hb.here ?_)))
  split
  · rename_i q
    have e : PySem.W.subIn K tb (.ref C) = some false := by
      rcases Bool.or_eq_true_iff.mp hnf with e | e
      · rw [beq_iff_eq.mp e] at q; simp at q
      · exact beq_iff_eq.mp e
    refine wpAny_bind ((PySem.W.looks_subIn X e).here ?_)
    simp only [Bool.false_eq_true, if_false]
    refine wpAny_bind (wpAny_mono one (fun r s' z => ?_) fun _ _ e => e)
    obtain ⟨v, rfl, hq⟩ := z
    exact wpAny_pure hq
  · refine wpAny_bind (wpAny_pure ?_)
    simp only [Bool.false_eq_true, if_false]
    refine wpAny_bind (wpAny_mono one (fun r s' z => ?_) fun _ _ e => e)
    obtain ⟨v, rfl, hq⟩ := z
    exact wpAny_pure hq
end
/-- the class at C has the def f under the name nm -/
structure OwnAt (K : PySem.W.Frag) (C f : Addr) (nm : Str) : Prop where
  find : PySem.W.findIn K (.ref C) nm = some (some (.ref f))
  fn : PySem.W.isFn K (.ref f) = true
section
variable {X : Cx} {A : Around} {pins : List (Addr × Obj)} {σ : L2.St} {H : Hp} {s : Shared} {CX : CXT} {C f : Addr} {n : Nat} {fd : FuncData} {ps : List Str} {sp : Sp} {E : XK}
/-- a def of the text, called from within an operation -/
theorem call_fnO (F : FnOk X.prog X.w X.K X.mg X.base CX n f fd ps sp) (hb : Binds X.K fd ps []) (hx : Passes CX X E) (sb : Sub X n A) (I : Inv X pins σ H s) {vs : List V} {us : List Value} {Q : VK} (r : Vals vs us)
    (hq : sp vs H Q E) : wpAny (model X.prog X.w) A (call (.ref f) us) (EP X pins σ Q) X.xe s := by
  have e0 : Env0 X.prog X.w X.K X.mg X.base A X.stack s H := by
    have e := I.env0
    exact ⟨by rw [sb.fr]; exact e.frames, e.mod, e.bs, e.bsz, e.funs, e.frf, e.hok, e.bare⟩
  have hl := F.len _ _ _ _ hq
  refine wpAny_call (codeAny_mono (F.run A X.stack s H ⟨us, []⟩ us vs _ E sb.room e0 (by
    have := hb s us I.kIn (by rw [List.append_nil, ← r.length]; exact hl)
    simpa using this) r hq) fun r s' hq => ?_)
  cases r with
  | error e => exact hx pins σ H s e s' I hq
  | ok fl =>
    cases fl with
    | ret w => exact I.after hq
    | next => exact False.elim hq
    | brk => exact False.elim hq
    | cont => exact False.elim hq
/-- x in c, c an instance with a __contains__ of its own -/
def rInO (C : Addr) (sp : Sp) (E : XK) (neg : Bool) : R2 := fun x y H Q => ∃ a d fs, y = .ref a ∧ H a = some (.ins C d fs) ∧ sp [.ref a, x] H (fun r H' => ∃ b, r = .bl b ∧ Q (.bl (xor neg b)) H') E
theorem op_inO (F : FnOk X.prog X.w X.K X.mg X.base CX n f fd ps sp) (c : OwnAt X.K C f "__contains__") (hb : Binds X.K fd ps []) (hx : Passes CX X E) (hr : Room n X.A) : OpR X (compareOp .In) (rInO C sp E false) := by
  intro pins s σ H x y v u Q I rx ry hq
  obtain ⟨a, d, fs, rfl, ha, q⟩ := hq
  obtain rfl : u = Value.ref a := ry
  obtain ⟨mA, J, _⟩ := ins_get I.hok ha
  obtain ⟨od, J, _⟩ := J.look
  obtain ⟨m, hF⟩ := I.fr
  refine PySem.W.in_K hF I.ok.mod.kin J c.find c.fn (wpAny_mono (call_fnO F hb hx ⟨hr, rfl⟩ I (vs := [.ref a, x]) (.cons rfl (.cons rx .nil)) q) (fun r s' z => ?_) fun _ _ e => e)
  obtain ⟨v', H', I', rv, b, rfl, q'⟩ := z
  obtain rfl : r = Value.bool b := rv
  refine wpAny_truthy_bool ⟨.bl b, H', I', rfl, ?_⟩
  simpa using q'
theorem op_notinO (F : FnOk X.prog X.w X.K X.mg X.base CX n f fd ps sp) (c : OwnAt X.K C f "__contains__") (hb : Binds X.K fd ps []) (hx : Passes CX X E) (hr : Room n X.A) : OpR X (compareOp .NotIn) (rInO C sp E true) := by
  intro pins s σ H x y v u Q I rx ry hq
  obtain ⟨a, d, fs, rfl, ha, q⟩ := hq
  obtain rfl : u = Value.ref a := ry
  obtain ⟨mA, J, _⟩ := ins_get I.hok ha
  obtain ⟨od, J, _⟩ := J.look
  obtain ⟨m, hF⟩ := I.fr
  refine PySem.W.notIn_K hF I.ok.mod.kin J c.find c.fn (wpAny_mono (call_fnO F hb hx ⟨hr, rfl⟩ I (vs := [.ref a, x]) (.cons rfl (.cons rx .nil)) q) (fun r s' z => ?_) fun _ _ e => e)
  obtain ⟨v', H', I', rv, b, rfl, q'⟩ := z
  obtain rfl : r = Value.bool b := rv
  refine wpAny_truthy_bool ⟨.bl (!b), H', I', rfl, ?_⟩
  simpa using q'
/-- y is of the type tb, as the heap stands -/
def TyO (X : Cx) (y : V) (tb : Value) (H : Hp) : Prop := ∀ (pins : List (Addr × Obj)) (s : Shared) (σ : L2.St) (u : Value), Inv X pins σ H s → RelV y u → PySem.W.Looks (model X.prog X.w) s.heap (typeOf u) tb
theorem TyO.non : TyO X .non (.type "NoneType") H := fun pins s σ u I r => by obtain rfl : u = Value.none := r; exact .now
theorem TyO.bl {b : Bool} : TyO X (.bl b) (.type "bool") H := fun pins s σ u I r => by obtain rfl : u = Value.bool b := r; exact .now
theorem TyO.int {i : Int} : TyO X (.int i) (.type "int") H := fun pins s σ u I r => by obtain ⟨t, rfl⟩ := r; exact .now
theorem TyO.str {x : Str} : TyO X (.str x) (.type "str") H := fun pins s σ u I r => by obtain ⟨t, rfl⟩ := r; exact .now
theorem TyO.tup {a : Addr} {xs : List V} (h : SqT X.K H a xs) : TyO X (.ref a) (.type "tuple") H := fun pins s σ u I r => by
  obtain rfl : u = Value.ref a := r
  obtain ⟨its, _, ⟨o, ho, hc, _⟩, _⟩ := I.tuple h
  exact hc ▸ (PySem.W.Looks.ld ho).andThen .now
theorem TyO.ins {a d C : Addr} {fs : List (Str × V)} (h : H a = some (.ins C d fs)) : TyO X (.ref a) (.ref C) H := fun pins s σ u I r => by
  obtain rfl : u = Value.ref a := r
  obtain ⟨mA, J, _⟩ := ins_get I.hok h
  obtain ⟨od, J, _⟩ := J.look
  exact J.type
/-- x == y, x an instance with an == of its own that tells a boolean -/
def rEqO (X : Cx) (C : Addr) (sp : Sp) (E : XK) (neg : Bool) : R2 := fun x y H Q => ∃ a d fs tb, x = .ref a ∧ H a = some (.ins C d fs) ∧ TyO X y tb H ∧ PySem.W.notFirst X.K C tb = true ∧
  sp [.ref a, y] H (fun r H' => ∃ b, r = .bl b ∧ Q (.bl (xor neg b)) H') E
theorem op_eqO (F : FnOk X.prog X.w X.K X.mg X.base CX n f fd ps sp) (c : OwnAt X.K C f "__eq__") (hb : Binds X.K fd ps []) (hx : Passes CX X E) (hr : Room n X.A) : OpR X (compareOp .Eq) (rEqO X C sp E false) := by
  intro pins s σ H x y v u Q I rx ry hq
  obtain ⟨a, d, fs, tb, rfl, ha, ht, hn, q⟩ := hq
  obtain rfl : v = Value.ref a := rx
  obtain ⟨mA, J, _⟩ := ins_get I.hok ha
  obtain ⟨od, J, _⟩ := J.look
  obtain ⟨m, hF⟩ := I.fr
  show wpAny (model X.prog X.w) X.A (richCompare .Eq (.ref a) u) _ _ _
  refine PySem.W.cmp_K (op := .Eq) (tb := tb) hr.units0 hF I.ok.mod.kin J (ht pins s σ u I ry) hn c.find c.fn (wpAny_mono (call_fnO F hb hx ⟨hr, rfl⟩ I (vs := [.ref a, y]) (.cons rfl (.cons ry .nil)) q) (fun r s' z => ?_) fun _ _ e => e)
  obtain ⟨v', H', I', rv, b, rfl, q'⟩ := z
  obtain rfl : r = Value.bool b := rv
  refine ⟨.bl b, H', I', rfl, ?_⟩
  simpa using q'
/-- x != y by the same -/
theorem op_neO (F : FnOk X.prog X.w X.K X.mg X.base CX n f fd ps sp) (c : OwnAt X.K C f "__eq__") (hne : PySem.W.findIn X.K (.ref C) "__ne__" = some (some (.builtin "object.__ne__"))) (ho : PySem.W.subIn X.K (.ref C) (.type "object") = some true)
    (hb : Binds X.K fd ps []) (hx : Passes CX X E) (hr : Room (n + 1) X.A) : OpR X (compareOp .NotEq) (rEqO X C sp E true) := by
  intro pins s σ H x y v u Q I rx ry hq
  obtain ⟨a, d, fs, tb, rfl, ha, ht, hn, q⟩ := hq
  obtain rfl : v = Value.ref a := rx
  obtain ⟨mA, J, _⟩ := ins_get I.hok ha
  obtain ⟨od, J, _⟩ := J.look
  obtain ⟨m, hF⟩ := I.fr
  have sb : Sub X (n + 1) X.A := ⟨hr, rfl⟩
  show wpAny (model X.prog X.w) X.A (richCompare .NotEq (.ref a) u) _ _ _
  refine ne_KO (tb := tb) hr.in1.units0 hF I.ok.mod.kin J (ht pins s σ u I ry) hn hne ho c.find c.fn (wpAny_mono (call_fnO F hb hx sb.in1 I (vs := [.ref a, y]) (.cons rfl (.cons ry .nil)) q) (fun r s' z => ?_) fun _ _ e => e)
  obtain ⟨v', H', I', rv, b, rfl, q'⟩ := z
  obtain rfl : r = Value.bool b := rv
  refine ⟨b, rfl, .bl (!b), H', I', rfl, ?_⟩
  simpa using q'
/-- len(c), c an instance with a __len__ of its own -/
def rLenO (C : Addr) (sp : Sp) (E : XK) : List V → Hp → VK → Prop := fun xs H Q => ∃ a d fs, xs = [.ref a] ∧ H a = some (.ins C d fs) ∧ sp [.ref a] H (fun r H' => ∃ i : Int, r = .int i ∧ 0 ≤ i ∧ i < 2 ^ 63 ∧ Q (.int i) H') E
theorem cr_lenO (F : FnOk X.prog X.w X.K X.mg X.base CX n f fd ps sp) (c : OwnAt X.K C f "__len__") (hb : Binds X.K fd ps []) (hx : Passes CX X E) (hr : Room (n + 1) X.A) : CallR X (.builtin "len") (rLenO C sp E) := by
  intro pins s σ H xs us Q I rs hq
  obtain ⟨a, d, fs, rfl, ha, q⟩ := hq
  cases rs with
  | cons r0 rs =>
    cases rs
    rename_i u
    obtain rfl : u = Value.ref a := r0
    obtain ⟨mA, J, _⟩ := ins_get I.hok ha
    obtain ⟨od, J, _⟩ := J.look
    obtain ⟨m, hF⟩ := I.fr
    have sb : Sub X (n + 1) X.A := ⟨hr, rfl⟩
    refine PySem.W.len_K hF I.ok.mod.kin J c.find c.fn (wpAny_mono (call_fnO F hb hx sb.in1 I (vs := [.ref a]) (.cons rfl .nil) q) (fun r s' z => ?_) fun _ _ e => e)
    obtain ⟨v', H', I', rv, i, rfl, h0, h1, q'⟩ := z
    obtain ⟨t, rfl⟩ := rv
    exact ⟨⟨h0, h1⟩, .int i, H', I'.tok _, ⟨_, rfl⟩, q'⟩
/-- str(c), c an instance with a __str__ of its own -/
def rStrO (C : Addr) (sp : Sp) (E : XK) : List V → Hp → VK → Prop := fun xs H Q => ∃ a d fs, xs = [.ref a] ∧ H a = some (.ins C d fs) ∧ sp [.ref a] H (fun r H' => ∃ z : Str, r = .str z ∧ Q (.str z) H') E
theorem cr_strO (F : FnOk X.prog X.w X.K X.mg X.base CX n f fd ps sp) (c : OwnAt X.K C f "__str__") (hb : Binds X.K fd ps []) (hx : Passes CX X E) (hr : Room (n + 2) X.A) : CallR X (.type "str") (rStrO C sp E) := by
  intro pins s σ H xs us Q I rs hq
  obtain ⟨a, d, fs, rfl, ha, q⟩ := hq
  cases rs with
  | cons r0 rs =>
    cases rs
    rename_i u
    obtain rfl : u = Value.ref a := r0
    obtain ⟨mA, J, _⟩ := ins_get I.hok ha
    obtain ⟨od, J, _⟩ := J.look
    obtain ⟨m, hF⟩ := I.fr
    have sb : Sub X (n + 2) X.A := ⟨hr, rfl⟩
    refine PySem.W.kso_call (A := X.A) hr.in1.in1.units0 (I.ok.mod.kin.keeps hF.keep) J c.find c.fn (wpAny_mono (call_fnO F hb hx (sb.in1 (n := n + 1)).in1 I (vs := [.ref a]) (.cons rfl .nil) q) (fun r s' z => ?_) fun _ _ e => e)
    obtain ⟨v', H', I', rv, y, rfl, q'⟩ := z
    obtain ⟨t, rfl⟩ := rv
    exact ⟨.str y, H', I', ⟨_, rfl⟩, q'⟩
/-- c[i], c an instance with a __getitem__ of its own -/
def rIxO (C : Addr) (sp : Sp) (E : XK) : R2 := fun x y H Q => ∃ a d fs, x = .ref a ∧ H a = some (.ins C d fs) ∧ sp [.ref a, y] H Q E
theorem pe_ixO {a b : Expr} {ta tb : TE} {pos : Pos} (ha : PE X a ta) (hb' : PE X b tb) (F : FnOk X.prog X.w X.K X.mg X.base CX n f fd ps sp) (c : OwnAt X.K C f "__getitem__") (hf : PySem.W.fnIn X.K f = true) (hb : Binds X.K fd ps []) (hx : Passes CX X E) (hr : Room (n + 1) X.A)
    (hs : ∀ o i, subscripted b true o i = runValue (.builtin "lifetime.subscript" ⟨[o, i], []⟩) := by intros; rfl) : PE X (.Subscript a b pos) (tOp (rIxO C sp E) ta tb) := by
  refine ⟨fun pins s σ H Q I h => ?_⟩
  refine Subscript_ (binT ha hb' I h fun v u s2 x y H2 I2 rx ry q => ?_)
  obtain ⟨a', d, fs, rfl, ha', q⟩ := q
  obtain rfl : v = Value.ref a' := rx
  obtain ⟨mA, J, _⟩ := ins_get I2.hok ha'
  obtain ⟨od, J, _⟩ := J.look
  obtain ⟨m, hF⟩ := I2.fr
  have sb : Sub X (n + 1) X.A := ⟨hr, rfl⟩
  exact PySem.W.sub_K hF I2.ok.mod.kin J c.find hf c.fn (call_fnO F hb hx sb.in1 I2 (vs := [.ref a', y]) (.cons rfl (.cons ry .nil)) q) (hs _ _)
/-- x op y, both instances of the class, whose own def tells an object -/
def rBinO (C : Addr) (sp : Sp) (E : XK) : R2 := fun x y H Q => ∃ a b d e fs gs, x = .ref a ∧ y = .ref b ∧ H a = some (.ins C d fs) ∧ H b = some (.ins C e gs) ∧ sp [.ref a, .ref b] H (fun r H' => ∃ z, r = .ref z ∧ Q (.ref z) H') E
theorem op_binO {op : Operator} (F : FnOk X.prog X.w X.K X.mg X.base CX n f fd ps sp) (c : OwnAt X.K C f (PySem.dunder op.info.2)) (hc : PySem.W.selfFirst X.K C = true) (hb : Binds X.K fd ps []) (hx : Passes CX X E) (hr : Room n X.A) : OpR X (binaryOp op) (rBinO C sp E) := by
  intro pins s σ H x y v u Q I rx ry hq
  obtain ⟨a, b, d, e, fs, gs, rfl, rfl, ha, hb', q⟩ := hq
  obtain rfl : v = Value.ref a := rx
  obtain rfl : u = Value.ref b := ry
  obtain ⟨mA, J, _⟩ := ins_get I.hok ha
  obtain ⟨od, J, _⟩ := J.look
  obtain ⟨mB, J', _⟩ := ins_get I.hok hb'
  obtain ⟨od', J', _⟩ := J'.look
  obtain ⟨m, hF⟩ := I.fr
  refine PySem.W.binop_K hF I.ok.mod.kin J J'.type hc c.find c.fn (wpAny_mono (call_fnO F hb hx ⟨hr, rfl⟩ I (vs := [.ref a, .ref b]) (.cons rfl (.cons rfl .nil)) q) (fun r s' z => ?_) fun _ _ e => e)
  obtain ⟨v', H', I', rv, z, rfl, q'⟩ := z
  obtain rfl : r = Value.ref z := rv
  exact ⟨.ref z, H', I', rfl, q'⟩
end
end Gl
namespace Gl
open PySem PySem.Spec PyProof.Rows L2
abbrev sIsWgt : Stmt := clsS 8
abbrev sIsAmt : Stmt := clsS 9
theorem scIsWgt : FnScope ["self", "value", "one"] ["self", "value"] (defScope sIsWgt) := ⟨rfl, rfl, rfl, by decide +kernel, rfl, by decide +kernel, by decide +kernel⟩
theorem scIsAmt : FnScope ["self", "value"] ["self", "value"] (defScope sIsAmt) := ⟨rfl, rfl, rfl, by decide +kernel, rfl, by decide +kernel, by decide +kernel⟩
/-- a property that the class has -/
structure Dp1 (P : Program) (w : World) (K : PySem.W.Frag) (mg : Str → Option Value) (base : Heap) (C : Addr) (k : Nat) (m : Str) (sp : Sp) where
  p : Addr
  f : Addr
  fd : FuncData
  G : FnOk P w K mg base CX0 k f fd ["self"] sp
  at_ : PropOf K C m p f
  b : Binds K fd ["self"] []
theorem SclAt.no {H : Hp} {a C : Addr} {m : Ms} (sa : SclAt H a C m) {x : Str} (h1 : x ≠ ("_word" : Str)) (h2 : x ≠ ("_size" : Str)) : ∃ dx fs, H a = some (.ins C dx fs) ∧ fs.lookup x = none :=
  let ⟨dx, fs, h, _, _, hn⟩ := sa; ⟨dx, fs, h, hn x h1 h2⟩
/-- the answers -/
def amtB : Ms → PyData → Bool
  | .sums, d => wholeB d
  | .odds, d => lowB d
  | .classes k, d => wholesB d k
def topOf : PyData → Int × Int
  | .tuple [.int a, .int b] => (a, b)
  | _ => (0, 0)
def posB : PyData → Bool
  | .int i => decide (0 < i)
  | _ => false
def zeroOf (n : Nat) : List PyData := List.replicate n (.int 0)
def partsB (n : Nat) : PyData → Bool
  | .tuple ds => ds.all partB && !PyData.eqvAll ds (zeroOf n)
  | _ => false
def wgtB : Ms → PyData → Bool
  | .sums, d => partB d && posB d
  | .odds, d => lowB d && oddsB (topOf d).1 (topOf d).2
  | .classes k, d => wholesB d k && partsB k d
section
variable {P : Program} {w : World} {K : PySem.W.Frag} {mg : Str → Option Value} {base : Heap} {C : Addr}
def spIsAmt (K : PySem.W.Frag) (C : Addr) : Sp := fun vs H Q _ => ∃ (a : Addr) (m : Ms) (v : V) (d : PyData), vs = [.ref a, v] ∧ SclAt H a C m ∧ m.ok ∧ Od K H v d ∧ Short d ∧ ∀ H', Ex H H' → Q (.bl (amtB m d)) H'
theorem ok_isAmt {f : Addr} {fd : FuncData} (F : Fun K "is_amount" "Scale.is_amount" sIsAmt f fd) (Z : ClsK K C) (Wh : Df P w K mg base 1 "is_whole" ["value"] (spWhole K)) (Ws : Df P w K mg base 2 "are_whole" ["value", "many"] (spWholes K)) (Lw : Df P w K mg base 3 "_is_lowest" ["value"] (spLowest K)) : FnOk P w K mg base CX0 4 f fd ["self", "value"] (spIsAmt K C) := by
  refine F.ok scIsAmt (fun vs H Q E h => ?_) (fun cdv A outer s H vs Q E hr h => ?_)
  · obtain ⟨a, m, v, d, rfl, _⟩ := h
    rfl
  · obtain ⟨a, m, v, d, rfl, ⟨dx, fs, ha, hw, hs, hn⟩, mok, hd, sh, q⟩ := h
    refine ⟨_, pss_cons (ps_if (pt_cmpR op_eq (pe_fld (pv 0) (by rfl)) pe_str (nomark _)) (pss_one (ps_ret (pe_call Wh.G (hr.mono (by decide)) (by rfl) Wh.g Wh.kp Wh.b .nil pass0 (pa_cons (pv 1) pa_nil)))) pss_nil)
      (pss_cons (ps_if (pt_cmpR op_eq (pe_fld (pv 0) (by rfl)) pe_str (nomark _)) (pss_one (ps_ret (pe_call Lw.G hr (by rfl) Lw.g Lw.kp Lw.b .nil pass0 (pa_cons (pv 1) pa_nil)))) pss_nil)
      (pss_one (ps_ret (pe_call Ws.G (hr.mono (by decide)) (by rfl) Ws.g Ws.kp Ws.b .nil pass0 (pa_cons (pv 1) (pa_cons (pe_fld (pv 0) (by rfl)) pa_nil)))))), ?_⟩
    refine ⟨_, rfl, a, C, dx, fs, _, rfl, ha, Z.cls, Z.nw, hw, rfl, _, rfl, ?_⟩
    rw [word_sums]
    cases m with
    | sums => exact ⟨_, rfl, _, d, rfl, hd, q H (Ex.refl H)⟩
    | classes k =>
      refine ⟨_, rfl, a, C, dx, fs, _, rfl, ha, Z.cls, Z.nw, hw, rfl, _, rfl, ?_⟩
      rw [word_odds]
      exact ⟨_, rfl, _, rfl, a, C, dx, fs, _, rfl, ha, Z.cls, Z.ns, hs, _, d, _, rfl, hd, sh, fun H1 e1 => q H1 e1⟩
    | odds =>
      refine ⟨_, rfl, a, C, dx, fs, _, rfl, ha, Z.cls, Z.nw, hw, rfl, _, rfl, ?_⟩
      rw [word_odds]
      exact ⟨_, rfl, _, d, rfl, hd, sh, fun H1 e1 => q H1 e1⟩
theorem low_two {d : PyData} (h : lowB d = true) : ∃ a b, d = .tuple [.int a, .int b] := by
  unfold lowB at h
  split at h
  · exact ⟨_, _, rfl⟩
  · cases h
theorem part_int {d : PyData} (h : partB d = true) : ∃ i, d = .int i := by
  cases d <;> first | cases h; done | skip
  exact ⟨_, rfl⟩
theorem whole_ints : ∀ {ds : List PyData}, ds.all wholeB = true → ∃ ns : List Int, ds = ns.map PyData.int
  | [], _ => ⟨[], rfl⟩
  | d :: ds, h => by
    rw [List.all_cons, Bool.and_eq_true] at h
    obtain ⟨ns, e⟩ := whole_ints h.2
    have h1 := h.1
    cases d <;> first | cases h1; done | skip
    exact ⟨_ :: ns, by rw [e]; rfl⟩
theorem dxs_ints {H : Hp} : ∀ {ns : List Int} {xs : List V}, DxAll K H xs (ns.map PyData.int) → xs = ns.map V.int
  | [], _, .nil => rfl
  | n :: ns, _, .cons h t => by
    cases h
    rw [dxs_ints t]
    rfl
theorem zero_data (k : Nat) : (List.replicate k (0 : Int)).map PyData.int = zeroOf k := by
  unfold zeroOf
  rw [List.map_replicate]
def spIsWgt (K : PySem.W.Frag) (C : Addr) : Sp := fun vs H Q _ => ∃ (a : Addr) (m : Ms) (v : V) (d : PyData), vs = [.ref a, v] ∧ SclAt H a C m ∧ m.ok ∧ Od K H v d ∧ Short d ∧ ∀ H', Ex H H' → Q (.bl (wgtB m d)) H'
theorem ok_isWgt {f : Addr} {fd : FuncData} (F : Fun K "is_weight" "Scale.is_weight" sIsWgt f fd) (Z : ClsK K C) (T : Blt mg) (Pa : Df P w K mg base 2 "_is_part" ["value"] (spPart K)) (Ao : Df P w K mg base 1 "_are_odds" ["right", "wrong"] spAreOdds) (Ws : Df P w K mg base 2 "are_whole" ["value", "many"] (spWholes K)) (Lw : Df P w K mg base 3 "_is_lowest" ["value"] (spLowest K)) (Ze : Dp1 P w K mg base C 1 "zero" (spZero C)) : FnOk P w K mg base CX0 4 f fd ["self", "value"] (spIsWgt K C) := by
  refine F.ok scIsWgt (fun vs H Q E h => ?_) (fun cdv A outer s H vs Q E hr h => ?_)
  · obtain ⟨a, m, v, d, rfl, _⟩ := h
    rfl
  · obtain ⟨a, m, v, d, rfl, sa, mok, hd, sh, q⟩ := h
    have nd := scIsWgt.nd
    have r1 := hr.mono (show 1 ≤ 3 by decide)
    have r2 := hr.mono (show 2 ≤ 3 by decide)
    have hu : (A.deeper (envOfC "Scale.is_weight" (defScope sIsWgt) s.heap.objs.size f cdv)).units + 64 < cLine := by have := hr.un; omega
    refine ⟨_, pss_cons (ps_if (pt_cmpR op_eq (pe_fld (pv 0) (by rfl)) pe_str (nomark _)) (pss_one (ps_ret (pe_and (pe_call Pa.G r2 (by rfl) Pa.g Pa.kp Pa.b .nil pass0 (pa_cons (pv 1) pa_nil)) (pe_one (pe_cmpR op_gt (pv 1) pe_int (nomark _)))))) pss_nil)
      (pss_cons (ps_if (pt_cmpR op_eq (pe_fld (pv 0) (by rfl)) pe_str (nomark _)) (pss_one (ps_ret (pe_and (pe_call Lw.G hr (by rfl) Lw.g Lw.kp Lw.b .nil pass0 (pa_cons (pv 1) pa_nil)) (pe_one (pe_call Ao.G r1 (by rfl) Ao.g Ao.kp Ao.b .nil pass0 (pa_cons (pe_ix ix_tup (pv 1) pe_int (fun _ _ => rfl)) (pa_cons (pe_ix ix_tup (pv 1) pe_int (fun _ _ => rfl)) pa_nil))))))) pss_nil)
      (pss_one (ps_ret (pe_and (pe_call Ws.G r2 (by rfl) Ws.g Ws.kp Ws.b .nil pass0 (pa_cons (pv 1) (pa_cons (pe_fld (pv 0) (by rfl)) pa_nil)))
        (pe_and (pe_callB (cr_all rfl) (by rfl) T.all (by decide +kernel) (pa_cons (pe_lc (own := [("one", 2)]) (g := gName 2) (tt := tYes) rfl nd (pi_tup (pv 1)) (blkOk_by (N := ["self", "value", "one"]) (sc := defScope sIsWgt) (by decide +kernel)) (fun _ _ _ _ _ => pg_name (i := 2) nd rfl (.inl rfl)) (fun _ _ _ _ _ => pts_nil)
          (fun _ _ _ _ _ => pe_call Pa.G r2 (by rfl) Pa.g Pa.kp Pa.b .nil pass0 (pa_cons (pv 2) pa_nil))) pa_nil))
        (pe_one (pe_cmpR (op_neD hu) (pv 1) (pe_prop (pv 0) Z.cls Ze.at_ Ze.G r2 Ze.b .nil pass0 rfl) (nomark _)))))))), ?_⟩
    obtain ⟨dx, fs, ha, hw, hs, hn⟩ := id sa
    refine ⟨_, rfl, a, C, dx, fs, _, rfl, ha, Z.cls, Z.nw, hw, rfl, _, rfl, ?_⟩
    rw [word_sums]
    cases m with
    | sums =>
      refine ⟨_, rfl, _, d, rfl, hd, _, rfl, ?_⟩
      have q : Q (.bl (partB d && posB d)) H := q H (Ex.refl H)
      cases hp : partB d with
      | false => rw [hp] at q; exact q
      | true =>
        rw [hp, Bool.true_and] at q
        obtain ⟨i, rfl⟩ := part_int hp
        rcases hd with hd | _
        cases hd
        exact ⟨_, rfl, _, _, rfl, rfl, q⟩
    | odds =>
      refine ⟨_, rfl, a, C, dx, fs, _, rfl, ha, Z.cls, Z.nw, hw, rfl, _, rfl, ?_⟩
      rw [word_odds]
      refine ⟨_, rfl, _, d, rfl, hd, sh, fun H1 e1 => ⟨_, rfl, ?_⟩⟩
      have q : Q (.bl (lowB d && oddsB (topOf d).1 (topOf d).2)) H1 := q H1 e1
      cases hp : lowB d with
      | false => rw [hp] at q; exact q
      | true =>
        rw [hp, Bool.true_and] at q
        obtain ⟨x, y, rfl⟩ := low_two hp
        rcases hd with hd | _
        cases hd with
        | @tup p xs _ hp ha =>
          cases ha with
          | cons h1 ha =>
          cases ha with
          | cons h2 ha =>
          cases ha
          cases h1
          cases h2
          have hp1 : SqT K H1 p [.int x, .int y] := .inl (e1.rd hp)
          exact ⟨_, rfl, p, _, 0, _, rfl, rfl, hp1, rfl, _, rfl, p, _, 1, _, rfl, rfl, hp1, rfl, x, y, rfl, q⟩
    | classes k =>
      refine ⟨_, rfl, a, C, dx, fs, _, rfl, ha, Z.cls, Z.nw, hw, rfl, _, rfl, ?_⟩
      rw [word_odds]
      refine ⟨_, rfl, _, rfl, a, C, dx, fs, _, rfl, ha, Z.cls, Z.ns, hs, _, d, _, rfl, hd, sh, fun H1 e1 => ⟨_, rfl, ?_⟩⟩
      have q : ∀ H', Ex H H' → Q (.bl (wholesB d (k : Nat) && partsB k d)) H' := q
      show if wholesB d ((k : Nat) : Int) = true then _ else _
      cases hp : wholesB d (k : Nat) with
      | false =>
        have q := q H1 e1
        rw [hp] at q
        exact iteF q
      | true =>
        rw [hp] at q
        refine iteT ?_
        cases d with
        | tuple ds =>
          simp only [wholesB, Bool.and_eq_true, decide_eq_true_eq] at hp
          obtain ⟨ns, rfl⟩ := whole_ints hp.2
          have ln : ns.length = k := by have := hp.1; rw [List.length_map] at this; omega
          have q : ∀ H', Ex H H' → Q (.bl ((ns.map PyData.int).all partB && !PyData.eqvAll (ns.map PyData.int) (zeroOf k))) H' := q
          rcases hd with hd | _
          cases hd with
          | @tup p xs _ hp ha' =>
            obtain rfl := dxs_ints ha'
            have k4 := mok.2
            refine ⟨_, rfl, p, rfl, ⟨_, .inl (e1.rd hp)⟩, fun D nD => lc_tup (xs := ns.map V.int) (fun i H' => Ex H1 H' ∧ H' D = some (.lst ((((ns.map PyData.int).take i).map partB).map V.bl)))
              ⟨Ex.new nD, upd_same⟩ (fun i H' _ h => .inl (h.1.rd (e1.rd hp))) (fun i x H' hx h => ?_) (fun H' h => ?_)⟩
            · obtain ⟨ex, eD⟩ := h
              have hx' := hx
              rw [List.getElem?_map] at hx'
              obtain ⟨n, hn, rfl⟩ := Option.map_eq_some_iff.mp hx'
              have hd1 : (ns.map PyData.int)[i]? = some (.int n) := by rw [List.getElem?_map, hn]; rfl
              refine ⟨rfl, _, rfl, _, .int n, rfl, .dx (.int n), _, eD, ?_, ex.mut nD, ?_⟩
              · rw [List.length_map, List.length_map, List.length_take, List.length_map]
                exact room1000 (by omega)
              · rw [upd_same, take_all hd1, List.map_append]
                rfl
            · obtain ⟨ex, eD⟩ := h
              have ex2 := e1.trans ex
              rw [List.length_map, ← List.length_map (f := PyData.int), List.take_length] at eD
              refine ⟨D, _, rfl, .inl (.inl eD), ?_⟩
              rw [all_id]
              cases hall : (ns.map PyData.int).all partB with
              | false =>
                have := q H' ex2
                rw [hall] at this
                exact ⟨_, rfl, this⟩
              | true =>
                have sa' := ex2.scl sa
                obtain ⟨dx', fs', ha2, n2⟩ := sa'.no (x := "zero") (by decide +kernel) (by decide +kernel)
                refine ⟨_, rfl, _, rfl, _, rfl, a, dx', fs', rfl, ha2, a, .classes k, rfl, sa', mok, fun z H2 e2 hz => ?_⟩
                have e3 := ex2.trans e2
                have vp : AmV H2 (.ref p) (.c ns) := ⟨p, rfl, e3.rd hp⟩
                refine ⟨_, _, dp_am vp, dp_am hz, Am.shaped _, Am.shaped _, ?_⟩
                have := q H2 e3
                rw [hall] at this
                have eq : PyData.eqv (Am.c ns).data (Ms.zero (.classes k)).data = PyData.eqvAll (ns.map PyData.int) (zeroOf k) := by
                  rw [← zero_data]
                  simp only [Am.data, Ms.zero, PyData.eqv]
                rw [eq]
                exact this
        | _ => cases hp
end
end Gl
namespace Gl
open PySem PySem.Spec PyProof.Rows L2
/-- tuple * 0: an empty tuple -/
theorem tuple_mul0 (l : Addr) (items : Array Value) (n : Nat) (dd : Option Addr) (sl : Array (Option Value)) (u : Tok) (hne : items.isEmpty = false) :
    Meets (Builtin.«tuple.__mul__» ⟨[.ref l, .int 0 u], []⟩) (fun _ R s => s.heap.get? l = some { cls := .type "tuple", dict := dd, data := .seq items n, slots := sl } ∧
      R (.ok (.ret (Value.ref s.heap.objs.size))) { s with heap := s.heap.push { cls := Value.type "tuple", data := Data.seq #[] }, toks := s.toks }) :=
  .of_wp fun prog w A R s h => by
    obtain ⟨hp, g, d, tk, os⟩ := s
    obtain ⟨hl, h⟩ := h
    have f1 := AutoSeq1.idx_int
    have c1 : (items.isEmpty || (0 : Int) == 1) = false := by rw [hne]; rfl
    have c2 : (decide ((0 : Int) ≤ 0) || items.isEmpty) = true := rfl
    have c0 : (decide ((0 : Int) < -(2 ^ 63)) || decide ((0 : Int) ≥ 2 ^ 63)) = false := by decide
    wp_walk using wpAny_loadPart' hl
    repeat (first
      | (refine wpAny_ite_false (decide_eq_false (by rw [c1]; exact Bool.false_ne_true)) ?_; wp_walk using wpAny_loadPart' hl))
    exact ⟨_, rfl, h⟩
def rRepT0 (K : PySem.W.Frag) : R2 := fun x y H Q => ∃ l xs, x = .ref l ∧ y = .int 0 ∧ SqT K H l xs ∧ xs ≠ [] ∧ ∀ p, H p = none → Q (.ref p) (upd H p (.tup []))
section
variable {X : Cx}
theorem op_repT0 : OpR X (binaryOp .Mult) (rRepT0 X.K) := by
  intro pins s σ H x y v u Q I rx ry h
  obtain ⟨l, xs, rfl, rfl, hT, hx, q⟩ := h
  cases rx
  obtain ⟨t, rfl⟩ := ry
  obtain ⟨its, r, ⟨⟨cls, dd, data, sl⟩, ho, hc, n, hd⟩, hs⟩ := I.tuple hT
  simp only at hc hd
  subst hc hd
  have hf : H s.heap.objs.size = none := I.hok.fresh (Nat.le_refl _)
  have hne : its.toArray.isEmpty = false := by
    cases r with
    | nil => exact absurd rfl hx
    | cons _ _ => rfl
  refine wpAny_binaryOp_repeat_ref (T := "tuple") (U := "int") (by decide) ⟨_, ho, rfl⟩ (fun s' => typeIs_int s' 0 t) noFill_tuple_mul F.fills_int_mul F.slot_int_rmul repeat_tuple F.slot_int_index.lookup
    (call_meets F.slot_int_rmul (typeIs_int s 0 t) F.entry_int_rmul (F.args_int_rmul_2 _ _) (int_rmul_tuple 0 t l its.toArray n dd sl)
      ⟨ho, rfl, ⟨_, ho, rfl⟩, call_meets F.slot_tuple_mul ⟨_, ho, rfl⟩ F.entry_tuple_mul (F.args_tuple_mul_2 _ _) (tuple_mul0 l its.toArray n dd sl t hne) ⟨ho, ?_⟩⟩)
  refine ⟨.ref s.heap.objs.size, _, I.laid (t' := s.toks) (o := .tup []) (fun b ob q => Heap.get?_push_of_some _ q) (Nat.le_refl _) ?_, rfl, q _ (I.hok.fresh (Nat.le_refl _))⟩
  exact ⟨Nat.zero_le _, _, .nil, IsTup.new _ _⟩
end
end Gl
namespace Gl
open PySem PySem.Spec PyProof.Rows L2
abbrev sOne : Stmt := clsS 7
abbrev sEqM : Stmt := clsS 21
theorem scOne : FnScope ["self"] ["self"] (defScope sOne) := ⟨rfl, rfl, rfl, by decide +kernel, rfl, by decide +kernel, by decide +kernel⟩
theorem scEqM : FnScope ["self", "other"] ["self", "other"] (defScope sEqM) := ⟨rfl, rfl, rfl, by decide +kernel, rfl, by decide +kernel, by decide +kernel⟩
def Ms.one : Ms → Am
  | .sums => .n 1
  | .classes k => .c (1 :: List.replicate (k - 1) 0)
  | .odds => .o ⟨(2, 1), by first | decide | constructor <;> decide⟩
section
variable {P : Program} {w : World} {K : PySem.W.Frag} {mg : Str → Option Value} {base : Heap} {C : Addr}
def spOne (C : Addr) : Sp := fun vs H Q _ => ∃ (a : Addr) (m : Ms), vs = [.ref a] ∧ SclAt H a C m ∧ m.ok ∧ ∀ v H', Ex H H' → AmV H' v m.one → Q v H'
theorem ok_one {f : Addr} {fd : FuncData} (F : Fun K "one" "Scale.one" sOne f fd) (Z : ClsK K C) : FnOk P w K mg base CX0 1 f fd ["self"] (spOne C) := by
  refine F.ok scOne (fun vs H Q E h => ?_) (fun cdv A outer s H vs Q E hr h => ?_)
  · obtain ⟨a, m, rfl, _⟩ := h
    rfl
  · obtain ⟨a, m, rfl, ⟨dx, fs, ha, hw, hs, hn⟩, mok, q⟩ := h
    refine ⟨_, pss_cons (ps_if (pt_cmpR op_eq (pe_fld (pv 0) (by rfl)) pe_str (nomark _)) (pss_one (ps_ret pe_int)) pss_nil)
      (pss_cons (ps_if (pt_cmpR op_eq (pe_fld (pv 0) (by rfl)) pe_str (nomark _)) (pss_one (ps_ret (pe_tup (pa_cons pe_int (pa_cons pe_int pa_nil))))) pss_nil)
      (pss_one (ps_ret (pe_op op_catT (pe_tup (pa_cons pe_int pa_nil)) (pe_op (op_repT0.or (op_repT1.or op_repT)) (pe_tup (pa_cons pe_int pa_nil)) (pe_op op_sub (pe_fld (pv 0) (by rfl)) pe_int)))))), ?_⟩
    refine ⟨_, rfl, a, C, dx, fs, _, rfl, ha, Z.cls, Z.nw, hw, rfl, _, rfl, ?_⟩
    rw [word_sums]
    cases m with
    | sums => exact q _ H (Ex.refl H) rfl
    | odds =>
      refine ⟨_, rfl, a, C, dx, fs, _, rfl, ha, Z.cls, Z.nw, hw, rfl, _, rfl, ?_⟩
      rw [word_odds]
      exact ⟨by show 2 ≤ sizeLine; decide, fun t nt => q _ _ (Ex.new nt) ⟨t, rfl, .inl upd_same⟩⟩
    | classes k =>
      refine ⟨_, rfl, a, C, dx, fs, _, rfl, ha, Z.cls, Z.nw, hw, rfl, _, rfl, ?_⟩
      rw [word_odds]
      have k1 := mok.1
      have k4 := mok.2
      refine ⟨by show 1 ≤ sizeLine; decide, fun t nt => ⟨by show 1 ≤ sizeLine; decide, fun u nu => ?_⟩⟩
      have xt := Ex.new (o := .tup [.int 1]) nt
      have xu := Ex.new (o := .tup [.int 0]) nu
      have ht : upd (upd H t (.tup [.int 1])) u (.tup [.int 0]) t = some (.tup [.int 1]) := xu t _ upd_same
      refine ⟨_, rfl, a, C, dx, fs, _, rfl, xu a _ (xt a _ ha), Z.cls, Z.ns, hs, _, _, rfl, rfl, ?_⟩
      have hu : upd (upd H t (.tup [.int 1])) u (.tup [.int 0]) u = some (.tup [.int 0]) := upd_same
      have k' : k = 1 ∨ k = 2 ∨ k = 3 ∨ k = 4 := by omega
      rcases k' with rfl | rfl | rfl | rfl
      · refine .inl ⟨u, [.int 0], rfl, rfl, .inl (.inl hu), by simp, fun z nz => ?_⟩
        have xz := Ex.new (o := .tup []) nz
        refine ⟨t, z, [.int 1], [], rfl, rfl, .inl (.inl (xz t _ ht)), .inl (.inl upd_same), by simp, by decide, fun _ => ?_, fun h => absurd rfl h⟩
        exact q _ _ ((xt.trans xu).trans xz) ⟨t, rfl, .inl (xz t _ ht)⟩
      · refine .inr (.inl ⟨u, [.int 0], rfl, rfl, .inl (.inl hu), ?_⟩)
        refine ⟨t, u, [.int 1], [.int 0], rfl, rfl, .inl (.inl ht), .inl (.inl hu), by simp, by decide, (fun h => by simp at h), fun _ z nz => ?_⟩
        exact q _ _ ((xt.trans xu).trans (Ex.new nz)) ⟨z, rfl, .inl upd_same⟩
      · refine .inr (.inr ⟨u, 2, [.int 0], rfl, rfl, .inl (.inl hu), by simp, by decide, by decide, by decide, fun z nz => ?_⟩)
        have xz := Ex.new (o := .tup (List.replicate (2 : Int).toNat [V.int 0]).flatten) nz
        refine ⟨t, z, [.int 1], _, rfl, rfl, .inl (.inl (xz t _ ht)), .inl (.inl upd_same), by simp, by decide, (fun h => absurd h (by simp)), fun _ z' nz' => ?_⟩
        exact q _ _ (((xt.trans xu).trans xz).trans (Ex.new nz')) ⟨z', rfl, .inl upd_same⟩
      · refine .inr (.inr ⟨u, 3, [.int 0], rfl, rfl, .inl (.inl hu), by simp, by decide, by decide, by decide, fun z nz => ?_⟩)
        have xz := Ex.new (o := .tup (List.replicate (3 : Int).toNat [V.int 0]).flatten) nz
        refine ⟨t, z, [.int 1], _, rfl, rfl, .inl (.inl (xz t _ ht)), .inl (.inl upd_same), by simp, by decide, (fun h => absurd h (by simp)), fun _ z' nz' => ?_⟩
        exact q _ _ (((xt.trans xu).trans xz).trans (Ex.new nz')) ⟨z', rfl, .inl upd_same⟩
/-- scale == other -/
def spEqM (K : PySem.W.Frag) (C : Addr) : Sp := fun vs H Q _ => (∃ (a b : Addr) (m n : Ms), vs = [.ref a, .ref b] ∧ SclAt H a C m ∧ SclAt H b C n ∧ Q (.bl (decide (m = n))) H) ∨ (∃ (a : Addr) (m : Ms) (v : V) (d : PyData), vs = [.ref a, v] ∧ SclAt H a C m ∧ Dx K H v d ∧ Q (.bl false) H)
theorem ms_eq (m n : Ms) : decide (m = n) = (decide (V.str m.word = V.str n.word) && decide (V.int ((m.size : Nat) : Int) = V.int ((n.size : Nat) : Int))) := by
  have sc : decide (V.str Ms.sums.word = V.str (Ms.classes 0).word) = false := by decide +kernel
  have so : decide (V.str Ms.sums.word = V.str Ms.odds.word) = false := by decide +kernel
  have co : decide (V.str (Ms.classes 0).word = V.str Ms.odds.word) = false := by decide +kernel
  have cs : decide (V.str (Ms.classes 0).word = V.str Ms.sums.word) = false := by decide +kernel
  have os : decide (V.str Ms.odds.word = V.str Ms.sums.word) = false := by decide +kernel
  have oc : decide (V.str Ms.odds.word = V.str (Ms.classes 0).word) = false := by decide +kernel
  have ts : decide (V.str Ms.sums.word = V.str Ms.sums.word) = true := decide_eq_true rfl
  have tc : decide (V.str (Ms.classes 0).word = V.str (Ms.classes 0).word) = true := decide_eq_true rfl
  have to : decide (V.str Ms.odds.word = V.str Ms.odds.word) = true := decide_eq_true rfl
  cases m with
  | sums =>
    cases n with
    | sums => rw [ts, decide_eq_true rfl, decide_eq_true rfl]; rfl
    | classes l => rw [decide_eq_false (fun z => nomatch z)]; exact (by rw [show decide (V.str Ms.sums.word = V.str (Ms.classes l).word) = false from sc, Bool.false_and])
    | odds => rw [decide_eq_false (fun z => nomatch z), so, Bool.false_and]
  | classes k =>
    cases n with
    | sums => rw [decide_eq_false (fun z => nomatch z), show decide (V.str (Ms.classes k).word = V.str Ms.sums.word) = false from cs, Bool.false_and]
    | classes l =>
      rw [show decide (V.str (Ms.classes k).word = V.str (Ms.classes l).word) = true from tc, Bool.true_and]
      exact decide_eq_decide.mpr ⟨fun z => by cases z; rfl, fun z => by injection z with z; exact congrArg Ms.classes (Int.natCast_inj.mp z)⟩
    | odds => rw [decide_eq_false (fun z => nomatch z), show decide (V.str (Ms.classes k).word = V.str Ms.odds.word) = false from co, Bool.false_and]
  | odds =>
    cases n with
    | sums => rw [decide_eq_false (fun z => nomatch z), os, Bool.false_and]
    | classes l => rw [decide_eq_false (fun z => nomatch z), show decide (V.str Ms.odds.word = V.str (Ms.classes l).word) = false from oc, Bool.false_and]
    | odds => rw [to, decide_eq_true rfl, decide_eq_true rfl]; rfl
theorem ok_eqM {f : Addr} {fd : FuncData} (F : Fun K "__eq__" "Scale.__eq__" sEqM f fd) (Z : ClsK K C) (T : Blt mg) (Zt : ClsT K C) (gC : mg "Scale" = some (.ref C)) (kc : PySem.W.kitOne K (.ref C) (.ref C) = some true) (kn : ∀ t ∈ tys, PySem.W.kitOne K (.type t) (.ref C) = some false) : FnOk P w K mg base CX0 1 f fd ["self", "other"] (spEqM K C) := by
  refine F.ok scEqM (fun vs H Q E h => ?_) (fun cdv A outer s H vs Q E hr h => ?_)
  · rcases h with ⟨a, b, m, n, rfl, _⟩ | ⟨a, m, v, d, rfl, _⟩ <;> rfl
  · refine ⟨_, pss_one (ps_ret (pe_and (pe_callB call_isi (by rfl) T.isinstance (by decide +kernel) (pa_cons (pv 1) (pa_cons (pe_glob (v := .ref C) (by rfl) gC rfl) pa_nil)))
      (pe_and (pe_cmpR op_eq (pe_fld (pv 0) (by rfl)) (pe_fld (pv 1) (by rfl)) (nomark _)) (pe_one (pe_cmpR op_eq (pe_fld (pv 0) (by rfl)) (pe_fld (pv 1) (by rfl)) (nomark _)))))), ?_⟩
    rcases h with ⟨a, b, m, n, rfl, ⟨dx, fs, ha, hw, hs, hn⟩, ⟨dy, gs, hb, hw', hs', hn'⟩, q⟩ | ⟨a, m, v, d, rfl, sa, hd, q⟩
    · refine ⟨_, rfl, _, _, _, _, _, rfl, .own C, .base (.ins hb Zt.c Zt.t1 Zt.t2 Zt.t3 Zt.t4), kc, true, rfl, ?_⟩
      refine ⟨_, rfl, a, C, dx, fs, _, rfl, ha, Z.cls, Z.nw, hw, _, rfl, b, C, dy, gs, _, rfl, hb, Z.cls, Z.nw, hw', rfl, _, rfl, ?_⟩
      rw [ms_eq] at q
      by_cases z : V.str m.word = V.str n.word
      · rw [decide_eq_true z] at q ⊢
        rw [Bool.true_and] at q
        exact ⟨_, rfl, a, C, dx, fs, _, rfl, ha, Z.cls, Z.ns, hs, _, rfl, b, C, dy, gs, _, rfl, hb, Z.cls, Z.ns, hs', rfl, q⟩
      · rw [decide_eq_false z] at q ⊢
        exact q
    · exact ⟨_, rfl, _, _, _, _, _, rfl, .own C, tyx hd, kn _ (tyName_in d), false, rfl, q⟩
/-- str(scale) -/
def Ms.text : Ms → Str
  | .sums => "sums"
  | .classes 1 => "classes of 1"
  | .classes 2 => "classes of 2"
  | .classes 3 => "classes of 3"
  | .classes _ => "classes of 4"
  | .odds => "odds"
end
end Gl
namespace Gl
open PySem PySem.Spec PyProof.Rows L2 ClX
/-- C.m is a staticmethod: its record at p, its def at g -/
structure SMet (K : PySem.W.Frag) (C : Addr) (mc : Value) (m : Str) (p g : Addr) : Prop where
  at_ : PySem.W.findCls K (.ref C) mc m = some (.get (.builtin "staticmethod.__get__") (.ref p) .none (.ref C))
  rc : ∃ rest, PySem.W.recIn K p "staticmethod" = some (.ref g :: rest)
  kp : PySem.W.keepIn K (.ref g) = true
/-- e.m(..), e the class at C, m a staticmethod -/
def tSMeth (C : Addr) (sp : Sp) (dvs : List V) (E : XK) (ta : TE) (t : TA) : TE := fun σ H Q => ta σ H fun x H1 => x = .ref C ∧ t σ H1 fun vs H2 => sp (vs ++ dvs) H2 Q E
section
variable {X : Cx} {pins : List (Addr × Obj)} {σ : L2.St} {H : Hp} {s : Shared} {C p g : Addr} {mc : Value} {m : Str} {A : Around} {E' : Value → Shared → Prop}
theorem getsmet_ok {b : Bool} {Q : Value → Shared → Prop} (I : Inv X pins σ H s) (r : CRead X.K C mc) (k : SMet X.K C mc m p g)
    (h : ∀ s', Inv X pins σ H s' → Q (.ref g) s') : wpAny (model X.prog X.w) A (getAttr (.ref C) m b) Q E' s := by
  obtain ⟨rest, hp⟩ := k.rc
  refine PySem.W.cls_bind I.kIn r.rd k.at_ ?_
  refine wpAny_call (PySem.W.sm_get (s := { s with toks := s.toks + 1 }) I.kIn hp (PySem.W.handed_on rfl ?_))
  exact h _ (I.tok _)
theorem getmethsm_ok {pl : Sem Bool} {Q : Value × List Value → Shared → Prop} (I : Inv X pins σ H s) (r : CRead X.K C mc) (k : SMet X.K C mc m p g)
    (h : ∀ s', Inv X pins σ H s' → Q (.ref g, []) s') : wpAny (model X.prog X.w) A (getMethod (.ref C) m pl) Q E' s :=
  PySem.W.method_cls I.kIn r.ga (getsmet_ok I r k h)
variable {CX : CXT} {k : Nat} {sp : Sp} {E : XK} {fd : FuncData} {ps : List Str} {ds : List Value} {dvs : List V} {o e : Expr} {es : List Expr} {pos apos : Pos} {ta : TE} {t : TA} {pl : Sem Bool}
theorem pe_smeth (he : PE X o ta) (r : CRead X.K C mc) (c : SMet X.K C mc m p g) (F : FnOk X.prog X.w X.K X.mg X.base CX k g fd ps sp) (hr : Room k X.A) (hb : Binds X.K fd ps ds) (hd : Vals dvs ds) (hx : Passes CX X E) (ha : PA X (e :: es) t)
    (hst : starEach (e :: es) X.env = (false, eval e X.env) :: starEach es X.env := by rfl) (hpl : (backTo pos (starEach es X.env)).any (·.1) = false := by rfl)
    (ht : eval (.Call (.Attribute o m apos) (e :: es) [] pos) X.env = (do
      let ov ← eval o X.env
      standAt apos.atName
      let (f, first) ← holding [ov] (getMethod ov m pl)
      callWith pos f first (backTo pos (starEach (e :: es) X.env)) (backToKw pos (keywordEach [] X.env))) := by rfl) :
    PE X (.Call (.Attribute o m apos) (e :: es) [] pos) (tSMeth C sp dvs E ta t) := by
  refine ⟨fun pins s σ H Q I h => ?_⟩
  refine PySem.W.methodCall_KW (pl := pl) (thn (he.run pins s σ H _ I h) fun u s1 ⟨x, H1, I1, rx, ex, q⟩ => ?_) ht
  subst ex
  obtain rfl : u = Value.ref C := rx
  refine getmethsm_ok I1 r c fun s2 I2 => ?_
  refine PySem.W.callWith_K (h₀ := X.base) I2.ok.mod.kin c.kp (thn (ha.run pos pins s2 σ H1 _ I2 q) fun us s3 ⟨vs, H2, I3, rv, q2⟩ => ⟨I3.kIn, ?_⟩) hst hpl
  exact run_fn F hr hb hd hx I3 rv q2
theorem pe_smeth0 (he : PE X o ta) (r : CRead X.K C mc) (c : SMet X.K C mc m p g) (F : FnOk X.prog X.w X.K X.mg X.base CX k g fd ps sp) (hr : Room k X.A) (hb : Binds X.K fd ps ds) (hd : Vals dvs ds) (hx : Passes CX X E)
    (ht : eval (.Call (.Attribute o m apos) [] [] pos) X.env = (do
      let ov ← eval o X.env
      standAt apos.atName
      let (f, first) ← holding [ov] (getMethod ov m pl)
      callWith pos f first (backTo pos (starEach [] X.env)) (backToKw pos (keywordEach [] X.env))) := by rfl) :
    PE X (.Call (.Attribute o m apos) [] [] pos) (tSMeth C sp dvs E ta tNil) := by
  refine ⟨fun pins s σ H Q I h => ?_⟩
  refine PySem.W.methodCall_KW (pl := pl) (thn (he.run pins s σ H _ I h) fun u s1 ⟨x, H1, I1, rx, ex, q⟩ => ?_) ht
  subst ex
  obtain rfl : u = Value.ref C := rx
  refine getmethsm_ok I1 r c fun s2 I2 => ?_
  exact PySem.W.callWith_K0 I2.kIn c.kp (run_fn (us := []) F hr hb hd hx I2 .nil q)
end
end Gl
/-! enumerate(a tuple) -/
namespace Gl
open PySem PySem.Spec PyProof.Rows L2 HT
theorem adjust_rev (n : Nat) : Builtin.Slice.sliceAdjust none none (-1) (n : Int) = ((n : Int) - 1, -1) := by
  unfold Builtin.Slice.sliceAdjust
  have h1 : ((-1 : Int) < 0) := by omega
  simp only [h1, if_true]
theorem places_rev (n : Nat) : Builtin.Slice.slicePlaces ((n : Int) - 1) (-1) (-1) = n := by
  unfold Builtin.Slice.slicePlaces
  have h1 : ¬ ((-1 : Int) > 0) := by omega
  simp only [h1, if_false]
  rw [show (- -1 : Int) = 1 by decide, Int.ediv_one]
  split <;> omega
theorem pick_rev (xs : Array Value) : ((List.range xs.size).filterMap fun (m : Nat) => xs[(((xs.size : Int) - 1) + (m : Int) * (-1)).toNat]?).toArray = xs.toList.reverse.toArray := by
  have e : (fun (m : Nat) => xs[(((xs.size : Int) - 1) + (m : Int) * (-1)).toNat]?) = (fun i => xs[i]?) ∘ fun (m : Nat) => (((xs.size : Int) - 1) + (m : Int) * (-1)).toNat := rfl
  rw [e, ← List.filterMap_map]
  have e2 : (List.range xs.size).map (fun (m : Nat) => (((xs.size : Int) - 1) + (m : Int) * (-1)).toNat) = (List.range xs.size).reverse := by
    refine Eq.trans (List.map_congr_left fun m hm => ?_) (PySem.W.krv_range xs.size)
    have := List.mem_range.mp hm
    omega
  rw [e2, List.filterMap_reverse, PySem.W.krv_all]
section
variable {prog : Program} {w : World} {A : Around} {E : Value → Shared → Prop} {s : Shared}
theorem sliceApplied_rev {sl : Addr} {vl vu vs : Value} {n : Nat} {Q : Int × Int × Nat → Shared → Prop} (hs : s.heap.IsSliceOf sl vl vu vs) (pl : IsPart vl none) (pu : IsPart vu none) (ps : IsPart vs (some (-1)))
    (h : Q ((n : Int) - 1, -1, n) s) : wpAny (model prog w) A (Builtin.Slice.sliceApplied (.ref sl) (pure (n : Int))) Q E s := by
  obtain ⟨os, hos, hcs, hds⟩ := id hs
  unfold Builtin.Slice.sliceApplied Builtin.Slice.sliceFields
  refine wpAny_bind (wpAny_bind (wpAny_field hos hds (x := vl) rfl (wpAny_bind (wpAny_field hos hds (x := vu) rfl (wpAny_bind (wpAny_field hos hds (x := vs) rfl (wpAny_pure ?_)))))))
  refine wpAny_bind (slicePart_ ps ?_)
  show wpAny _ _ (if ((-1 : Int) == 0) = true then _ else _) _ _ s
  rw [if_neg (by decide)]
  refine wpAny_bind (slicePart_ pl (wpAny_bind (slicePart_ pu (wpAny_bind (wpAny_pure ?_)))))
  show wpAny _ _ (match Builtin.Slice.sliceAdjust none none (-1) (n : Int) with | (lo, hi) => pure (lo, (-1 : Int), Builtin.Slice.slicePlaces lo hi (-1))) _ _ s
  rw [adjust_rev n]
  show wpAny _ _ (pure ((n : Int) - 1, (-1 : Int), Builtin.Slice.slicePlaces ((n : Int) - 1) (-1) (-1))) _ _ s
  rw [places_rev]
  exact wpAny_pure h
theorem getItem_tuple_rev {t sl : Addr} {items : Array Value} {vl vu vs : Value} {Q : Value → Shared → Prop} (ht : IsTup s.heap t items) (hs : s.heap.IsSliceOf sl vl vu vs) (pl : IsPart vl none) (pu : IsPart vu none) (ps : IsPart vs (some (-1)))
    (h : Q (.ref s.heap.objs.size) { s with heap := s.heap.push { cls := .type "tuple", data := .seq items.toList.reverse.toArray } })
    (hsz : items.size ≤ sizeLine) : wpAny (model prog w) A (getItem (.ref t) (.ref sl)) Q E s := by
  have htake : sizeOk (.seq items.toList.reverse.toArray) := by
    show items.toList.reverse.toArray.size ≤ sizeLine
    rw [List.size_toArray, List.length_reverse, Array.length_toList]
    exact hsz
  obtain ⟨os, hos, hcs, hds⟩ := id hs
  have hTs : s.TypeIs (.ref sl) "slice" := ⟨os, hos, hcs⟩
  unfold getItem
  try with_reducible refine wpAny_holding ?_
  first | refine wpAny_bind (wpAny_pure ?_) | skip
  refine wpAny_bind (wpAny_sequenceKey ht.typeIs (by decide) ?_)
  refine wpAny_bind (wpAny_callSpecial?_slot (name := Str.ofString "__getitem__") ht.typeIs PyProof.Rows.slot_tuple_getitem
    (wpAny_call_entry PyProof.Rows.slot_tuple_getitem ht.typeIs entry_tuple_getitem ?_ (args_tuple_getitem _ _)))
  show wpAny _ _ (Builtin.Tuple.tupleItemsOf (.ref t) >>= _) _ _ s
  refine wpAny_bind (tupleItemsOf_ ht ?_)
  refine wpAny_bind (wpAny_typeOf hTs ?_)
  rw [if_pos (by decide)]
  refine wpAny_bind (sliceApplied_rev hs pl pu ps ?_)
  have hno : ¬ ((((items.size : Int) - 1) == 0 && (-1 : Int) == 1 && items.size == items.size) = true) := by
    rw [show ((-1 : Int) == 1) = false from rfl, Bool.and_false, Bool.false_and]
    exact Bool.false_ne_true
  show wpAny _ _ (if (((items.size : Int) - 1) == 0 && (-1 : Int) == 1 && items.size == items.size) = true then _ else _) _ _ s
  rw [if_neg hno, pick_rev]
  first
    | exact wpAny_bind (m := Builtin.Tuple.tupleExact _) (wpAny_newObj_type (wpAny_pure ⟨_, rfl, wpAny_pure h⟩) htake)
    | exact wpAny_bind (m := Builtin.Tuple.tupleExact _) (wpAny_newObj_type (wpAny_bind (wpAny_pure (wpAny_pure ⟨_, rfl, wpAny_pure h⟩))) htake)
    | exact wpAny_bind (wpAny_bind (m := Builtin.Tuple.tupleExact _) (wpAny_newObj_type (wpAny_pure (wpAny_pure ⟨_, rfl, wpAny_pure h⟩)) htake))
    | exact wpAny_bind (wpAny_bind (m := Builtin.Tuple.tupleExact _) (wpAny_newObj_type (wpAny_pure ⟨_, rfl, wpAny_pure h⟩) htake))
end
/-- t[::-1] -/
def tRevT (K : PySem.W.Frag) (te : TE) : TE := fun σ H Q => te σ H fun x H1 => ∃ a xs, x = .ref a ∧ SqT K H1 a xs ∧ ∀ p, H1 p = none → Q (.ref p) (upd H1 p (.tup xs.reverse))
section
variable {X : Cx}
theorem pe_revT {e : Expr} {te : TE} {k : Nat} {p1 p2 p3 pos : Pos} (he : PE X e te) : PE X (.Subscript e (.Slice none none (some (.UnaryOp .USub (.Constant (.int 1) k p1) p2)) p3) pos) (tRevT X.K te) := by
  refine ⟨fun pins s σ H Q I h => ?_⟩
  refine Subscript_ (thn (he.run pins s σ H _ I h) fun v s1 ⟨x, H1, I1, r1, q1⟩ => ?_)
  obtain ⟨a, xs, ex, hx, q⟩ := q1
  subst ex
  cases r1
  have hst : PO X (some (.UnaryOp .USub (.Constant (.int 1) k p1) p2)) (tPart (tUn (rU fun i => .int (-i)) (tC (.int 1)))) := po_some (pe_un un_neg pe_int)
  refine wpAny_Slice (thn (po_none.run pins s1 σ H1 (fun o H2 => o = none ∧ H2 = H1) I1 ⟨rfl, rfl⟩) fun vl s2 ⟨l, H2, I2, pl, el, e2⟩ => ?_)
  subst el e2
  refine thn (po_none.run pins s2 σ H2 (fun o H3 => o = none ∧ H3 = H2) I2 ⟨rfl, rfl⟩) fun vu s3 ⟨u, H3, I3, pu, eu, e3⟩ => ?_
  subst eu e3
  refine thn (hst.run pins s3 σ H3 (fun o H4 => o = some (-1) ∧ H4 = H3) I3 ⟨1, rfl, -1, rfl, rfl, rfl⟩) fun vs s4 ⟨o, H4, I4, ps, eo, e4⟩ => ?_
  subst eo e4
  have I5 : Inv X pins σ H4 { s4 with heap := s4.heap.push { cls := .type "slice", data := .fields #[vl, vu, vs] } } := I4.kept (t' := s4.toks) fun b ob q => Heap.get?_push_of_some _ q
  obtain ⟨its, r, ht, hz⟩ := I5.tuple hx
  have hlen := r.length
  show wpAny (model X.prog X.w) X.A (subscriptTail e (.Slice none none (some (.UnaryOp .USub (.Constant (.int 1) k p1) p2)) p3) (.ref a) (.ref s4.heap.objs.size)) (EP X pins σ Q) X.xe { s4 with heap := s4.heap.push { cls := .type "slice", data := .fields #[vl, vu, vs] } }
  refine tail_any (ops := [.ref a, .ref s4.heap.objs.size]) ht.typeIs (PyProof.Rows.slot_tuple_getitem.lookup) ?_ (by with_unfolding_all rfl)
  refine getItem_tuple_rev ht (Heap.IsSliceOf.new _ vl vu vs) pl pu ps ?_ (by rw [List.size_toArray]; omega)
  refine ⟨.ref _, _, I5.laid (t' := s4.toks) (o := .tup xs.reverse) (fun b ob q => Heap.get?_push_of_some _ q) (Nat.le_refl _) ?_, rfl, q _ (I5.hok.fresh (Nat.le_refl _))⟩
  exact ⟨by rw [List.length_reverse]; exact hz, _, r.reverse, IsTup.new _ _⟩
end
end Gl
set_option exponentiation.threshold 10000
namespace Gl
open PySem PySem.Spec PyProof.Rows L2 ClX
abbrev sChkAll : Stmt := clsS 23
theorem scChkAll : FnScope ["self", "amounts", "amount"] ["self", "amounts"] (defScope sChkAll) := ⟨rfl, rfl, rfl, by decide +kernel, rfl, by decide +kernel, by decide +kernel⟩
theorem tyRd {K : PySem.W.Frag} {H : Hp} {p : Addr} {xs : List V} (h : Rd H p (.tup xs)) : TyX K H (.ref p) (.type "tuple") := by
  rcases h with h | ⟨o, h⟩
  · exact .base (.tup h)
  · exact .fTuple h
/-- a method with a star argument -/
structure DmR (P : Program) (w : World) (K : PySem.W.Frag) (mg : Str → Option Value) (base : Heap) (C : Addr) (k : Nat) (m : Str) (sp : Sp) where
  f : Addr
  G : FnR P w K mg base CX0 k f sp
  at_ : Meth K C m f
theorem rd_updL {H : Hp} {p L : Addr} {xs ys zs : List V} (h : Rd H p (.tup xs)) (l : H L = some (.lst ys)) : Rd (upd H L (.lst zs)) p (.tup xs) := by
  have ne : p ≠ L := fun e => by
    subst e
    rcases h with h | ⟨o, h⟩
    · rw [l] at h; exact nomatch h
    · rw [l] at h; exact nomatch h
  rcases h with h | ⟨o, h⟩
  · exact .inl (by rw [upd_ne ne]; exact h)
  · exact .inr ⟨o, by rw [upd_ne ne]; exact h⟩
theorem AmV.updL {H : Hp} {L : Addr} {ys zs : List V} (l : H L = some (.lst ys)) {v : V} : ∀ {x : Am}, AmV H v x → AmV (upd H L (.lst zs)) v x
  | .n _, h => h
  | .c _, ⟨p, h, r⟩ => ⟨p, h, rd_updL r l⟩
  | .o _, ⟨p, h, r⟩ => ⟨p, h, rd_updL r l⟩
theorem cut_to (xs : List V) (k : Nat) : cutV xs none (some (k : Int)) = xs.take k := by
  unfold cutV
  rw [HT.sIx_none, HT.sIx_nat]
  simp
section
variable {X : Cx} {CX : CXT} {k : Nat} {C f : Addr} {sp : Sp} {E : XK} {m : Str} {o : Expr} {pos apos : Pos} {ta : TE} {pl : Sem Bool}
/-- o.m() of a method with a star argument -/
theorem pe_methR0 (he : PE X o ta) (c : Cls X.K C) (hm : Meth X.K C m f) (F : FnR X.prog X.w X.K X.mg X.base CX k f sp) (hr : Room k X.A) (hx : Passes CX X E)
    (ht : eval (.Call (.Attribute o m apos) [] [] pos) X.env = (do
      let ov ← eval o X.env
      standAt apos.atName
      let (f, first) ← holding [ov] (getMethod ov m pl)
      callWith pos f first (backTo pos (starEach [] X.env)) (backToKw pos (keywordEach [] X.env))) := by rfl) :
    PE X (.Call (.Attribute o m apos) [] [] pos) (tMethR C m sp E ta tNil) := by
  refine ⟨fun pins s σ H Q I h => ?_⟩
  refine PySem.W.methodCall_KW (pl := pl) (thn (he.run pins s σ H _ I h) fun u s1 ⟨x, H1, I1, rx, a, dx, fs, ex, ea, l, q⟩ => ?_) ht
  subst ex
  obtain rfl : u = Value.ref a := rx
  refine getmeth_ok I1 ea c hm l ?_
  exact PySem.W.callWith_K0 (first := [.ref a]) I1.kIn hm.kp (wpAny_call (run_fnR (us := [.ref a]) (vs := [.ref a]) F hr hx I1 (.cons rfl .nil) q))
/-- sum(a tuple of ints) -/
def rSumT (K : PySem.W.Frag) : List V → Hp → VK → Prop := fun vs H Q => ∃ (a : Addr) (ns : List Int), vs = [V.ref a] ∧ SqT K H a (ns.map V.int) ∧ Q (.int ns.sum) H
end
section
variable {P : Program} {w : World} {K : PySem.W.Frag} {mg : Str → Option Value} {base : Heap} {C : Addr} {mc : Value}
def spLowW : Sp := fun vs H Q _ => ∃ a b : Nat, vs = [.int a, .int b] ∧ 0 < a ∧ 0 < b ∧ a < 2 ^ 2000 ∧ b < 2 ^ 2000 ∧ ∀ (p : Addr) H' (h : Low (a / Nat.gcd a b) (b / Nat.gcd a b)), Ex H H' → H p = none → Rd H' p (.tup (oddV ⟨(a / Nat.gcd a b, b / Nat.gcd a b), h⟩)) → Q (.ref p) H'
theorem ok_lowW {f : Addr} {fd : FuncData} (F : Fun K "_law_lowest" "_law_lowest" sLowL f fd) (T : Blt mg) : FnG P w K mg base CX0 1 f fd ["_law_top", "_law_bottom"] spLowW := by
  refine okG F scLowL (fun vs H Q E h => ?_) (fun cdv A outer s H vs Q E hr h => ?_)
  · obtain ⟨a, b, rfl, _⟩ := h
    rfl
  · obtain ⟨a, b, rfl, ha, hb, la, lb, q⟩ := h
    have nd := scLowL.nd
    refine ⟨_, pss_cons (ps_par (i := 2) (j := 3) rfl nd rfl rfl (by decide) rfl rfl (pa_cons (pv 0) (pa_cons (pv 1) pa_nil)) (by rfl))
      (pss_cons (ps_while PassesOwn.never (pt_cmpR op_gt (pv 3) pe_int (nomark _)) (pss_one (ps_par (i := 2) (j := 3) rfl nd rfl rfl (by decide) rfl rfl (pa_cons (pv 3) (pa_cons (pe_op op_mod (pe_callTy call_int1 (by rfl) T.int (by decide +kernel) (pa_cons (pv 2) pa_nil)) (pv 3)) pa_nil)) (by rfl))))
      (pss_one (ps_ret (pe_tup (pa_cons (pe_op op_fdivW (pv 0) (pv 2)) (pa_cons (pe_op op_fdivW (pv 1) (pv 2)) pa_nil)))))), ?_⟩
    refine ⟨_, rfl, _, rfl, _, _, rfl, ?_⟩
    refine ⟨fun m σ H' => ∃ u v : Nat, σ = [some (.int a), some (.int b), some (.int u), some (.int v)] ∧ H' = H ∧ v = m ∧ Nat.gcd u v = Nat.gcd a b ∧ 0 < u ∧ u < 2 ^ 2000 ∧ v < 2 ^ 2000, ⟨b, a, b, rfl, rfl, rfl, rfl, ha, la, lb⟩, fun m σ H' h => ?_⟩
    obtain ⟨u, v, rfl, rfl, rfl, g, u0, ul, vl⟩ := h
    refine ⟨_, rfl, _, _, rfl, rfl, _, rfl, ?_⟩
    by_cases z : v = 0
    · subst z
      rw [decide_eq_false (show ¬ (0 : Int) < ((0 : Nat) : Int) by omega)]
      refine iteF ?_
      rw [Nat.gcd_zero_right] at g
      subst g
      refine ⟨_, rfl, _, rfl, _, _, rfl, rfl, wide_div (by omega) (show ((Nat.gcd a b : Nat) : Int).natAbs < 2 ^ 2000 by rw [Int.natAbs_natCast]; exact ul) (by decide) (by decide), _, rfl, _, rfl, _, _, rfl, rfl, wide_div (by omega) (show ((Nat.gcd a b : Nat) : Int).natAbs < 2 ^ 2000 by rw [Int.natAbs_natCast]; exact ul) (by decide) (by decide), by show 2 ≤ sizeLine; decide, fun p np => ?_⟩
      exact q p _ (low_div ha hb) (Ex.new np) np (.inl (by rw [upd_same]; rfl))
    · rw [decide_eq_true (show (0 : Int) < (v : Int) by omega)]
      refine iteT ?_
      refine ⟨fun σ' H'' => σ' = [some (.int a), some (.int b), some (.int v), some (.int (u % v : Nat))] ∧ H'' = H', fun σ' H'' h => ?_, ?_⟩
      · obtain ⟨rfl, rfl⟩ := h
        refine ⟨u % v, Nat.mod_lt _ (by omega), v, u % v, rfl, rfl, rfl, ?_, by omega, by omega, Nat.lt_trans (Nat.mod_lt _ (by omega)) vl⟩
        rw [← g, Nat.gcd_comm u v, Nat.gcd_rec v u, Nat.gcd_comm]
      · refine ⟨_, rfl, _, rfl, .inl ⟨_, rfl, _, rfl, _, _, rfl, rfl, (show (0 : Int) < v by omega), _, _, rfl, rfl, rfl⟩⟩
/-- is_amount of amounts -/
def spAmtR (C : Addr) : Sp := fun vs H Q _ => ∃ (a : Addr) (m : Ms) (v : V) (x : Am), vs = [.ref a, v] ∧ SclAt H a C m ∧ m.ok ∧ m.has x ∧ AmV H v x ∧ ∀ H', Ex H H' → Q (.bl true) H'
/-- all of them are amounts: nothing is raised -/
def spChkAll (C : Addr) : Sp := fun vs H Q _ => ∃ (a p : Addr) (m : Ms) (ps : List (V × Am)), vs = [.ref a, .ref p] ∧ SclAt H a C m ∧ m.ok ∧ AmsT H p m ps ∧ ps.length ≤ 1000 ∧ ∀ H', Ex H H' → Q .non H'
theorem ok_chkAll {f : Addr} {fd : FuncData} (F : Fun K "_check_all" "Scale._check_all" sChkAll f fd) (Z : ClsK K C) (T : Blt mg) (Ia : Dm P w K mg base C 4 "is_amount" ["self", "value"] (spAmtR C)) : FnOk P w K mg base CX0 5 f fd ["self", "amounts"] (spChkAll C) := by
  refine F.ok scChkAll (fun vs H Q E h => ?_) (fun cdv A outer s H vs Q E hr h => ?_)
  · obtain ⟨a, p, m, ps, rfl, _⟩ := h
    rfl
  · obtain ⟨a, p, m, ps, rfl, sa, mok, hp, hl, q⟩ := h
    have nd := scChkAll.nd
    refine ⟨_, pss_one (ps_if (pw_or (pt_not (pt_val (pe_callB call_isi (by rfl) T.isinstance (by decide +kernel) (pa_cons (pv 1) (pa_cons (pe_bltn (v := .ty "tuple") (by rfl) T.tuple (by decide +kernel) rfl) pa_nil)))))
        (pw_or1 (pt_not (pt_val (pe_callB (cr_all rfl) (by rfl) T.all (by decide +kernel) (pa_cons (pe_lc (own := [("amount", 2)]) (g := gName 2) (tt := tYes) rfl nd (pi_tup (pv 1)) (blkOk_by (N := ["self", "amounts", "amount"]) (sc := defScope sChkAll) (by decide +kernel)) (fun _ _ _ _ _ => pg_name (i := 2) nd rfl (.inl rfl)) (fun _ _ _ _ _ => pts_nil)
          (fun _ _ _ _ _ => pe_meth (pv 0) Z.cls Ia.at_ Ia.G hr Ia.b .nil pass0 (pa_cons (pv 2) pa_nil))) pa_nil)))))).pt pss_never pss_nil), ?_⟩
    refine ⟨_, rfl, _, _, _, _, true, rfl, .ty _, tyRd hp.1, kit_ty (by decide +kernel), true, rfl, ?_⟩
    refine ⟨_, rfl, p, rfl, ⟨_, .inl hp.1⟩, fun D nD => lc_tup (xs := ps.map (·.1)) (fun i H' => Ex H H' ∧ H' D = some (.lst ((List.replicate i true).map V.bl)))
        ⟨Ex.new nD, upd_same⟩ (fun i H' _ h => .inl (h.1.rd hp.1)) (fun i x H' hx h => ?_) (fun H' h => ?_)⟩
    · obtain ⟨ex, eD⟩ := h
      rw [List.getElem?_map] at hx
      obtain ⟨r, hr, rfl⟩ := Option.map_eq_some_iff.mp hx
      obtain ⟨h1, h2, h3⟩ := hp.2 r (List.mem_of_getElem? hr)
      obtain ⟨dx, fs, ha, hw, hs, hn⟩ := id (ex.scl sa)
      refine ⟨rfl, _, rfl, a, dx, fs, rfl, ha, hn _ (by decide +kernel) (by decide +kernel), _, rfl, a, m, _, _, rfl, ex.scl sa, mok, h1, h3.ex ex, fun H2 e2 => ?_⟩
      refine ⟨_, e2 D _ eD, ?_, (ex.trans e2).mut nD, ?_⟩
      · rw [List.length_map, List.length_replicate]
        have := (List.getElem?_eq_some_iff.mp hr).1
        exact Nat.lt_of_lt_of_le (show i < 1001 by omega) (by decide)
      · rw [upd_same, List.replicate_succ', List.map_append]
        rfl
    · obtain ⟨ex, eD⟩ := h
      refine ⟨D, _, rfl, .inl (.inl eD), ?_⟩
      have : (List.replicate (List.map (fun q : V × Am => q.1) ps).length true).all id = true := by
        rw [List.all_eq_true]
        intro b hb
        exact (List.mem_replicate.mp hb).2
      rw [this]
      exact ⟨_, rfl, q _ ex⟩
end
/-- a staticmethod that the class has -/
structure Sm (P : Program) (w : World) (K : PySem.W.Frag) (mg : Str → Option Value) (base : Heap) (C : Addr) (mc : Value) (k : Nat) (m : Str) (ps : List Str) (sp : Sp) where
  p : Addr
  f : Addr
  fd : FuncData
  G : FnOk P w K mg base CX0 k f fd ps sp
  at_ : SMet K C mc m p f
  b : Binds K fd ps []
section
variable {P : Program} {w : World} {K : PySem.W.Frag} {mg : Str → Option Value} {base : Heap} {C : Addr} {mc : Value}
def spMadeL (C : Addr) : Sp := fun vs H Q _ => ∃ (p : Addr) (m : Ms), vs = [.ref p] ∧ MsV H p m ∧ m.ok ∧ ∀ a H', Ex H H' → H a = none → SclAt H' a C m → Q (.ref a) H'
theorem ok_madeL {f : Addr} {fd : FuncData} (F : Fun K "_law_scaled" "_law_scaled" sMadeL f fd) (gC : mg "Scale" = some (.ref C)) (rd : CRead K C mc) (Cs : Sm P w K mg base C mc 3 "classes" ["size"] (spClasses C)) (Ss : Sm P w K mg base C mc 3 "sums" [] (spNew C .sums)) (Os : Sm P w K mg base C mc 3 "odds" [] (spNew C .odds)) : FnG P w K mg base CX0 4 f fd ["_law_kind"] (spMadeL C) := by
  refine okG F scMadeL (fun vs H Q E h => ?_) (fun cdv A outer s H vs Q E hr h => ?_)
  · obtain ⟨p, m, rfl, _⟩ := h
    rfl
  · obtain ⟨p, m, rfl, hm, mok, q⟩ := h
    refine ⟨_, pss_cons (ps_if (pt_cmpR op_eq (pe_ix ix_tup (pv 0) pe_int (fun _ _ => rfl)) pe_str (nomark _)) (pss_one (ps_ret (pe_smeth (pe_glob (v := .ref C) (by rfl) gC rfl) rd Cs.at_ Cs.G hr.rm Cs.b .nil pass0 (pa_cons (pe_ix ix_tup (pv 0) pe_int (fun _ _ => rfl)) pa_nil)))) pss_nil)
      (pss_one (ps_ret (pe_ifExp (pt_cmpR op_eq (pe_ix ix_tup (pv 0) pe_int (fun _ _ => rfl)) pe_str (nomark _)) (pe_smeth0 (pe_glob (v := .ref C) (by rfl) gC rfl) rd Ss.at_ Ss.G hr.rm Ss.b .nil pass0) (pe_smeth0 (pe_glob (v := .ref C) (by rfl) gC rfl) rd Os.at_ Os.G hr.rm Os.b .nil pass0)))), ?_⟩
    refine ⟨_, rfl, p, _, 0, _, rfl, rfl, .inl hm, rfl, rfl, _, rfl, ?_⟩
    rw [word_classes]
    cases m with
    | sums =>
      refine ⟨_, rfl, p, _, 0, _, rfl, rfl, .inl hm, rfl, rfl, _, rfl, ?_⟩
      rw [word_sums]
      exact ⟨rfl, rfl, fun a H' e n s => q a H' e n s⟩
    | classes k =>
      exact ⟨rfl, _, rfl, p, _, 1, _, rfl, rfl, .inl hm, rfl, k, rfl, mok.1, mok.2, fun a H' e n s => q a H' e n s⟩
    | odds =>
      refine ⟨_, rfl, p, _, 0, _, rfl, rfl, .inl hm, rfl, rfl, _, rfl, ?_⟩
      rw [word_sums]
      exact ⟨rfl, rfl, fun a H' e n s => q a H' e n s⟩
end
end Gl
set_option exponentiation.threshold 10000
namespace Gl
open PySem PySem.Spec PyProof.Rows L2
/-! ### amounts added up -/
def Am.lim (b : Nat) : Am → Prop
  | .n i => i.natAbs < 2 ^ b
  | .c ns => ∀ n ∈ ns, n.natAbs < 2 ^ b
  | .o x => x.1.1 < 2 ^ b ∧ x.1.2 < 2 ^ b
theorem Am.near.lim : ∀ {x : Am}, x.near → x.lim 190
  | .n _, h => h
  | .c _, h => h
  | .o _, h => h
theorem Am.lim.near : ∀ {x : Am}, x.lim 190 → x.near
  | .n _, h => h
  | .c _, h => h
  | .o _, h => h
theorem pow_le2 {a b : Nat} (h : a ≤ b) : (2 : Nat) ^ a ≤ 2 ^ b := Nat.pow_le_pow_right (by decide) h
theorem Am.lim.mono {a b : Nat} (h : a ≤ b) : ∀ {x : Am}, x.lim a → x.lim b
  | .n _, z => Nat.lt_of_lt_of_le z (pow_le2 h)
  | .c _, z => fun n hn => Nat.lt_of_lt_of_le (z n hn) (pow_le2 h)
  | .o _, z => ⟨Nat.lt_of_lt_of_le z.1 (pow_le2 h), Nat.lt_of_lt_of_le z.2 (pow_le2 h)⟩
def red (a b : Nat) (ha : 0 < a) (hb : 0 < b) : Odds := ⟨(a / Nat.gcd a b, b / Nat.gcd a b), low_div ha hb⟩
theorem red_congr {a b c d : Nat} {ha : 0 < a} {hb : 0 < b} {hc : 0 < c} {hd : 0 < d} (e1 : a = c) (e2 : b = d) : red a b ha hb = red c d hc hd := by
  subst e1 e2
  rfl
def mulO (x y : Odds) : Odds := red (x.1.1 * y.1.1) (x.1.2 * y.1.2) (Nat.mul_pos x.2.p0 y.2.p0) (Nat.mul_pos x.2.q0 y.2.q0)
def Am.add : Am → Am → Am
  | .n i, .n j => .n (i + j)
  | .c a, .c b => .c (List.zipWith (· + ·) a b)
  | .o x, .o y => .o (mulO x y)
  | x, _ => x
def sumA (m : Ms) (xs : List Am) : Am := xs.foldl Am.add m.zero
theorem red_val {a b : Nat} (ha : 0 < a) (hb : 0 < b) : (red a b ha hb).1.1 * b = a * (red a b ha hb).1.2 := by
  show a / Nat.gcd a b * b = a * (b / Nat.gcd a b)
  obtain ⟨c, hc⟩ := Nat.gcd_dvd_left a b
  obtain ⟨d, hd⟩ := Nat.gcd_dvd_right a b
  have g0 : 0 < Nat.gcd a b := Nat.gcd_pos_of_pos_left _ ha
  have e1 : a / Nat.gcd a b = c := Nat.div_eq_of_eq_mul_right g0 hc
  have e2 : b / Nat.gcd a b = d := Nat.div_eq_of_eq_mul_right g0 hd
  rw [e1, e2]
  calc c * b = c * (Nat.gcd a b * d) := by rw [← hd]
    _ = (Nat.gcd a b * c) * d := by rw [Nat.mul_left_comm, Nat.mul_assoc]
    _ = a * d := by rw [← hc]
theorem red_of {a b : Nat} (ha : 0 < a) (hb : 0 < b) {x : Odds} (h : x.1.1 * b = a * x.1.2) : x = red a b ha hb := by
  have r := red_val ha hb
  have : x.1.1 * (red a b ha hb).1.2 = (red a b ha hb).1.1 * x.1.2 := by
    apply Nat.eq_of_mul_eq_mul_right hb
    calc x.1.1 * (red a b ha hb).1.2 * b = (x.1.1 * b) * (red a b ha hb).1.2 := Nat.mul_right_comm ..
      _ = a * x.1.2 * (red a b ha hb).1.2 := by rw [h]
      _ = (a * (red a b ha hb).1.2) * x.1.2 := Nat.mul_right_comm ..
      _ = (red a b ha hb).1.1 * b * x.1.2 := by rw [r]
      _ = (red a b ha hb).1.1 * x.1.2 * b := Nat.mul_right_comm ..
  obtain ⟨e1, e2⟩ := low_eq x.2 (red a b ha hb).2 this
  exact Subtype.ext (Prod.ext e1 e2)
theorem mulO_one (x : Odds) : mulO one1 x = x := by
  unfold mulO
  exact (red_of _ _ (by show x.1.1 * (1 * x.1.2) = 1 * x.1.1 * x.1.2; rw [Nat.one_mul, Nat.one_mul])).symm
theorem zip_zero : ∀ (ns : List Int), List.zipWith (· + ·) (List.replicate ns.length (0 : Int)) ns = ns
  | [] => rfl
  | n :: ns => by
    rw [List.length_cons, List.replicate_succ, List.zipWith_cons_cons, zip_zero ns, Int.zero_add]
section
variable {m : Ms}
theorem zero_add : ∀ {x : Am}, m.has x → m.zero.add x = x
  | .n i, h => by
    cases m with
    | sums => show Am.n (0 + i) = _; rw [Int.zero_add]
    | classes _ => exact h.elim
    | odds => exact h.elim
  | .c ns, h => by
    cases m with
    | sums => exact h.elim
    | classes k =>
      have e : ns.length = k := h
      subst e
      show Am.c _ = _
      rw [zip_zero]
    | odds => exact h.elim
  | .o x, h => by
    cases m with
    | sums => exact h.elim
    | classes _ => exact h.elim
    | odds => show Am.o (mulO one1 x) = _; rw [mulO_one]
theorem add_has : ∀ {x y : Am}, m.has x → m.has y → m.has (x.add y)
  | .n i, .n j, h, _ => by cases m <;> first | trivial | exact h.elim
  | .c a, .c b, h, z => by
    cases m with
    | classes k =>
      show (List.zipWith _ a b).length = k
      have h1 : a.length = k := h
      have h2 : b.length = k := z
      rw [List.length_zipWith, h1, h2, Nat.min_self]
    | sums => exact h.elim
    | odds => exact h.elim
  | .o x, .o y, h, _ => by cases m <;> first | trivial | exact h.elim
  | .n _, .c _, h, _ => h
  | .n _, .o _, h, _ => h
  | .c _, .n _, h, _ => h
  | .c _, .o _, h, _ => h
  | .o _, .n _, h, _ => h
  | .o _, .c _, h, _ => h
theorem pow_add_le {a b : Nat} (ha : 1 ≤ a) (hb : 1 ≤ b) : (2 : Nat) ^ a + 2 ^ b ≤ 2 ^ (a + b) := by
  rw [Nat.pow_add]
  have h1 : 2 ≤ (2 : Nat) ^ a := by
    have := pow_le2 ha
    simpa using this
  have h2 : 2 ≤ (2 : Nat) ^ b := by
    have := pow_le2 hb
    simpa using this
  generalize (2 : Nat) ^ a = p at *
  generalize (2 : Nat) ^ b = q at *
  obtain ⟨p, rfl⟩ : ∃ k, p = k + 2 := ⟨p - 2, by omega⟩
  obtain ⟨q, rfl⟩ : ∃ k, q = k + 2 := ⟨q - 2, by omega⟩
  rw [Nat.add_mul, Nat.mul_add]
  have := Nat.zero_le (p * q)
  omega
theorem zip_mem {f : Int → Int → Int} : ∀ {as bs : List Int} {n : Int}, n ∈ List.zipWith f as bs → ∃ a ∈ as, ∃ b ∈ bs, n = f a b
  | [], _, _, h => by simp at h
  | _ :: _, [], _, h => by simp at h
  | a :: as, b :: bs, n, h => by
    rw [List.zipWith_cons_cons] at h
    rcases List.mem_cons.mp h with rfl | h
    · exact ⟨a, List.mem_cons_self .., b, List.mem_cons_self .., rfl⟩
    · obtain ⟨x, hx, y, hy, e⟩ := zip_mem h
      exact ⟨x, List.mem_cons_of_mem _ hx, y, List.mem_cons_of_mem _ hy, e⟩
theorem red_lt {p q c d : Nat} (hp : 0 < p) (hq : 0 < q) (h1 : p < c) (h2 : q < d) : (red p q hp hq).1.1 < c ∧ (red p q hp hq).1.2 < d :=
  ⟨Nat.lt_of_le_of_lt (Nat.div_le_self ..) h1, Nat.lt_of_le_of_lt (Nat.div_le_self ..) h2⟩
theorem add_lim {a b : Nat} (ha : 1 ≤ a) (hb : 1 ≤ b) : ∀ {x y : Am}, m.has x → m.has y → x.lim a → y.lim b → (x.add y).lim (a + b)
  | .n i, .n j, _, _, h1, h2 => by
    have h1 : i.natAbs < 2 ^ a := h1
    have h2 : j.natAbs < 2 ^ b := h2
    have := pow_add_le ha hb
    show (i + j).natAbs < _
    omega
  | .c xs, .c ys, _, _, h1, h2 => fun n hn => by
    obtain ⟨i, hi, j, hj, rfl⟩ := zip_mem hn
    have h1 := h1 i hi
    have h2 := h2 j hj
    have := pow_add_le ha hb
    omega
  | .o x, .o y, _, _, h1, h2 => by
    refine red_lt _ _ ?_ ?_
    · rw [Nat.pow_add]; exact Nat.mul_lt_mul'' h1.1 h2.1
    · rw [Nat.pow_add]; exact Nat.mul_lt_mul'' h1.2 h2.2
  | .n _, .c _, h, z, _, _ => by cases m <;> first | exact h.elim | exact z.elim
  | .n _, .o _, h, z, _, _ => by cases m <;> first | exact h.elim | exact z.elim
  | .c _, .n _, h, z, _, _ => by cases m <;> first | exact h.elim | exact z.elim
  | .c _, .o _, h, z, _, _ => by cases m <;> first | exact h.elim | exact z.elim
  | .o _, .n _, h, z, _, _ => by cases m <;> first | exact h.elim | exact z.elim
  | .o _, .c _, h, z, _, _ => by cases m <;> first | exact h.elim | exact z.elim
theorem zero_lim (m : Ms) {b : Nat} (hb : 1 ≤ b) : m.zero.lim b := by
  have h := pow_le2 hb
  cases m with
  | sums => show (0 : Int).natAbs < 2 ^ b; simp; omega
  | classes k =>
    intro n hn
    rw [(List.mem_replicate.mp hn).2]
    simp; omega
  | odds => exact ⟨by show 1 < 2 ^ b; simp at h; omega, by show 1 < 2 ^ b; simp at h; omega⟩
theorem sum_has : ∀ {xs : List Am} {s : Am}, (∀ x ∈ xs, m.has x) → m.has s → m.has (xs.foldl Am.add s)
  | [], _, _, hs => hs
  | x :: xs, s, h, hs => sum_has (xs := xs) (fun y hy => h y (List.mem_cons_of_mem _ hy)) (add_has hs (h x (List.mem_cons_self ..)))
theorem sum_lim {a : Nat} (ha : 1 ≤ a) : ∀ {xs : List Am} {s : Am} {b : Nat}, 1 ≤ b → (∀ x ∈ xs, m.has x ∧ x.lim a) → m.has s → s.lim b → (xs.foldl Am.add s).lim (b + a * xs.length)
  | [], _, _, _, _, _, hs => hs
  | x :: xs, s, b, hb, h, ms, hs => by
    obtain ⟨h1, h2⟩ := h x (List.mem_cons_self ..)
    have := sum_lim ha (xs := xs) (b := b + a) (by omega) (fun y hy => h y (List.mem_cons_of_mem _ hy)) (add_has ms h1) (add_lim hb ha ms h1 hs h2)
    rw [List.length_cons, Nat.mul_succ, show b + (a * xs.length + a) = b + a + a * xs.length by omega]
    exact this
/-! the sums as the program finds them -/
theorem sum_n : ∀ (ns : List Int) (s : Int), (ns.map Am.n).foldl Am.add (.n s) = .n (s + ns.sum)
  | [], s => by simp
  | n :: ns, s => by
    rw [List.map_cons, List.foldl_cons]
    show (ns.map Am.n).foldl Am.add (.n (s + n)) = _
    rw [sum_n ns, List.sum_cons, Int.add_assoc]
theorem sum_c (k : Nat) : ∀ (rs : List (List Int)) (s : List Int), (∀ r ∈ rs, r.length = k) → s.length = k →
    (rs.map Am.c).foldl Am.add (.c s) = .c ((List.range k).map fun i => s.getD i 0 + (rs.map fun r => r.getD i 0).sum)
  | [], s, _, hs => by
    show Am.c s = _
    congr 1
    apply List.ext_getElem
    · rw [List.length_map, List.length_range, hs]
    · intro i h1 h2
      rw [List.getElem_map, List.getElem_range, List.getD_eq_getElem?_getD, List.getElem?_eq_getElem h1]
      simp
  | r :: rs, s, h, hs => by
    rw [List.map_cons, List.foldl_cons]
    show (rs.map Am.c).foldl Am.add (.c (List.zipWith (· + ·) s r)) = _
    have hr := h r (List.mem_cons_self ..)
    rw [sum_c k rs _ (fun y hy => h y (List.mem_cons_of_mem _ hy)) (by rw [List.length_zipWith, hs, hr, Nat.min_self])]
    congr 1
    apply List.map_congr_left
    intro i hi
    have il := List.mem_range.mp hi
    have e : (List.zipWith (· + ·) s r).getD i 0 = s.getD i 0 + r.getD i 0 := by
      rw [List.getD_eq_getElem?_getD, List.getD_eq_getElem?_getD, List.getD_eq_getElem?_getD, List.getElem?_zipWith, List.getElem?_eq_getElem (show i < s.length by omega), List.getElem?_eq_getElem (show i < r.length by omega)]
      rfl
    rw [e, List.map_cons, List.sum_cons, Int.add_assoc]
def prod (ns : List Nat) : Nat := ns.foldl (· * ·) 1
theorem foldl_mul : ∀ (ns : List Nat) (s : Nat), ns.foldl (· * ·) s = s * prod ns
  | [], s => by show s = s * 1; rw [Nat.mul_one]
  | n :: ns, s => by
    show ns.foldl (· * ·) (s * n) = s * ns.foldl (· * ·) (1 * n)
    rw [foldl_mul ns, foldl_mul ns, Nat.one_mul, Nat.mul_assoc]
theorem prod_cons (n : Nat) (ns : List Nat) : prod (n :: ns) = n * prod ns := by
  show ns.foldl (· * ·) (1 * n) = _
  rw [foldl_mul, Nat.one_mul]
theorem prod_pos : ∀ {ns : List Nat}, (∀ n ∈ ns, 0 < n) → 0 < prod ns
  | [], _ => Nat.one_pos
  | n :: ns, h => by
    rw [prod_cons]
    exact Nat.mul_pos (h n (List.mem_cons_self ..)) (prod_pos fun x hx => h x (List.mem_cons_of_mem _ hx))
theorem prod_lt {b : Nat} : ∀ {ns : List Nat}, (∀ n ∈ ns, n < 2 ^ b) → prod ns < 2 ^ (b * ns.length + 1)
  | [], _ => by show 1 < 2 ^ (b * 0 + 1); rw [Nat.mul_zero]; decide
  | n :: ns, h => by
    rw [prod_cons, List.length_cons, Nat.mul_succ, show b * ns.length + b + 1 = b + (b * ns.length + 1) by omega, Nat.pow_add]
    exact Nat.mul_lt_mul'' (h n (List.mem_cons_self ..)) (prod_lt fun x hx => h x (List.mem_cons_of_mem _ hx))
def tops (os : List Odds) : List Nat := os.map fun x => x.1.1
def bots (os : List Odds) : List Nat := os.map fun x => x.1.2
theorem tops_pos (os : List Odds) : 0 < prod (tops os) := prod_pos fun n hn => by obtain ⟨x, _, rfl⟩ := List.mem_map.mp hn; exact x.2.p0
theorem bots_pos (os : List Odds) : 0 < prod (bots os) := prod_pos fun n hn => by obtain ⟨x, _, rfl⟩ := List.mem_map.mp hn; exact x.2.q0
theorem sum_o : ∀ (os : List Odds) (s : Odds) (ha : 0 < s.1.1 * prod (tops os)) (hb : 0 < s.1.2 * prod (bots os)), (os.map Am.o).foldl Am.add (.o s) = .o (red (s.1.1 * prod (tops os)) (s.1.2 * prod (bots os)) ha hb)
  | [], s, ha, hb => by
    show Am.o s = _
    congr 1
    exact red_of _ _ (by show s.1.1 * (s.1.2 * 1) = s.1.1 * 1 * s.1.2; rw [Nat.mul_one, Nat.mul_one])
  | x :: os, s, ha, hb => by
    rw [List.map_cons, List.foldl_cons]
    show (os.map Am.o).foldl Am.add (.o (mulO s x)) = _
    have p1 := tops_pos os
    have p2 := bots_pos os
    rw [sum_o os (mulO s x) (Nat.mul_pos (mulO s x).2.p0 p1) (Nat.mul_pos (mulO s x).2.q0 p2)]
    congr 1
    apply red_of
    have v := red_val (Nat.mul_pos s.2.p0 x.2.p0) (Nat.mul_pos s.2.q0 x.2.q0)
    have v2 := red_val (Nat.mul_pos (mulO s x).2.p0 p1) (Nat.mul_pos (mulO s x).2.q0 p2)
    have e1 : prod (tops (x :: os)) = x.1.1 * prod (tops os) := prod_cons ..
    have e2 : prod (bots (x :: os)) = x.1.2 * prod (bots os) := prod_cons ..
    rw [e1, e2]
    generalize (red ((mulO s x).1.1 * prod (tops os)) ((mulO s x).1.2 * prod (bots os)) _ _).1.1 = p at *
    generalize (red ((mulO s x).1.1 * prod (tops os)) ((mulO s x).1.2 * prod (bots os)) _ _).1.2 = q at *
    have v' : (mulO s x).1.1 * (s.1.2 * x.1.2) = s.1.1 * x.1.1 * (mulO s x).1.2 := v
    have ht : 0 < (mulO s x).1.2 := (mulO s x).2.q0
    generalize (mulO s x).1.1 = u at *
    generalize (mulO s x).1.2 = t at *
    generalize prod (tops os) = A at *
    generalize prod (bots os) = B at *
    apply Nat.eq_of_mul_eq_mul_right ht
    calc p * (s.1.2 * (x.1.2 * B)) * t = (p * (t * B)) * (s.1.2 * x.1.2) := by ac_rfl
      _ = (u * A * q) * (s.1.2 * x.1.2) := by rw [v2]
      _ = (u * (s.1.2 * x.1.2)) * A * q := by ac_rfl
      _ = s.1.1 * x.1.1 * t * A * q := by rw [v']
      _ = s.1.1 * (x.1.1 * A) * q * t := by ac_rfl
end
end Gl
set_option exponentiation.threshold 10000
namespace Gl
open PySem PySem.Spec PyProof.Rows L2
abbrev sTimes : Stmt := topS 32
theorem scTimes : FnScope ["numbers", "product", "number"] ["numbers"] (defScope sTimes) := ⟨rfl, rfl, rfl, by decide +kernel, rfl, by decide +kernel, by decide +kernel⟩
abbrev sLowP : Stmt := topS 33
theorem scLowP : FnScope ["over", "under", "common"] ["over", "under"] (defScope sLowP) := ⟨rfl, rfl, rfl, by decide +kernel, rfl, by decide +kernel, by decide +kernel⟩
abbrev sSum : Stmt := clsS 25
theorem scSum : FnScope ["self", "amounts", "over", "under", "at", "part"] ["self", "amounts"] (defScope sSum) := ⟨rfl, rfl, rfl, by decide +kernel, rfl, by decide +kernel, by decide +kernel⟩
abbrev sPlusAll : Stmt := clsS 12
theorem scPlusAll : FnScope ["self", "amounts"] ["self", "amounts"] (defScope sPlusAll) := ⟨rfl, rfl, rfl, by decide +kernel, rfl, by decide +kernel, by decide +kernel⟩
section
variable {X : Cx}
theorem cr_sumT (hc : X.calm = true) : CallR X (.builtin "sum") (rSumT X.K) := by
  rintro pins s σ H vs us Q I rv ⟨a, ns, rfl, hq, q⟩
  obtain ⟨u, rfl, ru⟩ := vals1 rv
  obtain rfl : u = Value.ref a := ru
  obtain ⟨its, r, ht, hz⟩ := I.tuple hq
  have ia := intsAre_of r
  obtain ⟨xs, e⟩ := ia.allInts.items
  have hn : numsOf (intItems xs).toList = ns := by rw [← e]; exact ia.numsOf
  rw [nums_intItems] at hn
  rw [e] at ht
  refine PySem.W.ktm_sumG (I.ok.hd hc) ht fun h' tk t' hk => ?_
  rw [preSum_eq, List.take_of_length_le (by simp), hn]
  exact ⟨.int _, H, I.kept (t' := tk) hk, ⟨_, rfl⟩, q⟩
end
section
variable {P : Program} {w : World} {K : PySem.W.Frag} {mg : Str → Option Value} {base : Heap} {C : Addr}
def natV (ns : List Nat) : List V := ns.map fun n => V.int (n : Nat)
def spTimes (K : PySem.W.Frag) : Sp := fun vs H Q _ => ∃ (L : Addr) (ns : List Nat) (b : Nat), vs = [.ref L] ∧ SqL K H L (natV ns) ∧ (∀ n ∈ ns, n < 2 ^ b) ∧ 1 ≤ b ∧ b * ns.length + 1 + b ≤ 900000 ∧ Q (.int (prod ns : Nat)) H
theorem prod_take {ns : List Nat} {i : Nat} {n : Nat} (h : ns[i]? = some n) : prod (ns.take (i + 1)) = prod (ns.take i) * n := by
  obtain ⟨l, e⟩ := List.getElem?_eq_some_iff.mp h
  unfold prod
  rw [List.take_succ, h, List.foldl_append]
  rfl
theorem ok_times {f : Addr} {fd : FuncData} (F : Fun K "_times" "_times" sTimes f fd) : FnOk P w K mg base CX0 1 f fd ["numbers"] (spTimes K) := by
  refine F.ok scTimes (fun vs H Q E h => ?_) (fun cdv A outer s H vs Q E hr h => ?_)
  · obtain ⟨L, ns, b, rfl, _⟩ := h
    rfl
  · obtain ⟨L, ns, b, rfl, hL, hb, b1, hz, q⟩ := h
    have nd := scTimes.nd
    refine ⟨_, pss_cons (ps_set (i := 1) nd rfl (.inl rfl) pe_int)
      (pss_cons (ps_for PassesOwn.never rfl (pi_list (pv 0)) (pg_name (i := 2) nd rfl (.inl rfl))
        (pss_one (ps_set (i := 1) nd rfl (.inl rfl) (pe_op op_mulW (pv 1) (pv 2)))))
      (pss_one (ps_ret (pv 1)))), ?_⟩
    refine ⟨_, rfl, L, rfl, ⟨_, hL⟩, ?_⟩
    refine for_list (xs := natV ns) (fun i σ H' => ∃ y2 : Option V, σ = [some (.ref L), some (.int (prod (ns.take i) : Nat)), y2] ∧ H' = H) ⟨none, rfl, rfl⟩ (fun i σ H' _ h => by obtain ⟨y, rfl, rfl⟩ := h; exact hL) (fun i x σ H' hx h => ?_) (fun σ H' h => ?_)
    · obtain ⟨y2, rfl, rfl⟩ := h
      unfold natV at hx
      rw [List.getElem?_map] at hx
      obtain ⟨n, hn, rfl⟩ := Option.map_eq_some_iff.mp hx
      refine ⟨_, rfl, _, rfl, _, _, rfl, rfl, ?_, some (.int (n : Nat)), ?_, rfl⟩
      · have h1 : prod (ns.take i) < 2 ^ (b * (ns.take i).length + 1) := prod_lt fun x hx => hb x (List.mem_of_mem_take hx)
        have h2 := hb n (List.mem_of_getElem? hn)
        have h3 : b * (ns.take i).length ≤ b * ns.length := Nat.mul_le_mul_left _ (by rw [List.length_take]; exact Nat.min_le_right _ _)
        exact wide_mul (a := b * (ns.take i).length + 1) (b := b) (by rw [Int.natAbs_natCast]; exact h1) (by rw [Int.natAbs_natCast]; exact h2) (by omega) (by omega) (by omega)
      · show [some (V.ref L), some (V.int ((prod (ns.take i) : Nat) * (n : Nat))), some (V.int (n : Nat))] = _
        rw [prod_take hn, Int.natCast_mul]
    · obtain ⟨y2, rfl, rfl⟩ := h
      refine ⟨_, rfl, ?_⟩
      unfold natV
      rw [List.length_map, List.take_length]
      exact q
def spLowP : Sp := fun vs H Q _ => ∃ (a b : Nat) (ha : 0 < a) (hb : 0 < b), vs = [.int (a : Nat), .int (b : Nat)] ∧ a < 2 ^ 8000 ∧ ∀ (p : Addr) H', Ex H H' → H p = none → Rd H' p (.tup (oddV (red a b ha hb))) → Q (.ref p) H'
theorem ok_lowP {f : Addr} {fd : FuncData} (F : Fun K "_lowest" "_lowest" sLowP f fd) (hg : mg "gcd" = some (.builtin "math.gcd")) : FnOk P w K mg base CX0 1 f fd ["over", "under"] spLowP := by
  refine F.ok scLowP (fun vs H Q E h => ?_) (fun cdv A outer s H vs Q E hr h => ?_)
  · obtain ⟨a, b, _, _, rfl, _⟩ := h
    rfl
  · obtain ⟨a, b, ha, hb, rfl, la, q⟩ := h
    have nd := scLowP.nd
    refine ⟨_, pss_cons (ps_set (i := 2) nd rfl (.inl rfl) (pe_callBfun cr_gcd (by rfl) hg (pa_cons (pv 0) (pa_cons (pv 1) pa_nil))))
      (pss_one (ps_ret (pe_tup (pa_cons (pe_op op_fdivW (pv 0) (pv 2)) (pa_cons (pe_op op_fdivW (pv 1) (pv 2)) pa_nil))))), ?_⟩
    have g0 : 0 < Nat.gcd a b := Nat.gcd_pos_of_pos_left _ ha
    have gl : Nat.gcd a b < 2 ^ 8000 := Nat.lt_of_le_of_lt (Nat.le_of_dvd ha (Nat.gcd_dvd_left ..)) la
    refine ⟨_, rfl, _, rfl, _, _, rfl, ?_⟩
    rw [Int.natAbs_natCast, Int.natAbs_natCast]
    have dv : ∀ i : Int, CDivW i ((Nat.gcd a b : Nat) : Int) := fun i => wide_div (b := 8000) (by omega) (by rw [Int.natAbs_natCast]; exact gl) (by decide) (by decide)
    refine ⟨_, rfl, _, rfl, _, _, rfl, rfl, dv _, _, rfl, _, rfl, _, _, rfl, rfl, dv _, by show 2 ≤ sizeLine; decide, fun p np => ?_⟩
    exact q p _ (Ex.new np) np (.inl (by rw [upd_same]; rfl))
end
end Gl
set_option exponentiation.threshold 10000
namespace Gl
open PySem PySem.Spec PyProof.Rows L2
/-- a tuple of amounts of at most b bits -/
def AmsL (H : Hp) (p : Addr) (m : Ms) (b : Nat) (ps : List (V × Am)) : Prop := Rd H p (.tup (ps.map (·.1))) ∧ ∀ q ∈ ps, m.has q.2 ∧ q.2.lim b ∧ AmV H q.1 q.2
theorem Ex.amsL {H H' : Hp} {p : Addr} {m : Ms} {b : Nat} {ps : List (V × Am)} (e : Ex H H') (h : AmsL H p m b ps) : AmsL H' p m b ps := ⟨e.rd h.1, fun q hq => let ⟨a, b, c⟩ := h.2 q hq; ⟨a, b, c.ex e⟩⟩
theorem Am.lim.wide : ∀ {x : Am}, x.lim 2000 → x.wide
  | .n _, _ => trivial
  | .c _, _ => trivial
  | .o _, h => h
theorem AmsL.t {H : Hp} {p : Addr} {m : Ms} {b : Nat} {ps : List (V × Am)} (h : AmsL H p m b ps) (hb : b ≤ 2000) : AmsT H p m ps := ⟨h.1, fun q hq => let ⟨x, y, z⟩ := h.2 q hq; ⟨x, (y.mono hb).wide, z⟩⟩
section
variable {H : Hp}
theorem as_n : ∀ {ps : List (V × Am)}, (∀ q ∈ ps, Ms.sums.has q.2 ∧ AmV H q.1 q.2) → ∃ ns : List Int, ps.map (·.1) = ns.map V.int ∧ ps.map (·.2) = ns.map Am.n
  | [], _ => ⟨[], rfl, rfl⟩
  | (v, x) :: ps, h => by
    obtain ⟨ns, e1, e2⟩ := as_n (ps := ps) fun q hq => h q (List.mem_cons_of_mem _ hq)
    obtain ⟨h1, h2⟩ := h (v, x) (List.mem_cons_self ..)
    cases x <;> first | exact h1.elim | skip
    rename_i i
    have h2 : v = .int i := h2
    subst h2
    exact ⟨i :: ns, by rw [List.map_cons, List.map_cons, e1], by rw [List.map_cons, List.map_cons, e2]⟩
theorem as_c {k : Nat} : ∀ {ps : List (V × Am)}, (∀ q ∈ ps, (Ms.classes k).has q.2 ∧ AmV H q.1 q.2) → ∃ rs : List (Addr × List Int), ps.map (·.1) = rs.map (fun r => V.ref r.1) ∧ ps.map (·.2) = (rs.map (·.2)).map Am.c ∧ ∀ r ∈ rs, r.2.length = k ∧ Rd H r.1 (.tup (r.2.map V.int))
  | [], _ => ⟨[], rfl, rfl, fun _ z => nomatch z⟩
  | (v, x) :: ps, h => by
    obtain ⟨rs, e1, e2, e3⟩ := as_c (ps := ps) fun q hq => h q (List.mem_cons_of_mem _ hq)
    obtain ⟨h1, h2⟩ := h (v, x) (List.mem_cons_self ..)
    cases x <;> first | exact h1.elim | skip
    rename_i ns
    obtain ⟨p, e, rd⟩ := h2
    have e : v = .ref p := e
    subst e
    refine ⟨(p, ns) :: rs, by rw [List.map_cons, List.map_cons, e1], by rw [List.map_cons, List.map_cons, List.map_cons, e2], fun r hr => ?_⟩
    rcases List.mem_cons.mp hr with rfl | hr
    · exact ⟨h1, rd⟩
    · exact e3 r hr
theorem as_o {b : Nat} : ∀ {ps : List (V × Am)}, (∀ q ∈ ps, Ms.odds.has q.2 ∧ q.2.lim b ∧ AmV H q.1 q.2) → ∃ rs : List (Addr × Odds), ps.map (·.1) = rs.map (fun r => V.ref r.1) ∧ ps.map (·.2) = (rs.map (·.2)).map Am.o ∧ ∀ r ∈ rs, Rd H r.1 (.tup (oddV r.2)) ∧ r.2.1.1 < 2 ^ b ∧ r.2.1.2 < 2 ^ b
  | [], _ => ⟨[], rfl, rfl, fun _ z => nomatch z⟩
  | (v, x) :: ps, h => by
    obtain ⟨rs, e1, e2, e3⟩ := as_o (ps := ps) fun q hq => h q (List.mem_cons_of_mem _ hq)
    obtain ⟨h1, h0, h2⟩ := h (v, x) (List.mem_cons_self ..)
    cases x <;> first | exact h1.elim | skip
    rename_i o
    obtain ⟨p, e, rd⟩ := h2
    have e : v = .ref p := e
    subst e
    refine ⟨(p, o) :: rs, by rw [List.map_cons, List.map_cons, e1], by rw [List.map_cons, List.map_cons, List.map_cons, e2], fun r hr => ?_⟩
    rcases List.mem_cons.mp hr with rfl | hr
    · exact ⟨rd, h0⟩
    · exact e3 r hr
end
section
variable {P : Program} {w : World} {K : PySem.W.Frag} {mg : Str → Option Value} {base : Heap} {C : Addr}
abbrev atScope : Scope := { kind := .function, names := [(".0", .local), ("at", .cell), ("sum", .globalImplicit), ("amounts", .cell)], isGenerator := false, isCoroutine := false }
def spSum (C : Addr) : Sp := fun vs H Q _ => ∃ (a p : Addr) (m : Ms) (b : Nat) (ps : List (V × Am)), vs = [.ref a, .ref p] ∧ SclAt H a C m ∧ m.ok ∧ AmsL H p m b ps ∧ 1 ≤ b ∧ b * ps.length + 1 + b ≤ 8000 ∧ ps.length ≤ 1000 ∧ ∀ v H', Ex H H' → AmV H' v (sumA m (ps.map (·.2))) → Q v H'
theorem ok_sum {f : Addr} {fd : FuncData} (F : Fun K "_sum" "Scale._sum" sSum f fd) (Z : ClsK K C) (T : Blt mg) (ts : mg "sum" = none) (Ti : Df P w K mg base 1 "_times" ["numbers"] (spTimes K)) (Lp : Df P w K mg base 1 "_lowest" ["over", "under"] spLowP) : FnOk P w K mg base CX0 2 f fd ["self", "amounts"] (spSum C) := by
  refine F.ok scSum (fun vs H Q E h => ?_) (fun cdv A outer s H vs Q E hr h => ?_)
  · obtain ⟨a, p, m, b, ps, rfl, _⟩ := h
    rfl
  · obtain ⟨a, p, m, b, ps, rfl, ⟨dx, fs, ha, hw, hs, hn⟩, mok, hp, b1, hz, hl, q⟩ := h
    have nd := scSum.nd
    have hr0 := hr.mono (show 1 ≤ 1 by decide)
    refine ⟨_, pss_cons (ps_if (pt_cmpR op_eq (pe_fld (pv 0) (by rfl)) pe_str (nomark _)) (pss_one (ps_ret (pe_callB (cr_sumT rfl) (by rfl) ts (by decide +kernel) (pa_cons (pv 1) pa_nil)))) pss_nil)
      (pss_cons (ps_if (pt_cmpR op_eq (pe_fld (pv 0) (by rfl)) pe_str (nomark _)) (pss_one (ps_ret (pe_callTy call_tupleF (by rfl) T.tuple (by decide +kernel) (pa_cons (pe_lc (own := [("at", 4)]) (g := gName 4) (tt := tYes) rfl nd (pi_range1 rfl T.range (pa_cons (pe_fld (pv 0) (by rfl)) pa_nil)) (blkOk_by (N := ["self", "amounts", "over", "under", "at", "part"]) (sc := defScope sSum) (by decide +kernel)) (fun _ _ _ _ _ => pg_name (i := 4) nd rfl (.inr rfl)) (fun _ _ _ _ _ => pts_nil)
          (fun _ _ _ _ _ => pe_callB (id := "sum") (r := rSum K) (cr_sum rfl) (by rfl) ts (by decide +kernel) (pa_cons (pe_lc (wi := iTup K (tVar 1)) (own := [("part", 5)]) (g := gName 5) (tt := tYes) rfl nd (pi_tup (pv 1)) (blkOk_by (N := ["self", "amounts", "over", "under", "at", "part"]) (sc := atScope) (by decide +kernel)) (fun _ _ _ _ _ => pg_name (i := 5) nd rfl (.inl rfl)) (fun _ _ _ _ _ => pts_nil)
          (fun _ _ _ _ _ => pe_ix (r := rIxT K) ix_tup (pv 5) (pv 4) (fun _ _ => rfl))) pa_nil))) pa_nil)))) pss_nil)
      (pss_cons (ps_set (i := 2) nd rfl (.inl rfl) (pe_call Ti.G hr0 (by rfl) Ti.g Ti.kp Ti.b .nil pass0 (pa_cons (pe_lc (own := [("part", 5)]) (g := gName 5) (tt := tYes) rfl nd (pi_tup (pv 1)) (blkOk_by (N := ["self", "amounts", "over", "under", "at", "part"]) (sc := defScope sSum) (by decide +kernel)) (fun _ _ _ _ _ => pg_name (i := 5) nd rfl (.inl rfl)) (fun _ _ _ _ _ => pts_nil)
          (fun _ _ _ _ _ => pe_ix (r := rIxT K) ix_tup (pv 5) pe_int (fun _ _ => rfl))) pa_nil)))
      (pss_cons (ps_set (i := 3) nd rfl (.inl rfl) (pe_call Ti.G hr0 (by rfl) Ti.g Ti.kp Ti.b .nil pass0 (pa_cons (pe_lc (own := [("part", 5)]) (g := gName 5) (tt := tYes) rfl nd (pi_tup (pv 1)) (blkOk_by (N := ["self", "amounts", "over", "under", "at", "part"]) (sc := defScope sSum) (by decide +kernel)) (fun _ _ _ _ _ => pg_name (i := 5) nd rfl (.inl rfl)) (fun _ _ _ _ _ => pts_nil)
          (fun _ _ _ _ _ => pe_ix (r := rIxT K) ix_tup (pv 5) pe_int (fun _ _ => rfl))) pa_nil)))
      (pss_one (ps_ret (pe_call Lp.G hr0 (by rfl) Lp.g Lp.kp Lp.b .nil pass0 (pa_cons (pv 2) (pa_cons (pv 3) pa_nil)))))))), ?_⟩
    refine ⟨_, rfl, a, C, dx, fs, _, rfl, ha, Z.cls, Z.nw, hw, rfl, _, rfl, ?_⟩
    rw [word_sums]
    cases m with
    | sums =>
      obtain ⟨ns, e1, e2⟩ := as_n fun q hq => ⟨(hp.2 q hq).1, (hp.2 q hq).2.2⟩
      refine ⟨_, rfl, p, ns, rfl, .inl (by rw [← e1]; exact hp.1), q _ H (Ex.refl H) ?_⟩
      rw [e2]
      show AmV H _ ((ns.map Am.n).foldl Am.add (.n 0))
      rw [sum_n, Int.zero_add]
      rfl
    | classes k =>
      refine ⟨_, rfl, a, C, dx, fs, _, rfl, ha, Z.cls, Z.nw, hw, rfl, _, rfl, ?_⟩
      rw [word_classes]
      obtain ⟨rs, e1, e2, e3⟩ := as_c fun q hq => ⟨(hp.2 q hq).1, (hp.2 q hq).2.2⟩
      have k1 := mok.1
      have k4 := mok.2
      have lr : rs.length = ps.length := by have := congrArg List.length e1; rw [List.length_map, List.length_map] at this; exact this.symm
      have rp : Rd H p (.tup (rs.map fun r => V.ref r.1)) := by rw [← e1]; exact hp.1
      refine ⟨_, rfl, a, C, dx, fs, _, rfl, ha, Z.cls, Z.ns, hs, k, rfl, by omega, by omega, fun D nD => ?_⟩
      refine lc_range (n := k) (fun i H' => Ex H H' ∧ H' D = some (.lst ((List.range i).map fun at_ => V.int (rs.map fun r => r.2.getD at_ 0).sum)))
        ⟨Ex.new nD, upd_same⟩ (fun i H1 hi h => ?_) (fun H1 h => ?_)
      · obtain ⟨ex, eD⟩ := h
        refine ⟨rfl, _, rfl, p, rfl, ⟨_, .inl (ex.rd rp)⟩, fun D2 nD2 => lc_tup (xs := rs.map fun r => V.ref r.1) (fun j H' => Ex H1 H' ∧ H' D2 = some (.lst ((rs.take j).map fun r => V.int (r.2.getD i 0))))
          ⟨Ex.new nD2, upd_same⟩ (fun j H' _ h => .inl ((ex.trans h.1).rd rp)) (fun j y H' hy h => ?_) (fun H' h => ?_)⟩
        · obtain ⟨ex2, eD2⟩ := h
          rw [List.getElem?_map] at hy
          obtain ⟨r, hr, rfl⟩ := Option.map_eq_some_iff.mp hy
          obtain ⟨l1, rd⟩ := e3 r (List.mem_of_getElem? hr)
          have il : i < r.2.length := by omega
          have jl := (List.getElem?_eq_some_iff.mp hr).1
          refine ⟨rfl, _, rfl, _, rfl, r.1, _, _, .int (r.2.getD i 0), rfl, rfl, .inl ((ex.trans ex2).rd rd), ?_, _, eD2, ?_, ex2.mut nD2, ?_⟩
          · rw [Int.zero_add]
            exact atI_nat (by rw [List.getElem?_map, List.getD_eq_getElem?_getD, List.getElem?_eq_getElem il]; rfl)
          · rw [List.length_map, List.length_take]
            exact Nat.lt_of_lt_of_le (show min j rs.length < 1001 by omega) (by decide)
          · rw [upd_same, List.take_succ, hr, List.map_append]
            rfl
        · obtain ⟨ex2, eD2⟩ := h
          rw [List.length_map, List.take_length] at eD2
          refine ⟨D2, rs.map fun r => r.2.getD i 0, rfl, .inl (.inl (by rw [List.map_map]; exact eD2)), _, ex2 D _ eD, ?_, (ex.trans ex2).mut nD, ?_⟩
          · rw [List.length_map, List.length_range]
            exact Nat.lt_of_lt_of_le (show i < 100 by omega) (by decide)
          · rw [upd_same, List.range_succ, List.map_append]
            rfl
      · obtain ⟨ex, eD⟩ := h
        refine ⟨D, _, rfl, .inl (.inl eD), fun t ob nt _ => ?_⟩
        refine q _ _ (ex.trans (Ex.new nt)) ?_
        rw [e2]
        show AmV _ _ (((rs.map (·.2)).map Am.c).foldl Am.add (.c (List.replicate k 0)))
        rw [sum_c k _ _ (fun r hr => by obtain ⟨z, hz, rfl⟩ := List.mem_map.mp hr; exact (e3 z hz).1) List.length_replicate]
        refine ⟨t, rfl, .inr ⟨ob, ?_⟩⟩
        rw [upd_same, List.map_map]
        congr 3
        apply List.map_congr_left
        intro i hi
        have il := List.mem_range.mp hi
        show V.int (rs.map fun r => r.2.getD i 0).sum = V.int ((List.replicate k (0 : Int)).getD i 0 + ((rs.map (·.2)).map fun r => r.getD i 0).sum)
        have e0 : (List.replicate k (0 : Int)).getD i 0 = 0 := by rw [List.getD_eq_getElem?_getD, List.getElem?_replicate, if_pos il]; rfl
        rw [e0, List.map_map, Int.zero_add]
        rfl
    | odds =>
      refine ⟨_, rfl, a, C, dx, fs, _, rfl, ha, Z.cls, Z.nw, hw, rfl, _, rfl, ?_⟩
      rw [word_classes]
      obtain ⟨rs, e1, e2, e3⟩ := as_o (b := b) fun q hq => hp.2 q hq
      have lr : rs.length = ps.length := by have := congrArg List.length e1; rw [List.length_map, List.length_map] at this; exact this.symm
      have rp : Rd H p (.tup (rs.map fun r => V.ref r.1)) := by rw [← e1]; exact hp.1
      have lt : (tops (rs.map (·.2))).length = ps.length := by unfold tops; rw [List.length_map, List.length_map, lr]
      have lb : (bots (rs.map (·.2))).length = ps.length := by unfold bots; rw [List.length_map, List.length_map, lr]
      have ht : ∀ n ∈ tops (rs.map (·.2)), n < 2 ^ b := fun n hn => by
        obtain ⟨x, hx, rfl⟩ := List.mem_map.mp hn
        obtain ⟨r, hr, rfl⟩ := List.mem_map.mp hx
        exact (e3 r hr).2.1
      have hb : ∀ n ∈ bots (rs.map (·.2)), n < 2 ^ b := fun n hn => by
        obtain ⟨x, hx, rfl⟩ := List.mem_map.mp hn
        obtain ⟨r, hr, rfl⟩ := List.mem_map.mp hx
        exact (e3 r hr).2.2
      refine ⟨_, rfl, p, rfl, ⟨_, .inl rp⟩, fun D nD => lc_tup (xs := rs.map fun r => V.ref r.1) (fun j H' => Ex H H' ∧ H' D = some (.lst ((rs.take j).map fun r => V.int (r.2.1.1 : Nat))))
          ⟨Ex.new nD, upd_same⟩ (fun j H' _ h => .inl (h.1.rd rp)) (fun j y H' hy h => ?_) (fun H1 h => ?_)⟩
      · obtain ⟨ex2, eD2⟩ := h
        rw [List.getElem?_map] at hy
        obtain ⟨r, hr, rfl⟩ := Option.map_eq_some_iff.mp hy
        have jl := (List.getElem?_eq_some_iff.mp hr).1
        refine ⟨rfl, _, rfl, r.1, _, 0, _, rfl, rfl, .inl (ex2.rd (e3 r (List.mem_of_getElem? hr)).1), rfl, _, eD2, ?_, ex2.mut nD, ?_⟩
        · rw [List.length_map, List.length_take]
          exact Nat.lt_of_lt_of_le (show min j rs.length < 1001 by omega) (by decide)
        · rw [upd_same, List.take_succ, hr, List.map_append]
          rfl
      · obtain ⟨ex1, eD1⟩ := h
        rw [List.length_map, List.take_length] at eD1
        refine ⟨D, tops (rs.map (·.2)), b, rfl, .inl (.inl (by rw [eD1]; unfold natV tops; rw [List.map_map, List.map_map]; rfl)), ht, b1, by rw [lt]; omega, ?_⟩
        refine ⟨_, rfl, p, rfl, ⟨_, .inl (ex1.rd rp)⟩, fun D2 nD2 => lc_tup (xs := rs.map fun r => V.ref r.1) (fun j H' => Ex H H' ∧ H' D2 = some (.lst ((rs.take j).map fun r => V.int (r.2.1.2 : Nat))))
          ⟨ex1.trans (Ex.new nD2), upd_same⟩ (fun j H' _ h => .inl (h.1.rd rp)) (fun j y H' hy h => ?_) (fun H2 h => ?_)⟩
        · obtain ⟨ex2, eD2⟩ := h
          rw [List.getElem?_map] at hy
          obtain ⟨r, hr, rfl⟩ := Option.map_eq_some_iff.mp hy
          have jl := (List.getElem?_eq_some_iff.mp hr).1
          refine ⟨rfl, _, rfl, r.1, _, 1, _, rfl, rfl, .inl (ex2.rd (e3 r (List.mem_of_getElem? hr)).1), rfl, _, eD2, ?_, ex2.mut (ex1.back nD2), ?_⟩
          · rw [List.length_map, List.length_take]
            exact Nat.lt_of_lt_of_le (show min j rs.length < 1001 by omega) (by decide)
          · rw [upd_same, List.take_succ, hr, List.map_append]
            rfl
        · obtain ⟨ex2, eD2⟩ := h
          rw [List.length_map, List.take_length] at eD2
          refine ⟨D2, bots (rs.map (·.2)), b, rfl, .inl (.inl (by rw [eD2]; unfold natV bots; rw [List.map_map, List.map_map]; rfl)), hb, b1, by rw [lb]; omega, ?_⟩
          refine ⟨_, rfl, _, rfl, prod (tops (rs.map (·.2))), prod (bots (rs.map (·.2))), tops_pos _, bots_pos _, rfl, ?_, fun pt H3 e3 np rd => ?_⟩
          · refine Nat.lt_of_lt_of_le (prod_lt ht) (pow_le2 ?_)
            rw [lt]; omega
          · refine q _ _ (ex2.trans e3) ?_
            rw [e2]
            show AmV _ _ (((rs.map (·.2)).map Am.o).foldl Am.add (.o one1))
            rw [sum_o _ one1 (by show 0 < 1 * _; rw [Nat.one_mul]; exact tops_pos _) (by show 0 < 1 * _; rw [Nat.one_mul]; exact bots_pos _)]
            have e : red (one1.1.1 * prod (tops (rs.map (·.2)))) (one1.1.2 * prod (bots (rs.map (·.2)))) (by show 0 < 1 * _; rw [Nat.one_mul]; exact tops_pos _) (by show 0 < 1 * _; rw [Nat.one_mul]; exact bots_pos _) = red (prod (tops (rs.map (·.2)))) (prod (bots (rs.map (·.2)))) (tops_pos _) (bots_pos _) := red_congr (Nat.one_mul _) (Nat.one_mul _)
            rw [e]
            exact ⟨pt, rfl, rd⟩
end
end Gl
set_option exponentiation.threshold 10000
namespace Gl
open PySem PySem.Spec PyProof.Rows L2
section
variable {P : Program} {w : World} {K : PySem.W.Frag} {mg : Str → Option Value} {base : Heap} {C : Addr}
def spPlusAll (C : Addr) : Sp := fun vs H Q _ => ∃ (a p : Addr) (m : Ms) (b : Nat) (ps : List (V × Am)), vs = [.ref a, .ref p] ∧ SclAt H a C m ∧ m.ok ∧ AmsL H p m b ps ∧ 1 ≤ b ∧ b ≤ 2000 ∧ b * ps.length + 1 + b ≤ 8000 ∧ ps.length ≤ 1000 ∧ ∀ v H', Ex H H' → AmV H' v (sumA m (ps.map (·.2))) → Q v H'
theorem ok_plusAll {f : Addr} {fd : FuncData} (F : Fun K "plus_all" "Scale.plus_all" sPlusAll f fd) (Z : ClsK K C) (Ca : Dm P w K mg base C 5 "_check_all" ["self", "amounts"] (spChkAll C)) (Su : Dm P w K mg base C 2 "_sum" ["self", "amounts"] (spSum C)) : FnOk P w K mg base CX0 6 f fd ["self", "amounts"] (spPlusAll C) := by
  refine F.ok scPlusAll (fun vs H Q E h => ?_) (fun cdv A outer s H vs Q E hr h => ?_)
  · obtain ⟨a, p, m, b, ps, rfl, _⟩ := h
    rfl
  · obtain ⟨a, p, m, b, ps, rfl, sa, mok, hp, b1, b2, hz, hl, q⟩ := h
    have r2 := hr.mono (show 2 ≤ 5 by decide)
    refine ⟨_, pss_cons (ps_expr (pe_meth (pv 0) Z.cls Ca.at_ Ca.G hr Ca.b .nil pass0 (pa_cons (pv 1) pa_nil)))
      (pss_one (ps_ret (pe_meth (pv 0) Z.cls Su.at_ Su.G r2 Su.b .nil pass0 (pa_cons (pv 1) pa_nil)))), ?_⟩
    obtain ⟨dx, fs, ha, n1⟩ := sa.no (x := "_check_all") (by decide +kernel) (by decide +kernel)
    refine ⟨_, rfl, a, dx, fs, rfl, ha, n1, _, rfl, a, p, m, ps, rfl, sa, mok, hp.t b2, hl, fun H1 e1 => ?_⟩
    obtain ⟨dx, fs, ha, n2⟩ := (e1.scl sa).no (x := "_sum") (by decide +kernel) (by decide +kernel)
    exact ⟨_, rfl, a, dx, fs, rfl, ha, n2, _, rfl, a, p, m, b, ps, rfl, e1.scl sa, mok, e1.amsL hp, b1, hz, hl, fun v H' e vv => q v H' (e1.trans e) vv⟩
end
end Gl
/-! == and != by an own __eq__, the right side's type told without the frame (for comprehensions). -/
namespace Gl
open PySem PySem.Spec PyProof.Rows L2
inductive TyK (K : PySem.W.Frag) (H : Hp) : V → Value → Prop
  | non : TyK K H .non (.type "NoneType")
  | bl (b : Bool) : TyK K H (.bl b) (.type "bool")
  | int (i : Int) : TyK K H (.int i) (.type "int")
  | str (x : Str) : TyK K H (.str x) (.type "str")
  | tup {a : Addr} {xs : List V} : SqT K H a xs → TyK K H (.ref a) (.type "tuple")
  | ins {a d C : Addr} {fs : List (Str × V)} : H a = some (.ins C d fs) → TyK K H (.ref a) (.ref C)
theorem TyK.o {X : Cx} {H : Hp} {y : V} {tb : Value} (h : TyK X.K H y tb) : TyO X y tb H := by
  cases h with
  | non => exact .non
  | bl b => exact .bl
  | int i => exact .int
  | str x => exact .str
  | tup h => exact .tup h
  | ins h => exact .ins h
def rEqK (K : PySem.W.Frag) (C : Addr) (sp : Sp) (E : XK) (neg : Bool) : R2 := fun x y H Q => ∃ a d fs tb, x = .ref a ∧ H a = some (.ins C d fs) ∧ TyK K H y tb ∧ PySem.W.notFirst K C tb = true ∧
  sp [.ref a, y] H (fun r H' => ∃ b, r = .bl b ∧ Q (.bl (xor neg b)) H') E
section
variable {X : Cx} {CX : CXT} {C f : Addr} {n : Nat} {fd : FuncData} {ps : List Str} {sp : Sp} {E : XK}
theorem op_eqK (F : FnOk X.prog X.w X.K X.mg X.base CX n f fd ps sp) (c : OwnAt X.K C f "__eq__") (hb : Binds X.K fd ps []) (hx : Passes CX X E) (hr : Room n X.A) : OpR X (compareOp .Eq) (rEqK X.K C sp E false) := by
  intro pins s σ H x y v u Q I rx ry hq
  obtain ⟨a, d, fs, tb, e, ha, ht, hn, q⟩ := hq
  exact op_eqO F c hb hx hr pins s σ H x y v u Q I rx ry ⟨a, d, fs, tb, e, ha, ht.o, hn, q⟩
theorem op_neK (F : FnOk X.prog X.w X.K X.mg X.base CX n f fd ps sp) (c : OwnAt X.K C f "__eq__") (hne : PySem.W.findIn X.K (.ref C) "__ne__" = some (some (.builtin "object.__ne__"))) (ho : PySem.W.subIn X.K (.ref C) (.type "object") = some true)
    (hb : Binds X.K fd ps []) (hx : Passes CX X E) (hr : Room (n + 1) X.A) : OpR X (compareOp .NotEq) (rEqK X.K C sp E true) := by
  intro pins s σ H x y v u Q I rx ry hq
  obtain ⟨a, d, fs, tb, e, ha, ht, hn, q⟩ := hq
  exact op_neO F c hne ho hb hx hr pins s σ H x y v u Q I rx ry ⟨a, d, fs, tb, e, ha, ht.o, hn, q⟩
end
end Gl
namespace Gl
open PySem PySem.Spec PyProof.Rows L2 ClX
theorem eqv_self : ∀ x : Am, PyData.eqv x.data x.data = true
  | .n i => by show PyData.eqv (.int i) (.int i) = true; rw [eqv_int]; simp
  | .c ns => by
    show PyData.eqv (.tuple _) (.tuple _) = true
    simp only [PyData.eqv]
    rw [eqv_ints]; simp
  | .o x => by
    show PyData.eqv (.tuple ([((x.1.1 : Nat) : Int), ((x.1.2 : Nat) : Int)].map PyData.int)) (.tuple ([((x.1.1 : Nat) : Int), ((x.1.2 : Nat) : Int)].map PyData.int)) = true
    simp only [PyData.eqv]
    rw [eqv_ints]; simp
theorem dx_ints {K : PySem.W.Frag} {H : Hp} : ∀ ns : List Int, DxAll K H (ns.map V.int) (ns.map PyData.int)
  | [] => .nil
  | c :: cs => .cons (.int c) (dx_ints cs)
theorem low_odds (x : Odds) : lowB (Am.data (.o x)) = true := by
  show (decide ((0 : Int) < ((x.1.1 : Nat) : Int)) && (decide ((0 : Int) < ((x.1.2 : Nat) : Int)) && decide (Nat.gcd ((x.1.1 : Nat) : Int).natAbs ((x.1.2 : Nat) : Int).natAbs = 1))) = true
  rw [Int.natAbs_natCast, Int.natAbs_natCast, decide_eq_true (show (0 : Int) < ((x.1.1 : Nat) : Int) by have := x.2.p0; omega), decide_eq_true (show (0 : Int) < ((x.1.2 : Nat) : Int) by have := x.2.q0; omega), decide_eq_true x.2.co]
  rfl
theorem dx_am {K : PySem.W.Frag} {H : Hp} {v : V} : ∀ {x : Am}, AmV H v x → Dx K H v x.data
  | .n i, h => by obtain rfl := h; exact .int i
  | .c ns, ⟨p, e, h⟩ => by subst e; exact .tup h (dx_ints ns)
  | .o x, ⟨p, e, h⟩ => by subst e; exact .tup h (.cons (.int _) (.cons (.int _) .nil))
theorem am_short {m : Ms} : ∀ {x : Am}, m.ok → m.has x → Short x.data
  | .n i, _, _ => trivial
  | .c ns, mok, hx => ⟨by
    cases m with
    | classes k =>
      have l : ns.length = k := hx
      have := mok.2
      rw [List.length_map]
      omega
    | sums => exact hx.elim
    | odds => exact hx.elim, trivial⟩
  | .o x, _, _ => ⟨by show 2 ≤ 1000; decide, trivial⟩
theorem amt_has {m : Ms} : ∀ {x : Am}, m.ok → m.has x → amtB m x.data = true
  | .n i, _, hx => by cases m <;> first | rfl | exact hx.elim
  | .c ns, mok, hx => by
    cases m with
    | classes k =>
      have l : ns.length = k := hx
      show (decide (((ns.map PyData.int).length : Int) = k) && (ns.map PyData.int).all wholeB) = true
      rw [List.length_map, l, decide_eq_true rfl, Bool.true_and, List.all_map]
      exact List.all_eq_true.mpr fun _ _ => rfl
    | sums => exact hx.elim
    | odds => exact hx.elim
  | .o x, _, hx => by
    cases m with
    | odds => exact low_odds x
    | sums => exact hx.elim
    | classes k => exact hx.elim
end Gl
namespace Gl
open PySem PySem.Spec PyProof.Rows L2
/-- a weight -/
def Wt : Ms → Am → Prop
  | .sums, .n i => 0 < i ∧ i < 10 ^ 40
  | .classes _, .c ns => (∀ n ∈ ns, 0 ≤ n ∧ n < 10 ^ 40) ∧ ∃ n ∈ ns, 0 < n
  | .odds, .o x => x.1.2 < x.1.1 ∧ x.1.1 ≤ 1000000
  | _, _ => False
theorem wt_odds {x : Odds} (h : Wt .odds (.o x)) : wgtB .odds (Am.data (.o x)) = true := by
  show (lowB _ && oddsB ((x.1.1 : Nat) : Int) ((x.1.2 : Nat) : Int)) = true
  rw [low_odds, Bool.true_and]
  have h1 : x.1.2 < x.1.1 := h.1
  have h2 : x.1.1 ≤ 1000000 := h.2
  unfold oddsB
  rw [decide_eq_true (by omega), decide_eq_true (by omega)]
  rfl
theorem pick_le (B : Int) (xs : List Int) (hx : ∀ x ∈ xs, 0 < x ∧ x ≤ B) {j : Int} (j0 : 0 ≤ j) (j1 : j < xs.length) : ∃ t : Int, atI (xs.map V.int) j = some (.int t) ∧ 0 < t ∧ t ≤ B := by
  obtain ⟨j, rfl⟩ : ∃ k : Nat, j = k := ⟨j.toNat, by omega⟩
  have l : j < xs.length := by omega
  exact ⟨xs[j], atI_nat (by rw [List.getElem?_map, List.getElem?_eq_getElem l]; rfl), hx _ (List.getElem_mem l)⟩
section
variable {P : Program} {w : World} {K : PySem.W.Frag} {mg : Str → Option Value} {base : Heap}
def spWgtR : Sp := fun vs H Q _ => ∃ (a p : Addr) (m : Ms), vs = [.ref a, .ref p] ∧ Dice H a ∧ MsV H p m ∧ m.ok ∧ ∀ (v : V) (x : Am) H', Gro a H H' → m.has x → x.near → Wt m x → AmV H' v x → Q v H'
theorem ok_wgtR {f : Addr} {fd : FuncData} (F : Fun K "_law_weight" "_law_weight" sWgtL f fd) (T : Blt mg) (D : Dc P w K mg base) (Lo : DfG P w K mg base 1 "_law_lowest" ["_law_top", "_law_bottom"] spLowL) : FnG P w K mg base CX0 2 f fd ["_law_dice_here", "_law_measure"] spWgtR := by
  refine okG F scWgtL (fun vs H Q E h => ?_) (fun cdv A outer s H vs Q E hr h => ?_)
  · obtain ⟨a, p, m, rfl, _⟩ := h
    rfl
  · obtain ⟨a, p, m, rfl, hd, hm, mok, q⟩ := h
    have nd := scWgtL.nd
    have hu : (A.deeper (envOfC "_law_weight" (defScope sWgtL) s.heap.objs.size f cdv)).units < cLine := by have := hr.rm.un; omega
    refine ⟨_, pss_cons (ps_if (pt_cmpR op_eq (pe_ix ix_tup (pv 1) pe_int (fun _ _ => rfl)) pe_str (nomark _))
        (pss_one (ps_ret (pe_op op_add pe_int (pe_callG D.G hr (by rfl) D.g D.kp D.b .nil pass0 (pa_cons (pv 0) (pa_cons (pe_ix ix_list (pe_lst (pa_cons pe_int (pa_cons pe_int (pa_cons pe_int (pa_cons (pe_op op_powW pe_int pe_int) pa_nil))))) (pe_callG D.G hr (by rfl) D.g D.kp D.b .nil pass0 (pa_cons (pv 0) (pa_cons pe_int pa_nil))) (fun _ _ => rfl)) pa_nil)))))) pss_nil)
      (pss_cons (ps_if (pt_cmpR op_eq (pe_ix ix_tup (pv 1) pe_int (fun _ _ => rfl)) pe_str (nomark _))
        (pss_cons (ps_setLc (i := 2) (own := [("_law_turn", 4)]) (g := gName 4) (tt := tYes) rfl nd rfl rfl (sw_true rfl rfl rfl (by decide +kernel)) (pi_range1 rfl T.range (pa_cons (pe_ix ix_tup (pv 1) pe_int (fun _ _ => rfl)) pa_nil)) (blkOk_by (N := ["_law_dice_here", "_law_measure", "_law_found", "_law_bottom", "_law_turn", "_law_one"]) (sc := defScope sWgtL) (by decide +kernel)) (fun _ _ _ _ _ => pg_name (i := 4) nd rfl (.inl rfl)) (fun _ _ _ _ _ => pts_nil)
          (fun _ _ _ _ _ => pe_callG D.G hr (by rfl) D.g D.kp D.b .nil pass0 (pa_cons (pv 0) (pa_cons (pe_ix (r := rIxL K) ix_list (pe_lst (pa_cons pe_int (pa_cons pe_int (pa_cons pe_int pa_nil)))) (pe_callG D.G hr (by rfl) D.g D.kp D.b .nil pass0 (pa_cons (pv 0) (pa_cons pe_int pa_nil))) (fun _ _ => rfl)) pa_nil))))
        (pss_cons (ps_if (pt_cmpR (op_eqNil hu) (pe_lc (own := [("_law_one", 5)]) (g := gName 5) rfl nd (pi_list (pv 2)) (blkOk_by (N := ["_law_dice_here", "_law_measure", "_law_found", "_law_bottom", "_law_turn", "_law_one"]) (sc := defScope sWgtL) (by decide +kernel)) (fun _ _ _ _ _ => pg_name (i := 5) nd rfl (.inl rfl)) (fun _ _ _ _ _ => pts_one (pt_cmpR op_gt (pv 5) pe_int (nomark _)))
            (fun _ _ _ _ _ => pv 5)) (pe_lst pa_nil) (nomark _))
          (pss_one (ps_asg pe_int (pg_sub (pv 2) (pe_callG D.G hr (by rfl) D.g D.kp D.b .nil pass0 (pa_cons (pv 0) (pa_cons (pe_callB call_len_seq (by rfl) T.len PySem.boot_len (pa_cons (pv 2) pa_nil)) pa_nil))) set_list))) pss_nil)
        (pss_one (ps_ret (pe_callTy call_tupleF (by rfl) T.tuple (by decide +kernel) (pa_cons (pv 2) pa_nil)))))) pss_nil)
      (pss_cons (ps_set (i := 3) nd rfl (.inl rfl) (pe_op op_add pe_int (pe_callG D.G hr (by rfl) D.g D.kp D.b .nil pass0 (pa_cons (pv 0) (pa_cons (pe_ix ix_list (pe_lst (pa_cons pe_int (pa_cons pe_int (pa_cons pe_int (pa_cons pe_int pa_nil))))) (pe_callG D.G hr (by rfl) D.g D.kp D.b .nil pass0 (pa_cons (pv 0) (pa_cons pe_int pa_nil))) (fun _ _ => rfl)) pa_nil)))))
      (pss_one (ps_ret (pe_callG Lo.G hr (by rfl) Lo.g Lo.kp Lo.b .nil pass0 (pa_cons (pe_op op_add (pe_op op_add (pv 3) pe_int) (pe_callG D.G hr (by rfl) D.g D.kp D.b .nil pass0 (pa_cons (pv 0) (pa_cons (pe_ix ix_list (pe_lst (pa_cons pe_int (pa_cons pe_int (pa_cons pe_int (pa_cons pe_int pa_nil))))) (pe_callG D.G hr (by rfl) D.g D.kp D.b .nil pass0 (pa_cons (pv 0) (pa_cons pe_int pa_nil))) (fun _ _ => rfl)) pa_nil)))) (pa_cons (pv 3) pa_nil))))))), ?_⟩
    have b200 : ∀ t : Int, 0 < t → t ≤ 10 ^ 30 → t.natAbs < 2 ^ 200 := fun t h0 h1 => by omega
    refine ⟨_, rfl, p, _, 0, _, rfl, rfl, .inl hm, rfl, rfl, _, rfl, ?_⟩
    rw [word_sums]
    cases m with
    | sums =>
      refine ⟨_, rfl, _, _, rfl, rfl, cpw30, by show 4 ≤ sizeLine; decide, fun L nL => ?_⟩
      have xL := Ex.new (o := .lst [.int 2, .int 3, .int 9, .int ((10 : Int) ^ (30 : Int).toNat)]) nL
      refine ⟨_, rfl, a, 4, rfl, by decide, by decide, xL.dice hd, fun j H1 j0 j1 g1 => ?_⟩
      have gA := (Gro.of xL hd).trans g1
      obtain ⟨t, ht, t0, t1⟩ := pick_le (10 ^ 30) [2, 3, 9, 10 ^ 30] (by decide +kernel) j0 j1
      refine ⟨L, _, j, .int t, rfl, rfl, .inl (.inl (g1.st L _ (hd.ne nL) upd_same)), ht, a, t, rfl, t0, b200 t t0 t1, gA.di, fun i H2 i0 i1 g2 => ?_⟩
      exact ⟨_, _, rfl, rfl, q _ (.n (1 + i)) H2 (gA.trans g2) trivial (show (1 + i).natAbs < 2 ^ 190 by omega) (show 0 < 1 + i ∧ 1 + i < 10 ^ 40 by omega) rfl⟩
    | classes k =>
      refine ⟨_, rfl, p, _, 0, _, rfl, rfl, .inl hm, rfl, rfl, _, rfl, ?_⟩
      rw [word_classes]
      have k1 := mok.1
      have k4 := mok.2
      refine ⟨_, rfl, p, _, 1, _, rfl, rfl, .inl hm, rfl, k, rfl, by omega, by omega, fun L nL => ?_⟩
      have La := hd.ne nL
      refine lc_range (n := k) (fun i H' => ∃ ns : List Int, Gro a H H' ∧ H' L = some (.lst (ns.map V.int)) ∧ ns.length = i ∧ ∀ n ∈ ns, 0 ≤ n ∧ n < 10 ^ 30)
        ⟨[], Gro.of (Ex.new nL) hd, upd_same, rfl, fun _ z => (nomatch z)⟩ (fun i H1 hi h => ?_) (fun H1 h => ?_)
      · obtain ⟨ns, g, eL, len, bd⟩ := h
        refine ⟨rfl, _, rfl, by show 3 ≤ sizeLine; decide, fun M nM => ?_⟩
        have xM := Ex.new (o := .lst [.int 2, .int 3, .int 9]) nM
        refine ⟨_, rfl, a, 3, rfl, by decide, by decide, xM.dice g.di, fun j H2 j0 j1 g2 => ?_⟩
        obtain ⟨t, ht, t0, t1⟩ := pick_le 9 [2, 3, 9] (by decide +kernel) j0 j1
        refine ⟨M, _, j, .int t, rfl, rfl, .inl (.inl (g2.st M _ (g.di.ne nM) upd_same)), ht, a, t, rfl, t0, b200 t t0 (by omega), g2.di, fun u H3 u0 u1 g3 => ?_⟩
        have g23 := g2.trans g3
        refine ⟨_, g23.st L _ La (xM L _ eL), ?_, ns ++ [u], ((g.ex xM).trans g23).mut nL La, by rw [upd_same, List.map_append]; rfl, by rw [List.length_append, len]; rfl, fun n hn => ?_⟩
        · rw [List.length_map, len]
          exact Nat.lt_of_lt_of_le (show i < 100 by omega) (by decide)
        · rcases List.mem_append.mp hn with z | z
          · exact bd n z
          · rw [List.mem_singleton.mp z]; omega
      · obtain ⟨ns, g, eL, len, bd⟩ := h
        refine ⟨_, rfl, L, rfl, ⟨_, .inl (.inl eL)⟩, fun D2 nD2 => lc_list (xs := ns.map V.int) (fun i H' => ∃ ks : List V, Ex H1 H' ∧ H' D2 = some (.lst ks) ∧ ks.length ≤ i ∧ (ks ≠ [] → ∃ n ∈ ns, 0 < n))
          ⟨[], Ex.new nD2, upd_same, Nat.le_refl _, fun z => absurd rfl z⟩ (fun i H' _ h => ?_) (fun i x H' hx h => ?_) (fun H2 h => ?_)⟩
        · obtain ⟨_, ex, _⟩ := h
          exact .inl (.inl (ex L _ eL))
        · obtain ⟨ks, ex, eD, lk, ps⟩ := h
          rw [List.getElem?_map] at hx
          obtain ⟨n, hn, rfl⟩ := Option.map_eq_some_iff.mp hx
          have il := (List.getElem?_eq_some_iff.mp hn).1
          refine ⟨rfl, _, rfl, _, _, rfl, rfl, _, rfl, ite2 (fun c => ?_) (fun _ => ?_)⟩
          · refine ⟨_, rfl, ks, eD, ?_, ks ++ [.int n], ex.mut nD2, upd_same, by rw [List.length_append]; exact Nat.succ_le_succ lk, fun _ => ⟨n, List.mem_of_getElem? hn, of_decide_eq_true c⟩⟩
            exact Nat.lt_of_lt_of_le (show ks.length < 100 by omega) (by decide)
          · exact ⟨ks, ex, eD, by omega, ps⟩
        · obtain ⟨ks, ex, eD, lk, ps⟩ := h
          refine ⟨Nat.zero_le _, fun m nm => ⟨D2, m, _, rfl, rfl, .inl (.inl (Ex.new nm D2 _ eD)), upd_same, _, rfl, ?_⟩⟩
          have xm := Ex.new (o := .lst []) nm
          have e1 := ex.trans xm
          have gm := g.ex e1
          refine ite2 (fun _ => ?_) (fun c => ?_)
          · refine ⟨_, rfl, _, rfl, _, rfl, L, _, rfl, .inl (.inl (.inl (e1 L _ eL))), a, _, rfl, by rw [List.length_map, len]; omega, Nat.lt_of_le_of_lt (show (((ns.map V.int).length : Nat) : Int).natAbs ≤ 1000 by rw [List.length_map, len]; omega) (by decide), gm.di, fun j H4 j0 j1 g4 => ?_⟩
            obtain ⟨j, rfl⟩ : ∃ k : Nat, j = k := ⟨j.toNat, by omega⟩
            refine ⟨L, _, j, j, rfl, rfl, g4.st L _ La (e1 L _ eL), (by unfold ixN; rw [if_pos (by omega), if_pos j1]; rfl), ?_⟩
            refine ⟨_, rfl, L, _, rfl, .inl (.inl upd_same), fun t o nt _ => ?_⟩
            refine q _ (.c (ns.set j 1)) _ (((gm.trans g4).mut nL La).ex (Ex.new nt)) (by show (ns.set j 1).length = k; rw [List.length_set, len]) (fun n hn => ?_) ⟨fun n hn => ?_, 1, List.mem_set (by have := j1; rw [List.length_map] at this; omega) 1, by decide⟩ ⟨t, rfl, .inr ⟨o, by rw [upd_same, List.map_set]⟩⟩
            · rcases List.mem_or_eq_of_mem_set hn with z | rfl
              · have := bd n z; omega
              · decide
            · rcases List.mem_or_eq_of_mem_set hn with z | rfl
              · have := bd n z; omega
              · decide
          · refine ⟨_, rfl, L, _, rfl, .inl (.inl (e1 L _ eL)), fun t o nt _ => ?_⟩
            exact q _ (.c ns) _ (gm.ex (Ex.new nt)) len (fun n hn => by have := bd n hn; omega) ⟨fun n hn => by have := bd n hn; omega, ps fun z => c (decide_eq_true z)⟩ ⟨t, rfl, .inr ⟨o, upd_same⟩⟩
    | odds =>
      refine ⟨_, rfl, p, _, 0, _, rfl, rfl, .inl hm, rfl, rfl, _, rfl, ?_⟩
      rw [word_classes]
      refine ⟨_, rfl, by show 4 ≤ sizeLine; decide, fun L nL => ?_⟩
      have xL := Ex.new (o := .lst [.int 1, .int 3, .int 12, .int 999]) nL
      refine ⟨_, rfl, a, 4, rfl, by decide, by decide, xL.dice hd, fun j H1 j0 j1 g1 => ?_⟩
      have gA := (Gro.of xL hd).trans g1
      obtain ⟨t, ht, t0, t1⟩ := pick_le 999 [1, 3, 12, 999] (by decide +kernel) j0 j1
      refine ⟨L, _, j, .int t, rfl, rfl, .inl (.inl (g1.st L _ (hd.ne nL) upd_same)), ht, a, t, rfl, t0, b200 t t0 (by omega), gA.di, fun u H2 u0 u1 g2 => ?_⟩
      have gB := gA.trans g2
      obtain ⟨u, rfl⟩ : ∃ k : Nat, u = k := ⟨u.toNat, by omega⟩
      refine ⟨_, _, rfl, rfl, _, rfl, _, _, rfl, rfl, _, rfl, by show 4 ≤ sizeLine; decide, fun M nM => ?_⟩
      have xM := Ex.new (o := .lst [.int 1, .int 4, .int 20, .int 990000]) nM
      refine ⟨_, rfl, a, 4, rfl, by decide, by decide, xM.dice gB.di, fun i H3 i0 i1 g3 => ?_⟩
      have gC := (gB.ex xM).trans g3
      obtain ⟨r, hrr, r0, r1⟩ := pick_le 990000 [1, 4, 20, 990000] (by decide +kernel) i0 i1
      refine ⟨M, _, i, .int r, rfl, rfl, .inl (.inl (g3.st M _ (gB.di.ne nM) upd_same)), hrr, a, r, rfl, r0, b200 r r0 (by omega), gC.di, fun v H4 v0 v1 g4 => ?_⟩
      obtain ⟨v, rfl⟩ : ∃ k : Nat, v = k := ⟨v.toNat, by omega⟩
      refine ⟨_, _, rfl, rfl, _, rfl, 1 + u + 1 + v, 1 + u, by simp only [Int.natCast_add]; rfl, by omega, by omega, by omega, by omega, fun pt H5 lo e5 np rd => ?_⟩
      refine q _ (.o ⟨_, lo⟩) _ ((gC.trans g4).ex e5) trivial ⟨?_, ?_⟩ ⟨?_, ?_⟩ ⟨pt, rfl, rd⟩
      · exact Nat.lt_of_le_of_lt (Nat.div_le_self ..) (by omega)
      · exact Nat.lt_of_le_of_lt (Nat.div_le_self ..) (by omega)
      · exact Nat.div_lt_div_of_lt_of_dvd (Nat.gcd_dvd_left ..) (by omega)
      · exact Nat.le_trans (Nat.div_le_self ..) (by omega)
end
end Gl
namespace Gl
open PySem PySem.Spec PyProof.Rows L2
abbrev sColumns : Stmt := topS 41
theorem scColumns : FnScope ["_law_dice_here", "_law_total_here", "_law_signs", "_law_found", "_law_at", "_law_word", "_law_turn"] ["_law_dice_here", "_law_total_here"] (defScope sColumns) := ⟨rfl, rfl, rfl, by decide +kernel, rfl, by decide +kernel, by decide +kernel⟩
/-- a small letter -/
def Small (x : Nat) : Prop := 97 ≤ x ∧ x ≤ 122
def Words (cs : List Str) : Prop := ∀ (i : Nat) (c : Str), cs[i]? = some c → ∃ (d : Nat) (r : List Nat), c.cps.toList = (97 + d) :: r ∧ (d = 2 * i ∨ d = 2 * i + 1) ∧ r.length ≤ 2 ∧ ∀ x ∈ r, Small x
abbrev abc : Str := "abcdefghijklmnopqrstuvwxyz"
theorem abc_at : ∀ i : Nat, i < 26 → abc.cps.toList[i]? = some (97 + i) := by decide +kernel
theorem abc_len : abc.length = 26 := by decide +kernel
theorem abc_mem {x : Nat} : x ∈ abc.cps.toList ↔ Small x := by
  have h : abc.cps.toList = (List.range 26).map (97 + ·) := by decide +kernel
  rw [h]
  unfold Small
  constructor
  · intro q
    obtain ⟨i, hi, e⟩ := List.mem_map.mp q
    have := List.mem_range.mp hi
    omega
  · rintro ⟨h1, h2⟩
    exact List.mem_map.mpr ⟨x - 97, List.mem_range.mpr (by omega), by omega⟩
theorem atI_abc {i : Int} (h0 : 0 ≤ i) (h : i < 26) : atI abc.cps.toList i = some (97 + i.toNat) := by
  obtain ⟨n, rfl⟩ : ∃ n : Nat, i = n := ⟨i.toNat, by omega⟩
  exact atI_nat (abc_at n (by omega))
section
variable {P : Program} {w : World} {K : PySem.W.Frag} {mg : Str → Option Value} {base : Heap}
def spColumns : Sp := fun vs H Q _ => ∃ (a : Addr) (n : Nat), vs = [.ref a, .int n] ∧ n ≤ 12 ∧ Dice H a ∧
  ∀ (cs : List Str) p H', Words cs → cs.length = n → Gro a H H' → H p = none → TupF H' p (cs.map V.str) → Q (.ref p) H'
theorem ok_columns {f : Addr} {fd : FuncData} (F : Fun K "_law_columns" "_law_columns" sColumns f fd) (T : Blt mg) (D : Dc P w K mg base) : FnG P w K mg base CX0 2 f fd ["_law_dice_here", "_law_total_here"] spColumns := by
  refine okG F scColumns (fun vs H Q E h => ?_) (fun cdv A outer s H vs Q E hr h => ?_)
  · obtain ⟨a, n, rfl, _⟩ := h
    rfl
  · obtain ⟨a, n, rfl, hn, hd, q⟩ := h
    have nd := scColumns.nd
    refine ⟨_, pss_cons (ps_par (i := 2) (j := 3) rfl nd rfl rfl (by decide) rfl rfl (pa_cons pe_str (pa_cons (pe_lst pa_nil) pa_nil)) (by rfl))
      (pss_cons (ps_for PassesOwn.never rfl (pi_range1 rfl T.range (pa_cons (pv 1) pa_nil)) (pg_name (i := 4) nd rfl (.inl rfl))
        (pss_cons (ps_set (i := 5) nd rfl (.inl rfl) (pe_ix ix_str (pv 2) (pe_op op_add (pe_op op_mul pe_int (pv 4)) (pe_callG D.G hr (by rfl) D.g D.kp D.b .nil pass0 (pa_cons (pv 0) (pa_cons pe_int pa_nil)))) (fun _ _ => rfl)))
        (pss_cons (ps_for PassesOwn.never rfl (pi_range1 rfl T.range (pa_cons (pe_ix ix_list (pe_lst (pa_cons pe_int (pa_cons pe_int (pa_cons pe_int (pa_cons pe_int pa_nil))))) (pe_callG D.G hr (by rfl) D.g D.kp D.b .nil pass0 (pa_cons (pv 0) (pa_cons pe_int pa_nil))) (fun _ _ => rfl)) pa_nil)) (pg_name (i := 6) nd rfl (.inl rfl))
          (pss_one (ps_set (i := 5) nd rfl (.inl rfl) (pe_op op_add_str (pv 5) (pe_ix ix_str (pv 2) (pe_callG D.G hr (by rfl) D.g D.kp D.b .nil pass0 (pa_cons (pv 0) (pa_cons pe_int pa_nil))) (fun _ _ => rfl))))))
        (pss_one (ps_expr (pe_bm PySem.F.plainAttrs_list PySem.F.slot_list_append PySem.F.type_list_append mt_append (pv 3) (pa_cons (pv 5) pa_nil)))))))
      (pss_one (ps_ret (pe_callTy call_tupleF (by rfl) T.tuple (by decide +kernel) (pa_cons (pv 3) pa_nil))))), ?_⟩
    -- signs, found = 'abc..', []
    refine ⟨Nat.zero_le _, fun o no => ⟨_, _, rfl, ?_⟩⟩
    have oa : o ≠ a := hd.ne no
    -- for at in range(total)
    refine ⟨_, rfl, n, rfl, by omega, by omega, ?_⟩
    refine for_range (n := n) (fun i σ H' => ∃ (cs : List Str) (y4 y5 y6 : Option V), σ = [some (.ref a), some (.int n), some (.str abc), some (.ref o), y4, y5, y6] ∧ cs.length = i ∧ Words cs ∧ Gro a H H' ∧ H' o = some (.lst (cs.map V.str)))
      ⟨[], none, none, none, rfl, rfl, (fun i c e => nomatch e), (Gro.of (Ex.new no) hd), upd_same⟩ (fun i σ H1 hi hW => ?_) (fun σ H1 hW => ?_)
    · obtain ⟨cs, y4, y5, y6, rfl, hc, wd, gr, eo⟩ := hW
      -- word = signs[2 * at + pull(dice, 2)]
      refine ⟨_, rfl, _, rfl, 2, _, rfl, rfl, cmul_l (by decide) (by decide), _, rfl, a, 2, rfl, by decide, by decide, gr.di, fun v H2 v0 v1 g2 => ?_⟩
      refine ⟨_, _, rfl, rfl, abc, _, _, rfl, rfl, by rw [abc_len]; decide, atI_abc (i := 2 * (0 + (i : Int)) + v) (by omega) (by omega), ?_⟩
      have gr2 : Gro a H H2 := gr.trans g2
      have eo2 : H2 o = some (.lst (cs.map V.str)) := g2.st o _ oa eo
      obtain ⟨u, rfl⟩ : ∃ u : Nat, v = u := ⟨v.toNat, by omega⟩
      have hu2 : (2 * (0 + (i : Int)) + (u : Int)).toNat = 2 * i + u := by omega
      rw [hu2]
      -- for turn in range([0, 0, 1, 2][pull(dice, 4)])
      refine ⟨by show 4 ≤ sizeLine; decide, fun l nl => ?_⟩
      have la : l ≠ a := gr2.di.ne nl
      have g3 : Gro a H2 (upd H2 l (.lst [.int 0, .int 0, .int 1, .int 2])) := Gro.of (Ex.new nl) gr2.di
      refine ⟨_, rfl, a, 4, rfl, by decide, by decide, g3.di, fun v H3 w0 w1 g4 => ?_⟩
      have el : H3 l = some (.lst [.int 0, .int 0, .int 1, .int 2]) := g4.st l _ la upd_same
      obtain ⟨t, ht, ht2⟩ : ∃ t : Nat, atI [V.int 0, .int 0, .int 1, .int 2] v = some (.int t) ∧ t ≤ 2 := by
        obtain ⟨m, rfl⟩ : ∃ m : Nat, v = m := ⟨v.toNat, by omega⟩
        match m, w1 with
        | 0, _ => exact ⟨0, rfl, by decide⟩
        | 1, _ => exact ⟨0, rfl, by decide⟩
        | 2, _ => exact ⟨1, rfl, by decide⟩
        | 3, _ => exact ⟨2, rfl, by decide⟩
        | m + 4, z => omega
      refine ⟨l, _, v, _, rfl, rfl, .inl (.inl el), ht, t, rfl, by omega, by omega, ?_⟩
      have gr3 : Gro a H H3 := (gr2.trans g3).trans g4
      have eo3 : H3 o = some (.lst (cs.map V.str)) := g4.st o _ oa (g3.st o _ oa eo2)
      refine for_range (n := t) (fun j σ H' => ∃ (c : Str) (r : List Nat) (y6 : Option V), σ = [some (.ref a), some (.int n), some (.str abc), some (.ref o), some (.int (0 + (i : Int))), some (.str c), y6] ∧ c.cps.toList = (97 + (2 * i + u)) :: r ∧ r.length = j ∧ (∀ x ∈ r, Small x) ∧ Gro a H H' ∧ H' o = some (.lst (cs.map V.str)))
        ⟨⟨#[97 + (2 * i + u)]⟩, [], y6, rfl, rfl, rfl, (fun _ z => nomatch z), gr3, eo3⟩ (fun j σ H4 hj hV => ?_) (fun σ H4 hV => ?_)
      · obtain ⟨c, r, y6, rfl, ec, er, sm, g5, eo4⟩ := hV
        refine ⟨_, rfl, _, rfl, _, rfl, a, 26, rfl, by decide, by decide, g5.di, fun v H5 x0 x1 g6 => ?_⟩
        have cl : c.length = r.length + 1 := by
          show c.cps.size = _
          rw [← Array.length_toList, ec, List.length_cons]
        refine ⟨abc, _, _, rfl, rfl, by rw [abc_len]; decide, atI_abc x0 x1, c, _, rfl, rfl, ?_, ?_⟩
        · rw [cl]
          show r.length + 1 + 1 ≤ sizeLine
          rw [er]
          exact Nat.le_trans (show j + 1 + 1 ≤ 100 by omega) (by decide)
        · refine ⟨_, r ++ [97 + v.toNat], _, rfl, ?_, by rw [List.length_append, er]; rfl, fun x hx => ?_, g5.trans g6, g6.st o _ oa eo4⟩
          · rw [PySem.W.KT.app_list, ec]
            rfl
          · rcases List.mem_append.mp hx with z | z
            · exact sm x z
            · rw [List.mem_singleton.mp z]
              unfold Small
              omega
      · obtain ⟨c, r, y6, rfl, ec, er, sm, g5, eo4⟩ := hV
        refine ⟨_, rfl, .inl ⟨rfl, _, .inl (.inl eo4)⟩, _, rfl, o, _, _, rfl, rfl, eo4, ?_, ?_⟩
        · rw [List.length_map, hc]
          exact Nat.lt_of_lt_of_le (show i < 100 by omega) (by decide)
        · refine ⟨cs ++ [c], _, _, _, rfl, by rw [List.length_append, hc]; rfl, fun x y e => ?_, g5.mut no oa, by rw [upd_same, List.map_append]; rfl⟩
          by_cases hx : x < cs.length
          · rw [List.getElem?_append_left hx] at e
            exact wd x y e
          · rw [List.getElem?_append_right (by omega)] at e
            have z : x - cs.length = 0 := by
              cases q : x - cs.length with
              | zero => rfl
              | succ m => rw [q] at e; exact nomatch e
            rw [z] at e
            obtain rfl : c = y := Option.some.inj e
            exact ⟨2 * i + u, r, ec, by omega, by omega, sm⟩
    · obtain ⟨cs, y4, y5, y6, rfl, hc, wd, gr, eo⟩ := hW
      refine ⟨_, rfl, o, _, rfl, .inl (.inl eo), fun p ob np hob => ?_⟩
      exact q cs p _ wd hc (gr.ex (Ex.new np)) (gr.back hd np).1 (tupF_new hob)
end
end Gl
namespace Gl
open PySem PySem.Spec PyProof.Rows L2
abbrev sAsc : Stmt := topS 6
theorem scAsc : FnScope ["values", "at"] ["values"] (defScope sAsc) := ⟨rfl, rfl, rfl, by decide +kernel, rfl, by decide +kernel, by decide +kernel⟩
/-- a list of answers, all of them yes -/
theorem all_true (n : Nat) : (List.replicate n true).all id = true := by
  rw [List.all_eq_true]
  intro b hb
  exact (List.mem_replicate.mp hb).2
/-- a row of ints, as many as said -/
def spWholesR : Sp := fun vs H Q _ => ∃ (p : Addr) (ns : List Int), vs = [.ref p, .int ns.length] ∧ Rd H p (.tup (ns.map V.int)) ∧ ns.length ≤ 1000 ∧ ∀ H', Ex H H' → Q (.bl true) H'
theorem wholes_ints : ∀ ns : List Int, (ns.map PyData.int).all wholeB = true
  | [] => rfl
  | _ :: ns => by
    rw [List.map_cons, List.all_cons, wholes_ints ns]
    rfl
theorem wholesR_of {P : Program} {w : World} {K : PySem.W.Frag} {mg : Str → Option Value} {base : Heap} {k : Nat} {f : Addr} {fd : FuncData} {ps : List Str} (F : FnOk P w K mg base CX0 k f fd ps (spWholes K)) : FnOk P w K mg base CX0 k f fd ps spWholesR :=
  F.imp fun vs H Q E h => by
    obtain ⟨p, ns, rfl, hp, l, q⟩ := h
    refine ⟨.ref p, .tuple (ns.map PyData.int), _, rfl, .dx (.tup hp (dx_ints ns)), ⟨by rw [List.length_map]; exact l, ?_⟩, fun H' e => ?_⟩
    · trivial
    · show Q (.bl (decide (((ns.map PyData.int).length : Int) = (ns.length : Int)) && (ns.map PyData.int).all wholeB)) H'
      rw [List.length_map, decide_eq_true rfl, wholes_ints]
      exact q H' e
abbrev sName : Stmt := topS 19
abbrev sCols : Stmt := topS 20
abbrev sChkC : Stmt := topS 21
abbrev sChkR : Stmt := topS 22
theorem scName : FnScope ["value", "letter"] ["value"] (defScope sName) := ⟨rfl, rfl, rfl, by decide +kernel, rfl, by decide +kernel, by decide +kernel⟩
theorem scCols : FnScope ["value", "least", "one"] ["value", "least"] (defScope sCols) := ⟨rfl, rfl, rfl, by decide +kernel, rfl, by decide +kernel, by decide +kernel⟩
theorem scChkC : FnScope ["columns", "least"] ["columns", "least"] (defScope sChkC) := ⟨rfl, rfl, rfl, by decide +kernel, rfl, by decide +kernel, by decide +kernel⟩
theorem scChkR : FnScope ["columns", "row"] ["columns", "row"] (defScope sChkR) := ⟨rfl, rfl, rfl, by decide +kernel, rfl, by decide +kernel, by decide +kernel⟩
def NameOk (c : Str) : Prop := 1 ≤ c.length ∧ c.length ≤ 8 ∧ ∀ x ∈ c.cps.toList, Small x
def Asc (cs : List Str) : Prop := cs.Pairwise fun x y => x.cps.toList < y.cps.toList
structure ColsOk (cs : List Str) : Prop where
  nm : ∀ c ∈ cs, NameOk c
  asc : Asc cs
  len : cs.length ≤ 8
section
variable {P : Program} {w : World} {K : PySem.W.Frag} {mg : Str → Option Value} {base : Heap}
def spAsc : Sp := fun vs H Q _ => ∃ (p : Addr) (cs : List Str), vs = [.ref p] ∧ Rd H p (.tup (cs.map V.str)) ∧ Asc cs ∧ cs.length ≤ 1000 ∧ ∀ H', Ex H H' → Q (.bl true) H'
theorem ok_asc {f : Addr} {fd : FuncData} (F : Fun K "is_ascending" "is_ascending" sAsc f fd) (T : Blt mg) : FnOk P w K mg base CX0 1 f fd ["values"] spAsc := by
  refine F.ok scAsc (fun vs H Q E h => ?_) (fun cdv A outer s H vs Q E hr h => ?_)
  · obtain ⟨p, cs, rfl, _⟩ := h
    rfl
  · obtain ⟨p, cs, rfl, hp, ha, hl, q⟩ := h
    have nd := scAsc.nd
    refine ⟨_, pss_one (ps_ret (pe_callB (cr_all rfl) (by rfl) T.all (by decide +kernel) (pa_cons (pe_lc (own := [("at", 1)]) (g := gName 1) (tt := tYes) rfl nd (pi_range1 rfl T.range (pa_cons (pe_op op_sub (pe_callB call_len_seq (by rfl) T.len PySem.boot_len (pa_cons (pv 0) pa_nil)) pe_int) pa_nil)) (blkOk_by (N := ["values", "at"]) (sc := defScope sAsc) (by decide +kernel)) (fun _ _ _ _ _ => pg_name (i := 1) nd rfl (.inl rfl)) (fun _ _ _ _ _ => pts_nil)
        (fun _ _ _ _ _ => pe_cmpR op_lt_str (pe_ix (r := rIxT K) ix_tup (pv 0) (pv 1) (fun _ _ => rfl)) (pe_ix (r := rIxT K) ix_tup (pv 0) (pe_op op_add (pv 1) pe_int) (fun _ _ => rfl)) (nomark _))) pa_nil))), ?_⟩
    refine ⟨_, rfl, p, _, rfl, .inr (.inl hp), _, _, rfl, rfl, _, rfl, ?_, ?_, ?_⟩
    · have : (-(2 ^ 62) : Int) ≤ 0 := by decide
      simp only [List.length_map]
      omega
    · simp only [List.length_map]
      omega
    · refine fun D nD => lc_range (n := ((cs.map V.str).length - 1 : Int).toNat) (fun i H' => Ex H H' ∧ H' D = some (.lst ((List.replicate i true).map V.bl))) ⟨Ex.new nD, upd_same⟩ (fun i H' hi h => ?_) (fun H' h => ?_)
      · obtain ⟨ex, eD⟩ := h
        rw [List.length_map] at hi
        have i1 : i < cs.length := by omega
        have i2 : i + 1 < cs.length := by omega
        have hp' : SqT K H' p (cs.map V.str) := .inl (ex.rd hp)
        have g1 : (cs.map V.str)[i]? = some (.str cs[i]) := by rw [List.getElem?_map, List.getElem?_eq_getElem i1]; rfl
        have g2 : (cs.map V.str)[i + 1]? = some (.str cs[i + 1]) := by rw [List.getElem?_map, List.getElem?_eq_getElem i2]; rfl
        have lt : cs[i].cps.toList < cs[i + 1].cps.toList := List.pairwise_iff_getElem.mp ha i (i + 1) i1 i2 (by omega)
        refine ⟨rfl, _, rfl, _, rfl, p, _, _, _, rfl, rfl, hp', (by rw [show (0 + (i : Int)) = (i : Nat) by omega]; exact atI_nat g1), _, rfl, _, rfl, _, _, rfl, rfl, p, _, _, _, rfl, rfl, hp', (by rw [show (0 + (i : Int) + 1) = ((i + 1 : Nat) : Int) by omega]; exact atI_nat g2), _, _, rfl, rfl, _, eD, ?_, ex.mut nD, ?_⟩
        · rw [List.length_map, List.length_replicate]
          exact room1000 (by omega)
        · rw [upd_same, decide_eq_true lt, List.replicate_succ', List.map_append]
          rfl
      · obtain ⟨ex, eD⟩ := h
        refine ⟨D, _, rfl, .inl (.inl eD), ?_⟩
        rw [all_true]
        exact q _ ex
/-- the program's constants -/
structure Cst (mg : Str → Option Value) : Prop where
  letters : ∃ t, mg "LETTERS" = some (.str abc t)
  mostL : ∃ t, mg "MOST_LETTERS" = some (.int 8 t)
  mostN : ∃ t, mg "MOST_NAMES" = some (.int 8 t)
def spName : Sp := fun vs H Q _ => ∃ c : Str, vs = [.str c] ∧ NameOk c ∧ ∀ H', Ex H H' → Q (.bl true) H'
theorem ok_name {f : Addr} {fd : FuncData} (F : Fun K "is_name" "is_name" sName f fd) (T : Blt mg) (C : Cst mg) : FnOk P w K mg base CX0 1 f fd ["value"] spName := by
  refine F.ok scName (fun vs H Q E h => ?_) (fun cdv A outer s H vs Q E hr h => ?_)
  · obtain ⟨c, rfl, _⟩ := h
    rfl
  · obtain ⟨c, rfl, hc, q⟩ := h
    have nd := scName.nd
    obtain ⟨t1, m1⟩ := C.letters
    obtain ⟨t2, m2⟩ := C.mostL
    refine ⟨_, pss_cons (ps_if (pw_or (pt_not (pt_val (pe_callB call_isi (by rfl) T.isinstance (by decide +kernel) (pa_cons (pv 0) (pa_cons (pe_bltn (v := .ty "str") (by rfl) T.str (by decide +kernel) rfl) pa_nil)))))
        (pw_or1 (pt_not (pt_chain op_le op_le pe_int (pe_callB call_len_str (by rfl) T.len PySem.boot_len (pa_cons (pv 0) pa_nil)) (pe_glob (v := .int 8) (by rfl) m2 ⟨_, rfl⟩))))).pt
        pss_never pss_nil)
      (pss_one (ps_ret (pe_callB (cr_all rfl) (by rfl) T.all (by decide +kernel) (pa_cons (pe_lc (own := [("letter", 1)]) (g := gName 1) (tt := tYes) rfl nd (pi_str (pv 0)) (blkOk_by (N := ["value", "letter"]) (sc := defScope sName) (by decide +kernel)) (fun _ _ _ _ _ => pg_name (i := 1) nd rfl (.inl rfl)) (fun _ _ _ _ _ => pts_nil)
        (fun _ _ _ _ _ => pe_cmpR op_in_sign (pv 1) (pe_glob (v := .str abc) (by rfl) m1 ⟨_, rfl⟩) rfl)) pa_nil)))), ?_⟩
    obtain ⟨c1, c8, cl⟩ := hc
    have c1' : ((1 : Int) ≤ (c.length : Int)) := by omega
    have c8' : ((c.length : Int) ≤ 8) := by omega
    refine ⟨_, rfl, _, _, _, _, true, rfl, .ty _, .base (.str c), kit_ty (by decide +kernel), true, rfl, ?_⟩
    refine ⟨_, rfl, c, rfl, Nat.le_trans c8 (by decide), 1, _, rfl, rfl, _, rfl, ?_⟩
    rw [decide_eq_true c1']
    refine ⟨_, _, rfl, rfl, _, rfl, ?_⟩
    rw [decide_eq_true c8']
    -- all([letter in LETTERS for letter in value])
    refine ⟨_, rfl, c, rfl, fun D nD => lc_it walk_str (fun i H' => Ex H H' ∧ H' D = some (.lst ((List.replicate i true).map V.bl))) ⟨Ex.new nD, upd_same⟩ (fun _ _ _ _ => trivial) (fun i x H1 H2 hi h y => ?_) (fun H' h => ?_)⟩
    · obtain ⟨rfl, z, hz, rfl⟩ := y
      obtain ⟨ex, eD⟩ := h
      have mz : z ∈ c.cps.toList := by
        have := List.mem_of_getElem? (l := c.cps.toList) (i := i) (a := z) (by rw [Array.getElem?_toList]; exact hz)
        exact this
      refine ⟨rfl, _, rfl, z, abc, rfl, rfl, _, eD, ?_, ex.mut nD, ?_⟩
      · rw [List.length_map, List.length_replicate]
        have : c.cps.size ≤ 8 := c8
        exact room1000 (by omega)
      · rw [upd_same, decide_eq_true (abc_mem.mpr (cl z mz)), List.replicate_succ', List.map_append]
        rfl
    · obtain ⟨ex, eD⟩ := h
      refine ⟨D, _, rfl, .inl (.inl eD), ?_⟩
      rw [all_true]
      exact q _ ex
end
end Gl
namespace Gl
open PySem PySem.Spec PyProof.Rows L2
section
variable {P : Program} {w : World} {K : PySem.W.Frag} {mg : Str → Option Value} {base : Heap}
/-- columns at p -/
def ColsAt (H : Hp) (p : Addr) (cs : List Str) : Prop := ColsOk cs ∧ Rd H p (.tup (cs.map V.str))
def spIsCols : Sp := fun vs H Q _ => ∃ (p : Addr) (cs : List Str) (l : Int), vs = [.ref p, .int l] ∧ 0 ≤ l ∧ l ≤ (cs.length : Int) ∧ ColsAt H p cs ∧ ∀ H', Ex H H' → Q (.bl true) H'
theorem ok_isCols {f : Addr} {fd : FuncData} (F : FunD K "is_columns" "is_columns" (defArgs sCols) (defBody sCols) (defScope sCols) [] [("least", .int 0)] f fd) (T : Blt mg) (C : Cst mg)
    (I : Df P w K mg base 2 "is_index" ["value", "many"] spIndex) (N : Df P w K mg base 1 "is_name" ["value"] spName) (A : Df P w K mg base 1 "is_ascending" ["values"] spAsc) : FnOk P w K mg base CX0 3 f fd ["value", "least"] spIsCols := by
  refine F.ok scCols (fun vs H Q E h => ?_) (fun cdv A0 outer s H vs Q E hr h => ?_)
  · obtain ⟨p, cs, l, rfl, _⟩ := h
    rfl
  · obtain ⟨p, cs, l, rfl, l0, lc, ⟨ok, hp⟩, q⟩ := h
    have nd := scCols.nd
    obtain ⟨t2, m2⟩ := C.mostN
    refine ⟨_, pss_cons (ps_if (pt_not (pt_val (pe_call I.G hr (by rfl) I.g I.kp I.b .nil pass0 (pa_cons (pv 1) (pa_cons (pe_op op_add (pe_glob (v := .int 8) (by rfl) m2 ⟨_, rfl⟩) pe_int) pa_nil))))) pss_never pss_nil)
      (pss_cons (ps_if (pw_or (pt_not (pt_val (pe_callB call_isi (by rfl) T.isinstance (by decide +kernel) (pa_cons (pv 0) (pa_cons (pe_bltn (v := .ty "tuple") (by rfl) T.tuple (by decide +kernel) rfl) pa_nil)))))
        (pw_or1 (pt_not (pt_chain op_le op_le (pv 1) (pe_callB call_len_seq (by rfl) T.len PySem.boot_len (pa_cons (pv 0) pa_nil)) (pe_glob (v := .int 8) (by rfl) m2 ⟨_, rfl⟩))))).pt
        pss_never pss_nil)
      (pss_one (ps_ret (pe_and (pe_callB (cr_all rfl) (by rfl) T.all (by decide +kernel) (pa_cons (pe_lc (own := [("one", 2)]) (g := gName 2) (tt := tYes) rfl nd (pi_tup (pv 0)) (blkOk_by (N := ["value", "least", "one"]) (sc := defScope sCols) (by decide +kernel)) (fun _ _ _ _ _ => pg_name (i := 2) nd rfl (.inl rfl)) (fun _ _ _ _ _ => pts_nil)
        (fun _ _ _ _ _ => pe_call N.G (hr.mono (by decide)) (by rfl) N.g N.kp N.b .nil pass0 (pa_cons (pv 2) pa_nil))) pa_nil))
        (pe_one (pe_call A.G (hr.mono (by decide)) (by rfl) A.g A.kp A.b .nil pass0 (pa_cons (pv 0) pa_nil))))))), ?_⟩
    have l8 : ((cs.map V.str).length : Int) ≤ 8 := by
      rw [List.length_map]
      have := ok.len
      omega
    refine ⟨_, rfl, _, _, rfl, rfl, l, _, rfl, l0, (show l < 8 + 1 by have := ok.len; omega), true, rfl, ?_⟩
    refine ⟨_, rfl, _, _, _, _, true, rfl, .ty _, tyRd hp, kit_ty (by decide +kernel), true, rfl, ?_⟩
    refine ⟨_, rfl, _, rfl, p, _, rfl, .inr (.inl hp), l, _, rfl, rfl, _, rfl, ?_⟩
    rw [decide_eq_true (show l ≤ ((cs.map V.str).length : Int) by rw [List.length_map]; exact lc)]
    refine ⟨_, _, rfl, rfl, _, rfl, ?_⟩
    rw [decide_eq_true l8]
    refine ⟨_, rfl, p, rfl, ⟨_, .inl hp⟩, fun D nD => lc_tup (xs := cs.map V.str) (fun i H' => Ex H H' ∧ H' D = some (.lst ((List.replicate i true).map V.bl)))
      ⟨Ex.new nD, upd_same⟩ (fun i H' _ h => .inl (h.1.rd hp)) (fun i x H' hx h => ?_) (fun H' h => ?_)⟩
    · obtain ⟨ex, eD⟩ := h
      rw [List.getElem?_map] at hx
      obtain ⟨c, hc, rfl⟩ := Option.map_eq_some_iff.mp hx
      refine ⟨rfl, _, rfl, c, rfl, ok.nm c (List.mem_of_getElem? hc), fun H2 ex2 => ⟨_, ex2 D _ eD, ?_, (ex.trans ex2).mut nD, ?_⟩⟩
      · rw [List.length_map, List.length_replicate]
        have := (List.getElem?_eq_some_iff.mp hc).1
        have := ok.len
        exact room1000 (by omega)
      · rw [upd_same, List.replicate_succ', List.map_append]
        rfl
    · obtain ⟨ex, eD⟩ := h
      refine ⟨D, _, rfl, .inl (.inl eD), true, ?_, ?_⟩
      · rw [all_true]
      · refine ⟨_, rfl, p, cs, rfl, ex.rd hp, ok.asc, Nat.le_trans ok.len (by decide), fun H2 ex2 => q _ (ex.trans ex2)⟩
def spChkC : Sp := fun vs H Q _ => ∃ (p : Addr) (cs : List Str) (l : Int), vs = [.ref p, .int l] ∧ 0 ≤ l ∧ l ≤ (cs.length : Int) ∧ ColsAt H p cs ∧ ∀ H', Ex H H' → Q .non H'
/-- is_columns(columns, least=least) -/
structure DfK (P : Program) (w : World) (K : PySem.W.Frag) (mg : Str → Option Value) (base : Heap) (k : Nat) (x : Str) (ps : List Str) (sp : Sp) where
  f : Addr
  fd : FuncData
  G : FnOk P w K mg base CX0 k f fd ps sp
  g : mg x = some (.ref f)
  kp : PySem.W.keepIn K (.ref f) = true
theorem kbn_isCols {f : Addr} {fd : FuncData} (F : FunD K "is_columns" "is_columns" (defArgs sCols) (defBody sCols) (defScope sCols) [] [("least", .int 0)] f fd) :
    KBn K fd ["value", "least"] 1 ["least"] (fun us ws => us ++ ws) (fun vs zs => vs ++ zs) := by
  obtain ⟨oc, od, dV, kV, doc, pm, an, cdv, ct, osl, rfl, lk, hcd, hD, hK⟩ := F.ex
  rcases hD with ⟨_, rfl⟩ | ⟨e, _⟩
  · refine ⟨fun s us ws X l1 l2 => ?_, fun r rz => r.append rz⟩
    match us, ws, l1, l2 with
    | [u], [z], _, _ => exact .of_eq rfl
  · exact absurd rfl e
theorem bind_chkC {f : Addr} {fd : FuncData} (F : FunD K "check_columns" "check_columns" (defArgs sChkC) (defBody sChkC) (defScope sChkC) [] [("least", .int 0)] f fd) :
    ∃ ds, Vals [V.int 0] ds ∧ Binds K fd ["columns", "least"] ds :=
  F.binds0 1 (by simp) rfl fun D doc pm an cdv ct us ks l1 l2 => by
    match us, ks, l1, l2 with
    | [u], [z], _, _ => exact ⟨_, _, _, _, _, _, rfl, rfl, rfl⟩
theorem ok_chkC {f : Addr} {fd : FuncData} (F : FunD K "check_columns" "check_columns" (defArgs sChkC) (defBody sChkC) (defScope sChkC) [] [("least", .int 0)] f fd)
    (I : DfK P w K mg base 3 "is_columns" ["value", "least"] spIsCols) (kb : KBn K I.fd ["value", "least"] 1 ["least"] (fun us ws => us ++ ws) (fun vs zs => vs ++ zs)) : FnOk P w K mg base CX0 4 f fd ["columns", "least"] spChkC := by
  refine F.ok scChkC (fun vs H Q E h => ?_) (fun cdv A0 outer s H vs Q E hr h => ?_)
  · obtain ⟨p, cs, l, rfl, _⟩ := h
    rfl
  · obtain ⟨p, cs, l, rfl, l0, lc, hc, q⟩ := h
    refine ⟨_, pss_one (ps_if (pt_not (pt_val (pe_callN I.G hr (by rfl) I.g I.kp kb pass0 (pa_cons (pv 0) pa_nil) (pk_cons (pv 1) pk_nil)))) pss_never pss_nil), ?_⟩
    exact ⟨_, rfl, _, rfl, rfl, rfl, p, cs, l, rfl, l0, lc, hc, fun H' ex => ⟨true, rfl, q _ ex⟩⟩
def spChkR : Sp := fun vs H Q _ => ∃ (p r : Addr) (cs : List Str) (ns : List Int), vs = [.ref p, .ref r] ∧ ColsAt H p cs ∧ Rd H r (.tup (ns.map V.int)) ∧ ns.length = cs.length ∧ ∀ H', Ex H H' → Q .non H'
theorem ok_chkR {f : Addr} {fd : FuncData} (F : Fun K "check_row" "check_row" sChkR f fd) (T : Blt mg) (W : Df P w K mg base 2 "are_whole" ["value", "many"] spWholesR) : FnOk P w K mg base CX0 3 f fd ["columns", "row"] spChkR := by
  refine F.ok scChkR (fun vs H Q E h => ?_) (fun cdv A0 outer s H vs Q E hr h => ?_)
  · obtain ⟨p, r, cs, ns, rfl, _⟩ := h
    rfl
  · obtain ⟨p, r, cs, ns, rfl, ⟨ok, hc⟩, hr1, hl, q⟩ := h
    refine ⟨_, pss_one (ps_if (pt_not (pt_val (pe_call W.G hr (by rfl) W.g W.kp W.b .nil pass0 (pa_cons (pv 1) (pa_cons (pe_callB call_len_seq (by rfl) T.len PySem.boot_len (pa_cons (pv 0) pa_nil)) pa_nil))))) pss_never pss_nil), ?_⟩
    have e : ((cs.map V.str).length : Int) = (ns.length : Int) := by rw [List.length_map, hl]
    refine ⟨_, rfl, _, rfl, p, _, rfl, .inr (.inl hc), r, ns, by rw [e]; rfl, hr1, ?_, fun H' ex => ⟨true, rfl, q _ ex⟩⟩
    have := ok.len
    omega
end
end Gl
namespace Gl
open PySem PySem.Spec PyProof.Rows L2
/-! ### rows, columns and lists of rows as data -/
def dCols (cs : List Str) : PyData := .tuple (cs.map PyData.str)
def dRow (ns : List Int) : PyData := .tuple (ns.map PyData.int)
section
variable {K : PySem.W.Frag} {H : Hp}
theorem dp_strs : ∀ cs : List Str, DpAll K H (cs.map V.str) (cs.map PyData.str)
  | [] => .nil
  | c :: cs => .cons (.str c) (dp_strs cs)
theorem dp_cols {p : Addr} {cs : List Str} (h : Rd H p (.tup (cs.map V.str))) : Dp K H (.ref p) (dCols cs) := .tup (.inl h) (dp_strs cs)
theorem dp_row {p : Addr} {ns : List Int} (h : Rd H p (.tup (ns.map V.int))) : Dp K H (.ref p) (dRow ns) := .tup (.inl h) (dp_ints ns)
theorem dp_refs : ∀ {rs : List (Addr × List Int)}, (∀ r ∈ rs, Rd H r.1 (.tup (r.2.map V.int))) → DpAll K H (rs.map fun r => V.ref r.1) (rs.map fun r => dRow r.2)
  | [], _ => .nil
  | r :: rs, h => .cons (dp_row (h r (List.mem_cons_self ..))) (dp_refs fun x hx => h x (List.mem_cons_of_mem _ hx))
end
theorem eqv_intsS : ∀ ns : List Int, PyData.eqvAll (ns.map PyData.int) (ns.map PyData.int) = true
  | [] => by simp only [List.map_nil, PyData.eqvAll]
  | n :: ns => by simp only [List.map_cons, PyData.eqvAll, PyData.eqv, eqv_intsS ns, beq_self_eq_true, Bool.and_self]
theorem eqv_strs : ∀ cs : List Str, PyData.eqvAll (cs.map PyData.str) (cs.map PyData.str) = true
  | [] => by simp only [List.map_nil, PyData.eqvAll]
  | n :: ns => by simp only [List.map_cons, PyData.eqvAll, PyData.eqv, eqv_strs ns, beq_self_eq_true, Bool.and_self]
theorem eqv_row (ns : List Int) : PyData.eqv (dRow ns) (dRow ns) = true := by simp only [dRow, PyData.eqv, eqv_intsS]
theorem eqv_cols (cs : List Str) : PyData.eqv (dCols cs) (dCols cs) = true := by simp only [dCols, PyData.eqv, eqv_strs]
theorem eqv_list_nil {α : Type} (f : α → PyData) (l : List α) : PyData.eqv (.list (l.map f)) (.list []) = decide (l = []) := by
  cases l with
  | nil => simp [PyData.eqv, PyData.eqvAll]
  | cons c cs => simp [PyData.eqv, PyData.eqvAll]
theorem dep_strs : ∀ ns : List Str, PyData.depthAll (ns.map PyData.str) = 0
  | [] => by simp only [List.map_nil, PyData.depthAll]
  | n :: ns => by simp only [List.map_cons, PyData.depthAll, PyData.depth, dep_strs ns, Nat.max_self]
theorem lay_str {c : Str} (h : NameOk c) : PyData.canLay0 (.str c) = true := by
  simp only [PyData.canLay0]
  unfold PyData.strOk
  rw [Array.all_eq_true']
  intro x hx
  have := h.2.2 x (Array.mem_toList_iff.mpr hx)
  unfold Small at this
  exact decide_eq_true (by omega)
theorem lay_strs : ∀ {cs : List Str}, (∀ c ∈ cs, NameOk c) → PyData.canLayAll0 (cs.map PyData.str) = true
  | [], _ => by simp only [List.map_nil, PyData.canLayAll0]
  | c :: cs, h => by
    simp only [List.map_cons, PyData.canLayAll0]
    rw [lay_str (h c (List.mem_cons_self ..)), lay_strs fun x hx => h x (List.mem_cons_of_mem _ hx)]
    rfl
theorem shaped_row (ns : List Int) : SeqAt.shaped (dRow ns) = true := shaped_of (by simp only [dRow, PyData.canLay0, lay_ints]) (by simp only [dRow, PyData.depth, dep_ints]; decide)
theorem shaped_cols {cs : List Str} (h : ∀ c ∈ cs, NameOk c) : SeqAt.shaped (dCols cs) = true := shaped_of (by simp only [dCols, PyData.canLay0, lay_strs h]) (by simp only [dCols, PyData.depth, dep_strs]; decide)
theorem shaped_nilL : SeqAt.shaped (.list []) = true := shaped_of (by simp only [PyData.canLay0, PyData.canLayAll0]) (by simp only [PyData.depth, PyData.depthAll]; decide)
theorem lay_rows : ∀ rs : List (List Int), PyData.canLayAll0 (rs.map dRow) = true
  | [] => by simp only [List.map_nil, PyData.canLayAll0]
  | r :: rs => by
    simp only [List.map_cons, PyData.canLayAll0]
    rw [lay_rows rs]
    simp only [dRow, PyData.canLay0, lay_ints, Bool.and_self]
theorem dep_rows : ∀ rs : List (List Int), PyData.depthAll (rs.map dRow) ≤ 1
  | [] => by simp only [List.map_nil, PyData.depthAll]; decide
  | r :: rs => by
    simp only [List.map_cons, PyData.depthAll, dRow, PyData.depth, dep_ints]
    have := dep_rows rs
    omega
end Gl
namespace Gl
open PySem PySem.Spec PyProof.Rows L2
abbrev sRowsL : Stmt := topS 42
theorem scRowsL : FnScope ["_law_dice_here", "_law_columns_here", "_law_total_here", "_law_pools", "_law_pool", "_law_found", "_law_turn", "_law_row", "_law_change", "_law_name"] ["_law_dice_here", "_law_columns_here", "_law_total_here"] (defScope sRowsL) := ⟨rfl, rfl, rfl, by decide +kernel, rfl, by decide +kernel, by decide +kernel⟩
/-- a word between a statement and what follows it -/
def tMid (t u : TS) : TS := fun D σ H => ∃ M : L2.St → Hp → Prop, t { D with nx := M } σ H ∧ ∀ σ' H', M σ' H' → u D σ' H'
theorem pss_mid {X : Cx} {st : Stmt} {l : List Stmt} {t u : TS} (a : PS X st t) (b : PSs X l u) : PSs X (st :: l) (tMid t u) := .mk fun pins s σ H D I h => by
  obtain ⟨M, hm, hu⟩ := h
  apply wpAny_execs_cons
  apply thn (a.run pins s σ H { D with nx := M } I hm)
  rintro f s1 q
  match f, q with
  | .next, ⟨σ', H', J, q⟩ => exact b.run pins s1 σ' H' D J (hu σ' H' q)
  | .ret v, q => exact q
  | .brk, q => exact q
  | .cont, q => exact q
section
variable {P : Program} {w : World} {K : PySem.W.Frag} {mg : Str → Option Value} {base : Heap}
/-- a list at l of rows of m small numbers -/
structure Lines (H : Hp) (l : Addr) (m : Nat) (rs : List (Addr × List Int)) : Prop where
  at_ : H l = some (.lst (rs.map fun r => V.ref r.1))
  row : ∀ r ∈ rs, Rd H r.1 (.tup (r.2.map V.int)) ∧ r.2.length = m ∧ ∀ n ∈ r.2, Few n
def spRowsL : Sp := fun vs H Q _ => ∃ (a p : Addr) (cs : List Str) (n : Nat), vs = [.ref a, .ref p, .int n] ∧ n ≤ 20 ∧ Dice H a ∧ ColsAt H p cs ∧ cs ≠ [] ∧
  ∀ l rs H', Gro a H H' → H l = none → l ≠ a → Lines H' l cs.length rs → rs.length = n → Q (.ref l) H'
theorem Lines.gro {a l : Addr} {H H' : Hp} {m : Nat} {rs : List (Addr × List Int)} (h : Lines H l m rs) (g : Gro a H H') (d : Dice H a) (n : l ≠ a) : Lines H' l m rs :=
  ⟨g.st l _ n h.at_, fun r hr => let ⟨x, y, z⟩ := h.row r hr; ⟨g.rd d x, y, z⟩⟩
theorem Lines.ex {l : Addr} {H H' : Hp} {m : Nat} {rs : List (Addr × List Int)} (h : Lines H l m rs) (e : Ex H H') : Lines H' l m rs :=
  ⟨e l _ h.at_, fun r hr => let ⟨x, y, z⟩ := h.row r hr; ⟨e.rd x, y, z⟩⟩
theorem rd_upd {H : Hp} {r b : Addr} {ys xs : List V} {o : HO} (hr : H r = some (.lst ys)) (h : Rd H b (.tup xs)) : Rd (upd H r o) b (.tup xs) := by
  rcases h with h | ⟨u, h⟩
  · exact .inl (by rw [upd_ne (ne_of h hr (fun z => nomatch z))]; exact h)
  · exact .inr ⟨u, by rw [upd_ne (ne_of h hr (fun z => nomatch z))]; exact h⟩
theorem Lines.upd {l r : Addr} {H : Hp} {ys : List V} {o : HO} {m : Nat} {rs : List (Addr × List Int)} (h : Lines H l m rs) (hr : H r = some (.lst ys)) (n : l ≠ r) : Lines (upd H r o) l m rs :=
  ⟨by rw [upd_ne n]; exact h.at_, fun x hx => let ⟨x, y, z⟩ := h.row x hx; ⟨rd_upd hr x, y, z⟩⟩
/-- a list of three small numbers -/
def PoolAt (H : Hp) (l : Addr) : Prop := ∃ is : List Int, H l = some (.lst (is.map V.int)) ∧ is.length = 3 ∧ ∀ n ∈ is, Few n
theorem PoolAt.mk3 {H : Hp} {l : Addr} {x y z : Int} (h : H l = some (.lst [.int x, .int y, .int z])) (hx : Few x) (hy : Few y) (hz : Few z) : PoolAt H l :=
  ⟨[x, y, z], h, rfl, fun n hn => by
    rcases List.mem_cons.mp hn with rfl | hn
    · exact hx
    rcases List.mem_cons.mp hn with rfl | hn
    · exact hy
    · rw [List.mem_singleton.mp hn]; exact hz⟩
theorem PoolAt.gro {a l : Addr} {H H' : Hp} (h : PoolAt H l) (g : Gro a H H') (n : l ≠ a) : PoolAt H' l := let ⟨is, x, y, z⟩ := h; ⟨is, g.st l _ n x, y, z⟩
theorem PoolAt.ex {l : Addr} {H H' : Hp} (h : PoolAt H l) (e : Ex H H') : PoolAt H' l := let ⟨is, x, y, z⟩ := h; ⟨is, e l _ x, y, z⟩
theorem PoolAt.upd {l r : Addr} {H : Hp} {o : HO} (h : PoolAt H l) (n : l ≠ r) : PoolAt (upd H r o) l := let ⟨is, x, y, z⟩ := h; ⟨is, by rw [upd_ne n]; exact x, y, z⟩
theorem Gro.upd {a r : Addr} {H H' : Hp} {o : HO} (g : Gro a H H') (h : H r = none) (n : r ≠ a) : Gro a H (upd H' r o) := g.mut h n
theorem dp_lines {K : PySem.W.Frag} {H : Hp} {l : Addr} {m : Nat} {rs : List (Addr × List Int)} (h : Lines H l m rs) : Dp K H (.ref l) (.list ((rs.map (·.2)).map dRow)) :=
  .lst (.inl (.inl h.at_)) (by rw [List.map_map]; exact dp_refs fun r hr => (h.row r hr).1)
theorem shaped_rows (rs : List (List Int)) : SeqAt.shaped (.list (rs.map dRow)) = true := shaped_of (by simp only [PyData.canLay0, lay_rows]) (by simp only [PyData.depth]; have := dep_rows rs; omega)
theorem few39 : Few ((10 : Int) ^ (39 : Int).toNat) := by unfold Few; decide +kernel
theorem few39' : Few (1 - (10 : Int) ^ (39 : Int).toNat) := by unfold Few; decide +kernel
theorem cpw39 : CPw 10 39 := ⟨by decide, by decide +kernel⟩
theorem few_small {n : Int} (h : n.natAbs ≤ 100) : Few n := Nat.lt_of_le_of_lt h (by decide)
theorem ok_rowsL {f : Addr} {fd : FuncData} (F : Fun K "_law_rows" "_law_rows" sRowsL f fd) (T : Blt mg) (D : Dc P w K mg base) (Pk : DfG P w K mg base 2 "_law_pick" ["_law_dice_here", "_law_items"] spPick) :
    FnG P w K mg base CX0 3 f fd ["_law_dice_here", "_law_columns_here", "_law_total_here"] spRowsL := by
  refine okG F scRowsL (fun vs H Q E h => ?_) (fun cdv A outer s H vs Q E hr h => ?_)
  · obtain ⟨a, p, cs, n, rfl, _⟩ := h
    rfl
  · obtain ⟨a, p, cs, n, rfl, n20, hd, hc, c0, q⟩ := h
    have nd := scRowsL.nd
    have hu : (A.deeper (envOfC "_law_rows" (defScope sRowsL) s.heap.objs.size f cdv)).units + 64 < cLine := by have := hr.rm.un; omega
    have hr1 := hr.mono (show 1 ≤ 2 by decide)
    refine ⟨_, pss_cons (ps_set (i := 3) nd rfl (.inl rfl) (pe_lst (pa_cons (pe_lst (pa_cons pe_int (pa_cons pe_int (pa_cons pe_int pa_nil)))) (pa_cons (pe_lst (pa_cons pe_int (pa_cons pe_int (pa_cons pe_int pa_nil))))
        (pa_cons (pe_lst (pa_cons (pe_un un_neg pe_int) (pa_cons (pe_un un_neg pe_int) (pa_cons pe_int pa_nil)))) (pa_cons (pe_lst (pa_cons pe_int (pa_cons (pe_op op_powW pe_int pe_int) (pa_cons pe_int pa_nil))))
        (pa_cons (pe_lst (pa_cons (pe_op op_sub pe_int (pe_op op_powW pe_int pe_int)) (pa_cons (pe_un un_neg pe_int) (pa_cons pe_int pa_nil)))) pa_nil)))))))
      (pss_cons (ps_asg (pe_tup (pa_cons (pe_callG Pk.G hr (by rfl) Pk.g Pk.kp Pk.b .nil pass0 (pa_cons (pv 0) (pa_cons (pv 3) pa_nil))) (pa_cons (pe_lst pa_nil) pa_nil))) (pg_tup rfl (pgs_cons (pg_name (i := 4) nd rfl (.inr rfl)) (pgs_cons (pg_name (i := 5) nd rfl (.inl rfl)) pgs_nil))))
      (pss_cons (ps_for PassesOwn.never rfl (pi_range1 rfl T.range (pa_cons (pv 2) pa_nil)) (pg_name (i := 6) nd rfl (.inl rfl))
        (pss_cons (ps_setLc (i := 7) (own := [("_law_name", 9)]) (g := gName 9) (tt := tYes) rfl nd rfl rfl (sw_true rfl rfl rfl (by decide +kernel)) (pi_tup (pv 1)) (blkOk_by (N := ["_law_dice_here", "_law_columns_here", "_law_total_here", "_law_pools", "_law_pool", "_law_found", "_law_turn", "_law_row", "_law_change", "_law_name"]) (sc := defScope sRowsL) (by decide +kernel)) (fun _ _ _ _ _ => pg_name (i := 9) nd rfl (.inl rfl)) (fun _ _ _ _ _ => pts_nil)
            (fun _ _ _ _ _ => pe_callG Pk.G hr (by rfl) Pk.g Pk.kp Pk.b .nil pass0 (pa_cons (pv 0) (pa_cons (pv 4) pa_nil))))
        (pss_mid (ps_if (pw_and (pt_cmpR (op_neD hu) (pv 5) (pe_lst pa_nil) (nomark _)) (pw_and1 (pt_cmpR op_gt (pe_callG D.G hr1 (by rfl) D.g D.kp D.b .nil pass0 (pa_cons (pv 0) (pa_cons pe_int pa_nil))) pe_int (nomark _)))).pt
            (pss_cons (ps_set (i := 7) nd rfl (.inl rfl) (pe_callTy call_list_of (by rfl) T.list (by decide +kernel) (pa_cons (pe_callG Pk.G hr (by rfl) Pk.g Pk.kp Pk.b .nil pass0 (pa_cons (pv 0) (pa_cons (pv 5) pa_nil))) pa_nil)))
            (pss_one (ps_for PassesOwn.never rfl (pi_range1 rfl T.range (pa_cons (pe_callG D.G hr1 (by rfl) D.g D.kp D.b .nil pass0 (pa_cons (pv 0) (pa_cons pe_int pa_nil))) pa_nil)) (pg_name (i := 8) nd rfl (.inl rfl))
              (pss_one (ps_asg (pe_callG Pk.G hr (by rfl) Pk.g Pk.kp Pk.b .nil pass0 (pa_cons (pv 0) (pa_cons (pv 4) pa_nil))) (pg_sub (pv 7) (pe_callG D.G hr1 (by rfl) D.g D.kp D.b .nil pass0 (pa_cons (pv 0) (pa_cons (pe_callB call_len_seq (by rfl) T.len PySem.boot_len (pa_cons (pv 1) pa_nil)) pa_nil))) set_list))))))
            pss_nil)
        (pss_one (ps_expr (pe_bm PySem.F.plainAttrs_list PySem.F.slot_list_append PySem.F.type_list_append mt_append (pv 5) (pa_cons (pe_callTy call_tupleF (by rfl) T.tuple (by decide +kernel) (pa_cons (pv 7) pa_nil)) pa_nil)))))))
      (pss_one (ps_ret (pv 5))))), ?_⟩
    have s3 : 3 ≤ sizeLine := by decide
    -- the pools
    refine ⟨s3, fun l1 n1 => ⟨s3, fun l2 n2 => ⟨_, rfl, _, rfl, s3, fun l3 n3 => ⟨_, _, rfl, rfl, cpw39, s3, fun l4 n4 => ⟨_, _, rfl, rfl, cpw39, _, _, rfl, rfl, _, rfl, s3, fun l5 n5 => ⟨by show 5 ≤ sizeLine; decide, fun lp np => ?_⟩⟩⟩⟩⟩⟩
    have x2 := Ex.new (o := .lst [.int 2, .int 10, .int 0]) n2
    have x3 := Ex.new (o := .lst [.int (-2), .int (-1), .int 1]) n3
    have x4 := Ex.new (o := .lst [.int 9, .int ((10 : Int) ^ (39 : Int).toNat), .int 0]) n4
    have x5 := Ex.new (o := .lst [.int (1 - (10 : Int) ^ (39 : Int).toNat), .int (-7), .int 0]) n5
    have xp := Ex.new (o := .lst [.ref l1, .ref l2, .ref l3, .ref l4, .ref l5]) np
    have xa := ((((Ex.new (o := .lst [.int 0, .int 1, .int 2]) n1).trans x2).trans x3).trans x4).trans x5
    have p1 : PoolAt _ l1 := (PoolAt.mk3 upd_same (few_small (by decide)) (few_small (by decide)) (few_small (by decide))).ex ((((x2.trans x3).trans x4).trans x5).trans xp)
    have p2 : PoolAt _ l2 := (PoolAt.mk3 upd_same (few_small (by decide)) (few_small (by decide)) (few_small (by decide))).ex (((x3.trans x4).trans x5).trans xp)
    have p3 : PoolAt _ l3 := (PoolAt.mk3 upd_same (few_small (by decide)) (few_small (by decide)) (few_small (by decide))).ex ((x4.trans x5).trans xp)
    have p4 : PoolAt _ l4 := (PoolAt.mk3 upd_same (few_small (by decide)) few39 (few_small (by decide))).ex (x5.trans xp)
    have p5 : PoolAt _ l5 := (PoolAt.mk3 upd_same few39' (few_small (by decide)) (few_small (by decide))).ex xp
    have gp := Gro.of (xa.trans xp) hd
    have lpa : lp ≠ a := (xa.dice hd).ne np
    have l1a : l1 ≠ a := hd.ne n1
    have l2a : l2 ≠ a := fun e => by
      subst e
      obtain ⟨i, j, k, z⟩ := hd
      rw [upd_ne (ne_of_none z n1)] at n2
      rw [z] at n2
      exact nomatch n2
    have pa_of : ∀ {H1 H2 : Hp} {l : Addr}, Ex H H1 → H1 l = none → l ≠ a := fun e n => (e.dice hd).ne n
    have e1 := Ex.new (o := .lst [.int 0, .int 1, .int 2]) n1
    have l3a : l3 ≠ a := ((e1.trans x2).dice hd).ne n3
    have l4a : l4 ≠ a := (((e1.trans x2).trans x3).dice hd).ne n4
    have l5a : l5 ≠ a := ((((e1.trans x2).trans x3).trans x4).dice hd).ne n5
    have hn1 : H l1 = none := n1
    have hn2 : H l2 = none := e1.back n2
    have hn3 : H l3 = none := (e1.trans x2).back n3
    have hn4 : H l4 = none := ((e1.trans x2).trans x3).back n4
    have hn5 : H l5 = none := (((e1.trans x2).trans x3).trans x4).back n5
    -- pool, found = pick(dice, pools), []
    refine ⟨_, rfl, _, rfl, a, lp, _, rfl, upd_same, lpa, by simp, (by show 5 ≤ 1000; decide), gp.di, fun v H6 hv g6 => ⟨Nat.zero_le _, fun o no => ⟨by show 2 ≤ sizeLine; decide, fun t nt => ⟨t, [v, .ref o], rfl, .inl (.inl upd_same), rfl, v, [.ref o], rfl, .ref o, [], rfl, rfl, ?_⟩⟩⟩⟩
    have gr6 := gp.trans g6
    have yo := Ex.new (o := .lst []) no
    have yt := Ex.new (o := .tup [v, .ref o]) nt
    have g8 := (gr6.ex yo).ex yt
    have oa : o ≠ a := gr6.di.ne no
    have ho : H o = none := (gr6.back hd no).1
    obtain ⟨pl, rfl, hp6, pla, hpl⟩ : ∃ pl, v = .ref pl ∧ PoolAt H6 pl ∧ pl ≠ a ∧ H pl = none := by
      rcases List.mem_cons.mp hv with rfl | hv
      · exact ⟨l1, rfl, p1.gro g6 l1a, l1a, hn1⟩
      rcases List.mem_cons.mp hv with rfl | hv
      · exact ⟨l2, rfl, p2.gro g6 l2a, l2a, hn2⟩
      rcases List.mem_cons.mp hv with rfl | hv
      · exact ⟨l3, rfl, p3.gro g6 l3a, l3a, hn3⟩
      rcases List.mem_cons.mp hv with rfl | hv
      · exact ⟨l4, rfl, p4.gro g6 l4a, l4a, hn4⟩
      · rw [List.mem_singleton] at hv
        subst hv
        exact ⟨l5, rfl, p5.gro g6 l5a, l5a, hn5⟩
    have plo : pl ≠ o := fun e => by
      subst e
      obtain ⟨_, z, _⟩ := hp6
      rw [z] at no
      exact nomatch no
    -- the rows
    refine ⟨_, rfl, n, rfl, by omega, by omega, ?_⟩
    refine for_range (n := n) (fun i σ H' => ∃ (rs : List (Addr × List Int)) (y6 y7 y8 : Option V), σ = [some (.ref a), some (.ref p), some (.int n), some (.ref lp), some (.ref pl), some (.ref o), y6, y7, y8, none] ∧ rs.length = i ∧ Gro a H H' ∧ Lines H' o cs.length rs ∧ PoolAt H' pl)
      ⟨[], none, none, none, rfl, rfl, g8, ⟨by rw [upd_ne (ne_of_none upd_same nt), upd_same]; rfl, fun r hr => nomatch hr⟩, (hp6.ex yo).ex yt⟩ (fun i σ H1 hi hW => ?_) (fun σ H1 hW => ?_)
    · obtain ⟨rs, y6, y7, y8, rfl, hrs, gr, ln, pl1⟩ := hW
      have hc1 := gr.rd hd hc.2
      have l8 := hc.1.len
      -- row = [pick(dice, pool) for name in columns]
      refine ⟨_, rfl, p, rfl, ⟨_, .inl hc1⟩, fun rl nl => ?_⟩
      have rla : rl ≠ a := gr.di.ne nl
      have hrl : H rl = none := (gr.back hd nl).1
      have rlo : rl ≠ o := fun e => by subst e; rw [ln.at_] at nl; exact nomatch nl
      refine lc_tup (xs := cs.map V.str) (fun j H' => ∃ ns : List Int, ns.length = j ∧ (∀ n ∈ ns, Few n) ∧ Gro a H1 H' ∧ H' rl = some (.lst (ns.map V.int)))
        ⟨[], rfl, (fun _ z => nomatch z), Gro.of (Ex.new nl) gr.di, upd_same⟩ (fun j H' _ h => ?_) (fun j x H' hx h => ?_) (fun H2 h => ?_)
      · obtain ⟨_, _, _, g, _⟩ := h
        exact .inl (g.rd gr.di hc1)
      · obtain ⟨ns, hns, few, g, el⟩ := h
        obtain ⟨is, e1, e2, e3⟩ := pl1.gro g pla
        have := (List.getElem?_eq_some_iff.mp hx).1
        rw [List.length_map] at this
        refine ⟨rfl, _, rfl, _, rfl, a, pl, _, rfl, e1, pla, ?_, ?_, g.di, fun v H3 hv g3 => ?_⟩
        · intro z
          have := congrArg List.length z
          rw [List.length_map, e2] at this
          exact nomatch this
        · rw [List.length_map, e2]; decide
        · obtain ⟨z, hz, rfl⟩ := List.mem_map.mp hv
          have el3 := g3.st rl _ rla el
          refine ⟨_, el3, ?_, ns ++ [z], by rw [List.length_append, hns]; rfl, fun u hu => ?_, (g.trans g3).mut nl rla, by rw [upd_same, List.map_append]; rfl⟩
          · rw [List.length_map, hns]
            exact room1000 (by omega)
          · rcases List.mem_append.mp hu with q | q
            · exact few u q
            · rw [List.mem_singleton.mp q]; exact e3 z hz
      · obtain ⟨ns, hns, few, g, el⟩ := h
        rw [List.length_map] at hns
        have gr2 := gr.trans g
        have ln2 := ln.gro g gr.di oa
        have pl2 := pl1.gro g pla
        have plr : pl ≠ rl := fun e => by subst e; obtain ⟨_, z, _⟩ := pl1; rw [z] at nl; exact nomatch nl
        refine ⟨fun σ H' => ∃ (rl : Addr) (ns : List Int) (y8 : Option V), σ = [some (.ref a), some (.ref p), some (.int n), some (.ref lp), some (.ref pl), some (.ref o), some (.int (0 + (i : Int))), some (.ref rl), y8, none] ∧ ns.length = cs.length ∧ (∀ n ∈ ns, Few n) ∧ H' rl = some (.lst (ns.map V.int)) ∧ Gro a H H' ∧ Lines H' o cs.length rs ∧ PoolAt H' pl, ?_, fun σ H' hM => ?_⟩
        · -- if found != [] and pull(dice, 3) > 0
          refine ⟨_, rfl, Nat.zero_le _, fun l nl2 => ⟨_, .list [], dp_lines (ln2.ex (Ex.new nl2)), .lst (.inl (.inl upd_same)) .nil, shaped_rows _, shaped_nilL, _, rfl, ?_⟩⟩
          rw [eqv_list_nil]
          have gl := gr2.ex (Ex.new (o := .lst []) nl2)
          have lnl := ln2.ex (Ex.new (o := .lst []) nl2)
          have pll := pl2.ex (Ex.new (o := .lst []) nl2)
          have ell : (upd H2 l (.lst [])) rl = some (.lst (ns.map V.int)) := Ex.new nl2 rl _ el
          by_cases z : rs.map (·.2) = []
          · rw [decide_eq_true z]
            exact ⟨rl, ns, y8, rfl, hns, few, ell, gl, lnl, pll⟩
          · rw [decide_eq_false z]
            have rsne : rs ≠ [] := fun y => z (by rw [y]; rfl)
            refine ⟨_, rfl, a, 3, rfl, by decide, by decide, gl.di, fun v H3 v0 v1 g3 => ⟨_, _, rfl, rfl, _, rfl, ite2 (fun e => ?_) (fun e => ?_)⟩⟩
            · have ln3 := lnl.gro g3 gl.di oa
              have gr3 := gl.trans g3
              refine ⟨_, rfl, _, rfl, a, o, _, rfl, ln3.at_, oa, ?_, ?_, g3.di, fun v H4 hv g4 => ?_⟩
              · intro y
                exact rsne (List.map_eq_nil_iff.mp y)
              · rw [List.length_map]; omega
              obtain ⟨r, hr4, rfl⟩ := List.mem_map.mp hv
              have gr4 := gr3.trans g4
              have ln4 := ln3.gro g4 g3.di oa
              obtain ⟨r1, r2, r3⟩ := ln4.row r hr4
              refine ⟨r.1, _, rfl, .inr (.inl r1), fun q5 n5 => ?_⟩
              have q5a : q5 ≠ a := gr4.di.ne n5
              have hq5 : H q5 = none := (gr4.back hd n5).1
              have q5o : o ≠ q5 := fun e => by subst e; rw [ln4.at_] at n5; exact nomatch n5
              have pl4 := (pll.gro g3 pla).gro g4 pla
              have plq : pl ≠ q5 := fun e => by subst e; obtain ⟨_, z, _⟩ := pl4; rw [z] at n5; exact nomatch n5
              have x5 := Ex.new (o := .lst (r.2.map V.int)) n5
              have gr5 := gr4.ex x5
              refine ⟨_, rfl, a, 3, rfl, by decide, by decide, gr5.di, fun v H6 w0 w1 g6 => ⟨v, rfl, by omega, by omega, ?_⟩⟩
              refine for_range (n := v.toNat) (fun j σ H' => ∃ (ns : List Int) (y8 : Option V), σ = [some (.ref a), some (.ref p), some (.int n), some (.ref lp), some (.ref pl), some (.ref o), some (.int (0 + (i : Int))), some (.ref q5), y8, none] ∧ ns.length = cs.length ∧ (∀ n ∈ ns, Few n) ∧ H' q5 = some (.lst (ns.map V.int)) ∧ Gro a H H' ∧ Lines H' o cs.length rs ∧ PoolAt H' pl)
                ⟨r.2, y8, rfl, r2, r3, g6.st q5 _ q5a upd_same, gr5.trans g6, (ln4.ex x5).gro g6 gr5.di oa, (pl4.ex x5).gro g6 pla⟩ (fun j σ H7 hj h => ?_) (fun σ H7 h => ?_)
              · obtain ⟨ns, y8, rfl, n1, n2, n3, g7, ln7, pl7⟩ := h
                obtain ⟨is, e1, e2, e3⟩ := pl7
                have pl7' : PoolAt H7 pl := ⟨is, e1, e2, e3⟩
                refine ⟨_, rfl, _, rfl, a, pl, _, rfl, e1, pla, ?_, ?_, g7.di, fun v H8 hv g8 => ?_⟩
                · intro z
                  have := congrArg List.length z
                  rw [List.length_map, e2] at this
                  exact nomatch this
                · rw [List.length_map, e2]; decide
                obtain ⟨z, hz, rfl⟩ := List.mem_map.mp hv
                have gr8 := g7.trans g8
                have clen : 0 < cs.length := List.length_pos_iff.mpr c0
                refine ⟨_, rfl, _, rfl, _, rfl, p, _, rfl, .inr (.inl (gr8.rd hd hc.2)), a, _, rfl, by rw [List.length_map]; omega, Nat.lt_of_le_of_lt (show ((cs.map V.str).length : Int).natAbs ≤ 8 by rw [List.length_map]; omega) (by decide), g8.di, fun k H9 k0 k1 g9 => ?_⟩
                rw [List.length_map] at k1
                have n9 := g9.st q5 _ q5a (g8.st q5 _ q5a n3)
                have gr9 := gr8.trans g9
                refine ⟨q5, _, k, k.toNat, rfl, rfl, n9, ?_, ?_⟩
                · unfold ixN
                  rw [if_pos k0, if_pos (by rw [List.length_map, n1]; exact k1)]
                · refine ⟨ns.set k.toNat z, _, rfl, by rw [List.length_set, n1], fun u hu => ?_, by rw [upd_same, List.map_set], gr9.mut hq5 q5a, ((ln7.gro g8 g7.di oa).gro g9 g8.di oa).upd n9 q5o, ((pl7'.gro g8 pla).gro g9 pla).upd plq⟩
                  rcases List.mem_or_eq_of_mem_set hu with y | y
                  · exact n2 u y
                  · rw [y]; exact e3 z hz
              · obtain ⟨ns, y8, rfl, n1, n2, n3, g7, ln7, pl7⟩ := h
                exact ⟨q5, ns, y8, rfl, n1, n2, n3, g7, ln7, pl7⟩
            · exact ⟨rl, ns, y8, rfl, hns, few, g3.st rl _ rla ell, gl.trans g3, lnl.gro g3 gl.di oa, pll.gro g3 pla⟩
        · obtain ⟨r5, ns, y8, rfl, n1, n2, n3, g7, ln7, pl7⟩ := hM
          refine ⟨_, rfl, .inl ⟨rfl, _, .inl (.inl ln7.at_)⟩, _, rfl, r5, _, rfl, .inl (.inl n3), fun t ob nt hob => ?_⟩
          have xt := Ex.new (o := .frz ob (.tup (ns.map V.int))) nt
          refine ⟨o, _, _, rfl, rfl, xt o _ ln7.at_, ?_, ?_⟩
          · rw [List.length_map]
            exact room1000 (by omega)
          · have lx := ln7.ex xt
            refine ⟨rs ++ [(t, ns)], _, _, _, rfl, by rw [List.length_append, hrs]; rfl, (g7.ex xt).mut ho oa, ⟨by rw [upd_same, List.map_append]; rfl, fun r hr => ?_⟩, (pl7.ex xt).upd plo⟩
            rcases List.mem_append.mp hr with y | y
            · obtain ⟨a1, a2, a3⟩ := lx.row r y
              exact ⟨rd_upd lx.at_ a1, a2, a3⟩
            · rw [List.mem_singleton.mp y]
              exact ⟨rd_upd lx.at_ (.inr ⟨ob, upd_same⟩), n1, n2⟩
    · obtain ⟨rs, y6, y7, y8, rfl, hrs, gr, ln, pl1⟩ := hW
      exact ⟨.ref o, rfl, q o rs H1 gr ho oa ln hrs⟩
end
end Gl
/-! Calls with keywords: of methods, of classmethods, of classes whose __init__ has a star parameter and keyword-only ones. -/
namespace Gl
open PySem PySem.Spec PyProof.Rows L2 ClX
/-- a promise of a def that is called with keywords named ks: positional values, keywords' values -/
abbrev SpK := List V → List V → Hp → VK → XK → Prop
def FnK (P : Program) (w : World) (K : PySem.W.Frag) (mg : Str → Option Value) (base : Heap) (CX : CXT) (k : Nat) (f : Addr) (ks : List Str) (sp : SpK) : Prop :=
  ∀ (A : Around) (outer : List Env) (s : Shared) (H : Hp) (us ws : List Value) (vs zs : List V) (Q : VK) (E : XK), Room k A → Env0 P w K mg base A outer s H → Vals vs us → Vals zs ws → zs.length = ks.length → sp vs zs H Q E →
    codeAny (model P w) A (.call (.ref f) ⟨us, ks.zip ws⟩) (CR CX outer P w H s Q E) s
section
variable {P : Program} {w : World} {K : PySem.W.Frag} {mg : Str → Option Value} {base : Heap} {CX : CXT} {j k n : Nat} {f : Addr} {fd : FuncData} {ps ks : List Str} {sp : Sp} {spk sp' : SpK} {g : List Value → List Value → List Value} {gV : List V → List V → List V}
theorem FnK.mono (F : FnK P w K mg base CX j f ks spk) (h : j ≤ k) : FnK P w K mg base CX k f ks spk := fun A outer s H us ws vs zs Q E hr => F A outer s H us ws vs zs Q E (hr.mono h)
theorem FnK.imp (F : FnK P w K mg base CX k f ks spk) (h : ∀ vs zs H Q E, sp' vs zs H Q E → spk vs zs H Q E) : FnK P w K mg base CX k f ks sp' := fun A outer s H us ws vs zs Q E hr e0 r rz l hs => F A outer s H us ws vs zs Q E hr e0 r rz l (h _ _ _ _ _ hs)
/-- called without keywords -/
theorem FnK.r (F : FnK P w K mg base CX k f [] spk) : FnR P w K mg base CX k f (fun vs H Q E => spk vs [] H Q E) := fun A outer s H us vs Q E hr e0 r h => F A outer s H us [] vs [] Q E hr e0 r .nil rfl h
theorem FnK.ok (F : FnOk P w K mg base CX k f fd ps sp) (hb : KBn K fd ps n ks g gV) : FnK P w K mg base CX k f ks (fun vs zs H Q E => vs.length = n ∧ sp (gV vs zs) H Q E) := by
  intro A outer s H us ws vs zs Q E hr e0 r rz l h
  obtain ⟨l1, h⟩ := h
  have KX : K.In s.heap := e0.mod.kin.keeps fun b o e => (e0.bs b o e).1
  exact F.run A outer s H ⟨us, ks.zip ws⟩ (g us ws) (gV vs zs) Q E hr e0 (hb.to s us ws KX (r.length.symm.trans l1) (rz.length.symm.trans l)) (hb.rel r rz) h
end
/-! ### a def with a star parameter and keyword-only ones -/
/-- t looks the names up in the dict at D, one behind another, and goes on as r -/
def KwGo {α : Type} (D : Addr) : List (Str × Value) → Sem α → Sem α → Prop
  | [], t, r => t = r
  | q :: l, t, r => ∃ (β γ : Type) (k1 : Option Value → Sem β) (k2 : β → Sem γ) (k3 : γ → Sem α) (a : β), t = ((nsGet D q.1 >>= k1) >>= k2) >>= k3 ∧ k1 (some q.2) = pure a ∧ KwGo D l (k2 a >>= k3) r
theorem KwGo.wp {α : Type} {K : PySem.W.Frag} {M : Model} {A : Around} {D : Addr} {s : Shared} {Q : α → Shared → Prop} {E : Value → Shared → Prop} (X : K.In s.heap) : ∀ {l : List (Str × Value)} {t r : Sem α}, (∀ q ∈ l, PySem.W.nsIn K D q.1 = some (some q.2)) → KwGo D l t r → wpAny M A r Q E s → wpAny M A t Q E s
  | [], t, r, _, e, h => by
    have e : t = r := e
    rw [e]
    exact h
  | q :: l, t, r, hl, e, h => by
    obtain ⟨β, γ, k1, k2, k3, a, e1, e2, e3⟩ := e
    have l1 : PySem.W.Looks M s.heap (nsGet D q.1 >>= k1) a := (PySem.W.looks_nsIn X (hl q (List.mem_cons_self ..))).andThen (PySem.W.Looks.of_pure e2)
    rw [e1, bind_assoc]
    exact wpAny_bind (l1.here (KwGo.wp X (fun p hp => hl p (List.mem_cons_of_mem _ hp)) e3 h))
section
variable {CX : CXT} {P : Program} {w : World} {K : PySem.W.Frag} {mg : Str → Option Value} {base : Heap} {k : Nat} {f : Addr} {x qual : Str} {params : Arguments} {body : List Stmt} {scope : Scope} {kws : List (Str × V)} {fd : FuncData}
  {N ps ks : List Str} {sp : Sp}
/-- def f(a, .., *v, k = .., ..): n positional values, keywords named ks; ms the keyword-only parameters that lack; g puts them in the parameters' order -/
theorem fnK_star {pv : Str} (F : FunD K x qual params body scope [] kws f fd) (S : FnScope N (ps ++ [pv]) scope) (hCX : StX.CXUp CX) (n : Nat) (ms : List (Str × V)) (hk : kws ≠ []) (hms : ∀ q ∈ ms, q ∈ kws)
    (g : {α : Type} → List α → List α → List α → List α) (hrel : ∀ {vs mz zs : List V} {us mv ws : List Value}, Vals vs us → Vals mz mv → Vals zs ws → Vals (g vs mz zs) (g us mv ws))
    (hlen : ∀ {us mv ws : List Value}, us.length = n → mv.length = ms.length → ws.length = ks.length → (g us mv ws).length = ps.length)
    (hb : ∀ (D : Addr) (doc pm : Value) (an : Option Addr) (cdv ct : Value) (us rest mv ws : List Value), us.length = n → mv.length = ms.length → ws.length = ks.length →
      KwGo D ((ms.map (·.1)).zip mv) (bindArgs (PySem.W.fnOf x qual params body scope .none (.ref D) doc pm an cdv ct) ⟨us ++ rest, ks.zip ws⟩) (newTuple rest >>= fun t => pure (ps.zip (g us mv ws) ++ [(pv, t)])))
    (hbody : ∀ (cdv : Value) (A : Around) (outer : List Env) (s : Shared) (H : Hp) (vs : List V) (Q : VK) (E : XK), Room k (A.deeper (envOfC qual scope s.heap.objs.size f cdv)) → sp vs H Q E →
      ∃ t, PSs (cxOf CX P w K mg base N qual scope f cdv A outer s H E) body t ∧ t { nx := fun _ H' => Q .non H', rt := Q } (start N vs) H) :
    FnK P w K mg base CX (k + 1) f ks (fun vs zs H Q E => ∃ ws rest, vs = ws ++ rest ∧ ws.length = n ∧ rest.length ≤ sizeLine ∧ ∀ p, H p = Option.none → sp (g ws (ms.map (·.2)) zs ++ [V.ref p]) (upd H p (.tup rest)) Q E) := by
  obtain ⟨oc, od, dV, kV, doc, pm, an, cdv, ct, osl, rfl, lk, hcd, hD, hK⟩ := F.ex
  rcases hD with ⟨_, rfl⟩ | ⟨e, _⟩
  · rcases hK with e | ⟨D, rfl, hq⟩
    · exact absurd e hk
    · obtain ⟨mv, hl, rk, hks⟩ := kwd_vals (ms := ms) fun q hm => hq q (hms q hm)
      intro A outer s H us wv vs zs Q E hr e0 r rz lz hsp
      obtain ⟨ws, rest, ev, hn, hz, hq⟩ := hsp
      subst ev
      obtain ⟨u1, u2, eu, r1, r2⟩ := StX.vals_split r
      subst eu
      have KX : K.In s.heap := e0.mod.kin.keeps fun b o e => (e0.bs b o e).1
      have fr : H s.heap.objs.size = Option.none := e0.hok.fresh (Nat.le_refl _)
      have hl1 : u1.length = n := by rw [← r1.length]; exact hn
      have hl2 : u2.length ≤ sizeLine := by rw [← r2.length]; exact hz
      have hl3 : wv.length = ks.length := rz.length.symm.trans lz
      have rg := hrel r1 rk rz
      have lg := hlen hl1 hl hl3
      refine StX.run_bnd lk hcd S hr e0 (G := fun xs H2 => ∃ p, H p = Option.none ∧ xs = g ws (ms.map (·.2)) zs ++ [V.ref p] ∧ H2 = upd H p (.tup rest)) (fun A' Ex Q' h => ?_) fun s2 H2 xs ⟨p, hp, ex, eH⟩ hr' => ?_
      · refine KwGo.wp KX hks (hb D doc pm an cdv ct u1 u2 mv wv hl1 hl hl3) ?_
        refine wpAny_bind (wpAny_newTuple (wpAny_pure ?_) hl2)
        have new : ObjOk P w (upd H s.heap.objs.size (.tup rest)) (s.heap.push ({ cls := .type "tuple", data := .seq u2.toArray } : Obj)) s.heap.objs.size (.tup rest) := ⟨hz, u2, r2, ⟨_, Heap.get?_push_size _ rfl, rfl, _, rfl⟩⟩
        have un := StX.un_laid (fs := frs outer) (s := s) (o := ({ cls := .type "tuple", data := .seq u2.toArray } : Obj)) (u := .tup rest) fr
        have z := h _ _ (g ws (ms.map (·.2)) zs ++ [V.ref s.heap.objs.size]) (g u1 mv wv ++ [Value.ref s.heap.objs.size]) (StX.env0_laid e0 new) un rfl (fun e s' => hCX outer s H _ _ E e s' un (fun b o q => Heap.get?_push_of_some _ q) rfl) (rg.append (.cons rfl .nil))
          (by rw [List.length_append, List.length_append, rg.length, lg]; rfl) ⟨_, fr, rfl, rfl⟩
        rw [List.zip_append lg.symm] at z
        exact z
      · subst ex eH
        exact hbody cdv A outer s2 _ _ Q E hr' (hq p hp)
  · exact absurd rfl e
end
/-! ### the calls -/
section
variable {X : Cx} {CX : CXT} {k i : Nat} {f C : Addr} {ks : List Str} {sp : SpK} {E : XK} {x m : Str} {e o : Expr} {es : List Expr} {kws : List Keyword} {ta : TE} {t tk : TA} {p pos apos : Pos} {mc : Value} {pl : Sem Bool}
theorem run_fnK {pins : List (Addr × Obj)} {σ : L2.St} {H : Hp} {s : Shared} {Q : VK} {us ws : List Value} {vs zs : List V} (F : FnK X.prog X.w X.K X.mg X.base CX k f ks sp) (hr : Room k X.A) (hx : Passes CX X E)
    (I : Inv X pins σ H s) (r : Vals vs us) (rz : Vals zs ws) (l : zs.length = ks.length) (h : sp vs zs H Q E) :
    codeAny (model X.prog X.w) X.A (.call (.ref f) ⟨us, ks.zip ws⟩) (fun r s' => match r with | .ok (.ret v) => EP X pins σ Q v s' | .ok _ => False | .error e => X.xe e s') s := by
  refine codeAny_mono (F X.A X.stack s H us ws vs zs Q E hr I.env0 r rz l h) fun r s' hq => ?_
  cases r with
  | error e => exact hx pins σ H s e s' I hq
  | ok fl =>
    cases fl with
    | ret u => exact I.after hq
    | next => exact False.elim hq
    | brk => exact False.elim hq
    | cont => exact False.elim hq
/-- C.m(e, .., k = v, ..), m a classmethod of C -/
def tCMethK (C : Addr) (n : Nat) (sp : SpK) (E : XK) (ta : TE) (t tk : TA) : TE := fun σ H Q => ta σ H fun x H1 => x = .ref C ∧ t σ H1 fun vs H2 => tk σ H2 fun zs H3 => zs.length = n ∧ sp (.ref C :: vs) zs H3 Q E
theorem run_cmK {pins : List (Addr × Obj)} {σ : L2.St} {H : Hp} {s : Shared} {Q : VK} {q : Addr} {us ws : List Value} {vs zs : List V} (F : FnK X.prog X.w X.K X.mg X.base CX k f ks sp) (hr : Room k X.A) (hx : Passes CX X E) (I : Inv X ((q, PySem.W.methodObj (.ref f) (.ref C)) :: pins) σ H s)
    (r : Vals vs us) (rz : Vals zs ws) (l : zs.length = ks.length) (h : sp (.ref C :: vs) zs H Q E) : wpAny (model X.prog X.w) X.A (call (.ref q) us (ks.zip ws)) (EP X pins σ Q) X.xe s := by
  have z : wpAny (model X.prog X.w) X.A (call (.ref q) us (ks.zip ws)) (EP X ((q, PySem.W.methodObj (.ref f) (.ref C)) :: pins) σ Q) X.xe s :=
    wpAny_call (PySem.W.method_call (pin_at I) (run_fnK (us := .ref C :: us) (vs := .ref C :: vs) F hr hx I (.cons rfl r) rz l h))
  exact thn z fun _ _ y => unpinE y
theorem pe_cmethK {p : Addr} (he : PE X o ta) (r : CRead X.K C mc) (c : CMet X.K C mc m p f) (F : FnK X.prog X.w X.K X.mg X.base CX k f ks sp) (hr : Room k X.A) (hx : Passes CX X E) (ha : PA X (e :: es) t) (hkw : PK X kws tk)
    (hall : (backToKw pos (keywordEach kws X.env)).all (·.1.isSome) = true := by rfl) (hks : (backToKw pos (keywordEach kws X.env)).filterMap (·.1) = ks := by rfl)
    (hst : starEach (e :: es) X.env = (false, eval e X.env) :: starEach es X.env := by rfl) (hpl : ((backTo pos (starEach (e :: es) X.env)).any (·.1) || (backToKw pos (keywordEach kws X.env)).any (·.1.isNone)) = false := by rfl)
    (ht : eval (.Call (.Attribute o m apos) (e :: es) kws pos) X.env = (do
      let ov ← eval o X.env
      standAt apos.atName
      let (f, first) ← holding [ov] (getMethod ov m pl)
      callWith pos f first (backTo pos (starEach (e :: es) X.env)) (backToKw pos (keywordEach kws X.env))) := by rfl) :
    PE X (.Call (.Attribute o m apos) (e :: es) kws pos) (tCMethK C ks.length sp E ta t tk) := by
  refine ⟨fun pins s σ H Q I h => ?_⟩
  refine PySem.W.methodCall_KW (pl := pl) (thn (he.run pins s σ H _ I h) fun u s1 ⟨x, H1, I1, rx, ex, q⟩ => ?_) ht
  subst ex
  obtain rfl : u = Value.ref C := rx
  refine getmethcm_ok I1 r c fun s2 I2 => ?_
  refine PySem.W.callWith_of (first := []) hpl (PySem.W.keeps_M (self := .ref C) c.fi) (PyProof.Rows.evalArgs_kw2 hall (thn (ha.run pos _ s2 σ H1 _ I2 q) fun us s3 ⟨vs, H2, I3, rv, q2⟩ => ?_) hst)
  refine thn (hkw.run pos _ s3 σ H2 _ I3 q2) fun ws s4 ⟨zs, H3, I4, rz, l2, q3⟩ => ⟨⟨pin_at I4, I4.kIn⟩, ?_⟩
  rw [hks]
  exact run_cmK F hr hx I4 rv rz l2 q3
/-- a new instance by keywords -/
def MadeK (C : Addr) (sp : SpK) (E : XK) (vs zs : List V) (H : Hp) (Q : VK) : Prop := ∀ x dx, H x = none → H dx = none → dx ≠ x → sp (.ref x :: vs) zs (upd (upd H dx (.own x)) x (.ins C dx [])) (fun v H2 => v = .non ∧ Q (.ref x) H2) E
theorem run_mkK {pins : List (Addr × Obj)} {σ : L2.St} {H : Hp} {s : Shared} {Q : VK} {us ws : List Value} {vs zs : List V} (M : Mk X.K C f) (F : FnK X.prog X.w X.K X.mg X.base CX k f ks sp) (hr : Room (k + 1) X.A) (hx : Passes CX X E)
    (I : Inv X pins σ H s) (r : Vals vs us) (rz : Vals zs ws) (l : zs.length = ks.length) (h : MadeK C sp E vs zs H Q) : wpAny (model X.prog X.w) X.A (call (.ref C) us (ks.zip ws)) (EP X pins σ Q) X.xe s := by
  have hq := h (s.heap.objs.size + 1) s.heap.objs.size (I.hok.fresh (Nat.le_succ _)) (I.hok.fresh (Nat.le_refl _)) (Nat.ne_of_lt (Nat.lt_succ_self _))
  have I2 := Inv.made (C := C) I
  have r1 : Vals (V.ref (s.heap.objs.size + 1) :: vs) (Value.ref (s.heap.objs.size + 1) :: us) := .cons rfl r
  refine wpAny_call (make_map (f := f) I.kIn M.makes M.init (beq_iff_eq.mp M.fn) (codeAny_mono (F _ X.stack _ _ (Value.ref (s.heap.objs.size + 1) :: us) ws _ _ _ E (hr.make C us (ks.zip ws)) (I2.env0.make C us (ks.zip ws)) r1 rz l hq) fun r s' hq' => ?_))
  cases r with
  | error e => exact hx pins σ _ _ e s' I2 hq'
  | ok fl =>
    cases fl with
    | ret u =>
      obtain ⟨v, H', I3, rv, ev, q3⟩ := I2.after hq'
      subst ev
      exact ⟨rv, ⟨V.ref (s.heap.objs.size + 1), H', I3, rfl, q3⟩⟩
    | next => exact False.elim hq'
    | brk => exact False.elim hq'
    | cont => exact False.elim hq'
/-- C(e, .., k = v, ..), C a name of the module -/
def tMakeKs (C : Addr) (n : Nat) (sp : SpK) (E : XK) (t tk : TA) : TE := fun σ H Q => t σ H fun vs H1 => tk σ H1 fun zs H2 => zs.length = n ∧ MadeK C sp E vs zs H2 Q
theorem pe_makeKs (M : Mk X.K C f) (F : FnK X.prog X.w X.K X.mg X.base CX k f ks sp) (hr : Room (k + 1) X.A) (hg : Gl X x) (hm : X.mg x = some (.ref C)) (hx : Passes CX X E) (ha : PA X (e :: es) t) (hkw : PK X kws tk)
    (hall : (backToKw pos (keywordEach kws X.env)).all (·.1.isSome) = true := by rfl) (hks : (backToKw pos (keywordEach kws X.env)).filterMap (·.1) = ks := by rfl) (hdb : (x == ("__debug__" : Str)) = false := by decide)
    (he : starEach (e :: es) X.env = (false, eval e X.env) :: starEach es X.env := by rfl) (hpl : ((backTo pos (starEach (e :: es) X.env)).any (·.1) || (backToKw pos (keywordEach kws X.env)).any (·.1.isNone)) = false := by rfl) :
    PE X (.Call (.Name x p) (e :: es) kws pos) (tMakeKs C ks.length sp E t tk) := by
  refine ⟨fun pins s σ H Q I h => ?_⟩
  refine wpAny_Call_Name_kw (ld_glob I hg hm ?_ hdb)
  refine PySem.W.callWith_KW (h₀ := X.base) I.ok.mod.kin M.kp hall (thn (ha.run pos pins s σ H _ I h) fun us s1 ⟨vs, H1, I1, r, q⟩ => ?_) hpl he
  refine thn (hkw.run pos pins s1 σ H1 _ I1 q) fun ws s2 ⟨zs, H2, I2, rz, l2, q2⟩ => ⟨I2.kIn, ?_⟩
  rw [hks]
  exact run_mkK M F hr hx I2 r rz l2 q2
/-- a call's arguments with a star among them, and keywords -/
theorem ks_callK {M : Model} {A : Around} {E : Value → Shared → Prop} {s : Shared} {f : Value} {first : List Value} {pos : Pos} {Q : Value → Shared → Prop} {P : Heap → Prop} {args : List (Bool × Sem Value)} {kw : List (Option Str × Sem Value)} (hst : args.any (·.1) = true)
    (hk : ∀ h, P h → ∃ k, (k = Keeper.frame ∨ k = Keeper.machine ∨ k = Keeper.boundFrame) ∧ PySem.W.Looks M h (keeperOf f) k)
    (h : wpAny M A (evalArgs f true args kw) (fun a s₁ => P s₁.heap ∧ wpAny M A (call f (first ++ a.pos) a.kw) Q E s₁) E s) : wpAny M A (callWith pos f first args kw) Q E s := by
  unfold callWith
  refine wpAny_bind (wpAny_holding (wpAny_mono h (fun a s₁ h₁ => wpAny_bind (wpAny_standAt ?_)) fun _ _ x => x))
  obtain ⟨k, hk', L⟩ := hk _ h₁.1
  simp only [hst, Bool.true_or]
  refine wpAny_bind (L.here ?_)
  have tail : ∀ {t : Sem Value}, wpAny M A t Q E s₁ → wpAny M A (t >>= fun r => holding [r] point >>= fun _ => pure r) Q E s₁ :=
    fun ht => wpAny_bind (wpAny_mono ht (fun r s₂ hr => wpAny_bind (wpAny_holding (wpAny_point (wpAny_pure hr)))) fun _ _ x => x)
  have marked (mk : Value) : wpAny M A (callMarked mk f (first ++ a.pos) a.kw) Q E s₁ := by unfold callMarked; exact Calls.wpAny_keep h₁.2
  rcases hk' with rfl | rfl | rfl <;> dsimp only <;> first | exact tail (marked _) | exact tail (wpAny_operating h₁.2)
/-- c(e, *ys, k = v, ..), the slot i holds the class at C -/
def tMakeLs (i : Nat) (C : Addr) (n : Nat) (sp : SpK) (E : XK) (t tk : TA) : TE := fun σ H Q => σ[i]? = some (some (.ref C)) ∧ t σ H fun vs H1 => tk σ H1 fun zs H2 => zs.length = n ∧ MadeK C sp E vs zs H2 Q
theorem pe_makeLs (M : Mk X.K C f) (F : FnK X.prog X.w X.K X.mg X.base CX k f ks sp) (hr : Room (k + 1) X.A) (hN : X.N[i]? = some x) (hv : Vis X.env.scope x) (hx : Passes CX X E) (ha : PA X (e :: es) t) (hkw : PK X kws tk)
    (hall : (backToKw pos (keywordEach kws X.env)).all (·.1.isSome) = true := by rfl) (hks : (backToKw pos (keywordEach kws X.env)).filterMap (·.1) = ks := by rfl) (hdb : (x == ("__debug__" : Str)) = false := by decide) (hcd : (x == ("__classdict__" : Str)) = false := by decide)
    (he : starEach (e :: es) X.env = (false, eval e X.env) :: starEach es X.env := by rfl) (hsa : (backTo pos (starEach (e :: es) X.env)).any (·.1) = true := by rfl) :
    PE X (.Call (.Name x p) (e :: es) kws pos) (tMakeLs i C ks.length sp E t tk) := by
  refine ⟨fun pins s σ H Q I h => ?_⟩
  obtain ⟨hs, ht⟩ := h
  refine wpAny_Call_Name_kw (thn ((pe_var (pos := p) hN hv hdb hcd).run pins s σ H (fun v H1 => v = .ref C ∧ H1 = H) I ⟨.ref C, hs, rfl, rfl⟩) fun u s1 ⟨v, H1, I1, r1, q1⟩ => ?_)
  obtain ⟨rfl, rfl⟩ := q1
  cases r1
  refine ks_callK (first := []) hsa (PySem.W.keeps_K M.kp) (PyProof.Rows.evalArgs_kw2 hall (thn (ha.run pos pins s1 σ _ _ I1 ht) fun us s2 ⟨vs, H2, I2, r, q⟩ => ?_) he)
  refine thn (hkw.run pos pins s2 σ H2 _ I2 q) fun ws s3 ⟨zs, H3, I3, rz, l2, q3⟩ => ⟨I3.kIn, ?_⟩
  rw [hks]
  exact run_mkK M F hr hx I3 r rz l2 q3
end
end Gl
namespace Gl
open PySem PySem.Spec PyProof.Rows L2 ClX
/-- a field read within a comprehension -/
theorem pe_fldK {K : PySem.W.Frag} {X : Cx} {e : Expr} {f : Str} {pos : Pos} {ta : TE} (he : PE X e ta) (hK : X.K = K := by rfl) (hb : attributeBase e f X.env (eval e X.env) = eval e X.env := by rfl) : PE X (.Attribute e f pos) (tFld K ta f) := by
  subst hK
  exact pe_fld he hb
/-! tables -/
def clsS_Table (i : Nat) : Stmt := match topS 36 with
  | .ClassDef _ _ _ body _ _ _ _ _ _ _ => body.getD i (.Pass ⟨0, 0, 0, 0⟩)
  | _ => .Pass ⟨0, 0, 0, 0⟩
/-- what a table is -/
structure Tab where
  cs : List Str
  rs : List (List Int)
  m : Ms
  ws : List Am
structure Tab.ok (t : Tab) : Prop where
  cols : ColsOk t.cs
  c1 : 1 ≤ t.cs.length
  rlen : ∀ r ∈ t.rs, r.length = t.cs.length
  few : t.rs.length ≤ 200
  fit : ∃ b, 1 ≤ b ∧ b ≤ 190 ∧ b * t.ws.length + 1 + b ≤ 8000 ∧ ∀ x ∈ t.ws, x.lim b
  mok : t.m.ok
  wl : t.ws.length = t.rs.length
  wok : ∀ x ∈ t.ws, t.m.has x ∧ x.near ∧ Wt t.m x
/-- rows, in the heap -/
def RowsD (H : Hp) (p : Addr) (rs : List (List Int)) : Prop := ∃ qs : List (Addr × List Int), qs.map (·.2) = rs ∧ Rd H p (.tup (qs.map fun q => V.ref q.1)) ∧ ∀ q ∈ qs, Rd H q.1 (.tup (q.2.map V.int))
/-- amounts, in the heap -/
def AmsD (H : Hp) (p : Addr) (ws : List Am) : Prop := ∃ ps : List (V × Am), ps.map (·.2) = ws ∧ Rd H p (.tup (ps.map (·.1))) ∧ ∀ q ∈ ps, AmV H q.1 q.2
theorem Ex.rowsD {H H' : Hp} {p : Addr} {rs : List (List Int)} (e : Ex H H') : RowsD H p rs → RowsD H' p rs := fun ⟨qs, h1, h2, h3⟩ => ⟨qs, h1, e.rd h2, fun q hq => e.rd (h3 q hq)⟩
theorem Ex.amsD {H H' : Hp} {p : Addr} {ws : List Am} (e : Ex H H') : AmsD H p ws → AmsD H' p ws := fun ⟨qs, h1, h2, h3⟩ => ⟨qs, h1, e.rd h2, fun q hq => (h3 q hq).ex e⟩
theorem Gro.rowsD {a : Addr} {H H' : Hp} {p : Addr} {rs : List (List Int)} (e : Gro a H H') (d : Dice H a) : RowsD H p rs → RowsD H' p rs := fun ⟨qs, h1, h2, h3⟩ => ⟨qs, h1, e.rd d h2, fun q hq => e.rd d (h3 q hq)⟩
theorem Gro.amsD {a : Addr} {H H' : Hp} {p : Addr} {ws : List Am} (e : Gro a H H') (d : Dice H a) : AmsD H p ws → AmsD H' p ws := fun ⟨qs, h1, h2, h3⟩ => ⟨qs, h1, e.rd d h2, fun q hq => (h3 q hq).gro e d⟩
def five : List Str := ["_columns", "_rows", "_scale", "_weights", "_total"]
/-- a table, in the heap: its fields -/
structure TblF (H : Hp) (a TC C : Addr) (t : Tab) (dx pc pr ps pw : Addr) (vt : V) (fs : List (Str × V)) : Prop where
  at_ : H a = some (.ins TC dx fs)
  fc : fs.lookup ("_columns" : Str) = some (.ref pc)
  fr : fs.lookup ("_rows" : Str) = some (.ref pr)
  fS : fs.lookup ("_scale" : Str) = some (.ref ps)
  fw : fs.lookup ("_weights" : Str) = some (.ref pw)
  ft : fs.lookup ("_total" : Str) = some vt
  no : ∀ x : Str, x ∉ five → fs.lookup x = none
  cs : Rd H pc (.tup (t.cs.map V.str))
  rs : RowsD H pr t.rs
  sc : SclAt H ps C t.m
  ws : AmsD H pw t.ws
  tt : AmV H vt (sumA t.m t.ws)
def TblAt (H : Hp) (a TC C : Addr) (t : Tab) : Prop := ∃ dx pc pr ps pw vt fs, TblF H a TC C t dx pc pr ps pw vt fs
theorem Ex.tblF {H H' : Hp} {a TC C : Addr} {t : Tab} {dx pc pr ps pw : Addr} {vt : V} {fs : List (Str × V)} (e : Ex H H') (h : TblF H a TC C t dx pc pr ps pw vt fs) : TblF H' a TC C t dx pc pr ps pw vt fs :=
  { at_ := e _ _ h.at_, fc := h.fc, fr := h.fr, fS := h.fS, fw := h.fw, ft := h.ft, no := h.no, cs := e.rd h.cs, rs := e.rowsD h.rs, sc := e.scl h.sc, ws := e.amsD h.ws, tt := h.tt.ex e }
theorem Ex.tbl {H H' : Hp} {a TC C : Addr} {t : Tab} (e : Ex H H') : TblAt H a TC C t → TblAt H' a TC C t := fun ⟨dx, pc, pr, ps, pw, vt, fs, h⟩ => ⟨dx, pc, pr, ps, pw, vt, fs, e.tblF h⟩
theorem Gro.scl {d g C : Addr} {H H' : Hp} {m : Ms} (x : Gro d H H') (di : Dice H d) (h : SclAt H g C m) : SclAt H' g C m := by
  obtain ⟨dx, fs, h1, h2⟩ := h
  obtain ⟨i, j, k, q⟩ := di
  exact ⟨dx, fs, x.st g _ (fun e => by rw [e, q] at h1; exact nomatch h1) h1, h2⟩
theorem Gro.tbl {d : Addr} {H H' : Hp} {a TC C : Addr} {t : Tab} (e : Gro d H H') (di : Dice H d) : TblAt H a TC C t → TblAt H' a TC C t := fun ⟨dx, pc, pr, ps, pw, vt, fs, h⟩ =>
  ⟨dx, pc, pr, ps, pw, vt, fs, { at_ := e.st a _ (fun z => by obtain ⟨i, j, k, q⟩ := di; have := h.at_; rw [z, q] at this; exact nomatch this) h.at_, fc := h.fc, fr := h.fr, fS := h.fS, fw := h.fw, ft := h.ft, no := h.no, cs := e.rd di h.cs, rs := e.rowsD di h.rs, sc := e.scl di h.sc, ws := e.amsD di h.ws, tt := h.tt.gro e di }⟩
/-- what is known of the class -/
structure TblK (K : PySem.W.Frag) (TC : Addr) : Prop where
  cls : Cls K TC
  nc : NoAttr K TC "_columns"
  nr : NoAttr K TC "_rows"
  nS : NoAttr K TC "_scale"
  nw : NoAttr K TC "_weights"
  nt : NoAttr K TC "_total"
theorem TblF.none {H : Hp} {a TC C : Addr} {t : Tab} {dx pc pr ps pw : Addr} {vt : V} {fs : List (Str × V)} (h : TblF H a TC C t dx pc pr ps pw vt fs) {x : Str} (n : x ∉ five) : fs.lookup x = none := h.no x n
theorem not_five {x : Str} (h : x ∉ five) : x ≠ ("_columns" : Str) ∧ x ≠ ("_rows" : Str) ∧ x ≠ ("_scale" : Str) ∧ x ≠ ("_weights" : Str) ∧ x ≠ ("_total" : Str) := by
  unfold five at h
  simp only [List.mem_cons, List.not_mem_nil, or_false, not_or] at h
  exact h
theorem part_of {n : Int} (h0 : 0 ≤ n) (h1 : n < 10 ^ 40) : partB (.int n) = true := by
  show (decide ((0 : Int) ≤ n) && decide (n < big40)) = true
  rw [decide_eq_true h0, decide_eq_true (show n < big40 from h1)]
  rfl
theorem wgt_has {m : Ms} : ∀ {x : Am}, m.has x → Wt m x → wgtB m x.data = true
  | .n i, hx, h => by
    cases m with
    | sums =>
      show (partB (.int i) && posB (.int i)) = true
      rw [part_of (by have := h.1; omega) h.2, Bool.true_and]
      exact decide_eq_true h.1
    | classes k => exact hx.elim
    | odds => exact hx.elim
  | .c ns, hx, h => by
    cases m with
    | classes k =>
      have e : ns.length = k := hx
      subst e
      show (wholesB (.tuple (ns.map PyData.int)) (ns.length : Nat) && ((ns.map PyData.int).all partB && !PyData.eqvAll (ns.map PyData.int) (zeroOf ns.length))) = true
      have h1 : wholesB (.tuple (ns.map PyData.int)) (ns.length : Nat) = true := by
        show (decide (((ns.map PyData.int).length : Int) = (ns.length : Int)) && (ns.map PyData.int).all wholeB) = true
        rw [List.length_map, decide_eq_true rfl, wholes_ints]
        rfl
      have h2 : (ns.map PyData.int).all partB = true := by
        rw [List.all_map, List.all_eq_true]
        exact fun n hn => part_of (h.1 n hn).1 (h.1 n hn).2
      have h3 : PyData.eqvAll (ns.map PyData.int) (zeroOf ns.length) = false := by
        rw [← zero_data, eqv_ints]
        refine decide_eq_false fun z => ?_
        obtain ⟨n, hn, n0⟩ := h.2
        rw [z] at hn
        rw [(List.mem_replicate.mp hn).2] at n0
        exact absurd n0 (by decide)
      rw [h1, h2, h3]
      rfl
    | sums => exact hx.elim
    | odds => exact hx.elim
  | .o x, hx, h => by
    cases m with
    | odds => exact wt_odds h
    | sums => exact hx.elim
    | classes k => exact hx.elim
theorem fit_of {ws : List Am} (l : ws.length ≤ 40) (h : ∀ x ∈ ws, x.near) : ∃ b, 1 ≤ b ∧ b ≤ 190 ∧ b * ws.length + 1 + b ≤ 8000 ∧ ∀ x ∈ ws, x.lim b := ⟨190, by decide, by decide, by omega, fun x hx => (h x hx).lim⟩
/-- an amounts list, in the heap -/
theorem amsL_of {H : Hp} {p : Addr} {t : Tab} (ok : t.ok) (h : AmsD H p t.ws) : ∃ (b : Nat) (ps : List (V × Am)), 1 ≤ b ∧ b ≤ 190 ∧ b * ps.length + 1 + b ≤ 8000 ∧ ps.map (·.2) = t.ws ∧ AmsL H p t.m b ps ∧ ps.length = t.rs.length ∧ ∀ q ∈ ps, Wt t.m q.2 := by
  obtain ⟨ps, h1, h2, h3⟩ := h
  obtain ⟨b, b1, b2, b3, b4⟩ := ok.fit
  have mem : ∀ q ∈ ps, q.2 ∈ t.ws := fun q hq => by rw [← h1]; exact List.mem_map_of_mem (f := fun q : V × Am => q.2) hq
  have pl : ps.length = t.ws.length := by rw [← h1, List.length_map]
  refine ⟨b, ps, b1, b2, by rw [pl]; exact b3, h1, ⟨h2, fun q hq => ?_⟩, by rw [pl, ok.wl], fun q hq => (ok.wok _ (mem q hq)).2.2⟩
  exact ⟨(ok.wok _ (mem q hq)).1, b4 _ (mem q hq), h3 q hq⟩
end Gl
namespace Gl
open PySem PySem.Spec PyProof.Rows L2 ClX
abbrev sTInit : Stmt := clsS_Table 1
theorem scTInit : FnScope ["self", "columns", "scale", "weights", "rows", "row", "used", "given", "weight"] ((["self", "columns", "scale", "weights"] : List Str) ++ (["rows"] : List Str)) (defScope sTInit) := ⟨rfl, rfl, rfl, by decide +kernel, rfl, by decide +kernel, by decide +kernel⟩
section
variable {P : Program} {w : World} {K : PySem.W.Frag} {mg : Str → Option Value} {base : Heap} {C TC : Addr} {mc : Value}
/-- a scale, or None for sums -/
def ScIn (H : Hp) (sv : V) (C : Addr) (t : Tab) : Prop := (∃ ps, sv = .ref ps ∧ SclAt H ps C t.m) ∨ (sv = .non ∧ t.m = .sums)
/-- weights, or None for ones -/
def WtIn (H : Hp) (wv : V) (t : Tab) : Prop := (∃ pw, wv = .ref pw ∧ AmsD H pw t.ws) ∨ (wv = .non ∧ t.ws = List.replicate t.rs.length t.m.one)
theorem Ex.scIn {H H' : Hp} {sv : V} {C : Addr} {t : Tab} (e : Ex H H') : ScIn H sv C t → ScIn H' sv C t := fun h => h.imp (fun ⟨p, a, b⟩ => ⟨p, a, e.scl b⟩) id
theorem Ex.wtIn {H H' : Hp} {wv : V} {t : Tab} (e : Ex H H') : WtIn H wv t → WtIn H' wv t := fun h => h.imp (fun ⟨p, a, b⟩ => ⟨p, a, e.amsD b⟩) id
theorem flat_one {v : V} : ∀ n : Nat, (List.replicate n [v]).flatten = List.replicate n v
  | 0 => rfl
  | n + 1 => by rw [List.replicate_succ, List.flatten_cons, flat_one n]; rfl
/-- (v,) * n -/
theorem rep_any {K : PySem.W.Frag} {H : Hp} {Q : VK} {p : Addr} {v : V} {n : Nat} (h : Rd H p (.tup [v])) (l : n ≤ 1000) (q : ∀ p' H', Ex H H' → Rd H' p' (.tup (List.replicate n v)) → Q (.ref p') H') :
    rRepT0 K (.ref p) (.int (n : Nat)) H Q ∨ (rRepT1 K (.ref p) (.int (n : Nat)) H Q ∨ rRepT K (.ref p) (.int (n : Nat)) H Q) := by
  match n, l with
  | 0, _ => exact .inl ⟨p, [v], rfl, rfl, .inl h, (fun z => nomatch z), fun p' n' => q p' _ (Ex.new n') (.inl upd_same)⟩
  | 1, _ => exact .inr (.inl ⟨p, [v], rfl, rfl, .inl h, q p H (Ex.refl H) h⟩)
  | n + 2, l => exact .inr (.inr ⟨p, _, [v], rfl, rfl, .inl h, (fun z => nomatch z), by omega, by omega, by show 1 ≤ 1000; decide, fun p' n' => q p' _ (Ex.new n') (.inl (by rw [Int.toNat_natCast, flat_one]; exact upd_same))⟩)
theorem ams_rep {H : Hp} {p : Addr} {v : V} {x : Am} {n : Nat} (h : Rd H p (.tup (List.replicate n v))) (a : AmV H v x) : AmsD H p (List.replicate n x) :=
  ⟨List.replicate n (v, x), by rw [List.map_replicate], by rw [List.map_replicate]; exact h, fun q hq => by rw [(List.mem_replicate.mp hq).2]; exact a⟩
/-- the body of __init__ -/
def spTI (C TC : Addr) : Sp := fun vs H Q _ => ∃ (x dx pc pr : Addr) (sv wv : V) (t : Tab), vs = [.ref x, .ref pc, sv, wv, .ref pr] ∧ H x = some (.ins TC dx []) ∧ t.ok ∧ Rd H pc (.tup (t.cs.map V.str)) ∧ RowsD H pr t.rs ∧ WtIn H wv t ∧ ScIn H sv C t ∧ ∀ H', (∀ b o, b ≠ x → H b = some o → H' b = some o) → TblAt H' x TC C t → Q .non H'
theorem rd_ne {H : Hp} {p x : Addr} {xs : List V} {C dx : Addr} {fs : List (Str × V)} (h : Rd H p (.tup xs)) (e : H x = some (.ins C dx fs)) {o : HO} : Rd (upd H x o) p (.tup xs) := by
  rcases h with h | ⟨u, h⟩
  · exact .inl (by rw [upd_ne (ne_of h e (fun z => nomatch z))]; exact h)
  · exact .inr ⟨u, by rw [upd_ne (ne_of h e (fun z => nomatch z))]; exact h⟩
theorem AmV.ne {H : Hp} {x C dx : Addr} {fs : List (Str × V)} (e : H x = some (.ins C dx fs)) {o : HO} {v : V} : ∀ {y : Am}, AmV H v y → AmV (upd H x o) v y
  | .n _, h => h
  | .c _, ⟨p, h, r⟩ => ⟨p, h, rd_ne r e⟩
  | .o _, ⟨p, h, r⟩ => ⟨p, h, rd_ne r e⟩
theorem RowsD.ne {H : Hp} {p x C dx : Addr} {fs : List (Str × V)} (e : H x = some (.ins C dx fs)) {o : HO} {rs : List (List Int)} : RowsD H p rs → RowsD (upd H x o) p rs := fun ⟨qs, h1, h2, h3⟩ => ⟨qs, h1, rd_ne h2 e, fun q hq => rd_ne (h3 q hq) e⟩
theorem AmsD.ne {H : Hp} {p x C dx : Addr} {fs : List (Str × V)} (e : H x = some (.ins C dx fs)) {o : HO} {ws : List Am} : AmsD H p ws → AmsD (upd H x o) p ws := fun ⟨qs, h1, h2, h3⟩ => ⟨qs, h1, rd_ne h2 e, fun q hq => (h3 q hq).ne e⟩
theorem SclAt.ne {H : Hp} {g x C : Addr} {m : Ms} (n : g ≠ x) {o : HO} (h : SclAt H g C m) : SclAt (upd H x o) g C m := by
  obtain ⟨dx, fs, h1, h2⟩ := h
  exact ⟨dx, fs, by rw [upd_ne n]; exact h1, h2⟩
theorem body_tInit {cdv : Value} {f : Addr} (T : Blt mg) (Z : ClsK K C) (Zt : ClsT K C) (kcc : PySem.W.kitOne K (.ref C) (.ref C) = some true) (Y : TblK K TC) (nCT : C ≠ TC) (gC : mg "Scale" = some (.ref C)) (rd : CRead K C mc) (rl : ∃ t, mg "MAX_ROWS" = some (.int 200 t))
    (Ck : DfK P w K mg base 4 "check_columns" ["columns", "least"] spChkC) (kb : KBn K Ck.fd ["columns", "least"] 1 ["least"] (fun us ws => us ++ ws) (fun vs zs => vs ++ zs)) (Ckr : Df P w K mg base 3 "check_row" ["columns", "row"] spChkR)
    (Ss : Sm P w K mg base C mc 3 "sums" [] (spNew C .sums)) (Oe : Dp1 P w K mg base C 1 "one" (spOne C)) (Iw : Dm P w K mg base C 4 "is_weight" ["self", "value"] (spIsWgt K C)) (Pl : Dm P w K mg base C 6 "plus_all" ["self", "amounts"] (spPlusAll C))
    (A : Around) (outer : List Env) (s : Shared) (H : Hp) (vs : List V) (Q : VK) (E : XK) (hr : Room 6 (A.deeper (envOfC "Table.__init__" (defScope sTInit) s.heap.objs.size f cdv))) (h : spTI C TC vs H Q E) :
    ∃ t, PSs (cxOf CX0 P w K mg base ["self", "columns", "scale", "weights", "rows", "row", "used", "given", "weight"] "Table.__init__" (defScope sTInit) f cdv A outer s H E).nox (defBody sTInit) t ∧ t { nx := fun _ H' => Q .non H', rt := Q } (start ["self", "columns", "scale", "weights", "rows", "row", "used", "given", "weight"] vs) H := by
  obtain ⟨x, dx, pc, pr, sv, wv, t, rfl, hx, ok, hcs, hrs, hwv, hsv, q⟩ := h
  have nd := scTInit.nd
  obtain ⟨tl, ml⟩ := rl
  have r1 := hr.mono (show 1 ≤ 6 by decide)
  have r2 := hr.mono (show 2 ≤ 6 by decide)
  have r3 := hr.mono (show 3 ≤ 6 by decide)
  have r4 := hr.mono (show 4 ≤ 6 by decide)
  refine ⟨_, pss_cons (ps_expr (pe_callN Ck.G r4 (by rfl) Ck.g Ck.kp kb pass0 (pa_cons (pv 1) pa_nil) (pk_cons pe_int pk_nil)))
      (pss_cons (ps_for PassesOwn.never rfl (pi_tup (pv 4)) (pg_name (i := 5) nd rfl (.inl rfl))
        (pss_one (ps_expr (pe_call Ckr.G r3 (by rfl) Ckr.g Ckr.kp Ckr.b .nil pass0 (pa_cons (pv 1) (pa_cons (pv 5) pa_nil))))))
      (pss_mid (ps_set (i := 6) nd rfl (.inr rfl) (pe_ifExp (pt_cmpR op_isN (pv 2) pe_non (nomark _)) (pe_smeth0 (pe_glob (v := .ref C) (by rfl) gC rfl) rd Ss.at_ Ss.G r3 Ss.b .nil pass0) (pv 2)))
      (pss_cons (ps_if (pt_not (pt_val (pe_callB call_isi (by rfl) T.isinstance (by decide +kernel) (pa_cons (pv 6) (pa_cons (pe_glob (v := .ref C) (by rfl) gC rfl) pa_nil))))) pss_never pss_nil)
      (pss_mid (ps_set (i := 7) nd rfl (.inl rfl) (pe_ifExp (pt_cmpR op_isN (pv 3) pe_non (nomark _)) (pe_op (op_repT0.or (op_repT1.or op_repT)) (pe_tup (pa_cons (pe_prop (pv 6) Z.cls Oe.at_ Oe.G r2 Oe.b .nil pass0 rfl) pa_nil)) (pe_callB call_len_seq (by rfl) T.len PySem.boot_len (pa_cons (pv 4) pa_nil))) (pv 3)))
      (pss_cons (ps_if (PW.pt (pw_or (pt_not (pt_val (pe_callB call_isi (by rfl) T.isinstance (by decide +kernel) (pa_cons (pv 7) (pa_cons (pe_bltn (v := .ty "tuple") (by rfl) T.tuple (by decide +kernel) rfl) pa_nil))))) (pw_or1 (pt_cmpR op_ne (pe_callB call_len_seq (by rfl) T.len PySem.boot_len (pa_cons (pv 7) pa_nil)) (pe_callB call_len_seq (by rfl) T.len PySem.boot_len (pa_cons (pv 4) pa_nil)) (nomark _))))) pss_never pss_nil)
      (pss_cons (ps_if (pt_not (pt_val (pe_callB (cr_all rfl) (by rfl) T.all (by decide +kernel) (pa_cons (pe_lc (own := [("weight", 8)]) (g := gName 8) (tt := tYes) rfl nd (pi_tup (pv 7)) (blkOk_by (N := ["self", "columns", "scale", "weights", "rows", "row", "used", "given", "weight"]) (sc := defScope sTInit) (by decide +kernel)) (fun _ _ _ _ _ => pg_name (i := 8) nd rfl (.inl rfl)) (fun _ _ _ _ _ => pts_nil)
          (fun _ _ _ _ _ => pe_meth (pv 6) Z.cls Iw.at_ Iw.G r4 Iw.b .nil pass0 (pa_cons (pv 8) pa_nil))) pa_nil)))) pss_never pss_nil)
      (pss_cons (ps_if (pt_cmpR op_gt (pe_callB call_len_seq (by rfl) T.len PySem.boot_len (pa_cons (pv 4) pa_nil)) (pe_glob (v := .int 200) (by rfl) ml ⟨tl, rfl⟩) (nomark _)) pss_never pss_nil)
      (pss_cons (ps_fld (pv 0) (pv 1) rfl)
      (pss_cons (ps_fld (pv 0) (pv 4) rfl)
      (pss_cons (ps_fld (pv 0) (pv 6) rfl)
      (pss_cons (ps_fld (pv 0) (pv 7) rfl)
      (pss_one (ps_fld (pv 0) (pe_meth (pv 6) Z.cls Pl.at_ Pl.G hr Pl.b .nil pass0 (pa_cons (pv 7) pa_nil)) rfl))))))))))))), ?_⟩
  refine ⟨_, rfl, rfl, rfl, pc, t.cs, 1, rfl, by decide, by have := ok.c1; omega, ⟨ok.cols, hcs⟩, fun H1 e1 => ?_⟩
  obtain ⟨qs, eq, hq, hqs⟩ := hrs
  have lq : qs.length = t.rs.length := by rw [← eq, List.length_map]
  have few := ok.few
  refine ⟨_, rfl, pr, rfl, ⟨_, .inl (e1.rd hq)⟩, ?_⟩
  refine for_tup (xs := qs.map fun q => V.ref q.1) (fun i σ H' => ∃ y5 : Option V, σ = [some (.ref x), some (.ref pc), some sv, some wv, some (.ref pr), y5, none, none, none] ∧ Ex H H') ⟨none, rfl, e1⟩ (fun i σ H' _ h => ?_) (fun i y σ H2 hy h => ?_) (fun σ H2 h => ?_)
  · obtain ⟨y5, rfl, e⟩ := h
    exact .inl (e.rd hq)
  · obtain ⟨y5, rfl, e⟩ := h
    rw [List.getElem?_map] at hy
    obtain ⟨r, hr', rfl⟩ := Option.map_eq_some_iff.mp hy
    have mr := List.mem_of_getElem? hr'
    refine ⟨_, rfl, _, rfl, pc, r.1, t.cs, r.2, rfl, ⟨ok.cols, e.rd hcs⟩, e.rd (hqs r mr), ok.rlen _ (by rw [← eq]; exact List.mem_map_of_mem (f := fun q : Addr × List Int => q.2) mr), fun H3 e3 => ⟨_, rfl, e.trans e3⟩⟩
  obtain ⟨y5, rfl, e2⟩ := h
  -- the scale
  refine ⟨fun σ H' => ∃ g, σ = [some (.ref x), some (.ref pc), some sv, some wv, some (.ref pr), y5, some (.ref g), none, none] ∧ Ex H H' ∧ SclAt H' g C t.m, ?_, fun σ H3 h => ?_⟩
  · rcases hsv with ⟨ps, rfl, hg⟩ | ⟨rfl, hm⟩
    · refine ⟨_, rfl, rfl, _, rfl, ?_⟩
      rw [decide_eq_false (show ¬ V.ref ps = V.non from fun z => nomatch z)]
      exact iteF ⟨_, rfl, ps, rfl, e2, e2.scl hg⟩
    · refine ⟨_, rfl, rfl, _, rfl, ?_⟩
      rw [decide_eq_true (show V.non = V.non from rfl)]
      exact iteT ⟨rfl, rfl, fun g H' e n sg => ⟨g, rfl, e2.trans e, by rw [hm]; exact sg⟩⟩
  obtain ⟨g, rfl, e3, sg⟩ := h
  obtain ⟨gd, gf, hg, hn⟩ := id sg
  refine ⟨_, rfl, _, _, _, _, true, rfl, .own C, .base (.ins hg Zt.c Zt.t1 Zt.t2 Zt.t3 Zt.t4), kcc, true, rfl, ?_⟩
  -- the weights
  refine ⟨fun σ H' => ∃ pw, σ = [some (.ref x), some (.ref pc), some sv, some wv, some (.ref pr), y5, some (.ref g), some (.ref pw), none] ∧ Ex H3 H' ∧ AmsD H' pw t.ws, ?_, fun σ H3' h => ?_⟩
  · rcases hwv with ⟨pw, rfl, hws⟩ | ⟨rfl, hws⟩
    · refine ⟨_, rfl, rfl, _, rfl, ?_⟩
      rw [decide_eq_false (show ¬ V.ref pw = V.non from fun z => nomatch z)]
      exact iteF ⟨_, rfl, pw, rfl, Ex.refl _, e3.amsD hws⟩
    · refine ⟨_, rfl, rfl, _, rfl, ?_⟩
      rw [decide_eq_true (show V.non = V.non from rfl)]
      refine iteT ⟨_, rfl, g, gd, gf, rfl, hg, g, t.m, rfl, sg, ok.mok, fun v1 H4 e4 a1 => ⟨by show 1 ≤ sizeLine; decide, fun p1 n1 => ⟨_, rfl, pr, _, rfl, .inr (.inl ((e3.trans (e4.trans (Ex.new n1))).rd hq)), ?_⟩⟩⟩
      have x1 := Ex.new (o := .tup [v1]) n1
      rw [show ((qs.map fun q => V.ref q.1).length : Nat) = t.rs.length by rw [List.length_map, lq]]
      refine rep_any (.inl upd_same) (by omega) fun p2 H5 e5 h5 => ⟨p2, rfl, (e4.trans x1).trans e5, ?_⟩
      rw [hws]
      exact ams_rep h5 (a1.ex (x1.trans e5))
  obtain ⟨pw, rfl, e33, hws⟩ := h
  have sg0 := sg
  replace sg := e33.scl sg
  replace e3 := e3.trans e33
  clear e33
  clear hn hg gd gf
  clear sg0
  obtain ⟨gd, gf, hg, hn⟩ := id sg
  obtain ⟨bb, ps, b1, b2, b3, pk, pL, lp, pWt⟩ := amsL_of ok hws
  have lm : (ps.map (·.1)).length = ps.length := List.length_map ..
  have lmq : (qs.map fun q => V.ref q.1).length = qs.length := List.length_map ..
  refine ⟨_, rfl, _, _, _, _, true, rfl, .ty _, tyRd pL.1, kit_ty (by decide +kernel), true, rfl, ?_⟩
  refine ⟨_, rfl, pw, _, rfl, .inr (.inl pL.1), _, rfl, pr, _, rfl, .inr (.inl (e3.rd hq)), rfl, _, rfl, ?_⟩
  rw [decide_eq_true (show V.int (((ps.map (·.1)).length : Nat) : Int) = V.int (((qs.map fun q => V.ref q.1).length : Nat) : Int) by rw [lm, lmq, lp, lq])]
  -- all are weights
  refine ⟨_, rfl, pw, rfl, ⟨_, .inl pL.1⟩, fun D nD => lc_tup (xs := ps.map (·.1)) (fun i H' => Ex H3' H' ∧ H' D = some (.lst ((List.replicate i true).map V.bl))) ⟨Ex.new nD, upd_same⟩ (fun i H' _ h => .inl (h.1.rd pL.1)) (fun i y H' hy h => ?_) (fun H4 h => ?_)⟩
  · obtain ⟨ex, eD⟩ := h
    rw [List.getElem?_map] at hy
    obtain ⟨r, hr', rfl⟩ := Option.map_eq_some_iff.mp hy
    have il := (List.getElem?_eq_some_iff.mp hr').1
    have mr := List.mem_of_getElem? hr'
    obtain ⟨h1, h2, h4⟩ := pL.2 r mr
    have h3 := pWt r mr
    obtain ⟨dg, fs, hg, hn⟩ := (ex.scl sg).no (x := "is_weight") (by decide +kernel) (by decide +kernel)
    refine ⟨rfl, _, rfl, g, dg, fs, rfl, hg, hn, _, rfl, g, t.m, _, _, rfl, ex.scl sg, ok.mok, .dx (dx_am (h4.ex ex)), am_short ok.mok h1, fun H2 e2 => ?_⟩
    rw [wgt_has h1 h3]
    refine ⟨_, e2 D _ eD, ?_, (ex.trans e2).mut nD, ?_⟩
    · rw [List.length_map, List.length_replicate]
      exact room1000 (by omega)
    · rw [upd_same, List.replicate_succ', List.map_append]
      rfl
  obtain ⟨e4, eD⟩ := h
  refine ⟨D, _, rfl, .inl (.inl eD), ?_⟩
  rw [all_true]
  refine ⟨_, rfl, ?_⟩
  have f4 := e3.trans e4
  have hws4 := e4.amsD hws
  refine ⟨_, rfl, pr, _, rfl, .inr (.inl (f4.rd hq)), _, _, rfl, rfl, _, rfl, ?_⟩
  rw [decide_eq_false (show ¬ (200 : Int) < (((qs.map fun q => V.ref q.1).length : Nat) : Int) by rw [lmq]; omega)]
  have hx4 := f4 x _ hx
  have sg4 := e4.scl sg
  have gx : g ≠ x := fun z => by
    obtain ⟨d1, d2, d3, _⟩ := sg4
    rw [z, hx4] at d3
    injection d3 with d3
    injection d3 with d3
    exact nCT d3.symm
  refine ⟨_, rfl, _, rfl, x, TC, dx, [], rfl, hx4, Y.cls, Y.nc, (by show 0 < 1000; decide), ?_⟩
  refine ⟨_, rfl, _, rfl, x, TC, dx, _, rfl, upd_same, Y.cls, Y.nr, (by show 1 < 1000; decide), ?_⟩
  refine ⟨_, rfl, _, rfl, x, TC, dx, _, rfl, upd_same, Y.cls, Y.nS, (by show 2 < 1000; decide), ?_⟩
  refine ⟨_, rfl, _, rfl, x, TC, dx, _, rfl, upd_same, Y.cls, Y.nw, (by show 3 < 1000; decide), ?_⟩
  rw [upd_upd, upd_upd, upd_upd]
  have sg5 : SclAt (upd H4 x (.ins TC dx (putF ("_weights" : Str) (.ref pw) (putF ("_scale" : Str) (.ref g) (putF ("_rows" : Str) (.ref pr) (putF ("_columns" : Str) (.ref pc) [])))))) g C t.m := sg4.ne gx
  have pL5 : AmsL (upd H4 x (.ins TC dx (putF ("_weights" : Str) (.ref pw) (putF ("_scale" : Str) (.ref g) (putF ("_rows" : Str) (.ref pr) (putF ("_columns" : Str) (.ref pc) [])))))) pw t.m bb ps := ⟨rd_ne (e4.rd pL.1) hx4, fun r hr => let ⟨a, b, c⟩ := pL.2 r hr; ⟨a, b, (c.ex e4).ne hx4⟩⟩
  obtain ⟨dg, fs, hg5, hn5⟩ := sg5.no (x := "plus_all") (by decide +kernel) (by decide +kernel)
  refine ⟨_, rfl, g, dg, fs, rfl, hg5, hn5, _, rfl, g, pw, t.m, bb, ps, rfl, sg5, ok.mok, pL5, b1, by omega, b3, by omega, fun v H6 e6 av => ?_⟩
  have hx6 := e6 x _ upd_same
  refine ⟨_, rfl, x, TC, dx, _, rfl, hx6, Y.cls, Y.nt, (by show 4 < 1000; decide), ?_⟩
  rw [pk] at av
  refine q _ (fun b o nb e => ?_) ⟨dx, pc, pr, g, pw, v, _, { at_ := upd_same, fc := ?_, fr := ?_, fS := ?_, fw := ?_, ft := ?_, no := fun y hy => ?_, cs := rd_ne (e6.rd (rd_ne (f4.rd hcs) hx4)) hx6, rs := (e6.rowsD ((f4.rowsD ⟨qs, eq, hq, hqs⟩).ne hx4)).ne hx6, sc := (e6.scl sg5).ne gx, ws := (e6.amsD (hws4.ne hx4)).ne hx6, tt := av.ne hx6 }⟩
  · rw [upd_ne nb]
    refine e6 b o ?_
    rw [upd_ne nb]
    exact f4 b o e
  · rw [lookup_putF, if_neg (by decide +kernel), lookup_putF, if_neg (by decide +kernel), lookup_putF, if_neg (by decide +kernel), lookup_putF, if_neg (by decide +kernel), lookup_putF, if_pos rfl]
  · rw [lookup_putF, if_neg (by decide +kernel), lookup_putF, if_neg (by decide +kernel), lookup_putF, if_neg (by decide +kernel), lookup_putF, if_pos rfl]
  · rw [lookup_putF, if_neg (by decide +kernel), lookup_putF, if_neg (by decide +kernel), lookup_putF, if_pos rfl]
  · rw [lookup_putF, if_neg (by decide +kernel), lookup_putF, if_pos rfl]
  · rw [lookup_putF, if_pos rfl]
  · obtain ⟨n1, n2, n3, n4, n5⟩ := not_five hy
    rw [lookup_putF, if_neg n5, lookup_putF, if_neg n4, lookup_putF, if_neg n3, lookup_putF, if_neg n2, lookup_putF, if_neg n1]
    rfl
end
end Gl
namespace Gl
open PySem PySem.Spec PyProof.Rows L2 ClX
abbrev sTOf : Stmt := clsS_Table 2
theorem scTOf : FnScope ["cls", "columns", "rows", "scale", "weights"] ["cls", "columns", "rows", "scale", "weights"] (defScope sTOf) := ⟨rfl, rfl, rfl, by decide +kernel, rfl, by decide +kernel, by decide +kernel⟩
section
variable {P : Program} {w : World} {K : PySem.W.Frag} {mg : Str → Option Value} {base : Heap} {C TC : Addr} {mc : Value}
/-- Table(columns, row, ..) with keywords: which are scale and weights -/
def spMkG (pick : List V → V → V → Prop) (C TC : Addr) : SpK := fun vs zs H Q _ => ∃ (x dx pc : Addr) (sv wv : V) (qs : List (Addr × List Int)) (t : Tab), pick zs sv wv ∧ vs = .ref x :: .ref pc :: (qs.map fun q => V.ref q.1) ∧ H x = some (.ins TC dx []) ∧ t.ok ∧ Rd H pc (.tup (t.cs.map V.str)) ∧
  qs.map (·.2) = t.rs ∧ (∀ q ∈ qs, Rd H q.1 (.tup (q.2.map V.int))) ∧ WtIn H wv t ∧ ScIn H sv C t ∧ ∀ H', (∀ b o, b ≠ x → H b = some o → H' b = some o) → TblAt H' x TC C t → Q .non H'
abbrev kSW (zs : List V) (sv wv : V) : Prop := zs = [sv, wv]
abbrev kWS (zs : List V) (sv wv : V) : Prop := zs = [wv, sv]
abbrev kS (zs : List V) (sv wv : V) : Prop := zs = [sv] ∧ wv = .non
abbrev k0 (zs : List V) (sv wv : V) : Prop := zs = [] ∧ sv = .non ∧ wv = .non
structure InitT (P : Program) (w : World) (K : PySem.W.Frag) (mg : Str → Option Value) (base : Heap) (C TC : Addr) (mc : Value) : Prop where
  T : Blt mg
  Z : ClsK K C
  Zt : ClsT K C
  kcc : PySem.W.kitOne K (.ref C) (.ref C) = some true
  Y : TblK K TC
  nCT : C ≠ TC
  gC : mg "Scale" = some (.ref C)
  rd : CRead K C mc
  rl : ∃ t, mg "MAX_ROWS" = some (.int 200 t)
theorem vals_rev : ∀ {vs : List V} {us : List Value}, Vals vs us → Vals vs.reverse us.reverse
  | _, _, .nil => .nil
  | _, _, .cons h t => by rw [List.reverse_cons, List.reverse_cons]; exact (vals_rev t).append (.cons h .nil)
theorem ok_mkSW {f : Addr} {fd : FuncData} (F : FunD K "__init__" "Table.__init__" (defArgs sTInit) (defBody sTInit) (defScope sTInit) [] [("scale", .non), ("weights", .non)] f fd) (I : InitT P w K mg base C TC mc)
    (Ck : DfK P w K mg base 4 "check_columns" ["columns", "least"] spChkC) (kb : KBn K Ck.fd ["columns", "least"] 1 ["least"] (fun us ws => us ++ ws) (fun vs zs => vs ++ zs)) (Ckr : Df P w K mg base 3 "check_row" ["columns", "row"] spChkR)
    (Ss : Sm P w K mg base C mc 3 "sums" [] (spNew C .sums)) (Oe : Dp1 P w K mg base C 1 "one" (spOne C)) (Iw : Dm P w K mg base C 4 "is_weight" ["self", "value"] (spIsWgt K C)) (Pl : Dm P w K mg base C 6 "plus_all" ["self", "amounts"] (spPlusAll C)) : FnK P w K mg base CX0 7 f ["scale", "weights"] (spMkG kSW C TC) := by
  refine (fnK_star (CX := CX0) (ks := ["scale", "weights"]) (ps := ["self", "columns", "scale", "weights"]) (pv := "rows") (sp := spTI C TC) F scTInit StX.cxUp_none 2 [] (by simp) (fun q hq => (nomatch hq)) (fun us mv ws => us ++ (mv ++ ws)) (fun r1 r2 r3 => r1.append (r2.append r3)) (fun {us mv ws} l1 l2 l3 => ?_) (fun D doc pm an cdv ct us rest mv ws l1 l2 l3 => ?_) (fun cdv A outer s H vs Q E hr h => ?_)).imp fun vs zs H Q E h => ?_
  · match us, mv, ws, l1, l2, l3 with
    | [a, b], [], [c, d], _, _, _ => rfl
  · match us, mv, ws, l1, l2, l3 with
    | [a, b], [], [c, d], _, _, _ =>
      cases rest with
      | nil => exact rfl
      | cons r rs => exact rfl
  · obtain ⟨t, d, z⟩ := body_tInit I.T I.Z I.Zt I.kcc I.Y I.nCT I.gC I.rd I.rl Ck kb Ckr Ss Oe Iw Pl A outer s H vs Q E hr h
    exact ⟨t, d.nox, z⟩
  · obtain ⟨x, dx, pc, sv, wv, qs, t, hz, rfl, hx, ok, hc, hq, hqs, hw, sg, q⟩ := h
    obtain ⟨rfl⟩ := hz
    have lq : qs.length = t.rs.length := by rw [← hq, List.length_map]
    have few := ok.few
    refine ⟨[.ref x, .ref pc], qs.map fun q => V.ref q.1, rfl, rfl, by rw [List.length_map]; exact Nat.le_of_lt (room1000 (by omega)), fun p np => ?_⟩
    have xp := Ex.new (o := .tup (qs.map fun q => V.ref q.1)) np
    exact ⟨x, dx, pc, p, sv, wv, t, rfl, xp x _ hx, ok, xp.rd hc, ⟨qs, hq, .inl upd_same, fun r hr => xp.rd (hqs r hr)⟩, xp.wtIn hw, xp.scIn sg, fun H' k tb => q H' (fun b o nb e => k b o nb (xp b o e)) tb⟩
theorem ok_mkWS {f : Addr} {fd : FuncData} (F : FunD K "__init__" "Table.__init__" (defArgs sTInit) (defBody sTInit) (defScope sTInit) [] [("scale", .non), ("weights", .non)] f fd) (I : InitT P w K mg base C TC mc)
    (Ck : DfK P w K mg base 4 "check_columns" ["columns", "least"] spChkC) (kb : KBn K Ck.fd ["columns", "least"] 1 ["least"] (fun us ws => us ++ ws) (fun vs zs => vs ++ zs)) (Ckr : Df P w K mg base 3 "check_row" ["columns", "row"] spChkR)
    (Ss : Sm P w K mg base C mc 3 "sums" [] (spNew C .sums)) (Oe : Dp1 P w K mg base C 1 "one" (spOne C)) (Iw : Dm P w K mg base C 4 "is_weight" ["self", "value"] (spIsWgt K C)) (Pl : Dm P w K mg base C 6 "plus_all" ["self", "amounts"] (spPlusAll C)) : FnK P w K mg base CX0 7 f ["weights", "scale"] (spMkG kWS C TC) := by
  refine (fnK_star (CX := CX0) (ks := ["weights", "scale"]) (ps := ["self", "columns", "scale", "weights"]) (pv := "rows") (sp := spTI C TC) F scTInit StX.cxUp_none 2 [] (by simp) (fun q hq => (nomatch hq)) (fun us mv ws => us ++ (mv ++ ws.reverse)) (fun r1 r2 r3 => r1.append (r2.append (vals_rev r3))) (fun {us mv ws} l1 l2 l3 => ?_) (fun D doc pm an cdv ct us rest mv ws l1 l2 l3 => ?_) (fun cdv A outer s H vs Q E hr h => ?_)).imp fun vs zs H Q E h => ?_
  · match us, mv, ws, l1, l2, l3 with
    | [a, b], [], [c, d], _, _, _ => rfl
  · match us, mv, ws, l1, l2, l3 with
    | [a, b], [], [c, d], _, _, _ =>
      cases rest with
      | nil => exact rfl
      | cons r rs => exact rfl
  · obtain ⟨t, d, z⟩ := body_tInit I.T I.Z I.Zt I.kcc I.Y I.nCT I.gC I.rd I.rl Ck kb Ckr Ss Oe Iw Pl A outer s H vs Q E hr h
    exact ⟨t, d.nox, z⟩
  · obtain ⟨x, dx, pc, sv, wv, qs, t, hz, rfl, hx, ok, hc, hq, hqs, hw, sg, q⟩ := h
    obtain ⟨rfl⟩ := hz
    have lq : qs.length = t.rs.length := by rw [← hq, List.length_map]
    have few := ok.few
    refine ⟨[.ref x, .ref pc], qs.map fun q => V.ref q.1, rfl, rfl, by rw [List.length_map]; exact Nat.le_of_lt (room1000 (by omega)), fun p np => ?_⟩
    have xp := Ex.new (o := .tup (qs.map fun q => V.ref q.1)) np
    exact ⟨x, dx, pc, p, sv, wv, t, rfl, xp x _ hx, ok, xp.rd hc, ⟨qs, hq, .inl upd_same, fun r hr => xp.rd (hqs r hr)⟩, xp.wtIn hw, xp.scIn sg, fun H' k tb => q H' (fun b o nb e => k b o nb (xp b o e)) tb⟩
theorem ok_mk0 {f : Addr} {fd : FuncData} (F : FunD K "__init__" "Table.__init__" (defArgs sTInit) (defBody sTInit) (defScope sTInit) [] [("scale", .non), ("weights", .non)] f fd) (I : InitT P w K mg base C TC mc)
    (Ck : DfK P w K mg base 4 "check_columns" ["columns", "least"] spChkC) (kb : KBn K Ck.fd ["columns", "least"] 1 ["least"] (fun us ws => us ++ ws) (fun vs zs => vs ++ zs)) (Ckr : Df P w K mg base 3 "check_row" ["columns", "row"] spChkR)
    (Ss : Sm P w K mg base C mc 3 "sums" [] (spNew C .sums)) (Oe : Dp1 P w K mg base C 1 "one" (spOne C)) (Iw : Dm P w K mg base C 4 "is_weight" ["self", "value"] (spIsWgt K C)) (Pl : Dm P w K mg base C 6 "plus_all" ["self", "amounts"] (spPlusAll C)) : FnK P w K mg base CX0 7 f [] (spMkG k0 C TC) := by
  refine (fnK_star (CX := CX0) (ks := []) (ps := ["self", "columns", "scale", "weights"]) (pv := "rows") (sp := spTI C TC) F scTInit StX.cxUp_none 2 [("scale", .non), ("weights", .non)] (by simp) (fun q hq => hq) (fun us mv ws => us ++ (mv ++ ws)) (fun r1 r2 r3 => r1.append (r2.append r3)) (fun {us mv ws} l1 l2 l3 => ?_) (fun D doc pm an cdv ct us rest mv ws l1 l2 l3 => ?_) (fun cdv A outer s H vs Q E hr h => ?_)).imp fun vs zs H Q E h => ?_
  · match us, mv, ws, l1, l2, l3 with
    | [a, b], [m, n], [], _, _, _ => rfl
  · match us, mv, ws, l1, l2, l3 with
    | [a, b], [m, n], [], _, _, _ =>
      cases rest with
      | nil => exact ⟨_, _, _, _, _, _, rfl, rfl, ⟨_, _, _, _, _, _, rfl, rfl, rfl⟩⟩
      | cons r rs => exact ⟨_, _, _, _, _, _, rfl, rfl, ⟨_, _, _, _, _, _, rfl, rfl, rfl⟩⟩
  · obtain ⟨t, d, z⟩ := body_tInit I.T I.Z I.Zt I.kcc I.Y I.nCT I.gC I.rd I.rl Ck kb Ckr Ss Oe Iw Pl A outer s H vs Q E hr h
    exact ⟨t, d.nox, z⟩
  · obtain ⟨x, dx, pc, sv, wv, qs, t, hz, rfl, hx, ok, hc, hq, hqs, hw, sg, q⟩ := h
    obtain ⟨rfl, rfl, rfl⟩ := hz
    have lq : qs.length = t.rs.length := by rw [← hq, List.length_map]
    have few := ok.few
    refine ⟨[.ref x, .ref pc], qs.map fun q => V.ref q.1, rfl, rfl, by rw [List.length_map]; exact Nat.le_of_lt (room1000 (by omega)), fun p np => ?_⟩
    have xp := Ex.new (o := .tup (qs.map fun q => V.ref q.1)) np
    exact ⟨x, dx, pc, p, .non, .non, t, rfl, xp x _ hx, ok, xp.rd hc, ⟨qs, hq, .inl upd_same, fun r hr => xp.rd (hqs r hr)⟩, xp.wtIn hw, xp.scIn sg, fun H' k tb => q H' (fun b o nb e => k b o nb (xp b o e)) tb⟩
/-- Table.of(columns, rows, scale=.., weights=..) -/
def spOf (C TC : Addr) : Sp := fun vs H Q _ => ∃ (pc pr : Addr) (sv wv : V) (t : Tab), vs = [.ref TC, .ref pc, .ref pr, sv, wv] ∧ t.ok ∧ Rd H pc (.tup (t.cs.map V.str)) ∧ RowsD H pr t.rs ∧ ScIn H sv C t ∧ WtIn H wv t ∧
  ∀ a H', Ex H H' → H a = none → TblAt H' a TC C t → Q (.ref a) H'
theorem ok_of {f fi : Addr} {fd : FuncData} (F : FunD K "of" "Table.of" (defArgs sTOf) (defBody sTOf) (defScope sTOf) [] [("scale", .non), ("weights", .non)] f fd) (T : Blt mg) (M : Mk K TC fi) (Fi : FnK P w K mg base CX0 7 fi ["scale", "weights"] (spMkG kSW C TC))
    (Ck : DfK P w K mg base 4 "check_columns" ["columns", "least"] spChkC) (kb : KBn K Ck.fd ["columns", "least"] 1 ["least"] (fun us ws => us ++ ws) (fun vs zs => vs ++ zs)) : FnOk P w K mg base CX0 9 f fd ["cls", "columns", "rows", "scale", "weights"] (spOf C TC) := by
  refine F.ok scTOf (fun vs H Q E h => ?_) (fun cdv A outer s H vs Q E hr h => ?_)
  · obtain ⟨pc, pr, sv, wv, t, rfl, _⟩ := h
    rfl
  · obtain ⟨pc, pr, sv, wv, t, rfl, ok, hc, hrs, sg, hw, q⟩ := h
    have nd := scTOf.nd
    have r4 := hr.mono (show 4 ≤ 8 by decide)
    refine ⟨_, pss_cons (ps_expr (pe_callN Ck.G r4 (by rfl) Ck.g Ck.kp kb pass0 (pa_cons (pv 1) pa_nil) (pk_cons pe_int pk_nil)))
      (pss_cons (ps_if (pt_not (pt_val (pe_callB call_isi (by rfl) T.isinstance (by decide +kernel) (pa_cons (pv 2) (pa_cons (pe_bltn (v := .ty "tuple") (by rfl) T.tuple (by decide +kernel) rfl) pa_nil))))) pss_never pss_nil)
      (pss_one (ps_ret (pe_makeLs (i := 0) M Fi hr rfl (.inl rfl) pass0 (pa_cons (pv 1) (StX.pa_star (pv 2) pa_nil)) (pk_cons (pv 3) (pk_cons (pv 4) pk_nil)))))), ?_⟩
    refine ⟨_, rfl, rfl, rfl, pc, t.cs, 1, rfl, by decide, by have := ok.c1; omega, ⟨ok.cols, hc⟩, fun H1 e1 => ?_⟩
    obtain ⟨qs, eq, hq, hqs⟩ := e1.rowsD hrs
    refine ⟨_, rfl, _, _, _, _, true, rfl, .ty _, tyRd hq, kit_ty (by decide +kernel), true, rfl, ?_⟩
    refine ⟨rfl, _, rfl, _, rfl, pr, _, rfl, .inl (.inl hq), _, rfl, _, rfl, rfl, fun x dx nx ndx ne => ?_⟩
    have xx : Ex H1 (upd (upd H1 dx (.own x)) x (.ins TC dx [])) := scl_made nx ndx fun b o _ e => e
    exact ⟨x, dx, pc, sv, wv, qs, t, rfl, by simp, upd_same, ok, xx.rd (e1.rd hc), eq, fun r hr => xx.rd (hqs r hr), xx.wtIn (e1.wtIn hw), xx.scIn (e1.scIn sg), fun H2 k tb => ⟨rfl, q x H2 (e1.trans (scl_made nx ndx k)) (e1.back nx) tb⟩⟩
/-- Table.of, called with keywords -/
def spOfK (pick : List V → V → V → Prop) (C TC : Addr) : SpK := fun vs zs H Q _ => ∃ (pc pr : Addr) (sv wv : V) (t : Tab), pick zs sv wv ∧ vs = [.ref TC, .ref pc, .ref pr] ∧ t.ok ∧ Rd H pc (.tup (t.cs.map V.str)) ∧ RowsD H pr t.rs ∧ ScIn H sv C t ∧ WtIn H wv t ∧
  ∀ a H', Ex H H' → H a = none → TblAt H' a TC C t → Q (.ref a) H'
theorem okK_of {f : Addr} {fd : FuncData} {k : Nat} (F : FunD K "of" "Table.of" (defArgs sTOf) (defBody sTOf) (defScope sTOf) [] [("scale", .non), ("weights", .non)] f fd) (G : FnOk P w K mg base CX0 k f fd ["cls", "columns", "rows", "scale", "weights"] (spOf C TC)) : FnK P w K mg base CX0 k f ["scale", "weights"] (spOfK kSW C TC) := by
  obtain ⟨mv, kb⟩ := F.kbinds0 (ps := ["cls", "columns", "rows", "scale", "weights"]) 3 ["scale", "weights"] [] (fun us mv ws => us ++ (mv ++ ws)) (by simp) (fun q hq => (nomatch hq)) (fun r1 r2 r3 => r1.append (r2.append r3)) (fun D doc pm an cdv ct us mv ws l1 l2 l3 => by
    match us, mv, ws, l1, l2, l3 with
    | [a, b, c], [], [d, e], _, _, _ => exact rfl)
  refine (FnK.ok G kb).imp fun vs zs H Q E h => ?_
  obtain ⟨pc, pr, sv, wv, t, rfl, rfl, rest⟩ := h
  exact ⟨rfl, pc, pr, sv, wv, t, rfl, rest⟩
theorem okS_of {f : Addr} {fd : FuncData} {k : Nat} (F : FunD K "of" "Table.of" (defArgs sTOf) (defBody sTOf) (defScope sTOf) [] [("scale", .non), ("weights", .non)] f fd) (G : FnOk P w K mg base CX0 k f fd ["cls", "columns", "rows", "scale", "weights"] (spOf C TC)) : FnK P w K mg base CX0 k f ["scale"] (spOfK kS C TC) := by
  obtain ⟨mv, kb⟩ := F.kbinds0 (ps := ["cls", "columns", "rows", "scale", "weights"]) 3 ["scale"] [("weights", .non)] (fun us mv ws => us ++ (ws ++ mv)) (by simp) (fun q hq => by rw [List.mem_singleton.mp hq]; exact List.mem_cons_of_mem _ (List.mem_cons_self ..)) (fun r1 r2 r3 => r1.append (r3.append r2)) (fun D doc pm an cdv ct us mv ws l1 l2 l3 => by
    match us, mv, ws, l1, l2, l3 with
    | [a, b, c], [m], [d], _, _, _ => exact ⟨_, _, _, _, _, _, rfl, rfl, rfl⟩)
  refine (FnK.ok G kb).imp fun vs zs H Q E h => ?_
  obtain ⟨pc, pr, sv, wv, t, ⟨rfl, rfl⟩, rfl, rest⟩ := h
  exact ⟨rfl, pc, pr, sv, .non, t, rfl, rest⟩
theorem ok0_of {f : Addr} {fd : FuncData} {k : Nat} (F : FunD K "of" "Table.of" (defArgs sTOf) (defBody sTOf) (defScope sTOf) [] [("scale", .non), ("weights", .non)] f fd) (G : FnOk P w K mg base CX0 k f fd ["cls", "columns", "rows", "scale", "weights"] (spOf C TC)) : FnK P w K mg base CX0 k f [] (spOfK k0 C TC) := by
  obtain ⟨mv, kb⟩ := F.kbinds0 (ps := ["cls", "columns", "rows", "scale", "weights"]) 3 [] [("scale", .non), ("weights", .non)] (fun us mv ws => us ++ (mv ++ ws)) (by simp) (fun q hq => hq) (fun r1 r2 r3 => r1.append (r2.append r3)) (fun D doc pm an cdv ct us mv ws l1 l2 l3 => by
    match us, mv, ws, l1, l2, l3 with
    | [a, b, c], [m, n], [], _, _, _ => exact ⟨_, _, _, _, _, _, rfl, rfl, ⟨_, _, _, _, _, _, rfl, rfl, rfl⟩⟩)
  refine (FnK.ok G kb).imp fun vs zs H Q E h => ?_
  obtain ⟨pc, pr, sv, wv, t, ⟨rfl, rfl, rfl⟩, rfl, rest⟩ := h
  exact ⟨rfl, pc, pr, .non, .non, t, rfl, rest⟩
end
end Gl
namespace Gl
open PySem PySem.Spec PyProof.Rows L2 ClX
abbrev sTChg : Stmt := clsS_Table 30
theorem scTChg : FnScope ["self", "rows", "weights"] ["self", "rows", "weights"] (defScope sTChg) := ⟨rfl, rfl, rfl, by decide +kernel, rfl, by decide +kernel, by decide +kernel⟩
abbrev sTPick : Stmt := clsS_Table 31
theorem scTPick : FnScope ["self", "indices", "rows", "at"] ["self", "indices"] (defScope sTPick) := ⟨rfl, rfl, rfl, by decide +kernel, rfl, by decide +kernel, by decide +kernel⟩
abbrev sTCki : Stmt := clsS_Table 32
theorem scTCki : FnScope ["self", "index"] ["self", "index"] (defScope sTCki) := ⟨rfl, rfl, rfl, by decide +kernel, rfl, by decide +kernel, by decide +kernel⟩
abbrev sTCks : Stmt := clsS_Table 33
theorem scTCks : FnScope ["self", "indices", "index"] ["self", "indices"] (defScope sTCks) := ⟨rfl, rfl, rfl, by decide +kernel, rfl, by decide +kernel, by decide +kernel⟩
abbrev sTOnlyAll : Stmt := clsS_Table 21
theorem scTOnlyAll : FnScope ["self", "indices", "at"] ["self", "indices"] (defScope sTOnlyAll) := ⟨rfl, rfl, rfl, by decide +kernel, rfl, by decide +kernel, by decide +kernel⟩
def nats (o : List Nat) : List V := o.map fun j => V.int (j : Nat)
theorem nats_len (o : List Nat) : (nats o).length = o.length := List.length_map ..
theorem nats_get {o : List Nat} {i : Nat} {x : V} (h : (nats o)[i]? = some x) : ∃ j, o[i]? = some j ∧ x = .int (j : Nat) := by
  unfold nats at h
  rw [List.getElem?_map] at h
  obtain ⟨j, hj, rfl⟩ := Option.map_eq_some_iff.mp h
  exact ⟨j, hj, rfl⟩
theorem inV_nats (i : Nat) (is : List Nat) : inV (.int (i : Nat)) (nats is) = decide (i ∈ is) := by
  unfold inV nats
  rw [List.any_map]
  induction is with
  | nil => rfl
  | cons j is ih =>
    rw [List.any_cons, ih]
    show ((((j : Nat) : Int) == ((i : Nat) : Int)) || decide (i ∈ is)) = _
    by_cases h : j = i
    · subst h
      rw [decide_eq_true (List.mem_cons_self ..)]
      simp
    · rw [show (((j : Nat) : Int) == ((i : Nat) : Int)) = false from by simp; omega, Bool.false_or]
      exact decide_eq_decide.mpr ⟨List.mem_cons_of_mem _, fun z => (List.mem_cons.mp z).resolve_left (fun e => h e.symm)⟩
theorem flat_nats (is : List Nat) : (nats is).all flatV = true := by
  unfold nats
  rw [List.all_map]
  exact List.all_eq_true.mpr fun _ _ => rfl
/-! what is picked -/
def pickL {α : Type} (d : α) (l : List α) (is : List Nat) : List α := is.map fun j => l.getD j d
theorem pickL_len {α : Type} {d : α} {l : List α} {is : List Nat} : (pickL d l is).length = is.length := List.length_map ..
theorem get_getD {α : Type} {d : α} {l : List α} {j : Nat} (h : j < l.length) : l[j]? = some (l.getD j d) := by
  rw [List.getD_eq_getElem?_getD, List.getElem?_eq_getElem h]
  rfl
theorem getD_map' {α β : Type} {d : α} {f : α → β} {l : List α} {j : Nat} : (l.map f).getD j (f d) = f (l.getD j d) := by
  rw [List.getD_eq_getElem?_getD, List.getD_eq_getElem?_getD, List.getElem?_map]
  cases l[j]? <;> rfl
theorem pickL_map {α β : Type} {d : α} {f : α → β} {l : List α} {is : List Nat} : (pickL d l is).map f = pickL (f d) (l.map f) is := by
  unfold pickL
  rw [List.map_map]
  exact List.map_congr_left fun j _ => getD_map'.symm
theorem pickL_mem {α : Type} {d : α} {l : List α} {is : List Nat} (h : ∀ i ∈ is, i < l.length) {x : α} (hx : x ∈ pickL d l is) : x ∈ l := by
  obtain ⟨j, hj, rfl⟩ := List.mem_map.mp hx
  exact List.mem_of_getElem? (get_getD (h j hj))
theorem pickL_snoc {α : Type} {d : α} {l : List α} {is : List Nat} {i j : Nat} (h : is[i]? = some j) : pickL d l (is.take (i + 1)) = pickL d l (is.take i) ++ [l.getD j d] := by
  unfold pickL
  rw [List.take_add_one, h, List.map_append]
  rfl
def Tab.pick (t : Tab) (is : List Nat) : Tab := { t with rs := pickL [] t.rs is, ws := pickL (.n 0) t.ws is }
theorem Tab.ok.pick {t : Tab} (ok : t.ok) {is : List Nat} (h : ∀ i ∈ is, i < t.rs.length) (l : is.length ≤ 40) : (t.pick is).ok where
  cols := ok.cols
  c1 := ok.c1
  rlen := fun r hr => ok.rlen r (pickL_mem h hr)
  few := by show (pickL [] t.rs is).length ≤ 200; rw [pickL_len]; omega
  fit := fit_of (by show (pickL (.n 0) t.ws is).length ≤ 40; rw [pickL_len]; exact l) fun x hx => (ok.wok x (pickL_mem (fun i hi => by rw [ok.wl]; exact h i hi) hx)).2.1
  mok := ok.mok
  wl := by show (pickL (.n 0) t.ws is).length = (pickL [] t.rs is).length; rw [pickL_len, pickL_len]
  wok := fun x hx => ok.wok x (pickL_mem (fun i hi => by rw [ok.wl]; exact h i hi) hx)
section
variable {P : Program} {w : World} {K : PySem.W.Frag} {mg : Str → Option Value} {base : Heap} {C TC : Addr} {mc : Value}
/-- the classmethod of -/
structure OfD (P : Program) (w : World) (K : PySem.W.Frag) (mg : Str → Option Value) (base : Heap) (C TC : Addr) (mc : Value) where
  p : Addr
  f : Addr
  G : FnK P w K mg base CX0 9 f ["scale", "weights"] (spOfK kSW C TC)
  GS : FnK P w K mg base CX0 9 f ["scale"] (spOfK kS C TC)
  G0 : FnK P w K mg base CX0 9 f [] (spOfK k0 C TC)
  at_ : CMet K TC mc "of" p f
  g : mg "Table" = some (.ref TC)
  rd : CRead K TC mc
def spChg (C TC : Addr) : Sp := fun vs H Q _ => ∃ (a pr pw : Addr) (t : Tab) (rs : List (List Int)) (ws : List Am), vs = [.ref a, .ref pr, .ref pw] ∧ TblAt H a TC C t ∧ RowsD H pr rs ∧ AmsD H pw ws ∧ Tab.ok { t with rs := rs, ws := ws } ∧
  ∀ b H', Ex H H' → H b = none → TblAt H' b TC C { t with rs := rs, ws := ws } → Q (.ref b) H'
theorem ok_chg {f : Addr} {fd : FuncData} (F : Fun K "_changed" "Table._changed" sTChg f fd) (Y : TblK K TC) (Of : OfD P w K mg base C TC mc) : FnOk P w K mg base CX0 10 f fd ["self", "rows", "weights"] (spChg C TC) := by
  refine F.ok scTChg (fun vs H Q E h => ?_) (fun cdv A outer s H vs Q E hr h => ?_)
  · obtain ⟨a, pr, pw, t, rs, ws, rfl, _⟩ := h
    rfl
  · obtain ⟨a, pr, pw, t, rs, ws, rfl, ⟨dx, pc, pr0, ps, pw0, vt, fs, tf⟩, hr', hw, ok, q⟩ := h
    refine ⟨_, pss_one (ps_ret (pe_cmethK (pe_glob (v := .ref TC) (by rfl) Of.g rfl) Of.rd Of.at_ Of.G hr pass0 (pa_cons (pe_fld (pv 0) (by rfl)) (pa_cons (pv 1) pa_nil)) (pk_cons (pe_fld (pv 0) (by rfl)) (pk_cons (pv 2) pk_nil)))), ?_⟩
    refine ⟨rfl, _, rfl, a, TC, dx, fs, _, rfl, tf.at_, Y.cls, Y.nc, tf.fc, _, rfl, _, rfl, a, TC, dx, fs, _, rfl, tf.at_, Y.cls, Y.nS, tf.fS, _, rfl, rfl, ?_⟩
    exact ⟨pc, pr, .ref ps, .ref pw, { t with rs := rs, ws := ws }, rfl, rfl, ok, tf.cs, hr', .inl ⟨ps, rfl, tf.sc⟩, .inl ⟨pw, rfl, hw⟩, fun b H' e n tb => q b H' e n tb⟩
def spCki (C TC : Addr) : Sp := fun vs H Q _ => ∃ (a : Addr) (j : Nat) (t : Tab), vs = [.ref a, .int (j : Nat)] ∧ TblAt H a TC C t ∧ j < t.rs.length ∧ Q .non H
theorem ok_cki {f : Addr} {fd : FuncData} (F : Fun K "_check_index" "Table._check_index" sTCki f fd) (T : Blt mg) (Y : TblK K TC) (Ix : Df P w K mg base 2 "is_index" ["value", "many"] spIndex) : FnOk P w K mg base CX0 3 f fd ["self", "index"] (spCki C TC) := by
  refine F.ok scTCki (fun vs H Q E h => ?_) (fun cdv A outer s H vs Q E hr h => ?_)
  · obtain ⟨a, j, t, rfl, _⟩ := h
    rfl
  · obtain ⟨a, j, t, rfl, ⟨dx, pc, pr, ps, pw, vt, fs, tf⟩, jl, q⟩ := h
    obtain ⟨qs, eq, hq, hqs⟩ := tf.rs
    have lq : (qs.map fun q => V.ref q.1).length = t.rs.length := by rw [← eq, List.length_map, List.length_map]
    refine ⟨_, pss_one (ps_if (pt_not (pt_val (pe_call Ix.G hr (by rfl) Ix.g Ix.kp Ix.b .nil pass0 (pa_cons (pv 1) (pa_cons (pe_callB call_len_seq (by rfl) T.len PySem.boot_len (pa_cons (pe_fld (pv 0) (by rfl)) pa_nil)) pa_nil))))) pss_never pss_nil), ?_⟩
    exact ⟨_, rfl, _, rfl, a, TC, dx, fs, _, rfl, tf.at_, Y.cls, Y.nr, tf.fr, pr, _, rfl, .inr (.inl hq), (j : Int), _, rfl, by omega, by rw [lq]; omega, ⟨_, rfl, q⟩⟩
def spCks (C TC : Addr) : Sp := fun vs H Q _ => ∃ (a p : Addr) (is : List Nat) (t : Tab), vs = [.ref a, .ref p] ∧ TblAt H a TC C t ∧ Rd H p (.tup (nats is)) ∧ (∀ i ∈ is, i < t.rs.length) ∧ ∀ H', Ex H H' → Q .non H'
theorem ok_cks {f : Addr} {fd : FuncData} (F : Fun K "_check_indices" "Table._check_indices" sTCks f fd) (T : Blt mg) (Y : TblK K TC) (Cki : Dm P w K mg base TC 3 "_check_index" ["self", "index"] (spCki C TC)) : FnOk P w K mg base CX0 4 f fd ["self", "indices"] (spCks C TC) := by
  refine F.ok scTCks (fun vs H Q E h => ?_) (fun cdv A outer s H vs Q E hr h => ?_)
  · obtain ⟨a, p, is, t, rfl, _⟩ := h
    rfl
  · obtain ⟨a, p, is, t, rfl, tb, hp, lt, q⟩ := h
    have nd := scTCks.nd
    obtain ⟨dx, pc, pr, ps, pw, vt, fs, tf⟩ := id tb
    refine ⟨_, pss_cons (ps_if (pt_not (pt_val (pe_callB call_isi (by rfl) T.isinstance (by decide +kernel) (pa_cons (pv 1) (pa_cons (pe_bltn (v := .ty "tuple") (by rfl) T.tuple (by decide +kernel) rfl) pa_nil))))) pss_never pss_nil)
      (pss_one (ps_for PassesOwn.never rfl (pi_tup (pv 1)) (pg_name (i := 2) nd rfl (.inl rfl))
        (pss_one (ps_expr (pe_meth (pv 0) Y.cls Cki.at_ Cki.G hr Cki.b .nil pass0 (pa_cons (pv 2) pa_nil)))))), ?_⟩
    refine ⟨_, rfl, _, _, _, _, true, rfl, .ty _, tyRd hp, kit_ty (by decide +kernel), true, rfl, ?_⟩
    refine ⟨_, rfl, p, rfl, ⟨_, .inl hp⟩, ?_⟩
    refine for_tup (xs := nats is) (fun i σ H' => ∃ y2 : Option V, σ = [some (.ref a), some (.ref p), y2] ∧ H' = H) ⟨none, rfl, rfl⟩ (fun i σ H' _ h => ?_) (fun i x σ H' hx h => ?_) (fun σ H' h => ?_)
    · obtain ⟨y2, rfl, rfl⟩ := h
      exact .inl hp
    · obtain ⟨y2, rfl, rfl⟩ := h
      obtain ⟨j, hj, rfl⟩ := nats_get hx
      exact ⟨_, rfl, a, dx, fs, rfl, tf.at_, tf.no _ (by decide +kernel), _, rfl, a, j, t, rfl, tb, lt j (List.mem_of_getElem? hj), _, rfl, rfl⟩
    · obtain ⟨y2, rfl, rfl⟩ := h
      exact q _ (Ex.refl _)
def spPickd (H0 : Hp → Addr → List V → Prop) (C TC : Addr) : Sp := fun vs H Q _ => ∃ (a l : Addr) (is : List Nat) (t : Tab), vs = [.ref a, .ref l] ∧ TblAt H a TC C t ∧ t.ok ∧ H0 H l (nats is) ∧ (∀ i ∈ is, i < t.rs.length) ∧ is.length ≤ 40 ∧
  ∀ b H', Ex H H' → H b = none → TblAt H' b TC C (t.pick is) → Q (.ref b) H'
theorem ok_pickL {f : Addr} {fd : FuncData} (F : Fun K "_picked" "Table._picked" sTPick f fd) (T : Blt mg) (Y : TblK K TC) (Cg : Dm P w K mg base TC 10 "_changed" ["self", "rows", "weights"] (spChg C TC)) : FnOk P w K mg base CX0 11 f fd ["self", "indices"] (spPickd (fun H l xs => H l = some (.lst xs)) C TC) := by
  refine F.ok scTPick (fun vs H Q E h => ?_) (fun cdv A outer s H vs Q E hr h => ?_)
  · obtain ⟨a, l, is, t, rfl, _⟩ := h
    rfl
  · obtain ⟨a, l, is, t, rfl, tb, ok, hl, lt, few, q⟩ := h
    have nd := scTPick.nd
    obtain ⟨dx, pc, pr, ps, pw, vt, fs, tf⟩ := id tb
    refine ⟨_, pss_cons (ps_set (i := 2) nd rfl (.inl rfl) (pe_callTy call_tupleF (by rfl) T.tuple (by decide +kernel) (pa_cons (pe_lc (own := [("at", 3)]) (g := gName 3) (tt := tYes) rfl nd (pi_list (pv 1)) (blkOk_by (N := ["self", "indices", "rows", "at"]) (sc := defScope sTPick) (by decide +kernel)) (fun _ _ _ _ _ => pg_name (i := 3) nd rfl (.inl rfl)) (fun _ _ _ _ _ => pts_nil)
          (fun _ _ _ _ _ => pe_ix (r := rIxT K) ix_tup (pe_fldK (K := K) (pv 0)) (pv 3) (fun _ _ => rfl))) pa_nil)))
      (pss_one (ps_ret (pe_meth (pv 0) Y.cls Cg.at_ Cg.G hr Cg.b .nil pass0 (pa_cons (pv 2) (pa_cons (pe_callTy call_tupleF (by rfl) T.tuple (by decide +kernel) (pa_cons (pe_lc (own := [("at", 3)]) (g := gName 3) (tt := tYes) rfl nd (pi_list (pv 1)) (blkOk_by (N := ["self", "indices", "rows", "at"]) (sc := defScope sTPick) (by decide +kernel)) (fun _ _ _ _ _ => pg_name (i := 3) nd rfl (.inl rfl)) (fun _ _ _ _ _ => pts_nil)
          (fun _ _ _ _ _ => pe_ix (r := rIxT K) ix_tup (pe_fldK (K := K) (pv 0)) (pv 3) (fun _ _ => rfl))) pa_nil)) pa_nil))))), ?_⟩
    obtain ⟨qs, eq, hq, hqs⟩ := tf.rs
    obtain ⟨us, eu, hu, hus⟩ := tf.ws
    have lq : qs.length = t.rs.length := by rw [← eq, List.length_map]
    have lu : us.length = t.rs.length := by rw [← ok.wl, ← eu, List.length_map]
    have nr : ("_changed" : Str) ∉ five := by decide +kernel
    have nl : (nats is).length = is.length := nats_len is
    refine ⟨_, rfl, l, rfl, ⟨_, .inl (.inl hl)⟩, fun D nD => lc_list (xs := nats is) (fun i H' => Ex H H' ∧ H' D = some (.lst ((pickL ((0 : Addr), ([] : List Int)) qs (is.take i)).map fun q => V.ref q.1))) ⟨Ex.new nD, upd_same⟩ (fun i H' _ h => .inl (.inl (h.1 l _ hl))) (fun i x H' hx h => ?_) (fun H1 h => ?_)⟩
    · obtain ⟨ex, eD⟩ := h
      obtain ⟨j, hj, rfl⟩ := nats_get hx
      have il := (List.getElem?_eq_some_iff.mp hj).1
      have jl := lt j (List.mem_of_getElem? hj)
      refine ⟨rfl, _, rfl, a, TC, dx, fs, _, rfl, ex _ _ tf.at_, Y.cls, Y.nr, tf.fr, _, rfl, pr, _, _, _, rfl, rfl, .inl (ex.rd hq), atI_nat (by rw [List.getElem?_map, get_getD (d := ((0 : Addr), ([] : List Int))) (show j < qs.length by omega)]; rfl), ?_⟩
      refine ⟨_, eD, ?_, ex.mut nD, ?_⟩
      · rw [List.length_map, pickL_len, List.length_take]
        exact room1000 (by omega)
      · rw [upd_same, pickL_snoc hj, List.map_append]
        rfl
    obtain ⟨e1, eD⟩ := h
    rw [nl, List.take_length] at eD
    refine ⟨D, _, rfl, .inl (.inl eD), fun t1 o1 nt1 _ => ?_⟩
    have x1 := Ex.new (o := .frz o1 (.tup ((pickL ((0 : Addr), ([] : List Int)) qs is).map fun q => V.ref q.1))) nt1
    have f1 := e1.trans x1
    refine ⟨_, rfl, a, dx, fs, rfl, f1 _ _ tf.at_, tf.no _ nr, _, rfl, ?_⟩
    refine ⟨_, rfl, l, rfl, ⟨_, .inl (.inl (f1 l _ hl))⟩, fun D2 nD2 => lc_list (xs := nats is) (fun i H' => Ex H H' ∧ Ex (upd H1 t1 (.frz o1 (.tup ((pickL ((0 : Addr), ([] : List Int)) qs is).map fun q => V.ref q.1)))) H' ∧ H' D2 = some (.lst ((pickL (V.non, Am.n 0) us (is.take i)).map (·.1)))) ⟨f1.trans (Ex.new nD2), Ex.new nD2, upd_same⟩ (fun i H' _ h => .inl (.inl (h.1 l _ hl))) (fun i x H' hx h => ?_) (fun H2 h => ?_)⟩
    · obtain ⟨ex, ex1, eD⟩ := h
      obtain ⟨j, hj, rfl⟩ := nats_get hx
      have il := (List.getElem?_eq_some_iff.mp hj).1
      have jl := lt j (List.mem_of_getElem? hj)
      refine ⟨rfl, _, rfl, a, TC, dx, fs, _, rfl, ex _ _ tf.at_, Y.cls, Y.nw, tf.fw, _, rfl, pw, _, _, _, rfl, rfl, .inl (ex.rd hu), atI_nat (by rw [List.getElem?_map, get_getD (d := (V.non, Am.n 0)) (show j < us.length by omega)]; rfl), ?_⟩
      refine ⟨_, eD, ?_, ex.mut (f1.back nD2), ex1.mut nD2, ?_⟩
      · rw [List.length_map, pickL_len, List.length_take]
        exact room1000 (by omega)
      · rw [upd_same, pickL_snoc hj, List.map_append]
        rfl
    obtain ⟨e2, e12, eD2⟩ := h
    rw [nl, List.take_length] at eD2
    refine ⟨D2, _, rfl, .inl (.inl eD2), fun t2 o2 nt2 _ => ?_⟩
    have x2 := Ex.new (o := .frz o2 (.tup ((pickL (V.non, Am.n 0) us is).map (·.1)))) nt2
    have f2 := e2.trans x2
    refine ⟨a, t1, t2, t, pickL [] t.rs is, pickL (.n 0) t.ws is, rfl, f2.tbl tb, ⟨pickL ((0 : Addr), ([] : List Int)) qs is, by rw [pickL_map, eq], (e12.trans x2).rd (.inr ⟨o1, upd_same⟩), fun r hr => f2.rd (hqs r (pickL_mem (fun i hi => by have := lt i hi; omega) hr))⟩,
      ⟨pickL (V.non, Am.n 0) us is, by rw [pickL_map, eu], .inr ⟨o2, upd_same⟩, fun r hr => (hus r (pickL_mem (fun i hi => by have := lt i hi; omega) hr)).ex f2⟩, ok.pick lt few, fun b H' e n tb' => q b H' (f2.trans e) (f2.back n) tb'⟩
end
end Gl
namespace Gl
open PySem PySem.Spec PyProof.Rows L2 ClX
def keptI (is : List Nat) (n : Nat) : List Nat := (List.range n).filter fun i => decide (i ∈ is)
theorem filt_succ {p : Nat → Bool} {n : Nat} : (List.range (n + 1)).filter p = (List.range n).filter p ++ (if p n = true then [n] else []) := by
  rw [List.range_succ, List.filter_append]
  congr 1
  by_cases h : p n = true
  · rw [if_pos h, List.filter_cons_of_pos h]; rfl
  · rw [if_neg h, List.filter_cons_of_neg h]; rfl
theorem filt_len {p : Nat → Bool} {n : Nat} : ((List.range n).filter p).length ≤ n := Nat.le_trans (List.length_filter_le ..) (Nat.le_of_eq List.length_range)
theorem filt_lt {p : Nat → Bool} {n : Nat} : ∀ i ∈ (List.range n).filter p, i < n := fun _ h => List.mem_range.mp (List.mem_filter.mp h).1
theorem nats_snoc {o : List Nat} {j : Nat} : nats (o ++ [j]) = nats o ++ [V.int (j : Nat)] := List.map_append
section
variable {P : Program} {w : World} {K : PySem.W.Frag} {mg : Str → Option Value} {base : Heap} {C TC : Addr} {mc : Value}
def spSel (sel : List Nat → Nat → List Nat) (C TC : Addr) : Sp := fun vs H Q _ => ∃ (a p : Addr) (is : List Nat) (t : Tab), vs = [.ref a, .ref p] ∧ TblAt H a TC C t ∧ t.ok ∧ t.rs.length ≤ 40 ∧ Rd H p (.tup (nats is)) ∧ (∀ i ∈ is, i < t.rs.length) ∧
  ∀ b H', Ex H H' → H b = none → TblAt H' b TC C (t.pick (sel is t.rs.length)) → Q (.ref b) H'
theorem ok_onAll {f : Addr} {fd : FuncData} (F : Fun K "only_all" "Table.only_all" sTOnlyAll f fd) (T : Blt mg) (Y : TblK K TC) (Cks : Dm P w K mg base TC 4 "_check_indices" ["self", "indices"] (spCks C TC)) (Pi : Dm P w K mg base TC 11 "_picked" ["self", "indices"] (spPickd (fun H l xs => H l = some (.lst xs)) C TC)) : FnOk P w K mg base CX0 12 f fd ["self", "indices"] (spSel keptI C TC) := by
  refine F.ok scTOnlyAll (fun vs H Q E h => ?_) (fun cdv A outer s H vs Q E hr h => ?_)
  · obtain ⟨a, p, is, t, rfl, _⟩ := h
    rfl
  · obtain ⟨a, p, is, t, rfl, tb, ok, few, hp, lt, q⟩ := h
    have nd := scTOnlyAll.nd
    have r4 := hr.mono (show 4 ≤ 11 by decide)
    refine ⟨_, pss_cons (ps_expr (pe_meth (pv 0) Y.cls Cks.at_ Cks.G r4 Cks.b .nil pass0 (pa_cons (pv 1) pa_nil)))
      (pss_one (ps_ret (pe_meth (pv 0) Y.cls Pi.at_ Pi.G hr Pi.b .nil pass0 (pa_cons (pe_lc (own := [("at", 2)]) (g := gName 2) rfl nd (pi_range1 rfl T.range (pa_cons (pe_callB call_len_seq (by rfl) T.len PySem.boot_len (pa_cons (pe_fld (pv 0) (by rfl)) pa_nil)) pa_nil)) (blkOk_by (N := ["self", "indices", "at"]) (sc := defScope sTOnlyAll) (by decide +kernel)) (fun _ _ _ _ _ => pg_name (i := 2) nd rfl (.inl rfl)) (fun _ _ _ _ _ => pts_one (pt_cmpR (r := rIn K false) op_in_seq (pv 2) (pv 1) rfl))
          (fun _ _ _ _ _ => pv 2)) pa_nil)))), ?_⟩
    obtain ⟨dx, pc, pr, ps, pw, vt, fs, tf⟩ := id tb
    refine ⟨_, rfl, a, dx, fs, rfl, tf.at_, tf.no _ (by decide +kernel), _, rfl, a, p, is, t, rfl, tb, hp, lt, fun H1 e1 => ?_⟩
    obtain ⟨dx, pc, pr, ps, pw, vt, fs, tf⟩ := id (e1.tbl tb)
    obtain ⟨qs, eq, hq, hqs⟩ := tf.rs
    have lq : (qs.map fun q => V.ref q.1).length = t.rs.length := by rw [← eq, List.length_map, List.length_map]
    refine ⟨_, rfl, a, dx, fs, rfl, tf.at_, tf.no _ (by decide +kernel), _, rfl, a, TC, dx, fs, _, rfl, tf.at_, Y.cls, Y.nr, tf.fr, pr, _, rfl, .inr (.inl hq), t.rs.length, by rw [lq], by omega, by omega, fun D nD => ?_⟩
    refine lc_range (n := t.rs.length) (fun i H' => Ex H1 H' ∧ H' D = some (.lst (nats (keptI is i)))) ⟨Ex.new nD, upd_same⟩ (fun i H4 hi h => ?_) (fun H4 h => ?_)
    · obtain ⟨ex, eD⟩ := h
      refine ⟨rfl, _, rfl, _, rfl, p, _, rfl, .inr (.inl ((e1.trans ex).rd hp)), rfl, flat_nats is, ?_⟩
      rw [Int.zero_add, inV_nats]
      refine ⟨_, rfl, ?_⟩
      by_cases z : i ∈ is
      · rw [decide_eq_true z]
        refine iteT ⟨_, rfl, _, eD, ?_, ex.mut nD, ?_⟩
        · rw [nats_len]
          have := filt_len (p := fun i => decide (i ∈ is)) (n := i)
          exact room1000 (show ((List.range i).filter fun i => decide (i ∈ is)).length ≤ 100000 by omega)
        · unfold keptI
          rw [upd_same, filt_succ, if_pos (by rw [decide_eq_true z]), nats_snoc]
      · rw [decide_eq_false z]
        refine iteF ⟨ex, ?_⟩
        unfold keptI
        rw [filt_succ, if_neg (by rw [decide_eq_false z]; decide), List.append_nil]
        exact eD
    · obtain ⟨ex, eD⟩ := h
      refine ⟨a, D, keptI is t.rs.length, t, rfl, (e1.trans ex).tbl tb, ok, eD, filt_lt, Nat.le_trans filt_len few, fun b H' e n tb' => q b H' ((e1.trans ex).trans e) ((e1.trans ex).back n) tb'⟩
/-! without, only: the indices as a star -/
def spSelR (sel : List Nat → Nat → List Nat) (C TC : Addr) : Sp := fun vs H Q _ => ∃ (a : Addr) (is : List Nat) (t : Tab), vs = .ref a :: nats is ∧ TblAt H a TC C t ∧ t.ok ∧ t.rs.length ≤ 40 ∧ is.length ≤ 1000 ∧ (∀ i ∈ is, i < t.rs.length) ∧
  ∀ b H', Ex H H' → H b = none → TblAt H' b TC C (t.pick (sel is t.rs.length)) → Q (.ref b) H'
abbrev sTOnly : Stmt := clsS_Table 20
theorem scTOnly : FnScope ["self", "indices"] ["self", "indices"] (defScope sTOnly) := ⟨rfl, rfl, rfl, by decide +kernel, rfl, by decide +kernel, by decide +kernel⟩
theorem ok_on {f : Addr} {fd : FuncData} (F : Fun K "only" "Table.only" sTOnly f fd) (Y : TblK K TC) (Oa : Dm P w K mg base TC 12 "only_all" ["self", "indices"] (spSel keptI C TC)) : FnR P w K mg base CX0 13 f (spSelR keptI C TC) := by
  obtain ⟨oc, od, kV, doc, pm, an, cdv, ct, osl, rfl, lk, hc⟩ := F.ex
  refine FnR.imp (StX.fn_star (sp := spSel keptI C TC) (ps := (["self"] : List Str)) (pv := "indices") lk hc scTOnly StX.cxUp_none (StX.bind_star1 (p1 := "self") (pv := "indices") (B := fun us => bindArgs (PySem.W.fnOf _ _ _ _ _ _ kV doc pm an cdv ct) ⟨us, []⟩) (fun _ => rfl) (fun _ _ _ => rfl)) (fun A outer s H vs Q E hr h => ?_)) fun vs H Q E h => ?_
  · have sh := h
    obtain ⟨a, p, is, t, rfl, ⟨dx, pc, pr, ps, pw, vt, fs, tf⟩, _⟩ := h
    refine ⟨_, pss_one (ps_ret (pe_meth (pv 0) Y.cls Oa.at_ Oa.G hr Oa.b .nil pass0 (pa_cons (pv 1) pa_nil))), ?_⟩
    exact ⟨_, rfl, a, dx, fs, rfl, tf.at_, tf.no _ (by decide +kernel), _, rfl, sh⟩
  · obtain ⟨a, is, t, rfl, tb, ok, f40, few, lt, q⟩ := h
    refine ⟨[.ref a], nats is, rfl, rfl, by rw [nats_len]; exact Nat.le_trans few (by decide), fun p np => ?_⟩
    have xt := Ex.new (o := .tup (nats is)) np
    exact ⟨a, p, is, t, rfl, xt.tbl tb, ok, f40, .inl upd_same, lt, fun b H' e n => q b H' (xt.trans e) (xt.back n)⟩
end
end Gl
namespace Gl
open PySem PySem.Spec PyProof.Rows L2 ClX
theorem cutV_whole {xs : List V} {lo hi : Option Int} (h : HT.sIx xs.length 0 lo = 0 ∧ HT.sIx xs.length xs.length hi = xs.length) : cutV xs lo hi = xs := by
  unfold cutV
  rw [h.1, h.2, List.drop_zero, Nat.sub_zero, List.take_length]
theorem cut_from (xs : List V) (k : Nat) (h : k ≤ xs.length) : cutV xs (some (k : Int)) none = xs.drop k := by
  unfold cutV
  rw [HT.sIx_none, HT.sIx_nat, Nat.min_eq_left h]
  exact List.take_of_length_le (by rw [List.length_drop]; omega)
section
variable {K : PySem.W.Frag} {H : Hp} {t a b : Addr} {xs ys : List V} {lo hi : Option Int} {Q : VK}
theorem slA_any (h : Rd H t (.tup xs)) (q : ∀ p H', Ex H H' → Rd H' p (.tup (cutV xs lo hi)) → Q (.ref p) H') : rSlA K (.ref t) lo hi H Q :=
  ⟨t, xs, rfl, .inl h, fun wh => q t H (Ex.refl H) (by rw [cutV_whole wh]; exact h), fun _ p np => q p _ (Ex.new np) (.inl upd_same)⟩
theorem catA_any (h1 : Rd H a (.tup xs)) (h2 : Rd H b (.tup ys)) (l : xs.length + ys.length ≤ sizeLine) (q : ∀ p H', Ex H H' → Rd H' p (.tup (xs ++ ys)) → Q (.ref p) H') : rCatA K (.ref a) (.ref b) H Q :=
  ⟨a, b, xs, ys, rfl, rfl, .inl h1, .inl h2, l, fun e => q b H (Ex.refl H) (by subst e; exact h2), fun _ e => q a H (Ex.refl H) (by rw [e, List.append_nil]; exact h1), fun _ _ p np => q p _ (Ex.new np) (.inl upd_same)⟩
end
/-- the scale's one is a weight -/
theorem one_near : ∀ {m : Ms}, m.ok → m.has m.one ∧ m.one.near ∧ Wt m m.one
  | .sums, _ => ⟨trivial, (by show (1 : Int).natAbs < 2 ^ 190; decide), (by show (0 : Int) < 1 ∧ (1 : Int) < 10 ^ 40; decide)⟩
  | .classes k, h => ⟨(by
      show (1 :: List.replicate (k - 1) (0 : Int)).length = k
      rw [List.length_cons, List.length_replicate]
      have := h.1
      omega), (fun n hn => by
      rcases List.mem_cons.mp hn with rfl | hn
      · decide
      · rw [(List.mem_replicate.mp hn).2]; decide), (fun n hn => by
      rcases List.mem_cons.mp hn with rfl | hn
      · decide
      · rw [(List.mem_replicate.mp hn).2]; decide), 1, List.mem_cons_self .., by decide⟩
  | .odds, _ => ⟨trivial, (by show 2 < 2 ^ 190 ∧ 1 < 2 ^ 190; decide), (by show 1 < 2 ∧ 2 ≤ 1000000; decide)⟩
end Gl
namespace Gl
open PySem PySem.Spec PyProof.Rows L2 ClX
abbrev sTRows : Stmt := clsS_Table 4
theorem scTRows : FnScope ["self"] ["self"] (defScope sTRows) := ⟨rfl, rfl, rfl, by decide +kernel, rfl, by decide +kernel, by decide +kernel⟩
abbrev sTWts : Stmt := clsS_Table 5
theorem scTWts : FnScope ["self"] ["self"] (defScope sTWts) := ⟨rfl, rfl, rfl, by decide +kernel, rfl, by decide +kernel, by decide +kernel⟩
abbrev sTScl : Stmt := clsS_Table 6
theorem scTScl : FnScope ["self"] ["self"] (defScope sTScl) := ⟨rfl, rfl, rfl, by decide +kernel, rfl, by decide +kernel, by decide +kernel⟩
abbrev sTTot : Stmt := clsS_Table 7
theorem scTTot : FnScope ["self"] ["self"] (defScope sTTot) := ⟨rfl, rfl, rfl, by decide +kernel, rfl, by decide +kernel, by decide +kernel⟩
abbrev sTLen : Stmt := clsS_Table 10
theorem scTLen : FnScope ["self"] ["self"] (defScope sTLen) := ⟨rfl, rfl, rfl, by decide +kernel, rfl, by decide +kernel, by decide +kernel⟩
abbrev sTEq : Stmt := clsS_Table 12
theorem scTEq : FnScope ["self", "other"] ["self", "other"] (defScope sTEq) := ⟨rfl, rfl, rfl, by decide +kernel, rfl, by decide +kernel, by decide +kernel⟩
/-- an own def under a special name of the class -/
structure Do1 (P : Program) (w : World) (K : PySem.W.Frag) (mg : Str → Option Value) (base : Heap) (C : Addr) (k : Nat) (m : Str) (ps : List Str) (sp : Sp) where
  f : Addr
  fd : FuncData
  G : FnOk P w K mg base CX0 k f fd ps sp
  o : OwnAt K C f m
  b : Binds K fd ps []
section
variable {P : Program} {w : World} {K : PySem.W.Frag} {mg : Str → Option Value} {base : Heap} {C TC : Addr} {mc : Value}
/-! the properties -/
def spTRows (C TC : Addr) : Sp := fun vs H Q _ => ∃ (a : Addr) (t : Tab), vs = [.ref a] ∧ TblAt H a TC C t ∧ ∀ p, RowsD H p t.rs → Q (.ref p) H
def spTWts (C TC : Addr) : Sp := fun vs H Q _ => ∃ (a : Addr) (t : Tab), vs = [.ref a] ∧ TblAt H a TC C t ∧ ∀ p, AmsD H p t.ws → Q (.ref p) H
def spTScl (C TC : Addr) : Sp := fun vs H Q _ => ∃ (a : Addr) (t : Tab), vs = [.ref a] ∧ TblAt H a TC C t ∧ ∀ p, SclAt H p C t.m → Q (.ref p) H
def spTTot (C TC : Addr) : Sp := fun vs H Q _ => ∃ (a : Addr) (t : Tab), vs = [.ref a] ∧ TblAt H a TC C t ∧ ∀ v, AmV H v (sumA t.m t.ws) → Q v H
theorem ok_tRows {f : Addr} {fd : FuncData} (F : Fun K "rows" "Table.rows" sTRows f fd) (Y : TblK K TC) : FnOk P w K mg base CX0 1 f fd ["self"] (spTRows C TC) := by
  refine F.ok scTRows (fun vs H Q E h => ?_) (fun cdv A outer s H vs Q E hr h => ?_)
  · obtain ⟨a, t, rfl, _⟩ := h
    rfl
  · obtain ⟨a, t, rfl, ⟨dx, pc, pr, ps, pw, vt, fs, tf⟩, q⟩ := h
    exact ⟨_, pss_one (ps_ret (pe_fld (pv 0) (by rfl))), _, rfl, a, TC, dx, fs, _, rfl, tf.at_, Y.cls, Y.nr, tf.fr, q _ tf.rs⟩
theorem ok_tWts {f : Addr} {fd : FuncData} (F : Fun K "weights" "Table.weights" sTWts f fd) (Y : TblK K TC) : FnOk P w K mg base CX0 1 f fd ["self"] (spTWts C TC) := by
  refine F.ok scTWts (fun vs H Q E h => ?_) (fun cdv A outer s H vs Q E hr h => ?_)
  · obtain ⟨a, t, rfl, _⟩ := h
    rfl
  · obtain ⟨a, t, rfl, ⟨dx, pc, pr, ps, pw, vt, fs, tf⟩, q⟩ := h
    exact ⟨_, pss_one (ps_ret (pe_fld (pv 0) (by rfl))), _, rfl, a, TC, dx, fs, _, rfl, tf.at_, Y.cls, Y.nw, tf.fw, q _ tf.ws⟩
theorem ok_tScl {f : Addr} {fd : FuncData} (F : Fun K "scale" "Table.scale" sTScl f fd) (Y : TblK K TC) : FnOk P w K mg base CX0 1 f fd ["self"] (spTScl C TC) := by
  refine F.ok scTScl (fun vs H Q E h => ?_) (fun cdv A outer s H vs Q E hr h => ?_)
  · obtain ⟨a, t, rfl, _⟩ := h
    rfl
  · obtain ⟨a, t, rfl, ⟨dx, pc, pr, ps, pw, vt, fs, tf⟩, q⟩ := h
    exact ⟨_, pss_one (ps_ret (pe_fld (pv 0) (by rfl))), _, rfl, a, TC, dx, fs, _, rfl, tf.at_, Y.cls, Y.nS, tf.fS, q _ tf.sc⟩
theorem ok_tTot {f : Addr} {fd : FuncData} (F : Fun K "total" "Table.total" sTTot f fd) (Y : TblK K TC) : FnOk P w K mg base CX0 1 f fd ["self"] (spTTot C TC) := by
  refine F.ok scTTot (fun vs H Q E h => ?_) (fun cdv A outer s H vs Q E hr h => ?_)
  · obtain ⟨a, t, rfl, _⟩ := h
    rfl
  · obtain ⟨a, t, rfl, ⟨dx, pc, pr, ps, pw, vt, fs, tf⟩, q⟩ := h
    exact ⟨_, pss_one (ps_ret (pe_fld (pv 0) (by rfl))), _, rfl, a, TC, dx, fs, _, rfl, tf.at_, Y.cls, Y.nt, tf.ft, q _ tf.tt⟩
def spTLen (C TC : Addr) : Sp := fun vs H Q _ => ∃ (a : Addr) (t : Tab), vs = [.ref a] ∧ TblAt H a TC C t ∧ Q (.int (t.rs.length : Nat)) H
theorem ok_tLen {f : Addr} {fd : FuncData} (F : Fun K "__len__" "Table.__len__" sTLen f fd) (T : Blt mg) (Y : TblK K TC) : FnOk P w K mg base CX0 1 f fd ["self"] (spTLen C TC) := by
  refine F.ok scTLen (fun vs H Q E h => ?_) (fun cdv A outer s H vs Q E hr h => ?_)
  · obtain ⟨a, t, rfl, _⟩ := h
    rfl
  · obtain ⟨a, t, rfl, ⟨dx, pc, pr, ps, pw, vt, fs, tf⟩, q⟩ := h
    obtain ⟨qs, eq, hq, hqs⟩ := tf.rs
    refine ⟨_, pss_one (ps_ret (pe_callB call_len_seq (by rfl) T.len PySem.boot_len (pa_cons (pe_fld (pv 0) (by rfl)) pa_nil))), _, rfl, a, TC, dx, fs, _, rfl, tf.at_, Y.cls, Y.nr, tf.fr, pr, _, rfl, .inr (.inl hq), ?_⟩
    rw [← eq, List.length_map] at q
    rw [List.length_map]
    exact q
/-! equal tables -/
theorem eqv_amsS : ∀ ws : List Am, PyData.eqvAll (ws.map Am.data) (ws.map Am.data) = true
  | [] => by simp only [List.map_nil, PyData.eqvAll]
  | x :: ws => by simp only [List.map_cons, PyData.eqvAll, eqv_self x, eqv_amsS ws, Bool.and_self]
theorem eqv_rowsS : ∀ rs : List (List Int), PyData.eqvAll (rs.map dRow) (rs.map dRow) = true
  | [] => by simp only [List.map_nil, PyData.eqvAll]
  | x :: rs => by simp only [List.map_cons, PyData.eqvAll, eqv_row x, eqv_rowsS rs, Bool.and_self]
theorem lay_ams : ∀ ws : List Am, PyData.canLayAll0 (ws.map Am.data) = true
  | [] => by simp only [List.map_nil, PyData.canLayAll0]
  | x :: ws => by simp only [List.map_cons, PyData.canLayAll0, Am.lay x, lay_ams ws, Bool.and_self]
theorem dep_ams : ∀ ws : List Am, PyData.depthAll (ws.map Am.data) ≤ 1
  | [] => by simp only [List.map_nil, PyData.depthAll]; decide
  | x :: ws => by simp only [List.map_cons, PyData.depthAll]; exact Nat.max_le.mpr ⟨Am.dep x, dep_ams ws⟩
theorem shaped_ams (ws : List Am) : SeqAt.shaped (.tuple (ws.map Am.data)) = true := shaped_of (by simp only [PyData.canLay0, lay_ams]) (by simp only [PyData.depth]; have := dep_ams ws; omega)
theorem shaped_rowsT (rs : List (List Int)) : SeqAt.shaped (.tuple (rs.map dRow)) = true := shaped_of (by simp only [PyData.canLay0, lay_rows]) (by simp only [PyData.depth]; have := dep_rows rs; omega)
theorem dp_rowsD {H : Hp} {p : Addr} {rs : List (List Int)} (h : RowsD H p rs) : Dp K H (.ref p) (.tuple (rs.map dRow)) := by
  obtain ⟨qs, eq, hq, hqs⟩ := h
  have := dp_refs (K := K) hqs
  rw [show (qs.map fun r => dRow r.2) = rs.map dRow by rw [← eq, List.map_map]; rfl] at this
  exact .tup (.inl hq) this
theorem dp_amsD {H : Hp} {p : Addr} {ws : List Am} (h : AmsD H p ws) : Dp K H (.ref p) (.tuple (ws.map Am.data)) := by
  obtain ⟨us, eu, hu, hus⟩ := h
  have := dp_ams (K := K) hus
  rw [show (us.map fun r => r.2.data) = ws.map Am.data by rw [← eu, List.map_map]; rfl] at this
  exact .tup (.inl hu) this
/-! reordered -/
end
end Gl
namespace Gl
open PySem PySem.Spec PyProof.Rows L2 ClX
theorem words_ok {cs : List Str} (h : Words cs) (l : cs.length ≤ 8) : ColsOk cs := by
  refine ⟨fun c hc => ?_, ?_, l⟩
  · obtain ⟨i, hi⟩ := List.getElem?_of_mem hc
    obtain ⟨d, r, e, hd, hr, sm⟩ := h i c hi
    have il := (List.getElem?_eq_some_iff.mp hi).1
    have len : c.length = r.length + 1 := by
      show c.cps.size = _
      rw [← Array.length_toList, e, List.length_cons]
    refine ⟨by omega, by omega, fun x hx => ?_⟩
    rw [e] at hx
    rcases List.mem_cons.mp hx with rfl | hx
    · unfold Small; omega
    · exact sm x hx
  · refine List.pairwise_iff_getElem.mpr fun i j hi hj lt => ?_
    obtain ⟨d, r, e, hd, _⟩ := h i _ (List.getElem?_eq_getElem hi)
    obtain ⟨d', r', e', hd', _⟩ := h j _ (List.getElem?_eq_getElem hj)
    rw [e, e']
    exact List.Lex.rel (by omega)
abbrev sWtsL : Stmt := topS 46
theorem scWtsL : FnScope ["_law_dice_here", "_law_measure", "_law_total_here", "_law_pool", "_law_turn"] ["_law_dice_here", "_law_measure", "_law_total_here"] (defScope sWtsL) := ⟨rfl, rfl, rfl, by decide +kernel, rfl, by decide +kernel, by decide +kernel⟩
abbrev sDrawn : Stmt := topS 52
theorem scDrawn : FnScope ["_law_dice_here", "_law_most", "_law_columns_here", "_law_kind", "_law_rows_here"] ["_law_dice_here", "_law_most"] (defScope sDrawn) := ⟨rfl, rfl, rfl, by decide +kernel, rfl, by decide +kernel, by decide +kernel⟩
abbrev sTabled : Stmt := topS 53
theorem scTabled : FnScope ["_law_drawn_here"] ["_law_drawn_here"] (defScope sTabled) := ⟨rfl, rfl, rfl, by decide +kernel, rfl, by decide +kernel, by decide +kernel⟩
/-- a weight that was drawn -/
def Wo (m : Ms) (H : Hp) (q : V × Am) : Prop := (m.has q.2 ∧ q.2.near ∧ Wt m q.2) ∧ AmV H q.1 q.2
theorem Wo.gro {m : Ms} {a : Addr} {H H' : Hp} {q : V × Am} (h : Wo m H q) (g : Gro a H H') (d : Dice H a) : Wo m H' q := ⟨h.1, h.2.gro g d⟩
theorem Wo.ex {m : Ms} {H H' : Hp} {q : V × Am} (h : Wo m H q) (e : Ex H H') : Wo m H' q := ⟨h.1, h.2.ex e⟩
section
variable {P : Program} {w : World} {K : PySem.W.Frag} {mg : Str → Option Value} {base : Heap} {C TC : Addr} {mc : Value}
def spWtsL : Sp := fun vs H Q _ => ∃ (a p : Addr) (m : Ms) (n : Nat), vs = [.ref a, .ref p, .int n] ∧ n ≤ 30 ∧ Dice H a ∧ MsV H p m ∧ m.ok ∧
  ∀ (l : Addr) (ps : List (V × Am)) (H' : Hp), Gro a H H' → H l = none → l ≠ a → H' l = some (.lst (ps.map fun q : V × Am => q.1)) → ps.length = n → (∀ q ∈ ps, Wo m H' q) → Q (.ref l) H'
theorem ok_wtsL {f : Addr} {fd : FuncData} (F : Fun K "_law_weights" "_law_weights" sWtsL f fd) (T : Blt mg) (Pk : DfG P w K mg base 2 "_law_pick" ["_law_dice_here", "_law_items"] spPick) (Wq : DfG P w K mg base 2 "_law_weight" ["_law_dice_here", "_law_measure"] spWgtR) : FnG P w K mg base CX0 3 f fd ["_law_dice_here", "_law_measure", "_law_total_here"] spWtsL := by
  refine okG F scWtsL (fun vs H Q E h => ?_) (fun cdv A outer s H vs Q E hr h => ?_)
  · obtain ⟨a, p, m, n, rfl, _⟩ := h
    rfl
  · obtain ⟨a, p, m, n, rfl, n30, hd, hm, mok, q⟩ := h
    have nd := scWtsL.nd
    have r2 := hr
    refine ⟨_, pss_cons (ps_asg (pe_lc (own := [("_law_turn", 4)]) (g := gName 4) (tt := tYes) rfl nd (pi_range1 rfl T.range (pa_cons pe_int pa_nil)) (blkOk_by (N := ["_law_dice_here", "_law_measure", "_law_total_here", "_law_pool", "_law_turn"]) (sc := defScope sWtsL) (by decide +kernel)) (fun _ _ _ _ _ => pg_name (i := 4) nd rfl (.inl rfl)) (fun _ _ _ _ _ => pts_nil)
          (fun _ _ _ _ _ => pe_callG Wq.G r2 (by rfl) Wq.g Wq.kp Wq.b .nil pass0 (pa_cons (pv 0) (pa_cons (pv 1) pa_nil)))) (pg_name (i := 3) nd rfl (.inr rfl)))
      (pss_one (ps_ret (pe_lc (own := [("_law_turn", 4)]) (g := gName 4) (tt := tYes) rfl nd (pi_range1 rfl T.range (pa_cons (pv 2) pa_nil)) (blkOk_by (N := ["_law_dice_here", "_law_measure", "_law_total_here", "_law_pool", "_law_turn"]) (sc := defScope sWtsL) (by decide +kernel)) (fun _ _ _ _ _ => pg_name (i := 4) nd rfl (.inl rfl)) (fun _ _ _ _ _ => pts_nil)
          (fun _ _ _ _ _ => pe_callG Pk.G r2 (by rfl) Pk.g Pk.kp Pk.b .nil pass0 (pa_cons (pv 0) (pa_cons (pe_op op_cat (pv 3) (pe_lst (pa_cons (pe_callG Wq.G r2 (by rfl) Wq.g Wq.kp Wq.b .nil pass0 (pa_cons (pv 0) (pa_cons (pv 1) pa_nil))) pa_nil))) pa_nil)))))), ?_⟩
    refine ⟨3, rfl, by decide, by decide, fun D nD => ?_⟩
    have Da : D ≠ a := hd.ne nD
    refine lc_range (n := 3) (fun i H' => ∃ ps : List (V × Am), Gro a H H' ∧ H' D = some (.lst (ps.map fun q : V × Am => q.1)) ∧ ps.length = i ∧ ∀ q ∈ ps, Wo m H' q) ⟨[], (Gro.refl hd).mut nD Da, upd_same, rfl, fun _ z => nomatch z⟩ (fun i H1 hi h => ?_) (fun H1 h => ?_)
    · obtain ⟨ps, g1, e1, l1, w1⟩ := h
      refine ⟨rfl, _, rfl, _, rfl, a, p, m, rfl, g1.di, g1.msV hd hm, mok, fun v x H2 g2 hx nx wx av => ?_⟩
      have e2 := g2.st D _ Da e1
      refine ⟨_, e2, ?_, ps ++ [(v, x)], (g1.trans g2).mut nD Da, ?_, ?_, fun q hq => ?_⟩
      · rw [List.length_map]; exact room1000 (by omega)
      · rw [upd_same, List.map_append]; rfl
      · rw [List.length_append, l1]; rfl
      · rcases List.mem_append.mp hq with hq | hq
        · have := (w1 q hq).gro g2 g1.di
          exact ⟨this.1, this.2.updL e2⟩
        · rw [List.mem_singleton.mp hq]
          exact ⟨⟨hx, nx, wx⟩, av.updL e2⟩
    obtain ⟨ps, g1, e1, l1, w1⟩ := h
    refine ⟨_, rfl, n, rfl, by omega, by omega, fun L nL => ?_⟩
    have La : L ≠ a := g1.di.ne nL
    have hL := (g1.back hd nL).1
    have DL : D ≠ L := fun e => by subst e; rw [e1] at nL; exact nomatch nL
    refine lc_range (n := n) (fun i H' => ∃ us : List (V × Am), Gro a H H' ∧ H' D = some (.lst (ps.map fun q : V × Am => q.1)) ∧ (∀ q ∈ ps, Wo m H' q) ∧ H' L = some (.lst (us.map fun q : V × Am => q.1)) ∧ us.length = i ∧ ∀ q ∈ us, Wo m H' q)
      ⟨[], g1.ex (Ex.new nL), Ex.new nL D _ e1, fun q hq => (w1 q hq).ex (Ex.new nL), upd_same, rfl, fun _ z => nomatch z⟩ (fun i H2 hi h => ?_) (fun H2 h => ?_)
    · obtain ⟨us, g2, e2, w2, f2, l2, u2⟩ := h
      refine ⟨rfl, _, rfl, _, rfl, _, rfl, _, rfl, a, p, m, rfl, g2.di, g2.msV hd hm, mok, fun v x H3 g3 hx nx wx av => ?_⟩
      have g23 := g2.trans g3
      have e3 := g3.st D _ Da e2
      have f3 := g3.st L _ La f2
      refine ⟨by show 1 ≤ sizeLine; decide, fun p4 n4 => ⟨D, p4, _, _, rfl, rfl, Ex.new n4 D _ e3, upd_same, ?_, fun p5 n5 => ?_⟩⟩
      · rw [List.length_map, l1]; show 4 ≤ sizeLine; decide
      have x4 := Ex.new (o := .lst [v]) n4
      have x5 := Ex.new (o := .lst ((ps.map fun q : V × Am => q.1) ++ [v])) n5
      have g5 := (g23.ex x4).ex x5
      refine ⟨a, p5, _, rfl, upd_same, (g23.ex x4).di.ne n5, by simp, ?_, g5.di, fun u H6 hu g6 => ?_⟩
      · rw [List.length_append, List.length_map, l1]; show 4 ≤ 1000; decide
      have g56 := g5.trans g6
      have wall : ∀ q ∈ ps ++ [(v, x)], Wo m H6 q := fun q hq => by
        rcases List.mem_append.mp hq with hq | hq
        · exact ((((w2 q hq).gro g3 g2.di).ex x4).ex x5).gro g6 g5.di
        · rw [List.mem_singleton.mp hq]
          exact ((Wo.ex (m := m) (q := (v, x)) ⟨⟨hx, nx, wx⟩, av⟩ x4).ex x5).gro g6 g5.di
      obtain ⟨r, hr', er⟩ : ∃ r ∈ ps ++ [(v, x)], r.1 = u := by
        have : u ∈ (ps ++ [(v, x)]).map fun q : V × Am => q.1 := by rw [List.map_append]; exact hu
        obtain ⟨r, h1, h2⟩ := List.mem_map.mp this
        exact ⟨r, h1, h2⟩
      subst er
      have e6 := g6.st D _ Da (x5 D _ (x4 D _ e3))
      have f6 := g6.st L _ La (x5 L _ (x4 L _ f3))
      refine ⟨_, f6, ?_, us ++ [r], g56.mut hL La, ?_, fun q hq => ?_, ?_, ?_, fun q hq => ?_⟩
      · rw [List.length_map]; exact room1000 (by omega)
      · rw [upd_ne DL]; exact e6
      · have := wall q (List.mem_append_left _ hq)
        exact ⟨this.1, this.2.updL f6⟩
      · rw [upd_same, List.map_append]; rfl
      · rw [List.length_append, l2]; rfl
      · rcases List.mem_append.mp hq with hq | hq
        · have := ((((u2 q hq).gro g3 g2.di).ex x4).ex x5).gro g6 g5.di
          exact ⟨this.1, this.2.updL f6⟩
        · rw [List.mem_singleton.mp hq]
          have := wall r hr'
          exact ⟨this.1, this.2.updL f6⟩
    obtain ⟨us, g2, e2, w2, f2, l2, u2⟩ := h
    exact q L us H2 g2 hL La f2 l2 u2
end
end Gl
namespace Gl
open PySem PySem.Spec PyProof.Rows L2 ClX
/-- what is known of a drawn table beside -/
structure Tab.fine (t : Tab) : Prop where
  few : ∀ r ∈ t.rs, ∀ n ∈ r, Few n
  wd : Words t.cs
/-- what is drawn: columns, rows, scale, weights -/
structure DrawnF (H : Hp) (p : Addr) (t : Tab) (pc pr pm pw : Addr) : Prop where
  at_ : Rd H p (.tup [.ref pc, .ref pr, .ref pm, .ref pw])
  cs : Rd H pc (.tup (t.cs.map V.str))
  rs : RowsD H pr t.rs
  ms : MsV H pm t.m
  ws : AmsD H pw t.ws
def DrawnD (H : Hp) (p : Addr) (t : Tab) : Prop := ∃ pc pr pm pw, DrawnF H p t pc pr pm pw
theorem Ex.drawn {H H' : Hp} {p : Addr} {t : Tab} (e : Ex H H') : DrawnD H p t → DrawnD H' p t := fun ⟨pc, pr, pm, pw, h⟩ => ⟨pc, pr, pm, pw, ⟨e.rd h.at_, e.rd h.cs, e.rowsD h.rs, e.rd h.ms, e.amsD h.ws⟩⟩
theorem Gro.drawn {a : Addr} {H H' : Hp} {p : Addr} {t : Tab} (e : Gro a H H') (d : Dice H a) : DrawnD H p t → DrawnD H' p t := fun ⟨pc, pr, pm, pw, h⟩ => ⟨pc, pr, pm, pw, ⟨e.rd d h.at_, e.rd d h.cs, e.rowsD d h.rs, e.rd d h.ms, e.amsD d h.ws⟩⟩
section
variable {P : Program} {w : World} {K : PySem.W.Frag} {mg : Str → Option Value} {base : Heap} {C TC : Addr} {mc : Value}
def spDrawn : Sp := fun vs H Q _ => ∃ (a : Addr) (most : Nat), vs = [.ref a, .int most] ∧ most ≤ 12 ∧ Dice H a ∧ ∀ (p : Addr) (t : Tab) (H' : Hp), t.ok → t.rs.length ≤ most → t.cs.length ≤ 4 → t.fine → H p = none → Gro a H H' → DrawnD H' p t → Q (.ref p) H'
theorem ok_drawn {f : Addr} {fd : FuncData} (F : Fun K "_law_drawn" "_law_drawn" sDrawn f fd) (T : Blt mg) (D : Dc P w K mg base) (Co : DfG P w K mg base 2 "_law_columns" ["_law_dice_here", "_law_total_here"] spColumns)
    (Sc : DfG P w K mg base 2 "_law_scale" ["_law_dice_here"] spScaleL) (Ro : DfG P w K mg base 3 "_law_rows" ["_law_dice_here", "_law_columns_here", "_law_total_here"] spRowsL) (Wl : DfG P w K mg base 3 "_law_weights" ["_law_dice_here", "_law_measure", "_law_total_here"] spWtsL) : FnG P w K mg base CX0 4 f fd ["_law_dice_here", "_law_most"] spDrawn := by
  refine okG F scDrawn (fun vs H Q E h => ?_) (fun cdv A outer s H vs Q E hr h => ?_)
  · obtain ⟨a, most, rfl, _⟩ := h
    rfl
  · obtain ⟨a, most, rfl, m12, hd, q⟩ := h
    have nd := scDrawn.nd
    have r1 := hr.mono (show 1 ≤ 3 by decide)
    have r2 := hr.mono (show 2 ≤ 3 by decide)
    have r3 := hr
    refine ⟨_, pss_cons (ps_par (i := 2) (j := 3) rfl nd rfl rfl (by decide) rfl rfl (pa_cons (pe_callG Co.G r2 (by rfl) Co.g Co.kp Co.b .nil pass0 (pa_cons (pv 0) (pa_cons (pe_op op_add pe_int (pe_callG D.G r1 (by rfl) D.g D.kp D.b .nil pass0 (pa_cons (pv 0) (pa_cons pe_int pa_nil)))) pa_nil))) (pa_cons (pe_callG Sc.G r2 (by rfl) Sc.g Sc.kp Sc.b .nil pass0 (pa_cons (pv 0) pa_nil)) pa_nil)) (by rfl))
      (pss_cons (ps_set (i := 4) nd rfl (.inl rfl) (pe_callTy call_tupleF (by rfl) T.tuple (by decide +kernel) (pa_cons (pe_callG Ro.G r3 (by rfl) Ro.g Ro.kp Ro.b .nil pass0 (pa_cons (pv 0) (pa_cons (pv 2) (pa_cons (pe_callG D.G r1 (by rfl) D.g D.kp D.b .nil pass0 (pa_cons (pv 0) (pa_cons (pe_op op_add (pv 1) pe_int) pa_nil))) pa_nil)))) pa_nil)))
      (pss_one (ps_ret (pe_tup (pa_cons (pv 2) (pa_cons (pv 4) (pa_cons (pv 3) (pa_cons (pe_callTy call_tupleF (by rfl) T.tuple (by decide +kernel) (pa_cons (pe_callG Wl.G r3 (by rfl) Wl.g Wl.kp Wl.b .nil pass0 (pa_cons (pv 0) (pa_cons (pv 3) (pa_cons (pe_callB call_len_seq (by rfl) T.len PySem.boot_len (pa_cons (pv 4) pa_nil)) pa_nil)))) pa_nil)) pa_nil)))))))), ?_⟩
    refine ⟨_, rfl, _, rfl, a, 4, rfl, by decide, by decide, hd, fun v H1 v0 v1 g1 => ⟨_, _, rfl, rfl, ?_⟩⟩
    obtain ⟨k, rfl⟩ : ∃ k : Nat, v = k := ⟨v.toNat, by omega⟩
    refine ⟨a, 1 + k, by rw [Int.natCast_add]; rfl, by omega, g1.di, fun cs pc H2 wd lc g2 np tp => ?_⟩
    have co : ColsOk cs := words_ok wd (by omega)
    have g12 := g1.trans g2
    refine ⟨_, rfl, a, rfl, g12.di, fun m pm H3 mok g3 hm => ⟨_, _, rfl, ?_⟩⟩
    have g13 := g12.trans g3
    have hc3 := g3.rd g12.di tp.rd
    refine ⟨_, rfl, _, rfl, _, rfl, _, rfl, _, _, rfl, rfl, a, (most : Int) + 1, rfl, by omega, Nat.lt_of_le_of_lt (show ((most : Int) + 1).natAbs ≤ 13 by omega) (by decide), g13.di, fun v H4 u0 u1 g4 => ?_⟩
    have g14 := g13.trans g4
    have hc4 := g4.rd g13.di hc3
    obtain ⟨n, rfl⟩ : ∃ n : Nat, v = n := ⟨v.toNat, by omega⟩
    refine ⟨a, pc, cs, n, rfl, by omega, g14.di, ⟨co, hc4⟩, fun e => by rw [e] at lc; exact absurd lc (by show ¬ 0 = 1 + k; omega), fun l rs H5 g5 nl la ln lr => ⟨l, _, rfl, .inl (.inl ln.at_), fun t1 o1 nt1 _ => ?_⟩⟩
    have g15 := g14.trans g5
    have x1 := Ex.new (o := .frz o1 (.tup (rs.map fun r => V.ref r.1))) nt1
    have g6 := g15.ex x1
    have rd1 : RowsD (upd H5 t1 (.frz o1 (.tup (rs.map fun r => V.ref r.1)))) t1 (rs.map (·.2)) := ⟨rs, rfl, .inr ⟨o1, upd_same⟩, fun r hr => x1.rd (ln.row r hr).1⟩
    have m6 : MsV (upd H5 t1 (.frz o1 (.tup (rs.map fun r => V.ref r.1)))) pm m := x1.rd (g5.msV g14.di (g4.msV g13.di hm))
    have hc6 := x1.rd (g5.rd g14.di hc4)
    refine ⟨_, rfl, _, rfl, _, rfl, _, rfl, _, rfl, _, rfl, t1, _, rfl, .inr (.inl (.inr ⟨o1, upd_same⟩)), a, pm, m, n, by rw [List.length_map, lr]; rfl, by omega, g6.di, m6, mok, fun L us H7 g7 nL La eL lu wo => ⟨L, _, rfl, .inl (.inl eL), fun t2 o2 nt2 _ => ⟨by show 4 ≤ sizeLine; decide, fun t3 nt3 => ?_⟩⟩⟩
    have x2 := Ex.new (o := .frz o2 (.tup (us.map fun q : V × Am => q.1))) nt2
    have x3 := Ex.new (o := .tup [.ref pc, .ref t1, .ref pm, .ref t2]) nt3
    have x23 := x2.trans x3
    have g8 := (g6.trans g7).ex x23
    refine q t3 ⟨cs, rs.map (·.2), m, us.map (·.2)⟩ _ ⟨co, by show 1 ≤ cs.length; omega, fun r hr => ?_, ?_, ?_, mok, ?_, fun x hx => ?_⟩ ?_ (by show cs.length ≤ 4; omega) ⟨fun r hr => ?fw, wd⟩ ?_ g8 ⟨pc, t1, pm, t2, ⟨.inl upd_same, x23.rd (g7.rd g6.di hc6), x23.rowsD (g7.rowsD g6.di rd1), x23.rd (g7.rd g6.di m6), ⟨us, rfl, x3.rd (.inr ⟨o2, upd_same⟩), fun r hr => ((wo r hr).2).ex x23⟩⟩⟩
    · obtain ⟨z, hz, rfl⟩ := List.mem_map.mp hr
      exact (ln.row z hz).2.1
    · show (rs.map (·.2)).length ≤ 200
      rw [List.length_map]; omega
    · refine fit_of (by show (us.map (·.2)).length ≤ 40; rw [List.length_map]; omega) fun x hx => ?_
      obtain ⟨z, hz, rfl⟩ := List.mem_map.mp hx
      exact (wo z hz).1.2.1
    · show (us.map (·.2)).length = (rs.map (·.2)).length
      rw [List.length_map, List.length_map]; omega
    · obtain ⟨z, hz, rfl⟩ := List.mem_map.mp hx
      exact (wo z hz).1
    · show (rs.map (·.2)).length ≤ most
      rw [List.length_map]; omega
    case fw =>
      obtain ⟨z, hz, rfl⟩ := List.mem_map.mp hr
      exact (ln.row z hz).2.2
    · exact (((g1.trans g2).trans g3).trans ((g4.trans g5).ex x1) |>.trans g7).ex (x2) |>.back hd nt3 |>.1
/-- the table of what was drawn -/
def spTabled (C TC : Addr) : Sp := fun vs H Q _ => ∃ (p : Addr) (t : Tab), vs = [.ref p] ∧ DrawnD H p t ∧ t.ok ∧ ∀ b H', Ex H H' → H b = none → TblAt H' b TC C t → Q (.ref b) H'
theorem ok_tabled {f : Addr} {fd : FuncData} (F : Fun K "_law_tabled" "_law_tabled" sTabled f fd) (Of : OfD P w K mg base C TC mc) (Md : DfG P w K mg base 4 "_law_scaled" ["_law_kind"] (spMadeL C)) : FnG P w K mg base CX0 10 f fd ["_law_drawn_here"] (spTabled C TC) := by
  refine okG F scTabled (fun vs H Q E h => ?_) (fun cdv A outer s H vs Q E hr h => ?_)
  · obtain ⟨p, t, rfl, _⟩ := h
    rfl
  · obtain ⟨p, t, rfl, ⟨pc, pr, pm, pw, h⟩, ok, q⟩ := h
    have r4 := hr.mono (show 4 ≤ 9 by decide)
    refine ⟨_, pss_one (ps_ret (pe_cmethK (pe_glob (v := .ref TC) (by rfl) Of.g rfl) Of.rd Of.at_ Of.G hr.rm pass0 (pa_cons (pe_ix ix_tup (pv 0) pe_int (fun _ _ => rfl)) (pa_cons (pe_ix ix_tup (pv 0) pe_int (fun _ _ => rfl)) pa_nil))
      (pk_cons (pe_callG Md.G r4 (by rfl) Md.g Md.kp Md.b .nil pass0 (pa_cons (pe_ix ix_tup (pv 0) pe_int (fun _ _ => rfl)) pa_nil)) (pk_cons (pe_ix ix_tup (pv 0) pe_int (fun _ _ => rfl)) pk_nil)))), ?_⟩
    refine ⟨rfl, _, rfl, p, _, 0, _, rfl, rfl, .inl h.at_, rfl, _, rfl, p, _, 1, _, rfl, rfl, .inl h.at_, rfl, _, rfl, p, _, 2, _, rfl, rfl, .inl h.at_, rfl, pm, t.m, rfl, h.ms, ok.mok, fun g H1 e1 ng sg => ?_⟩
    exact ⟨_, rfl, p, _, 3, _, rfl, rfl, .inl (e1.rd h.at_), rfl, rfl, pc, pr, .ref g, .ref pw, t, rfl, rfl, ok, e1.rd h.cs, e1.rowsD h.rs, .inl ⟨g, rfl, sg⟩, .inl ⟨pw, rfl, e1.amsD h.ws⟩, fun b H' e n tb => q b H' (e1.trans e) (e1.back n) tb⟩
end
end Gl
/-! zip of three tuples -/
namespace Gl
open PySem PySem.Spec PyProof.Rows L2 RZ
/-- three tuples as they stand at each turn, the items in new triples -/
def It3T (K : PySem.W.Frag) (a b c : Addr) : It :=
  ⟨fun i H => ∃ (xs ys zs : List V) (x y z : V), SqT K H a xs ∧ SqT K H b ys ∧ SqT K H c zs ∧ xs[i]? = some x ∧ ys[i]? = some y ∧ zs[i]? = some z,
    fun i H v H' => ∃ T x y z, v = .ref T ∧ H T = none ∧ H' = upd H T (.tup [x, y, z]) ∧ (∀ xs, SqT K H a xs → xs[i]? = some x) ∧ (∀ ys, SqT K H b ys → ys[i]? = some y) ∧ ∀ zs, SqT K H c zs → zs[i]? = some z,
    fun i H => ∃ xs ys zs : List V, SqT K H a xs ∧ SqT K H b ys ∧ SqT K H c zs ∧ i ≤ xs.length ∧ i ≤ ys.length ∧ i ≤ zs.length ∧ (i = xs.length ∨ i = ys.length ∨ i = zs.length)⟩
theorem turn_zip3T {P : Program} {w : World} {K : PySem.W.Frag} {elts : List Expr} {kk : Nat} {tpos : Pos} {a b c z TI TO i1 i2 i3 : Addr} (D : ZipSep3 z TI TO i1 i2 i3 [i1, a] [i2, b] [i3, c]) :
    Turn P w K (.Tuple elts kk tpos) (It3T K a b c) [z, TI, TO, i1, i2, i3] z (fun i h => IsZip h z TI TO .none ∧ IsTupOf3 h TI (.ref i1) (.ref i2) (.ref i3) ∧ (∃ x y u, IsTupOf3 h TO x y u) ∧ h.IsTupleIter i1 a i ∧ h.IsTupleIter i2 b i ∧ h.IsTupleIter i3 c i ∧ a ≠ i1 ∧ b ≠ i2 ∧ c ≠ i3) where
  mem := by simp
  obj := fun i h st d hd => by
    obtain ⟨hz, hTI, ⟨x, y, u, hTO⟩, ⟨o1, e1, _, d1⟩, ⟨o2, e2, _, d2⟩, ⟨o3, e3, _, d3⟩, _⟩ := st
    have e' : d = z ∨ d = TI ∨ d = TO ∨ d = i1 ∨ d = i2 ∨ d = i3 := by simpa using hd
    rcases e' with q | q | q | q | q | q
    · rw [q]; exact ⟨_, hz, fun v q => nomatch q⟩
    · rw [q]; exact ⟨_, hTI, fun v q => nomatch q⟩
    · rw [q]; exact ⟨_, hTO, fun v q => nomatch q⟩
    · rw [q]; exact ⟨o1, e1, fun v q => by rw [d1] at q; cases q⟩
    · rw [q]; exact ⟨o2, e2, fun v q => by rw [d2] at q; cases q⟩
    · rw [q]; exact ⟨o3, e3, fun v q => by rw [d3] at q; cases q⟩
  keep := fun i h h' st k => by
    obtain ⟨hz, hTI, ⟨x, y, u, hTO⟩, h1, h2, h3, n1, n2, n3⟩ := st
    exact ⟨k z (by simp) _ hz, k TI (by simp) _ hTI, ⟨x, y, u, k TO (by simp) _ hTO⟩, h1.at fun o q => k i1 (by simp) o q, h2.at fun o q => k i2 (by simp) o q, h3.at fun o q => k i3 (by simp) o q, n1, n2, n3⟩
  item := by
    intro X hP hw hK hc i pins s σ H E I hf st hg
    subst hP hw hK
    obtain ⟨hz, hTI, ⟨x0, y0, u0, hTO⟩, h1, h2, h3, n1, n2, n3⟩ := st
    obtain ⟨xs, ys, zs, x, y, u, hqx, hqy, hqz, hx, hy, hu⟩ := hg
    obtain ⟨its, rv, p, _⟩ := I.tuple hqx
    obtain ⟨its2, rv2, p2, _⟩ := I.tuple hqy
    obtain ⟨its3, rv3, p3, _⟩ := I.tuple hqz
    obtain ⟨v1, hv1, r1⟩ := rv.get hx
    obtain ⟨v2, hv2, r2⟩ := rv2.get hy
    obtain ⟨v3, hv3, r3⟩ := rv3.get hu
    have hzl : z < s.heap.objs.size := Heap.lt_size hz
    have D1 := Draws.tuple (prog := X.prog) (w := X.w) (A := X.A.in1) (I.ok.hd hc) i1 a n1 its.toArray
    have D2 := Draws.tuple (prog := X.prog) (w := X.w) (A := X.A.in1) (I.ok.hd hc) i2 b n2 its2.toArray
    have D3 := Draws.tuple (prog := X.prog) (w := X.w) (A := X.A.in1) (I.ok.hd hc) i3 c n3 its3.toArray
    have l1 : i < its.toArray.size := by have := (List.getElem?_eq_some_iff.mp hv1).1; simpa using this
    have l2 : i < its2.toArray.size := by have := (List.getElem?_eq_some_iff.mp hv2).1; simpa using this
    have l3 : i < its3.toArray.size := by have := (List.getElem?_eq_some_iff.mp hv3).1; simpa using this
    refine wpAny_pyNext_zipD3_item D D1 D2 D3 hz hTI hTO ⟨h1, p⟩ ⟨h2, p2⟩ ⟨h3, p3⟩ l1 l2 l3 fun w1 w2 w3 h' tk e1 e2 e3 z' TO' h1' h2' h3' hT hsz hk => ?_
    obtain rfl : v1 = w1 := by
      have e' : its[i]? = some w1 := by simpa using e1
      exact Option.some.inj (hv1.symm.trans e')
    obtain rfl : v2 = w2 := by
      have e' : its2[i]? = some w2 := by simpa using e2
      exact Option.some.inj (hv2.symm.trans e')
    obtain rfl : v3 = w3 := by
      have e' : its3[i]? = some w3 := by simpa using e3
      exact Option.some.inj (hv3.symm.trans e')
    refine ⟨_, rfl, wpAny_letOwnedTupleGo_zip (s := { s with heap := h', toks := tk }) z' fun h'' z'' sb => ?_⟩
    have hT2 : h''.get? s.heap.objs.size = some { cls := .type "tuple", data := .seq #[v1, v2, v3] } := (sb.2 _ (Nat.ne_of_gt hzl)).trans hT
    have new : ObjOk X.prog X.w (upd H s.heap.objs.size (.tup [x, y, u])) h'' s.heap.objs.size (.tup [x, y, u]) :=
      ⟨by show 3 ≤ sizeLine; decide, [v1, v2, v3], .cons r1 (.cons r2 (.cons r3 .nil)), ⟨_, hT2, rfl, _, rfl⟩⟩
    have I1 : Inv X pins σ (upd H s.heap.objs.size (.tup [x, y, u])) { s with heap := h'', toks := tk } :=
      I.turnedNew (t' := tk) (ch := [z, TI, TO, i1, i2, i3]) (fun c o hb q => (sb.2 c (fun q' => hb (by simp [q']))).trans (hk c o (fun q' => hb (by simp [q'])) (fun q' => hb (by simp [q'])) (fun q' => hb (by simp [q'])) (fun q' => hb (by simp [q'])) (fun q' => hb (by simp [q'])) q)) hf (Nat.le_refl _) new
    refine ⟨.ref s.heap.objs.size, _, I1, rfl, ⟨_, x, y, u, rfl, I.hok.fresh (Nat.le_refl _), rfl, fun l hl => by rw [I.tuple_inj hl hqx]; exact hx, fun l hl => by rw [I.tuple_inj hl hqy]; exact hy, fun l hl => by rw [I.tuple_inj hl hqz]; exact hu⟩, ⟨z'', ?_, ⟨v1, v2, v3, ?_⟩, ?_, ?_, ?_, n1, n2, n3⟩, fun d hdm => ?_⟩
    · exact (sb.2 _ D.TIz).trans (hk _ _ D.TIz D.TITO D.TIi1 D.TIi2 D.TIi3 hTI)
    · exact (sb.2 _ D.TOz).trans TO'
    · exact h1'.1.at fun o q => (sb.2 _ (Ne.symm D.zi1)).trans q
    · exact h2'.1.at fun o q => (sb.2 _ (Ne.symm D.zi2)).trans q
    · exact h3'.1.at fun o q => (sb.2 _ (Ne.symm D.zi3)).trans q
    · have hlt : d < s.heap.objs.size := by
        have e' : d = z ∨ d = TI ∨ d = TO ∨ d = i1 ∨ d = i2 ∨ d = i3 := by simpa using hdm
        rcases e' with q | q | q | q | q | q
        · rw [q]; exact hzl
        · rw [q]; exact Heap.lt_size hTI
        · rw [q]; exact Heap.lt_size hTO
        · rw [q]; obtain ⟨_, e1, _⟩ := h1; exact Heap.lt_size e1
        · rw [q]; obtain ⟨_, e2, _⟩ := h2; exact Heap.lt_size e2
        · rw [q]; obtain ⟨_, e3, _⟩ := h3; exact Heap.lt_size e3
      rw [upd_ne (Nat.ne_of_lt hlt)]
      exact (hf d hdm).1
  done := by
    intro X hP hw hK hc i pins s σ H E I hf st hg
    subst hP hw hK
    obtain ⟨hz, hTI, ⟨x0, y0, u0, hTO⟩, h1, h2, h3, n1, n2, n3⟩ := st
    obtain ⟨xs, ys, zs, hqx, hqy, hqz, le1, le2, le3, hend⟩ := hg
    obtain ⟨its, rv, p, _⟩ := I.tuple hqx
    obtain ⟨its2, rv2, p2, _⟩ := I.tuple hqy
    obtain ⟨its3, rv3, p3, _⟩ := I.tuple hqz
    have l1 : xs.length = its.toArray.size := rv.length.trans (by simp)
    have l2 : ys.length = its2.toArray.size := rv2.length.trans (by simp)
    have l3 : zs.length = its3.toArray.size := rv3.length.trans (by simp)
    have D1 := Draws.tuple (prog := X.prog) (w := X.w) (A := X.A.in1) (I.ok.hd hc) i1 a n1 its.toArray
    have D2 := Draws.tuple (prog := X.prog) (w := X.w) (A := X.A.in1) (I.ok.hd hc) i2 b n2 its2.toArray
    have D3 := Draws.tuple (prog := X.prog) (w := X.w) (A := X.A.in1) (I.ok.hd hc) i3 c n3 its3.toArray
    refine wpAny_pyNext_zipD3_end D D1 D2 D3 hz hTI hTO ⟨h1, p⟩ ⟨h2, p2⟩ ⟨h3, p3⟩ (l1 ▸ le1) (l2 ▸ le2) (l3 ▸ le3) (by rw [← l1, ← l2, ← l3]; exact hend) fun h' tk hk => ⟨rfl, I.turnedL (t' := tk) (ch := [z, TI, TO, i1, i2, i3]) (fun c o hb q =>
      hk c o (fun q' => hb (by simp [q'])) (fun q' => hb (by simp [q'])) (fun q' => hb (by simp [q'])) (fun q' => hb (by simp [q'])) (fun q' => hb (by simp [q'])) q) hf⟩
  self := fun A i s Q E st h => wpAny_pyIter_zip st.1 h
theorem vals3' {x y z : V} {us : List Value} (r : Vals [x, y, z] us) : ∃ u v w, us = [u, v, w] ∧ RelV x u ∧ RelV y v ∧ RelV z w := by
  cases r with
  | cons r rr =>
    cases rr with
    | cons r' rr =>
      cases rr with
      | cons r'' rr =>
        cases rr
        exact ⟨_, _, _, rfl, r, r', r''⟩
def iZip3T (K : PySem.W.Frag) (ta : TA) : TI := fun σ H R => ta σ H fun vs H1 => ∃ a b c xs ys zs, vs = [.ref a, .ref b, .ref c] ∧ SqT K H1 a xs ∧ SqT K H1 b ys ∧ SqT K H1 c zs ∧ R (It3T K a b c) H1
theorem pi_zip3T {X : Cx} {e e2 e3 : Expr} {ta : TA} {p pos tpos : Pos} {elts : List Expr} {kk : Nat} (hg : Gl X "zip") (hm : X.mg "zip" = none) (ha : PA X [e, e2, e3] ta)
    (hs : starEach [e, e2, e3] X.env = (false, eval e X.env) :: starEach [e2, e3] X.env := by rfl) (hpl : (backTo pos (starEach [e2, e3] X.env)).any (·.1) = false := by rfl) :
    PI X (.Tuple elts kk tpos) (.Call (.Name "zip" p) [e, e2, e3] [] pos) (iZip3T X.K ta) := by
  refine ⟨fun pins s σ H R I h => ?_⟩
  refine Call_ (ld_blt I hg hm PyProof.Rows.boot_zip (PyProof.Rows.callWith_type1 (thn (ha.run pos pins s σ H _ I h) fun us s1 ⟨vs, H1, I1, r1, q1⟩ => ?_) hs hpl))
  obtain ⟨a, b, c, xs, ys, zs, ex, hqx, hqy, hqz, q⟩ := q1
  subst ex
  obtain ⟨u1, u2, u3, rfl, r, r', r''⟩ := vals3' r1
  obtain rfl : u1 = Value.ref a := r
  obtain rfl : u2 = Value.ref b := r'
  obtain rfl : u3 = Value.ref c := r''
  · obtain ⟨its, rv, p1, _⟩ := I1.tuple hqx
    obtain ⟨its2, rv2, p2, _⟩ := I1.tuple hqy
    obtain ⟨its3, rv3, p3, _⟩ := I1.tuple hqz
    have al : a < s1.heap.objs.size := let ⟨_, z, _⟩ := (show s1.heap.IsTuple a its.toArray from p1); Heap.lt_size z
    have bl : b < s1.heap.objs.size := let ⟨_, z, _⟩ := (show s1.heap.IsTuple b its2.toArray from p2); Heap.lt_size z
    have cl : c < s1.heap.objs.size := let ⟨_, z, _⟩ := (show s1.heap.IsTuple c its3.toArray from p3); Heap.lt_size z
    refine zip_begins3 (begins_tuple a its.toArray) (begins_tuple b its2.toArray) (begins_tuple c its3.toArray) p1 p2 p3 fun h' hz hTI hTO h1 h2 h3 hsz hk => wpAny_pyIter_zip hz ?_
    have I2 : Inv X pins σ H1 { s1 with heap := h' } := I1.kept (t' := s1.toks) hk
    have S := zip_sep3 (N := s1.heap.objs.size) (fp1 := [a]) (fp2 := [b]) (fp3 := [c]) (fun d hd => by rw [List.mem_singleton.mp hd]; exact al) (fun d hd => by rw [List.mem_singleton.mp hd]; exact bl) (fun d hd => by rw [List.mem_singleton.mp hd]; exact cl)
    refine ⟨s1.heap.objs.size + 5, [s1.heap.objs.size + 5, s1.heap.objs.size + 3, s1.heap.objs.size + 4, s1.heap.objs.size, s1.heap.objs.size + 1, s1.heap.objs.size + 2], _, _, H1, rfl, I2, turn_zip3T S, ⟨hz, hTI, ⟨_, _, _, hTO⟩, ⟨_, h1, rfl, rfl⟩, ⟨_, h2, rfl, rfl⟩, ⟨_, h3, rfl, rfl⟩, Nat.ne_of_lt al, Nat.ne_of_lt (Nat.lt_succ_of_lt bl), Nat.ne_of_lt (Nat.lt_succ_of_lt (Nat.lt_succ_of_lt cl))⟩, fun d hdm => ?_, q⟩
    have e' : d = s1.heap.objs.size + 5 ∨ d = s1.heap.objs.size + 3 ∨ d = s1.heap.objs.size + 4 ∨ d = s1.heap.objs.size ∨ d = s1.heap.objs.size + 1 ∨ d = s1.heap.objs.size + 2 := by simpa using hdm
    have hle : s1.heap.objs.size ≤ d := by
      rcases e' with z | z | z | z | z | z
      · rw [z]; exact Nat.le_add_right _ _
      · rw [z]; exact Nat.le_add_right _ _
      · rw [z]; exact Nat.le_add_right _ _
      · rw [z]; exact Nat.le_refl _
      · rw [z]; exact Nat.le_add_right _ _
      · rw [z]; exact Nat.le_add_right _ _
    exact I1.fpOk hle (I1.hok.fresh hle)
section
variable {K : PySem.W.Frag} {a b c : Addr} {xs ys zs : List V}
def YTrip (f g h : Nat → Option V) : Nat → Hp → V → Hp → Prop := fun i H v H' => ∃ T x y z, v = .ref T ∧ H T = none ∧ H' = upd H T (.tup [x, y, z]) ∧ f i = some x ∧ g i = some y ∧ h i = some z
theorem walk_zip3T {n : Nat} (h1 : xs.length = n) (h2 : ys.length = n) (h3 : zs.length = n) : Walk (It3T K a b c) n (fun H => SqT K H a xs ∧ SqT K H b ys ∧ SqT K H c zs) (YTrip (fun i => xs[i]?) (fun i => ys[i]?) (fun i => zs[i]?)) := by
  constructor
  · intro i H hi ⟨q1, q2, q3⟩
    exact ⟨xs, ys, zs, xs[i], ys[i], zs[i], q1, q2, q3, List.getElem?_eq_getElem (by omega), List.getElem?_eq_getElem (by omega), List.getElem?_eq_getElem (by omega)⟩
  · intro H ⟨q1, q2, q3⟩
    exact ⟨xs, ys, zs, q1, q2, q3, by omega, by omega, by omega, by omega⟩
  · rintro i H v H' _ ⟨q1, q2, q3⟩ ⟨T, x, y, z, h1, h2, h3, h4, h5, h6⟩
    exact ⟨T, x, y, z, h1, h2, h3, h4 xs q1, h5 ys q2, h6 zs q3⟩
end
end Gl
/-! x in a tuple: data of any depth, or an instance with an == of its own -/
namespace Gl
open PySem PySem.Spec PyProof.Rows L2
open PySem.SeqAt
open AutoSeq1 (wpAny_loadPart')
open MeetsSeq MeetsSeq2 MeetsSeq3 SeqRoads2
section
variable {prog : Program} {w : World} {A : Around} {R : Result → Shared → Prop} {E : Value → Shared → Prop} {s : Shared} {K : PySem.W.Frag} {C L f : Addr} {h₀ : Heap} {m : Str → Option Value}
theorem tuple_containsG (l : Addr) (items : Array Value) (n : Nat) (dd : Option Addr) (sl : Array (Option Value)) (x : Value) (I : Shared → Prop)
    (turn : ∀ y, y ∈ items → ∀ s, I s → wpAny (model prog w) A.in1 (eqBool y x) (fun r s' => r = false ∧ I s') (fun e s' => R (.error e) s') s)
    (fin : ∀ s, I s → R (.ok (.ret (.bool false))) s) {s : Shared} (hl : s.heap.get? l = some { cls := .type "tuple", dict := dd, data := .seq items n, slots := sl }) (h : I s) :
    wpAny (model prog w) A.in1 (Builtin.«tuple.__contains__» ⟨[.ref l, x], []⟩) (GQ.FinOf prog w A R) (fun e s' => R (.error e) s') s := by
  have h0 := h
  obtain ⟨hp, g, d, tk, os⟩ := s
  wp_walk using wpAny_loadPart' hl, wpAny_forIn_array _ (fun rest b s' => b.1 = none ∧ (∀ y, y ∈ rest → y ∈ items) ∧ I s') _
  case turn =>
    rintro y rest b s' ⟨hb, hmem, hI⟩
    refine wpAny_bind (wpAny_mono (turn y (hmem y (List.mem_cons_self ..)) s' hI) (fun r s2 q2 => ?_) fun _ _ x => x)
    obtain ⟨hr, q2⟩ := q2
    subst hr
    wp_walk
    exact ⟨rfl, fun z hz => hmem z (List.mem_cons_of_mem _ hz), q2⟩
  case fin =>
    rintro ⟨b1, b2⟩ s' ⟨hb, -, hI⟩
    simp only at hb
    subst hb
    have hR : R (.ok (.ret (.bool false))) s' := fin s' hI
    wp_walk
    exact hR
  case h =>
    exact ⟨rfl, fun y hy => by simpa using hy, h0⟩
theorem tuple_eq_declines (l a : Addr) (items : Array Value) (n : Nat) (dd : Option Addr) (sl : Array (Option Value)) {ox : Obj} {od : Option Obj} (X : K.In s.heap) (I : PySem.W.InstAt s.heap a ox C od) (hs : PySem.W.subIn K (.ref C) (.type "tuple") = some false)
    (hl : s.heap.get? l = some { cls := .type "tuple", dict := dd, data := .seq items n, slots := sl }) (h : R (.ok (.ret .notImplemented)) s) :
    wpAny (model prog w) A.in1 (Builtin.«tuple.__eq__» ⟨[.ref l, .ref a], []⟩) (GQ.FinOf prog w A R) (fun e s' => R (.error e) s') s := by
  have ty := I.type (M := model prog w)
  have su := PySem.W.looks_subIn (M := model prog w) X hs
  obtain ⟨hp, g, d, tk, os⟩ := s
  wp_walk
  refine PySem.wpAny_loadPart' I.at_ (wpAny_pure ?_)
  rw [I.cls]
  refine su.here ?_
  rw [if_pos (by decide)]
  wp_walk
  exact h
/-- a tuple == an instance whose own == says no -/
theorem rc_tup_inst {l a : Addr} {items : Array Value} {Q : Value → Shared → Prop} {ox : Obj} {od : Option Obj} (hu : A.units < cLine) (Fm : Fr h₀ L s.heap m) (X₀ : K.In h₀) (I : PySem.W.InstAt s.heap a ox C od) (hl : s.heap.IsTuple l items)
    (hs : PySem.W.subIn K (.ref C) (.type "tuple") = some false) (he : PySem.W.findIn K (.ref C) "__eq__" = some (some (.ref f))) (hf : PySem.W.isFn K (.ref f) = true)
    (h : wpAny (model prog w) A (call (.ref f) [.ref a, .ref l]) (fun v s' => ∃ r, v = .bool r ∧ Q (.bool r) s') E s) : wpAny (model prog w) A (richCompare .Eq (.ref l) (.ref a)) Q E s := by
  have X := X₀.keeps Fm.keep
  obtain ⟨⟨cls, dd, data, sl⟩, ho, hc, n, hd⟩ := id hl
  simp only at hc hd
  subst hc hd
  have T : s.TypeIs (.ref l) "tuple" := ⟨_, ho, rfl⟩
  unfold richCompare
  simp only [oneThing_ref]
  refine wpAny_holding (wpAny_bind (wpAny_cRoomFor hu ?_))
  refine wpAny_bind (wpAny_typeOf T (wpAny_bind (I.type.here ?_)))
  rw [if_pos (show (Value.type "tuple" != Value.ref C) = true from rfl)]
  refine wpAny_bind ((PySem.W.looks_subIn X hs).here ?_)
  simp only [Bool.false_eq_true, if_false, Bool.not_false, if_true]
  refine wpAny_bind (m := tryCompare (.ref l) _ (.ref a)) (wpAny_tryCompare_declines T F.slot_tuple_eq (GQ.call_here F.slot_tuple_eq T F.entry_tuple_eq (F.args_tuple_eq_2 _ _) (tuple_eq_declines (R := wants _ E) l a items n dd sl X I hs ho ⟨rfl, ?_⟩)))
  refine wpAny_bind (m := tryCompare (.ref a) _ (.ref l)) ?_
  unfold tryCompare
  refine wpAny_bind (PySem.W.ifBound_K X I he hf (wpAny_mono h (fun v s' ⟨r, e, q⟩ => ?_) fun _ _ e => e))
  subst e
  exact wpAny_pure (wpAny_pure q)
end
section
variable {X : Cx} {CX : CXT} {C f : Addr} {n : Nat} {fd : FuncData} {ps : List Str} {sp : Sp} {E : XK}
theorem vals_mem : ∀ {xs : List V} {us : List Value} {u : Value}, Vals xs us → u ∈ us → ∃ x ∈ xs, RelV x u
  | _, _, _, .nil, h => nomatch h
  | _, _, _, .cons r t, h => by
    rcases List.mem_cons.mp h with rfl | h
    · exact ⟨_, List.mem_cons_self .., r⟩
    · obtain ⟨y, hy, ry⟩ := vals_mem t h
      exact ⟨y, List.mem_cons_of_mem _ hy, ry⟩
/-- x in a tuple, both data -/
def rInT (K : PySem.W.Frag) : R2 := fun x y H Q => ∃ d ds, Dp K H x d ∧ Dp K H y (.tuple ds) ∧ SeqAt.shaped d = true ∧ SeqAt.shaped (.tuple ds) = true ∧ Q (.bl (ds.any fun z => PyData.eqv z d)) H
theorem op_inT (hu : X.A.units + 65 < cLine) : OpR X (compareOp .In) (rInT X.K) := by
  intro pins s σ H x y v u Q I rx ry h
  obtain ⟨d, ds, hd, he, sd, se, q⟩ := h
  obtain ⟨as, r1⟩ := Dp.reads I d x v hd rx
  obtain ⟨bs, r2⟩ := Dp.reads I (.tuple ds) y u he ry
  exact SeqAt.in_tuple_reads r2 r1 (SeqAt.canLay_of_shaped se) (SeqAt.canLay_of_shaped sd) (room_in_shaped sd hu) ⟨.bl _, H, I, rfl, q⟩
/-- x in a tuple of tuples, x an instance whose own == says no to a tuple -/
def rInI (K : PySem.W.Frag) (C : Addr) (sp : Sp) (E : XK) : R2 := fun x y H Q => ∃ (a d : Addr) (fs : List (Str × V)) (p : Addr) (qs : List Addr), x = .ref a ∧ H a = some (.ins C d fs) ∧ y = .ref p ∧ SqT K H p (qs.map V.ref) ∧
  (∀ H', Ext H H' → ∀ q ∈ qs, ∃ xs, Rd H' q (.tup xs) ∧ sp [.ref a, .ref q] H' (fun r H2 => r = .bl false ∧ Ext H' H2) E) ∧ ∀ H', Ext H H' → Q (.bl false) H'
theorem op_inI (F : FnOk X.prog X.w X.K X.mg X.base CX n f fd ps sp) (c : OwnAt X.K C f "__eq__") (hs : PySem.W.subIn X.K (.ref C) (.type "tuple") = some false) (hb : Binds X.K fd ps []) (hx : Passes CX X E) (hr : Room (n + 1) X.A) : OpR X (compareOp .In) (rInI X.K C sp E) := by
  intro pins s σ H x y v u Q I rx ry hq
  obtain ⟨a, d, fs, p, qs, rfl, ha, rfl, hp, ht, q⟩ := hq
  obtain rfl : v = Value.ref a := rx
  obtain rfl : u = Value.ref p := ry
  obtain ⟨its, rv, pl, hz⟩ := I.tuple hp
  obtain ⟨⟨cls, dd, data, sl⟩, ho, hc, m0, hd⟩ := id pl
  simp only at hc hd
  subst hc hd
  have T : s.TypeIs (.ref p) "tuple" := ⟨_, ho, rfl⟩
  have sb : Sub X (n + 1) X.A := ⟨hr, rfl⟩
  show wpAny (model X.prog X.w) X.A (do return Value.bool (← contains (.ref p) (.ref a))) _ _ s
  refine wpAny_bind (wpAny_contains_slot T PySem.F.slot_tuple_contains (wpAny_mono (GQ.call_here PySem.F.slot_tuple_contains T PySem.F.entry_tuple_contains (PySem.F.args_tuple_contains_2 _ _) (tuple_containsG (R := wants (fun v s' => v = .bool false ∧ ∃ H', Inv X pins σ H' s' ∧ Ext H H') X.xe) p its.toArray m0 dd sl (.ref a) (fun s' => ∃ H', Inv X pins σ H' s' ∧ Ext H H') (fun y hy s' hI => ?_) (fun s' hI => ⟨rfl, hI⟩) ho ⟨H, I, Ext.rfl'⟩)) (fun r s' z => ?_) fun _ _ e => e))
  · obtain ⟨H', I', e⟩ := hI
    obtain ⟨x0, hx0, r0⟩ := vals_mem rv (by simpa using hy)
    obtain ⟨q0, hq0, rfl⟩ := List.mem_map.mp hx0
    obtain rfl : y = Value.ref q0 := r0
    obtain ⟨xs, hxs, hsp⟩ := ht H' e q0 hq0
    obtain ⟨its2, rv2, pl2, hz2⟩ := I'.tuple (.inl hxs)
    have ha' := e _ _ ha
    obtain ⟨mA, J, _⟩ := ins_get I'.hok ha'
    obtain ⟨od, J, _⟩ := J.look
    obtain ⟨m, hF⟩ := I'.fr
    have ne : q0 ≠ a := fun z => by
      subst z
      rcases hxs with hxs | ⟨_, hxs⟩ <;> (rw [ha'] at hxs; exact nomatch hxs)
    refine GQ.eqBool_refG ne (rc_tup_inst hr.in1.units0 hF I'.ok.mod.kin J pl2 hs c.find c.fn (wpAny_mono (call_fnO F hb hx sb.in1 I' (vs := [.ref a, .ref q0]) (.cons rfl (.cons rfl .nil)) hsp) (fun r s2 z => ?_) fun _ _ e => e))
    obtain ⟨v', H2, I2, rv', rfl, e2⟩ := z
    obtain rfl : r = Value.bool false := rv'
    exact ⟨false, rfl, false, rfl, rfl, H2, I2, e.trans e2⟩
  · obtain ⟨rfl, H', I', e⟩ := z
    exact wpAny_truthy_bool (wpAny_pure ⟨.bl false, H', I', rfl, q H' e⟩)
end
end Gl
namespace Gl
open PySem PySem.Spec PyProof.Rows L2 ClX
abbrev sAgr : Stmt := topS 23
theorem scAgr : FnScope ["columns", "row", "other", "at"] ["columns", "row", "other"] (defScope sAgr) := ⟨rfl, rfl, rfl, by decide +kernel, rfl, by decide +kernel, by decide +kernel⟩
def agr (cs : List Str) (ns ms : List Int) : List Str := ((cs.zip (ns.zip ms)).filter fun t => decide (t.2.1 = t.2.2)).map (·.1)
theorem zip3_get {cs : List Str} {ns ms : List Int} {i : Nat} {c : Str} {n m : Int} (h1 : cs[i]? = some c) (h2 : ns[i]? = some n) (h3 : ms[i]? = some m) : (cs.zip (ns.zip ms))[i]? = some (c, n, m) := by
  rw [List.getElem?_zip_eq_some, List.getElem?_zip_eq_some]
  exact ⟨h1, h2, h3⟩
def agrT (cs : List Str) (ns ms : List Int) (i : Nat) : List Str := (((cs.zip (ns.zip ms)).take i).filter fun t => decide (t.2.1 = t.2.2)).map (·.1)
theorem agrT_succ {cs : List Str} {ns ms : List Int} {i : Nat} {c : Str} {n m : Int} (h1 : cs[i]? = some c) (h2 : ns[i]? = some n) (h3 : ms[i]? = some m) :
    agrT cs ns ms (i + 1) = agrT cs ns ms i ++ (if n = m then [c] else []) := by
  unfold agrT
  rw [List.take_add_one, zip3_get h1 h2 h3, List.filter_append, List.map_append]
  by_cases e : n = m
  · rw [if_pos e]
    simp [e]
  · rw [if_neg e]
    simp [e]
theorem agrT_len (cs : List Str) (ns ms : List Int) (i : Nat) : (agrT cs ns ms i).length ≤ cs.length := by
  unfold agrT
  rw [List.length_map]
  refine Nat.le_trans (List.length_filter_le _ _) ?_
  rw [List.length_take, List.length_zip]
  omega
theorem agrT_all {cs : List Str} {ns ms : List Int} : agrT cs ns ms cs.length = agr cs ns ms := by
  unfold agrT agr
  rw [List.take_of_length_le]
  rw [List.length_zip]
  omega
section
variable {P : Program} {w : World} {K : PySem.W.Frag} {mg : Str → Option Value} {base : Heap}
/-- check_columns(x), by its default -/
structure DfC (P : Program) (w : World) (K : PySem.W.Frag) (mg : Str → Option Value) (base : Heap) where
  f : Addr
  fd : FuncData
  ds : List Value
  G : FnOk P w K mg base CX0 4 f fd ["columns", "least"] spChkC
  g : mg "check_columns" = some (.ref f)
  kp : PySem.W.keepIn K (.ref f) = true
  b : Binds K fd ["columns", "least"] ds
  v : Vals [V.int 0] ds
def spAgr : Sp := fun vs H Q _ => ∃ (p r q : Addr) (cs : List Str) (ns ms : List Int), vs = [.ref p, .ref r, .ref q] ∧ ColsAt H p cs ∧ Rd H r (.tup (ns.map V.int)) ∧ Rd H q (.tup (ms.map V.int)) ∧ ns.length = cs.length ∧ ms.length = cs.length ∧
  ∀ v H', Ex H H' → H v = none → Rd H' v (.tup ((agr cs ns ms).map V.str)) → Q (.ref v) H'
theorem ok_agr {f : Addr} {fd : FuncData} (F : Fun K "agreement" "agreement" sAgr f fd) (T : Blt mg) (C : DfC P w K mg base) (R : Df P w K mg base 3 "check_row" ["columns", "row"] spChkR) : FnOk P w K mg base CX0 5 f fd ["columns", "row", "other"] spAgr := by
  refine F.ok scAgr (fun vs H Q E h => ?_) (fun cdv A0 outer s H vs Q E hr h => ?_)
  · obtain ⟨p, r, q, cs, ns, ms, rfl, _⟩ := h
    rfl
  · obtain ⟨p, r, q, cs, ns, ms, rfl, hc, hr1, hr2, l1, l2, k⟩ := h
    have nd := scAgr.nd
    refine ⟨_, pss_cons (ps_expr (pe_call C.G (hr.mono (by decide)) (by rfl) C.g C.kp C.b C.v pass0 (pa_cons (pv 0) pa_nil)))
      (pss_cons (ps_expr (pe_call R.G (hr.mono (by decide)) (by rfl) R.g R.kp R.b .nil pass0 (pa_cons (pv 0) (pa_cons (pv 1) pa_nil))))
      (pss_cons (ps_expr (pe_call R.G (hr.mono (by decide)) (by rfl) R.g R.kp R.b .nil pass0 (pa_cons (pv 0) (pa_cons (pv 2) pa_nil))))
      (pss_one (ps_ret (pe_callTy call_tupleF (by rfl) T.tuple (by decide +kernel) (pa_cons (pe_lc (own := [("at", 3)]) (g := gName 3) rfl nd (pi_range1 rfl T.range (pa_cons (pe_callB call_len_seq (by rfl) T.len PySem.boot_len (pa_cons (pv 0) pa_nil)) pa_nil)) (blkOk_by (N := ["columns", "row", "other", "at"]) (sc := defScope sAgr) (by decide +kernel)) (fun _ _ _ _ _ => pg_name (i := 3) nd rfl (.inl rfl))
          (fun _ _ _ _ _ => pts_one (pt_cmpR op_eq (pe_ix (r := rIxT K) ix_tup (pv 1) (pv 3) (fun _ _ => rfl)) (pe_ix (r := rIxT K) ix_tup (pv 2) (pv 3) (fun _ _ => rfl)) (nomark _)))
          (fun _ _ _ _ _ => pe_ix (r := rIxT K) ix_tup (pv 0) (pv 3) (fun _ _ => rfl))) pa_nil)))))), ?_⟩
    refine ⟨_, rfl, p, cs, 0, rfl, Int.le_refl _, Int.natCast_nonneg _, hc, fun H1 e1 => ?_⟩
    refine ⟨_, rfl, _, rfl, p, r, cs, ns, rfl, ⟨hc.1, e1.rd hc.2⟩, e1.rd hr1, l1, fun H2 e2 => ?_⟩
    have e12 := e1.trans e2
    refine ⟨_, rfl, _, rfl, p, q, cs, ms, rfl, ⟨hc.1, e12.rd hc.2⟩, e12.rd hr2, l2, fun H3 e3 => ?_⟩
    have e13 := e12.trans e3
    have hc3 := e13.rd hc.2
    have l8 := hc.1.len
    refine ⟨_, rfl, p, _, rfl, .inr (.inl hc3), _, rfl, by omega, by rw [List.length_map]; omega, fun D nD => ?_⟩
    rw [show ((cs.map V.str).length : Int).toNat = cs.length by rw [List.length_map]; omega]
    refine lc_range (fun i H' => Ex H3 H' ∧ H' D = some (.lst ((agrT cs ns ms i).map V.str))) ⟨Ex.new nD, upd_same⟩ (fun i H' hi h => ?_) (fun H' h => ?_)
    · obtain ⟨ex, eD⟩ := h
      have ex' := e13.trans ex
      have i1 : i < ns.length := by omega
      have i2 : i < ms.length := by omega
      have gi : (0 + (i : Int)) = (i : Nat) := by omega
      refine ⟨rfl, ?_⟩
      refine ⟨_, rfl, _, rfl, r, _, _, .int ns[i], rfl, rfl, .inl (ex'.rd hr1), by rw [gi]; exact atI_nat (by rw [List.getElem?_map, List.getElem?_eq_getElem i1]; rfl), ?_⟩
      refine ⟨_, rfl, _, rfl, q, _, _, .int ms[i], rfl, rfl, .inl (ex'.rd hr2), by rw [gi]; exact atI_nat (by rw [List.getElem?_map, List.getElem?_eq_getElem i2]; rfl), rfl, _, rfl, ?_⟩
      have sc := agrT_succ (List.getElem?_eq_getElem hi) (List.getElem?_eq_getElem i1) (List.getElem?_eq_getElem i2)
      refine ite2 (fun e => ?_) (fun e => ?_)
      · have e1 : ns[i] = ms[i] := V.int.inj (of_decide_eq_true e)
        refine ⟨_, rfl, _, rfl, p, _, _, .str cs[i], rfl, rfl, .inl (ex'.rd hc.2), by rw [gi]; exact atI_nat (by rw [List.getElem?_map, List.getElem?_eq_getElem hi]; rfl), _, eD, ?_, ex.mut nD, ?_⟩
        · rw [List.length_map]
          have := agrT_len cs ns ms i
          exact room1000 (by omega)
        · rw [upd_same, sc, if_pos e1, List.map_append]
          rfl
      · have e1 : ¬ ns[i] = ms[i] := fun z => e (decide_eq_true (congrArg V.int z))
        refine ⟨ex, ?_⟩
        rw [sc, if_neg e1, List.append_nil]
        exact eD
    · obtain ⟨ex, eD⟩ := h
      rw [agrT_all] at eD
      exact ⟨D, _, rfl, .inl (.inl eD), fun v o nv ho => k v _ ((e13.trans ex).trans (Ex.new nv)) ((e13.trans ex).back nv) (.inr ⟨o, upd_same⟩)⟩
end
end Gl
namespace Gl
open PySem PySem.Spec PyProof.Rows L2
theorem text_small (s : String) : ∀ c ∈ (Str.ofString s).cps.toList, c < 16 ^ 8 := by
  intro c hc
  rw [Str.ofString_eq_toList] at hc
  have hc : c ∈ (s.toList.map Char.toNat) := hc
  obtain ⟨x, _, rfl⟩ := List.mem_map.mp hc
  have := x.valid
  have h : x.toNat < 1114112 := by
    rcases x.valid with h | h
    · exact Nat.lt_trans h (by decide)
    · exact h.2
  exact Nat.lt_trans h (by decide)
end Gl
namespace Gl
open PySem PySem.Spec PyProof.Rows L2 ClX
abbrev sTCols : Stmt := clsS_Table 3
theorem scTCols : FnScope ["self"] ["self"] (defScope sTCols) := ⟨rfl, rfl, rfl, by decide +kernel, rfl, by decide +kernel, by decide +kernel⟩
abbrev sTGet : Stmt := clsS_Table 8
theorem scTGet : FnScope ["self", "at"] ["self", "at"] (defScope sTGet) := ⟨rfl, rfl, rfl, by decide +kernel, rfl, by decide +kernel, by decide +kernel⟩
abbrev sTHas : Stmt := clsS_Table 11
theorem scTHas : FnScope ["self", "x"] ["self", "x"] (defScope sTHas) := ⟨rfl, rfl, rfl, by decide +kernel, rfl, by decide +kernel, by decide +kernel⟩
abbrev sTStr : Stmt := clsS_Table 13
theorem scTStr : FnScope ["self"] ["self"] (defScope sTStr) := ⟨rfl, rfl, rfl, by decide +kernel, rfl, by decide +kernel, by decide +kernel⟩
abbrev sTOr : Stmt := clsS_Table 14
theorem scTOr : FnScope ["self", "other"] ["self", "other"] (defScope sTOr) := ⟨rfl, rfl, rfl, by decide +kernel, rfl, by decide +kernel, by decide +kernel⟩
abbrev sTWgt : Stmt := clsS_Table 15
theorem scTWgt : FnScope ["self", "index"] ["self", "index"] (defScope sTWgt) := ⟨rfl, rfl, rfl, by decide +kernel, rfl, by decide +kernel, by decide +kernel⟩
abbrev sTAgr : Stmt := clsS_Table 16
theorem scTAgr : FnScope ["self", "index", "other"] ["self", "index", "other"] (defScope sTAgr) := ⟨rfl, rfl, rfl, by decide +kernel, rfl, by decide +kernel, by decide +kernel⟩
theorem op_or2 {X : Cx} {f : Value → Value → Sem Value} {r1 r2 : R2} (h1 : OpR X f r1) (h2 : OpR X f r2) : OpR X f (fun x y H Q => r1 x y H Q ∨ r2 x y H Q) := by
  intro pins s σ H x y v u Q I rx ry hq
  rcases hq with hq | hq
  · exact h1 pins s σ H x y v u Q I rx ry hq
  · exact h2 pins s σ H x y v u Q I rx ry hq
/-- tables told equal -/
def eqTab (t u : Tab) : Bool := PyData.eqv (dCols t.cs) (dCols u.cs) && (PyData.eqvAll (t.rs.map dRow) (u.rs.map dRow) && (PyData.eqvAll (t.ws.map Am.data) (u.ws.map Am.data) && decide (t.m = u.m)))
section
variable {P : Program} {w : World} {K : PySem.W.Frag} {mg : Str → Option Value} {base : Heap} {C TC : Addr} {mc : Value}
def spTCols (C TC : Addr) : Sp := fun vs H Q _ => ∃ (a : Addr) (t : Tab), vs = [.ref a] ∧ TblAt H a TC C t ∧ ∀ p, Rd H p (.tup (t.cs.map V.str)) → Q (.ref p) H
theorem ok_tCols {f : Addr} {fd : FuncData} (F : Fun K "columns" "Table.columns" sTCols f fd) (Y : TblK K TC) : FnOk P w K mg base CX0 1 f fd ["self"] (spTCols C TC) := by
  refine F.ok scTCols (fun vs H Q E h => ?_) (fun cdv A outer s H vs Q E hr h => ?_)
  · obtain ⟨a, t, rfl, _⟩ := h
    rfl
  · obtain ⟨a, t, rfl, ⟨dx, pc, pr, ps, pw, vt, fs, tf⟩, q⟩ := h
    exact ⟨_, pss_one (ps_ret (pe_fld (pv 0) (by rfl))), _, rfl, a, TC, dx, fs, _, rfl, tf.at_, Y.cls, Y.nc, tf.fc, q _ tf.cs⟩
/-- table[at] -/
def spTGet (C TC : Addr) : Sp := fun vs H Q _ => ∃ (a : Addr) (j : Nat) (t : Tab) (r : List Int), vs = [.ref a, .int (j : Nat)] ∧ TblAt H a TC C t ∧ t.rs[j]? = some r ∧ ∀ p, Rd H p (.tup (r.map V.int)) → Q (.ref p) H
theorem rows_at {H : Hp} {p : Addr} {rs : List (List Int)} {j : Nat} {r : List Int} {qs : List (Addr × List Int)} (eq : qs.map (·.2) = rs) (hqs : ∀ q ∈ qs, Rd H q.1 (.tup (q.2.map V.int))) (h : rs[j]? = some r) : ∃ p, atI (qs.map fun q => V.ref q.1) (j : Nat) = some (.ref p) ∧ Rd H p (.tup (r.map V.int)) := by
  rw [← eq, List.getElem?_map] at h
  obtain ⟨q, hq, rfl⟩ := Option.map_eq_some_iff.mp h
  exact ⟨q.1, atI_nat (by rw [List.getElem?_map, hq]; rfl), hqs q (List.mem_of_getElem? hq)⟩
theorem ok_tGet {f : Addr} {fd : FuncData} (F : Fun K "__getitem__" "Table.__getitem__" sTGet f fd) (Y : TblK K TC) (Cki : Dm P w K mg base TC 3 "_check_index" ["self", "index"] (spCki C TC)) : FnOk P w K mg base CX0 4 f fd ["self", "at"] (spTGet C TC) := by
  refine F.ok scTGet (fun vs H Q E h => ?_) (fun cdv A outer s H vs Q E hr h => ?_)
  · obtain ⟨a, j, t, r, rfl, _⟩ := h
    rfl
  · obtain ⟨a, j, t, r, rfl, tb, hj, q⟩ := h
    have sh := tb
    obtain ⟨dx, pc, pr, ps, pw, vt, fs, tf⟩ := tb
    obtain ⟨qs, eq, hq, hqs⟩ := tf.rs
    obtain ⟨p, at_, hp⟩ := rows_at (p := pr) eq hqs hj
    refine ⟨_, pss_cons (ps_expr (pe_meth (pv 0) Y.cls Cki.at_ Cki.G hr Cki.b .nil pass0 (pa_cons (pv 1) pa_nil)))
      (pss_one (ps_ret (pe_ix ix_tup (pe_fld (pv 0) (by rfl)) (pv 1) (fun _ _ => rfl)))), ?_⟩
    refine ⟨_, rfl, a, dx, fs, rfl, tf.at_, tf.no _ (by decide +kernel), _, rfl, a, j, t, rfl, sh, (List.getElem?_eq_some_iff.mp hj).1, ?_⟩
    exact ⟨_, rfl, a, TC, dx, fs, _, rfl, tf.at_, Y.cls, Y.nr, tf.fr, _, rfl, pr, _, _, _, rfl, rfl, .inl hq, at_, q p hp⟩
/-- table.weight(at) -/
def spTWgt (C TC : Addr) : Sp := fun vs H Q _ => ∃ (a : Addr) (j : Nat) (t : Tab) (x : Am), vs = [.ref a, .int (j : Nat)] ∧ TblAt H a TC C t ∧ t.ws.length = t.rs.length ∧ t.ws[j]? = some x ∧ ∀ v, AmV H v x → Q v H
theorem ok_tWgt {f : Addr} {fd : FuncData} (F : Fun K "weight" "Table.weight" sTWgt f fd) (Y : TblK K TC) (Cki : Dm P w K mg base TC 3 "_check_index" ["self", "index"] (spCki C TC)) : FnOk P w K mg base CX0 4 f fd ["self", "index"] (spTWgt C TC) := by
  refine F.ok scTWgt (fun vs H Q E h => ?_) (fun cdv A outer s H vs Q E hr h => ?_)
  · obtain ⟨a, j, t, x, rfl, _⟩ := h
    rfl
  · obtain ⟨a, j, t, x, rfl, tb, wl, hj, q⟩ := h
    have sh := tb
    obtain ⟨dx, pc, pr, ps, pw, vt, fs, tf⟩ := tb
    obtain ⟨us, eu, hu, hus⟩ := tf.ws
    have jl := (List.getElem?_eq_some_iff.mp hj).1
    rw [← eu, List.getElem?_map] at hj
    obtain ⟨z, hz, rfl⟩ := Option.map_eq_some_iff.mp hj
    refine ⟨_, pss_cons (ps_expr (pe_meth (pv 0) Y.cls Cki.at_ Cki.G hr Cki.b .nil pass0 (pa_cons (pv 1) pa_nil)))
      (pss_one (ps_ret (pe_ix ix_tup (pe_fld (pv 0) (by rfl)) (pv 1) (fun _ _ => rfl)))), ?_⟩
    refine ⟨_, rfl, a, dx, fs, rfl, tf.at_, tf.no _ (by decide +kernel), _, rfl, a, j, t, rfl, sh, by omega, ?_⟩
    exact ⟨_, rfl, a, TC, dx, fs, _, rfl, tf.at_, Y.cls, Y.nw, tf.fw, _, rfl, pw, _, _, _, rfl, rfl, .inl hu, atI_nat (by rw [List.getElem?_map, hz]; rfl), q _ (hus z (List.mem_of_getElem? hz))⟩
/-- table.agreement(at, at) -/
def spTAgr (C TC : Addr) : Sp := fun vs H Q _ => ∃ (a : Addr) (i j : Nat) (t : Tab) (r1 r2 : List Int), vs = [.ref a, .int (i : Nat), .int (j : Nat)] ∧ TblAt H a TC C t ∧ t.ok ∧ t.rs[i]? = some r1 ∧ t.rs[j]? = some r2 ∧
  ∀ v H', Ex H H' → H v = none → Rd H' v (.tup ((agr t.cs r1 r2).map V.str)) → Q (.ref v) H'
theorem ok_tAgr {f : Addr} {fd : FuncData} (F : Fun K "agreement" "Table.agreement" sTAgr f fd) (Y : TblK K TC) (Cki : Dm P w K mg base TC 3 "_check_index" ["self", "index"] (spCki C TC)) (Ag : Df P w K mg base 5 "agreement_rows" ["columns", "row", "other"] spAgr) : FnOk P w K mg base CX0 6 f fd ["self", "index", "other"] (spTAgr C TC) := by
  refine F.ok scTAgr (fun vs H Q E h => ?_) (fun cdv A outer s H vs Q E hr h => ?_)
  · obtain ⟨a, i, j, t, r1, r2, rfl, _⟩ := h
    rfl
  · obtain ⟨a, i, j, t, r1, r2, rfl, tb, ok, hi, hj, q⟩ := h
    have sh := tb
    have r3 := hr.mono (show 3 ≤ 5 by decide)
    obtain ⟨dx, pc, pr, ps, pw, vt, fs, tf⟩ := tb
    obtain ⟨qs, eq, hq, hqs⟩ := tf.rs
    obtain ⟨p1, at1, h1⟩ := rows_at (p := pr) eq hqs hi
    obtain ⟨p2, at2, h2⟩ := rows_at (p := pr) eq hqs hj
    refine ⟨_, pss_cons (ps_expr (pe_meth (pv 0) Y.cls Cki.at_ Cki.G r3 Cki.b .nil pass0 (pa_cons (pv 1) pa_nil)))
      (pss_cons (ps_expr (pe_meth (pv 0) Y.cls Cki.at_ Cki.G r3 Cki.b .nil pass0 (pa_cons (pv 2) pa_nil)))
      (pss_one (ps_ret (pe_call Ag.G hr (by rfl) Ag.g Ag.kp Ag.b .nil pass0 (pa_cons (pe_fld (pv 0) (by rfl)) (pa_cons (pe_ix ix_tup (pe_fld (pv 0) (by rfl)) (pv 1) (fun _ _ => rfl)) (pa_cons (pe_ix ix_tup (pe_fld (pv 0) (by rfl)) (pv 2) (fun _ _ => rfl)) pa_nil))))))), ?_⟩
    refine ⟨_, rfl, a, dx, fs, rfl, tf.at_, tf.no _ (by decide +kernel), _, rfl, a, i, t, rfl, sh, (List.getElem?_eq_some_iff.mp hi).1, ?_⟩
    refine ⟨_, rfl, a, dx, fs, rfl, tf.at_, tf.no _ (by decide +kernel), _, rfl, a, j, t, rfl, sh, (List.getElem?_eq_some_iff.mp hj).1, ?_⟩
    refine ⟨_, rfl, a, TC, dx, fs, _, rfl, tf.at_, Y.cls, Y.nc, tf.fc, _, rfl, a, TC, dx, fs, _, rfl, tf.at_, Y.cls, Y.nr, tf.fr, _, rfl, pr, _, _, _, rfl, rfl, .inl hq, at1, ?_⟩
    refine ⟨_, rfl, a, TC, dx, fs, _, rfl, tf.at_, Y.cls, Y.nr, tf.fr, _, rfl, pr, _, _, _, rfl, rfl, .inl hq, at2, ?_⟩
    exact ⟨pc, p1, p2, t.cs, r1, r2, rfl, ⟨ok.cols, tf.cs⟩, h1, h2, ok.rlen _ (List.mem_of_getElem? hi), ok.rlen _ (List.mem_of_getElem? hj), q⟩
/-- table == other -/
def spTEq (K : PySem.W.Frag) (C TC : Addr) : Sp := fun vs H Q _ => (∃ (a b : Addr) (t u : Tab), vs = [.ref a, .ref b] ∧ TblAt H a TC C t ∧ TblAt H b TC C u ∧ t.ok ∧ u.ok ∧ Q (.bl (eqTab t u)) H) ∨ (∃ (a : Addr) (t : Tab) (v : V) (d : PyData), vs = [.ref a, v] ∧ TblAt H a TC C t ∧ Dx K H v d ∧ Q (.bl false) H)
theorem ok_tEq {f : Addr} {fd : FuncData} (F : Fun K "__eq__" "Table.__eq__" sTEq f fd) (T : Blt mg) (Y : TblK K TC) (Zq : ClsT K TC) (gT : mg "Table" = some (.ref TC)) (ktt : PySem.W.kitOne K (.ref TC) (.ref TC) = some true) (kn : ∀ t ∈ tys, PySem.W.kitOne K (.type t) (.ref TC) = some false) (nfc : PySem.W.notFirst K C (.ref C) = true) (Es : Do1 P w K mg base C 1 "__eq__" ["self", "other"] (spEqM K C)) : FnOk P w K mg base CX0 2 f fd ["self", "other"] (spTEq K C TC) := by
  refine F.ok scTEq (fun vs H Q E h => ?_) (fun cdv A outer s H vs Q E hr h => ?_)
  · rcases h with ⟨a, b, t, u, rfl, _⟩ | ⟨a, t, v, d, rfl, _⟩ <;> rfl
  · have hu : (A.deeper (envOfC "Table.__eq__" (defScope sTEq) s.heap.objs.size f cdv)).units + 64 < cLine := by have := hr.un; omega
    refine ⟨_, pss_one (ps_ret (pe_and (pe_callB call_isi (by rfl) T.isinstance (by decide +kernel) (pa_cons (pv 1) (pa_cons (pe_glob (v := .ref TC) (by rfl) gT rfl) pa_nil))) (pe_and (pe_cmpR (op_eqD hu) (pe_fld (pv 0) (by rfl)) (pe_fld (pv 1) (by rfl)) (nomark _)) (pe_and (pe_cmpR (op_eqD hu) (pe_fld (pv 0) (by rfl)) (pe_fld (pv 1) (by rfl)) (nomark _)) (pe_and (pe_cmpR (op_eqD hu) (pe_fld (pv 0) (by rfl)) (pe_fld (pv 1) (by rfl)) (nomark _)) (pe_one (pe_cmpR (op_eqK Es.G Es.o Es.b pass0 hr) (pe_fld (pv 0) (by rfl)) (pe_fld (pv 1) (by rfl)) (nomark _)))))))), ?_⟩
    rcases h with ⟨a, b, t, u, rfl, ⟨dx, pc, pr, ps, pw, vt, fs, tf⟩, ⟨dy, pc', pr', ps', pw', vt', gs, tg⟩, ok, ok', q⟩ | ⟨a, t, v, d, rfl, tb, hd, q⟩
    · unfold eqTab at q
      refine ⟨_, rfl, _, _, _, _, true, rfl, .own TC, .base (.ins tg.at_ Zq.c Zq.t1 Zq.t2 Zq.t3 Zq.t4), ktt, true, rfl, ?_⟩
      refine ⟨_, rfl, a, TC, dx, fs, _, rfl, tf.at_, Y.cls, Y.nc, tf.fc, _, rfl, b, TC, dy, gs, _, rfl, tg.at_, Y.cls, Y.nc, tg.fc, dCols t.cs, dCols u.cs, dp_cols tf.cs, dp_cols tg.cs, shaped_cols ok.cols.1, shaped_cols ok'.cols.1, ?_⟩
      cases e1 : PyData.eqv (dCols t.cs) (dCols u.cs) with
      | false => rw [e1] at q; exact ⟨false, rfl, q⟩
      | true =>
        rw [e1, Bool.true_and] at q
        refine ⟨true, rfl, ?_⟩
        refine ⟨_, rfl, a, TC, dx, fs, _, rfl, tf.at_, Y.cls, Y.nr, tf.fr, _, rfl, b, TC, dy, gs, _, rfl, tg.at_, Y.cls, Y.nr, tg.fr, _, _, dp_rowsD tf.rs, dp_rowsD tg.rs, shaped_rowsT _, shaped_rowsT _, ?_⟩
        rw [show PyData.eqv (.tuple (t.rs.map dRow)) (.tuple (u.rs.map dRow)) = PyData.eqvAll (t.rs.map dRow) (u.rs.map dRow) by simp only [PyData.eqv]]
        cases e2 : PyData.eqvAll (t.rs.map dRow) (u.rs.map dRow) with
        | false => rw [e2] at q; exact ⟨false, rfl, q⟩
        | true =>
          rw [e2, Bool.true_and] at q
          refine ⟨true, rfl, ?_⟩
          refine ⟨_, rfl, a, TC, dx, fs, _, rfl, tf.at_, Y.cls, Y.nw, tf.fw, _, rfl, b, TC, dy, gs, _, rfl, tg.at_, Y.cls, Y.nw, tg.fw, _, _, dp_amsD tf.ws, dp_amsD tg.ws, shaped_ams _, shaped_ams _, ?_⟩
          rw [show PyData.eqv (.tuple (t.ws.map Am.data)) (.tuple (u.ws.map Am.data)) = PyData.eqvAll (t.ws.map Am.data) (u.ws.map Am.data) by simp only [PyData.eqv]]
          cases e3 : PyData.eqvAll (t.ws.map Am.data) (u.ws.map Am.data) with
          | false => rw [e3] at q; exact ⟨false, rfl, q⟩
          | true =>
            rw [e3, Bool.true_and] at q
            refine ⟨true, rfl, ?_⟩
            obtain ⟨d1, f1, g1, _⟩ := id tf.sc
            obtain ⟨d2, f2, g2, _⟩ := id tg.sc
            exact ⟨_, rfl, a, TC, dx, fs, _, rfl, tf.at_, Y.cls, Y.nS, tf.fS, _, rfl, b, TC, dy, gs, _, rfl, tg.at_, Y.cls, Y.nS, tg.fS, ps, d1, f1, _, rfl, g1, .ins g2, nfc, .inl ⟨ps, ps', t.m, u.m, rfl, tf.sc, tg.sc, _, rfl, by rw [Bool.false_xor]; exact q⟩⟩
    · exact ⟨_, rfl, _, _, _, _, _, rfl, .own TC, tyx hd, kn _ (tyName_in d), false, rfl, q⟩
/-- x in table -/
def spTHas (K : PySem.W.Frag) (C TC : Addr) : Sp := fun vs H Q _ => ∃ (a : Addr) (t : Tab) (x : V), vs = [.ref a, x] ∧ TblAt H a TC C t ∧ t.ok ∧
  ((∃ d, Dp K H x d ∧ SeqAt.shaped d = true ∧ Q (.bl ((t.rs.map dRow).any fun z => PyData.eqv z d)) H) ∨ (∃ (b : Addr) (u : Tab), x = .ref b ∧ TblAt H b TC C u ∧ ∀ H', Ext H H' → Q (.bl false) H'))
theorem ext_rd {H H' : Hp} {p : Addr} {o : HO} (e : Ext H H') (h : Rd H p o) : Rd H' p o := by
  rcases h with h | ⟨u, h⟩
  · exact .inl (e _ _ h)
  · exact .inr ⟨u, e _ _ h⟩
theorem ok_tHas {f : Addr} {fd : FuncData} (F : Fun K "__contains__" "Table.__contains__" sTHas f fd) (Y : TblK K TC) (nst : PySem.W.subIn K (.ref TC) (.type "tuple") = some false) (Te : Do1 P w K mg base TC 2 "__eq__" ["self", "other"] (spTEq K C TC)) : FnOk P w K mg base CX0 4 f fd ["self", "x"] (spTHas K C TC) := by
  refine F.ok scTHas (fun vs H Q E h => ?_) (fun cdv A outer s H vs Q E hr h => ?_)
  · obtain ⟨a, t, x, rfl, _⟩ := h
    rfl
  · have hu : (A.deeper (envOfC "Table.__contains__" (defScope sTHas) s.heap.objs.size f cdv)).units + 65 < cLine := by have := hr.un; omega
    obtain ⟨a, t, x, rfl, ⟨dx, pc, pr, ps, pw, vt, fs, tf⟩, ok, h⟩ := h
    refine ⟨_, pss_one (ps_ret (pe_cmpR (op_or2 (op_inT hu) (op_inI Te.G Te.o nst Te.b pass0 hr)) (pv 1) (pe_fld (pv 0) (by rfl)) rfl)), ?_⟩
    refine ⟨_, rfl, _, rfl, a, TC, dx, fs, _, rfl, tf.at_, Y.cls, Y.nr, tf.fr, ?_⟩
    rcases h with ⟨d, hd, sd, q⟩ | ⟨b, u, rfl, ⟨dy, pc', pr', ps', pw', vt', gs, tg⟩, q⟩
    · exact .inl ⟨d, _, hd, dp_rowsD tf.rs, sd, shaped_rowsT _, q⟩
    · obtain ⟨qs, eq, hq, hqs⟩ := tf.rs
      refine .inr ⟨b, dy, gs, pr, qs.map (·.1), rfl, tg.at_, rfl, .inl (by rw [List.map_map]; exact hq), fun H' e q0 hq0 => ?_, q⟩
      obtain ⟨z, hz, rfl⟩ := List.mem_map.mp hq0
      have hz' := ext_rd e (hqs z hz)
      refine ⟨_, hz', .inr ⟨b, u, .ref z.1, dRow z.2, rfl, ?_, ?_, rfl, Ext.rfl'⟩⟩
      · exact Ex.tbl (fun c o ho => e c o ho) ⟨dy, pc', pr', ps', pw', vt', gs, tg⟩
      · exact .tup hz' (dx_ints _)
end
end Gl
namespace Gl
open PySem PySem.Spec PyProof.Rows L2 ClX
/-- the text of a number -/
abbrev numT (n : Nat) : Str := Str.ofString (toString (n : Int))
def Tab.text (t : Tab) : Str := Str.empty ++ "table of " ++ numT t.cs.length ++ " columns, " ++ numT t.rs.length ++ " rows"
theorem numT_len {n : Nat} (h : n ≤ 1000) : (numT n).length ≤ 1921 := int_text_len_1921 (by
  rw [Int.natAbs_natCast]
  exact Nat.lt_of_le_of_lt (Nat.log2_le_self n) (by omega))
section
variable {P : Program} {w : World} {K : PySem.W.Frag} {mg : Str → Option Value} {base : Heap} {C TC : Addr} {mc : Value}
def spTStr (C TC : Addr) : Sp := fun vs H Q _ => ∃ (a : Addr) (t : Tab), vs = [.ref a] ∧ TblAt H a TC C t ∧ t.ok ∧ Q (.str t.text) H
theorem ok_tStr {f : Addr} {fd : FuncData} (F : Fun K "__str__" "Table.__str__" sTStr f fd) (T : Blt mg) (Y : TblK K TC) : FnOk P w K mg base CX0 1 f fd ["self"] (spTStr C TC) := by
  refine F.ok scTStr (fun vs H Q E h => ?_) (fun cdv A outer s H vs Q E hr h => ?_)
  · obtain ⟨a, t, rfl, _⟩ := h
    rfl
  · obtain ⟨a, t, rfl, ⟨dx, pc, pr, ps, pw, vt, fs, tf⟩, ok, q⟩ := h
    obtain ⟨qs, eq, hq, hqs⟩ := tf.rs
    refine ⟨_, pss_one (ps_ret (pe_joined (.cons pe_str (.cons (pe_fmt (pe_callB call_len_seq (by rfl) T.len PySem.boot_len (pa_cons (pe_fld (pv 0) (by rfl)) pa_nil))) (.cons pe_str (.cons (pe_fmt (pe_callB call_len_seq (by rfl) T.len PySem.boot_len (pa_cons (pe_fld (pv 0) (by rfl)) pa_nil))) (.cons pe_str .nil))))))), ?_⟩
    have l1 : (t.cs.map V.str).length = t.cs.length := List.length_map ..
    have l2 : (qs.map fun q => V.ref q.1).length = t.rs.length := by rw [← eq, List.length_map, List.length_map]
    have c8 := ok.cols.len
    have r2 := ok.few
    have z1 : (Str.ofString (toString ((t.cs.length : Nat) : Int))).length ≤ 1921 := numT_len (by omega)
    have z2 : (Str.ofString (toString ((t.rs.length : Nat) : Int))).length ≤ 1921 := numT_len (by omega)
    have k1 : (Str.empty ++ ("table of " : Str)).length = 9 := by decide +kernel
    have k2 : (" columns, " : Str).length = 10 := by decide +kernel
    have k3 : (" rows" : Str).length = 5 := by decide +kernel
    have lg : ∀ n : Nat, n ≤ 1000 → ((n : Nat) : Int).natAbs.log2 < 1920 := fun n h => by
      rw [Int.natAbs_natCast]
      exact Nat.lt_of_le_of_lt (Nat.log2_le_self n) (by omega)
    refine ⟨_, rfl, by rw [k1]; decide, ?_⟩
    refine ⟨_, rfl, a, TC, dx, fs, _, rfl, tf.at_, Y.cls, Y.nc, tf.fc, pc, _, rfl, .inr (.inl tf.cs), .inr ⟨_, rfl, by rw [l1]; exact lg _ (by omega), _, rfl, ?_, ?_⟩⟩
    · rw [l1, PySem.Str.length_append, k1]
      exact Nat.le_of_lt (room1000 (by omega))
    rw [l1]
    refine ⟨_, rfl, ?_, ?_⟩
    · rw [PySem.Str.length_append, PySem.Str.length_append, k1, k2]
      exact Nat.le_of_lt (room1000 (by omega))
    refine ⟨_, rfl, a, TC, dx, fs, _, rfl, tf.at_, Y.cls, Y.nr, tf.fr, pr, _, rfl, .inr (.inl hq), .inr ⟨_, rfl, by rw [l2]; exact lg _ (by omega), _, rfl, ?_, ?_⟩⟩
    · rw [l2, PySem.Str.length_append, PySem.Str.length_append, PySem.Str.length_append, k1, k2]
      exact Nat.le_of_lt (room1000 (by omega))
    rw [l2]
    refine ⟨_, rfl, ?_, q⟩
    rw [PySem.Str.length_append, PySem.Str.length_append, PySem.Str.length_append, PySem.Str.length_append, k1, k2, k3]
    exact Nat.le_of_lt (room1000 (by omega))
/-- table | other -/
def Tab.join (t u : Tab) : Tab := { t with rs := t.rs ++ u.rs, ws := t.ws ++ u.ws }
theorem Tab.ok.join {t u : Tab} (ok : t.ok) (ou : u.ok) (hc : t.cs = u.cs) (hm : t.m = u.m) (l : t.rs.length + u.rs.length ≤ 40) : (t.join u).ok where
  cols := ok.cols
  c1 := ok.c1
  rlen := fun r hr => (List.mem_append.mp hr).elim (ok.rlen r) fun h => by rw [ou.rlen r h]; exact congrArg List.length hc.symm
  few := by show (t.rs ++ u.rs).length ≤ 200; rw [List.length_append]; omega
  fit := fit_of (by show (t.ws ++ u.ws).length ≤ 40; rw [List.length_append, ok.wl, ou.wl]; exact l) fun x hx => (List.mem_append.mp hx).elim (fun h => (ok.wok x h).2.1) fun h => (ou.wok x h).2.1
  mok := ok.mok
  wl := by show (t.ws ++ u.ws).length = (t.rs ++ u.rs).length; rw [List.length_append, List.length_append, ok.wl, ou.wl]
  wok := fun x hx => (List.mem_append.mp hx).elim (ok.wok x) fun h => by show t.m.has x ∧ x.near ∧ Wt t.m x; rw [hm]; exact ou.wok x h
theorem rowsD_cat {H : Hp} {p : Addr} {qs qs' : List (Addr × List Int)} {rs rs' : List (List Int)} (e : qs.map (·.2) = rs) (e' : qs'.map (·.2) = rs') (h : Rd H p (.tup ((qs.map fun q => V.ref q.1) ++ qs'.map fun q => V.ref q.1))) (h1 : ∀ q ∈ qs, Rd H q.1 (.tup (q.2.map V.int))) (h2 : ∀ q ∈ qs', Rd H q.1 (.tup (q.2.map V.int))) : RowsD H p (rs ++ rs') :=
  ⟨qs ++ qs', by rw [List.map_append, e, e'], by rw [List.map_append]; exact h, fun q hq => (List.mem_append.mp hq).elim (h1 q) (h2 q)⟩
theorem amsD_cat {H : Hp} {p : Addr} {qs qs' : List (V × Am)} {rs rs' : List Am} (e : qs.map (·.2) = rs) (e' : qs'.map (·.2) = rs') (h : Rd H p (.tup (qs.map (·.1) ++ qs'.map (·.1)))) (h1 : ∀ q ∈ qs, AmV H q.1 q.2) (h2 : ∀ q ∈ qs', AmV H q.1 q.2) : AmsD H p (rs ++ rs') :=
  ⟨qs ++ qs', by rw [List.map_append, e, e'], by rw [List.map_append]; exact h, fun q hq => (List.mem_append.mp hq).elim (h1 q) (h2 q)⟩
def spTOr (C TC : Addr) : Sp := fun vs H Q _ => ∃ (a b : Addr) (t u : Tab), vs = [.ref a, .ref b] ∧ TblAt H a TC C t ∧ TblAt H b TC C u ∧ t.ok ∧ u.ok ∧ t.cs = u.cs ∧ t.m = u.m ∧ t.rs.length + u.rs.length ≤ 40 ∧
  ∀ c H', Ex H H' → H c = none → TblAt H' c TC C (t.join u) → Q (.ref c) H'
structure EqS (P : Program) (w : World) (K : PySem.W.Frag) (mg : Str → Option Value) (base : Heap) (C : Addr) where
  e : Do1 P w K mg base C 1 "__eq__" ["self", "other"] (spEqM K C)
  ne : PySem.W.findIn K (.ref C) "__ne__" = some (some (.builtin "object.__ne__"))
  ob : PySem.W.subIn K (.ref C) (.type "object") = some true
  nf : PySem.W.notFirst K C (.ref C) = true
theorem ok_tOr {f : Addr} {fd : FuncData} (F : Fun K "__or__" "Table.__or__" sTOr f fd) (T : Blt mg) (Y : TblK K TC) (Zq : ClsT K TC) (gT : mg "Table" = some (.ref TC)) (ktt : PySem.W.kitOne K (.ref TC) (.ref TC) = some true) (Es : EqS P w K mg base C) (Cg : Dm P w K mg base TC 10 "_changed" ["self", "rows", "weights"] (spChg C TC)) : FnOk P w K mg base CX0 11 f fd ["self", "other"] (spTOr C TC) := by
  refine F.ok scTOr (fun vs H Q E h => ?_) (fun cdv A outer s H vs Q E hr h => ?_)
  · obtain ⟨a, b, t, u, rfl, _⟩ := h
    rfl
  · have hu : (A.deeper (envOfC "Table.__or__" (defScope sTOr) s.heap.objs.size f cdv)).units + 64 < cLine := by have := hr.un; omega
    have r2 := hr.mono (show 2 ≤ 10 by decide)
    obtain ⟨a, b, t, u, rfl, ⟨dx, pc, pr, ps, pw, vt, fs, tf⟩, ⟨dy, pc', pr', ps', pw', vt', gs, tg⟩, ok, ok', hc, hm, l, q⟩ := h
    refine ⟨_, pss_cons (ps_if (PW.pt (pw_or (pt_not (pt_val (pe_callB call_isi (by rfl) T.isinstance (by decide +kernel) (pa_cons (pv 1) (pa_cons (pe_glob (v := .ref TC) (by rfl) gT rfl) pa_nil))))) (pw_or (pt_cmpR (op_neD hu) (pe_fld (pv 0) (by rfl)) (pe_fld (pv 1) (by rfl)) (nomark _)) (pw_or1 (pt_cmpR (op_neK Es.e.G Es.e.o Es.ne Es.ob Es.e.b pass0 r2) (pe_fld (pv 0) (by rfl)) (pe_fld (pv 1) (by rfl)) (nomark _)))))) pss_never pss_nil)
      (pss_one (ps_ret (pe_meth (pv 0) Y.cls Cg.at_ Cg.G hr Cg.b .nil pass0 (pa_cons (pe_op op_catA (pe_fld (pv 0) (by rfl)) (pe_fld (pv 1) (by rfl))) (pa_cons (pe_op op_catA (pe_fld (pv 0) (by rfl)) (pe_fld (pv 1) (by rfl))) pa_nil))))), ?_⟩
    refine ⟨_, rfl, _, _, _, _, true, rfl, .own TC, .base (.ins tg.at_ Zq.c Zq.t1 Zq.t2 Zq.t3 Zq.t4), ktt, true, rfl, ?_⟩
    refine ⟨_, rfl, a, TC, dx, fs, _, rfl, tf.at_, Y.cls, Y.nc, tf.fc, _, rfl, b, TC, dy, gs, _, rfl, tg.at_, Y.cls, Y.nc, tg.fc, dCols t.cs, dCols u.cs, dp_cols tf.cs, dp_cols tg.cs, shaped_cols ok.cols.1, shaped_cols ok'.cols.1, ?_⟩
    rw [← hc, eqv_cols]
    refine ⟨_, rfl, ?_⟩
    obtain ⟨d1, f1, g1, _⟩ := id tf.sc
    obtain ⟨d2, f2, g2, _⟩ := id tg.sc
    refine ⟨_, rfl, a, TC, dx, fs, _, rfl, tf.at_, Y.cls, Y.nS, tf.fS, _, rfl, b, TC, dy, gs, _, rfl, tg.at_, Y.cls, Y.nS, tg.fS, ps, d1, f1, _, rfl, g1, .ins g2, Es.nf, .inl ⟨ps, ps', t.m, u.m, rfl, tf.sc, tg.sc, _, rfl, ?_⟩⟩
    rw [decide_eq_true hm]
    refine ⟨_, rfl, ?_⟩
    have nr : ("_changed" : Str) ∉ five := by decide +kernel
    obtain ⟨qs, eq, hq, hqs⟩ := tf.rs
    obtain ⟨qs', eq', hq', hqs'⟩ := tg.rs
    obtain ⟨us, eu, hu1, hus⟩ := tf.ws
    obtain ⟨us', eu', hu1', hus'⟩ := tg.ws
    have lq : qs.length = t.rs.length := by rw [← eq, List.length_map]
    have lq' : qs'.length = u.rs.length := by rw [← eq', List.length_map]
    have lu : us.length = t.rs.length := by rw [← ok.wl, ← eu, List.length_map]
    have lu' : us'.length = u.rs.length := by rw [← ok'.wl, ← eu', List.length_map]
    refine ⟨_, rfl, a, dx, fs, rfl, tf.at_, tf.no _ nr, ?_⟩
    refine ⟨_, rfl, a, TC, dx, fs, _, rfl, tf.at_, Y.cls, Y.nr, tf.fr, _, rfl, b, TC, dy, gs, _, rfl, tg.at_, Y.cls, Y.nr, tg.fr, catA_any hq hq' (by rw [List.length_map, List.length_map]; exact Nat.le_of_lt (room1000 (by omega))) fun p1 H1 e1 h1 => ?_⟩
    refine ⟨_, rfl, a, TC, dx, fs, _, rfl, e1 _ _ tf.at_, Y.cls, Y.nw, tf.fw, _, rfl, b, TC, dy, gs, _, rfl, e1 _ _ tg.at_, Y.cls, Y.nw, tg.fw, catA_any (e1.rd hu1) (e1.rd hu1') (by rw [List.length_map, List.length_map]; exact Nat.le_of_lt (room1000 (by omega))) fun p2 H2 e2 h2 => ?_⟩
    have e12 := e1.trans e2
    exact ⟨a, p1, p2, t, t.rs ++ u.rs, t.ws ++ u.ws, rfl, e12.tbl ⟨dx, pc, pr, ps, pw, vt, fs, tf⟩, rowsD_cat eq eq' (e2.rd h1) (fun q hq => e12.rd (hqs q hq)) (fun q hq => e12.rd (hqs' q hq)), amsD_cat eu eu' h2 (fun q hq => (hus q hq).ex e12) (fun q hq => (hus' q hq).ex e12), ok.join ok' hc hm l, fun c H' e n tb => q c H' (e12.trans e) (e12.back n) tb⟩
end
end Gl
/-! bool(c), c an instance with a __len__ of its own and no __bool__ -/
namespace Gl
open PySem PySem.Spec PyProof.Rows L2
section
variable {prog : Program} {w : World} {A : Around} {E : Value → Shared → Prop} {s : Shared} {K : PySem.W.Frag} {x C L f : Addr} {h₀ : Heap} {m : Str → Option Value} {ox : Obj} {od : Option Obj}
theorem truthy_lenK {Q : Bool → Shared → Prop} (F : Fr h₀ L s.heap m) (X₀ : K.In h₀) (I : PySem.W.InstAt s.heap x ox C od) (hb : PySem.W.findIn K (.ref C) "__bool__" = some none) (hs : PySem.W.findIn K (.ref C) "__len__" = some (some (.ref f))) (hf : PySem.W.isFn K (.ref f) = true)
    (h : wpAny (model prog w) A.in1 (call (.ref f) [.ref x]) (fun r s' => ∃ n t, r = .int n t ∧ (0 ≤ n ∧ n < 2 ^ 63) ∧ Q (n != 0) { s' with toks := s'.toks + 1 }) E s) : wpAny (model prog w) A (truthy (.ref x)) Q E s := by
  have X := X₀.keeps F.keep
  have key : wpAny (model prog w) A (runValue (.builtin "len" ⟨[.ref x], []⟩)) (fun r s' => ∃ n t, r = .int n t ∧ Q (n != 0) s') E s := by
    refine wpAny_runValue (codeAny_builtin entry_len ?_)
    rw [Around.under_plainId plain_len _]
    unfold Builtin.«len»
    refine wpAny_bind (m := oneArg "len" _) (wpAny_pure ?_)
    refine wpAny_bind (m := callSpecial? (.ref x) (Str.ofString "__len__")) (PySem.W.special_fn X I hs (beq_iff_eq.mp hf) (wpAny_mono h (fun r s' hr => ?_) fun _ _ y => y))
    obtain ⟨n, u, rfl, ⟨h0, h1⟩, hq⟩ := hr
    refine wpAny_bind (wpAny_holding (wpAny_pure ?_))
    refine wpAny_bind (wpAny_letGo ?_)
    show wpAny _ _ (if n < 0 then _ else _) _ _ _
    rw [if_neg (by omega)]
    show wpAny _ _ (if n ≥ 2 ^ 63 then _ else _) _ _ _
    rw [if_neg (by omega)]
    exact wpAny_bind (wpAny_mkInt (wpAny_pure ⟨_, _, rfl, hq⟩))
  unfold truthy
  refine wpAny_bind (m := callSpecial? (.ref x) (Str.ofString "__bool__")) (wpAny_bind (wpAny_bind (I.type.here ((PySem.W.looks_findIn X hb).here (wpAny_pure ?_)))))
  refine wpAny_bind (wpAny_bind (I.type.here ((PySem.W.looks_findIn X hs).here ?_)))
  exact wpAny_bind (wpAny_mono key (fun r s' h' => by obtain ⟨n, t, rfl, hq⟩ := h'; exact wpAny_pure hq) fun _ _ e => e)
end
theorem bool_newIn {prog : Program} {w : World} (x : Addr) :
    MeetsIn prog w (Builtin.«bool.__new__» ⟨[.type "bool", .ref x], []⟩) (fun A R s => wpAny (model prog w) A.in1 (truthy (.ref x)) (fun b s' => R (.ok (.ret (.bool b))) s') (fun e s' => R (.error e) s') s) :=
  .of_wp fun A R s h => by
    obtain ⟨hp, g, d, tk, os⟩ := s
    have f1 := F.conv_sub_bool
    have hT : ∀ {Q' : Bool → Shared → Prop}, (∀ b s', R (.ok (.ret (.bool b))) s' → Q' b s') → wpAny (model prog w) A.in1 (truthy (.ref x)) Q' (fun e s' => R (.error e) s') ⟨hp, g, d, tk, os⟩ := fun k => wpAny_mono h (fun b s' q => k b s' q) fun _ _ e => e
    wp_walk using hT
    intro b s' q
    wp_walk
    exact ⟨_, rfl, q⟩
section
variable {X : Cx} {CX : CXT} {C f : Addr} {n : Nat} {fd : FuncData} {ps : List Str} {sp : Sp} {E : XK}
def rBoolO (C : Addr) (sp : Sp) (E : XK) : List V → Hp → VK → Prop := fun xs H Q => ∃ a d fs, xs = [.ref a] ∧ H a = some (.ins C d fs) ∧ sp [.ref a] H (fun r H' => ∃ i : Int, r = .int i ∧ 0 ≤ i ∧ i < 2 ^ 63 ∧ Q (.bl (i != 0)) H') E
theorem cr_boolO (F : FnOk X.prog X.w X.K X.mg X.base CX n f fd ps sp) (c : OwnAt X.K C f "__len__") (nb : PySem.W.findIn X.K (.ref C) "__bool__" = some none) (hb : Binds X.K fd ps []) (hx : Passes CX X E) (hr : Room (n + 3) X.A) : CallR X (.type "bool") (rBoolO C sp E) := by
  intro pins s σ H xs us Q I rs hq
  obtain ⟨a, d, fs, rfl, ha, q⟩ := hq
  cases rs with
  | cons r0 rs =>
    cases rs
    rename_i u
    obtain rfl : u = Value.ref a := r0
    obtain ⟨mA, J, _⟩ := ins_get I.hok ha
    obtain ⟨od, J, _⟩ := J.look
    obtain ⟨m, hF⟩ := I.fr
    have sb : Sub X (n + 3) X.A := ⟨hr, rfl⟩
    refine callType_newIn PySem.F.called_bool PySem.F.newNe_bool (PySem.F.typeCall_bool_1 _) (PySem.F.newCall_bool_1 _) (fun obj => PySem.F.args_object_init_2 obj _) PySem.F.entry_bool_new (bool_newIn a) ?_
    refine truthy_lenK hF I.ok.mod.kin J nb c.find c.fn (wpAny_mono (call_fnO F hb hx (sb.in1 (n := n + 2)).in1.in1 I (vs := [.ref a]) (.cons rfl .nil) q) (fun r s' z => ?_) fun _ _ e => e)
    obtain ⟨v', H', I', rv, i, rfl, h0, h1, q'⟩ := z
    obtain ⟨t, rfl⟩ := rv
    exact ⟨i, t, rfl, ⟨h0, h1⟩, rfl, .bl (i != 0), H', I'.tok _, rfl, q'⟩
end
end Gl
set_option exponentiation.threshold 10000
namespace Gl
open PySem PySem.Spec PyProof.Rows L2 ClX RZ
abbrev sZeroL : Stmt := topS 47
theorem scZeroL : FnScope ["_law_measure"] ["_law_measure"] (defScope sZeroL) := ⟨rfl, rfl, rfl, by decide +kernel, rfl, by decide +kernel, by decide +kernel⟩
section
variable {P : Program} {w : World} {K : PySem.W.Frag} {mg : Str → Option Value} {base : Heap}
def spZeroL : Sp := fun vs H Q _ => ∃ (p : Addr) (m : Ms), vs = [.ref p] ∧ MsV H p m ∧ m.ok ∧ ∀ v H', Ex H H' → AmV H' v m.zero → Q v H'
theorem ok_zeroL {f : Addr} {fd : FuncData} (F : Fun K "_law_zero" "_law_zero" sZeroL f fd) : FnG P w K mg base CX0 1 f fd ["_law_measure"] spZeroL := by
  refine okG F scZeroL (fun vs H Q E h => ?_) (fun cdv A outer s H vs Q E hr h => ?_)
  · obtain ⟨p, m, rfl, _⟩ := h
    rfl
  · obtain ⟨p, m, rfl, hm, mok, q⟩ := h
    have hu : (A.deeper (envOfC "_law_zero" (defScope sZeroL) s.heap.objs.size f cdv)).units + 1 < cLine := by have := hr.rm.un; omega
    refine ⟨_, pss_one (ps_ret (pe_dget hu (pe_disp (pps_cons pe_str pe_int (pps_cons pe_str (pe_op (op_repT1.or op_repT) (pe_tup (pa_cons pe_int pa_nil)) (pe_ix ix_tup (pv 0) pe_int (fun _ _ => rfl))) (pps_cons pe_str (pe_tup (pa_cons pe_int (pa_cons pe_int pa_nil))) pps_nil))) rfl rfl (by simp) (by decide)) (pe_ix ix_tup (pv 0) pe_int (fun _ _ => rfl)) (fun _ _ => rfl))), ?_⟩
    refine fun d nd => ⟨by show 1 ≤ sizeLine; decide, fun t nt => ?_⟩
    have xd := Ex.new (o := .dK []) nd
    have xt := Ex.new (o := .tup [.int 0]) nt
    have hm2 := (xd.trans xt).rd hm
    refine ⟨_, rfl, p, _, 1, _, rfl, rfl, .inl hm2, rfl, ?_⟩
    have next : ∀ (z : Addr) (H1 : Hp), Ex (upd (upd H d (.dK [])) t (.tup [.int 0])) H1 → Rd H1 z (.tup ((List.replicate m.size (0 : Int)).map V.int)) → tPairs [(tC (V.str "odds"), tTup (tCons (tC (V.int 1)) (tCons (tC (V.int 1)) tNil)))] [some (.ref p)] H1 fun ps H3 =>
        H3 d = some (.dK []) ∧ ∃ kvs : List (Key × V), (.str "sums", .int 0) :: (.str "classes", .ref z) :: ps = kvs.map (fun kv => (kV kv.1, kv.2)) ∧ kvs.length ≤ 15 ∧
          tOp (rIxT K) (tVar 0) (tC (V.int 0)) [some (.ref p)] (upd H3 d (.dK (mergeK [] kvs))) fun y H2 => ∃ a v, V.ref d = .ref a ∧ DGet H2 a y (some v) ∧ Q v H2 := by
      intro z H1 e1 rz
      refine ⟨by show 2 ≤ sizeLine; decide, fun u nu => ?_⟩
      have xu := Ex.new (o := .tup [.int 1, .int 1]) nu
      refine ⟨xu d _ (e1 d _ (xt d _ upd_same)), [(.inr "sums", .int 0), (.inr "classes", .ref z), (.inr "odds", .ref u)], rfl, by show 3 ≤ 15; decide, ?_⟩
      have mk : mergeK [] [((.inr "sums" : Key), V.int 0), (.inr "classes", .ref z), (.inr "odds", .ref u)] = [(.inr "sums", .int 0), (.inr "classes", .ref z), (.inr "odds", .ref u)] := by
        have n1 : ¬ ((.inr "sums" : Key) = .inr "classes") := by decide +kernel
        have n2 : ¬ ((.inr "sums" : Key) = .inr "odds") := by decide +kernel
        have n3 : ¬ ((.inr "classes" : Key) = .inr "odds") := by decide +kernel
        simp [mergeK, putK, n1, n2, n3]
      rw [mk]
      have fin := ((xd.trans (xt.trans (e1.trans xu))).mut (o := .dK [(.inr "sums", .int 0), (.inr "classes", .ref z), (.inr "odds", .ref u)]) nd)
      have away : ∀ {b : Addr} {xs : List V}, Rd (upd H1 u (.tup [.int 1, .int 1])) b (.tup xs) → Rd (upd (upd H1 u (.tup [.int 1, .int 1])) d (.dK [(.inr "sums", .int 0), (.inr "classes", .ref z), (.inr "odds", .ref u)])) b (.tup xs) := by
        intro b xs h
        have ed := xu d _ (e1 d _ (xt d _ upd_same))
        have ne : b ≠ d := fun e => by
          subst e
          rcases h with h | ⟨o, h⟩
          · rw [ed] at h; exact nomatch h
          · rw [ed] at h; exact nomatch h
        rcases h with h | ⟨o, h⟩
        · exact .inl (by rw [upd_ne ne]; exact h)
        · exact .inr ⟨o, by rw [upd_ne ne]; exact h⟩
      refine ⟨_, rfl, p, _, 0, _, rfl, rfl, .inl (fin.rd hm), rfl, d, ?_⟩
      cases m with
      | sums => exact ⟨.int 0, rfl, .inl ⟨_, .inr "sums", .inl upd_same, rfl, by simp [valV]⟩, q _ _ fin rfl⟩
      | classes k =>
        have n1 : ¬ ((.inr "sums" : Key) = .inr "classes") := by decide +kernel
        exact ⟨.ref z, rfl, .inl ⟨_, .inr "classes", .inl upd_same, rfl, by simp [valV, List.find?_cons, n1]⟩, q _ _ fin ⟨z, rfl, away (xu.rd rz)⟩⟩
      | odds =>
        have n2 : ¬ ((.inr "sums" : Key) = .inr "odds") := by decide +kernel
        have n3 : ¬ ((.inr "classes" : Key) = .inr "odds") := by decide +kernel
        exact ⟨.ref u, rfl, .inl ⟨_, .inr "odds", .inl upd_same, rfl, by simp [valV, List.find?_cons, n2, n3]⟩, q _ _ fin ⟨u, rfl, away (.inl upd_same)⟩⟩
    by_cases one : m.size = 1
    · refine .inl ⟨t, _, rfl, by rw [one]; rfl, .inl (.inl upd_same), ?_⟩
      exact next t _ (Ex.refl _) (.inl (by rw [upd_same, one]; rfl))
    · have sz : 2 ≤ m.size ∧ m.size ≤ 4 := by
        cases m with
        | sums => exact absurd rfl one
        | classes k => exact ⟨by have := mok.1; have : ¬ k = 1 := one; show 2 ≤ k; omega, mok.2⟩
        | odds => exact absurd rfl one
      refine .inr ⟨t, (m.size : Int), [.int 0], rfl, rfl, .inl (.inl upd_same), by simp, by omega, by omega, by decide, fun z nz => ?_⟩
      refine next z _ (Ex.new nz) (.inl ?_)
      rw [upd_same, Int.toNat_natCast, List.map_replicate]
      congr 2
      generalize m.size = n
      induction n with
      | zero => rfl
      | succ n ih => rw [List.replicate_succ, List.replicate_succ, List.flatten_cons, ih]; rfl
end
abbrev sPlusL : Stmt := topS 48
theorem scPlusL : FnScope ["_law_measure", "_law_one", "_law_other", "_law_left", "_law_right"] ["_law_measure", "_law_one", "_law_other"] (defScope sPlusL) := ⟨rfl, rfl, rfl, by decide +kernel, rfl, by decide +kernel, by decide +kernel⟩
abbrev sTotalL : Stmt := topS 49
theorem scTotalL : FnScope ["_law_measure", "_law_amounts", "_law_found", "_law_amount"] ["_law_measure", "_law_amounts"] (defScope sTotalL) := ⟨rfl, rfl, rfl, by decide +kernel, rfl, by decide +kernel, by decide +kernel⟩
section
variable {K : PySem.W.Frag} {a b : Addr} {xs ys : List V}
theorem walk_zipT {n : Nat} (hn : n = min xs.length ys.length) : Walk (ItzT K a b) n (fun H => SqT K H a xs ∧ SqT K H b ys) (YPair (fun i => xs[i]?) (fun i => ys[i]?)) := by
  subst hn
  constructor
  · intro i H hi ⟨q1, q2⟩
    have h1 : i < xs.length := by omega
    have h2 : i < ys.length := by omega
    exact ⟨xs, ys, xs[i], ys[i], q1, q2, List.getElem?_eq_getElem h1, List.getElem?_eq_getElem h2⟩
  · intro H ⟨q1, q2⟩
    exact ⟨xs, ys, q1, q2, by omega⟩
  · rintro i H v H' _ ⟨q1, q2⟩ ⟨T, x, y, h1, h2, h3, h4, h5⟩
    exact ⟨T, x, y, h1, h2, h3, h4 xs q1, h5 ys q2⟩
end
section
variable {P : Program} {w : World} {K : PySem.W.Frag} {mg : Str → Option Value} {base : Heap} {C : Addr}
def spPlusL : Sp := fun vs H Q _ => ∃ (p : Addr) (m : Ms) (b c : Nat) (v u : V) (x y : Am), vs = [.ref p, v, u] ∧ MsV H p m ∧ m.ok ∧ 1 ≤ b ∧ 1 ≤ c ∧ (m = .odds → b + c ≤ 2000) ∧ m.has x ∧ m.has y ∧ x.lim b ∧ y.lim c ∧ AmV H v x ∧ AmV H u y ∧ ∀ r H', Ex H H' → AmV H' r (x.add y) → Q r H'
theorem ok_plusL {f : Addr} {fd : FuncData} (F : Fun K "_law_plus" "_law_plus" sPlusL f fd) (T : Blt mg) (Lo : DfG P w K mg base 1 "_law_lowest" ["_law_top", "_law_bottom"] spLowW) : FnG P w K mg base CX0 2 f fd ["_law_measure", "_law_one", "_law_other"] spPlusL := by
  refine okG F scPlusL (fun vs H Q E h => ?_) (fun cdv A0 outer s H vs Q E hr h => ?_)
  · obtain ⟨p, m, b, c, v, u, x, y, rfl, _⟩ := h
    rfl
  · obtain ⟨p, m, b, c, v, u, x, y, rfl, hm, mok, b1, c1, bc, hx, hy, lx, ly, vx, uy, q⟩ := h
    have nd := scPlusL.nd
    refine ⟨_, pss_cons (ps_if (pt_cmpR op_eq (pe_ix ix_tup (pv 0) pe_int (fun _ _ => rfl)) pe_str (nomark _)) (pss_one (ps_ret (pe_op op_add (pv 1) (pv 2)))) pss_nil)
      (pss_cons (ps_if (pt_cmpR op_eq (pe_ix ix_tup (pv 0) pe_int (fun _ _ => rfl)) pe_str (nomark _)) (pss_one (ps_ret (pe_callG Lo.G hr (by rfl) Lo.g Lo.kp Lo.b .nil pass0 (pa_cons (pe_op op_mulW (pe_ix ix_tup (pv 1) pe_int (fun _ _ => rfl)) (pe_ix ix_tup (pv 2) pe_int (fun _ _ => rfl))) (pa_cons (pe_op op_mulW (pe_ix ix_tup (pv 1) pe_int (fun _ _ => rfl)) (pe_ix ix_tup (pv 2) pe_int (fun _ _ => rfl))) pa_nil))))) pss_nil)
      (pss_one (ps_ret (pe_callTy call_tupleF (by rfl) T.tuple (by decide +kernel) (pa_cons (pe_lc (own := [("_law_left", 3), ("_law_right", 4)]) (g := gTup K 2 (gCons (gName 3) (gCons (gName 4) gNil))) (tt := tYes) rfl nd (pi_zipA (by rfl) T.zip (pa_cons (pv 1) (pa_cons (pv 2) pa_nil))) (blkOk_by (N := ["_law_measure", "_law_one", "_law_other", "_law_left", "_law_right"]) (sc := defScope sPlusL) (by decide +kernel)) (fun _ _ _ _ _ => pg_tup rfl (pgs_cons (pg_name (i := 3) nd rfl (.inl rfl)) (pgs_cons (pg_name (i := 4) nd rfl (.inl rfl)) pgs_nil))) (fun _ _ _ _ _ => pts_nil)
          (fun _ _ _ _ _ => pe_op op_add (pv 3) (pv 4))) pa_nil))))), ?_⟩
    refine ⟨_, rfl, p, _, 0, _, rfl, rfl, .inl hm, rfl, rfl, _, rfl, ?_⟩
    rw [word_sums]
    cases m with
    | sums =>
      cases x <;> first | exact hx.elim | skip
      cases y <;> first | exact hy.elim | skip
      obtain rfl := vx
      obtain rfl := uy
      exact ⟨_, rfl, _, rfl, _, _, rfl, rfl, q _ H (Ex.refl H) rfl⟩
    | classes k =>
      refine ⟨_, rfl, p, _, 0, _, rfl, rfl, .inl hm, rfl, rfl, _, rfl, ?_⟩
      rw [word_odds]
      cases x <;> first | exact hx.elim | skip
      cases y <;> first | exact hy.elim | skip
      rename_i as bs
      obtain ⟨a, rfl, ha⟩ := vx
      obtain ⟨z, rfl, hz⟩ := uy
      have la : as.length = k := hx
      have lb : bs.length = k := hy
      have k4 := mok.2
      refine ⟨_, rfl, _, rfl, a, z, _, _, rfl, .inr ⟨.inl ha, .inl hz, ?_⟩⟩
      refine fun D nD => lc_it (walk_zipT (n := as.length) (xs := as.map V.int) (ys := bs.map V.int) (by rw [List.length_map, List.length_map, la, lb, Nat.min_self])) (fun i H' => Ex H H' ∧ H' D = some (.lst (((List.zipWith (· + ·) as bs).take i).map V.int)))
        ⟨Ex.new nD, upd_same⟩ (fun i H' _ h => ⟨.inl (h.1.rd ha), .inl (h.1.rd hz)⟩) (fun i t H1 H2 hi h y => ?_) (fun H' h => ?_)
      · obtain ⟨ex, eD⟩ := h
        obtain ⟨t, u1, u2, rfl, nt, rfl, g1, g2⟩ := y
        have i2 : i < bs.length := by omega
        have g1 : (as.map V.int)[i]? = some u1 := g1
        have g2 : (bs.map V.int)[i]? = some u2 := g2
        rw [List.getElem?_map, List.getElem?_eq_getElem hi] at g1
        rw [List.getElem?_map, List.getElem?_eq_getElem i2] at g2
        obtain rfl : V.int as[i] = u1 := Option.some.inj g1
        obtain rfl : V.int bs[i] = u2 := Option.some.inj g2
        have xt := Ex.new (o := .tup [V.int as[i], V.int bs[i]]) nt
        refine ⟨t, _, rfl, .inl (.inl upd_same), rfl, _, _, rfl, _, _, rfl, rfl, rfl, _, rfl, _, rfl, _, _, rfl, rfl, _, xt D _ eD, ?_, (ex.trans xt).mut nD, ?_⟩
        · rw [List.length_map, List.length_take]
          exact Nat.lt_of_lt_of_le (show min i _ < 100 by omega) (by decide)
        · have zi : (List.zipWith (· + ·) as bs)[i]? = some (as[i] + bs[i]) := by
            rw [List.getElem?_zipWith, List.getElem?_eq_getElem hi, List.getElem?_eq_getElem i2]
          rw [upd_same, List.take_succ, zi, List.map_append]
          rfl
      · obtain ⟨ex, eD⟩ := h
        refine ⟨D, _, rfl, .inl (.inl eD), fun t ob nt _ => ?_⟩
        refine q _ _ (ex.trans (Ex.new nt)) ⟨t, rfl, .inr ⟨ob, ?_⟩⟩
        rw [upd_same, List.take_of_length_le (by rw [List.length_zipWith]; omega)]
    | odds =>
      refine ⟨_, rfl, p, _, 0, _, rfl, rfl, .inl hm, rfl, rfl, _, rfl, ?_⟩
      rw [word_odds]
      cases x <;> first | exact hx.elim | skip
      cases y <;> first | exact hy.elim | skip
      rename_i x y
      obtain ⟨a, rfl, ha⟩ := vx
      obtain ⟨z, rfl, hz⟩ := uy
      have bc := bc rfl
      have w1 := Nat.lt_of_lt_of_le lx.1 (pow_le2 (show b ≤ 2000 by omega))
      have w2 := Nat.lt_of_lt_of_le lx.2 (pow_le2 (show b ≤ 2000 by omega))
      have w3 := Nat.lt_of_lt_of_le ly.1 (pow_le2 (show c ≤ 2000 by omega))
      have w4 := Nat.lt_of_lt_of_le ly.2 (pow_le2 (show c ≤ 2000 by omega))
      have sm : ∀ {i j : Nat}, i < 2 ^ b → j < 2 ^ c → i * j < 2 ^ 2000 := fun h1 h2 => Nat.lt_of_lt_of_le (by rw [Nat.pow_add]; exact Nat.mul_lt_mul'' h1 h2) (pow_le2 bc)
      refine ⟨_, rfl, a, _, 0, _, rfl, rfl, .inl ha, rfl, _, rfl, z, _, 0, _, rfl, rfl, .inl hz, rfl, _, _, rfl, rfl, cmulW w1 w3, _, rfl, a, _, 1, _, rfl, rfl, .inl ha, rfl, _, rfl, z, _, 1, _, rfl, rfl, .inl hz, rfl, _, _, rfl, rfl, cmulW w2 w4, ?_⟩
      exact ⟨x.1.1 * y.1.1, x.1.2 * y.1.2, by rw [Int.natCast_mul, Int.natCast_mul]; rfl, Nat.mul_pos x.2.p0 y.2.p0, Nat.mul_pos x.2.q0 y.2.q0, sm lx.1 ly.1, sm lx.2 ly.2, fun pt H' lo e np rd => q _ H' e ⟨pt, rfl, rd⟩⟩
end
theorem foldl_take {xs : List Am} {s : Am} {i : Nat} {x : Am} (h : xs[i]? = some x) : (xs.take (i + 1)).foldl Am.add s = ((xs.take i).foldl Am.add s).add x := by
  rw [List.take_succ, h, List.foldl_append]
  rfl
/-- how long a weight is -/
def wBits (m : Ms) : Nat := match m with
  | .odds => 20
  | _ => 134
theorem wt_bits {m : Ms} : ∀ {x : Am}, m.has x → Wt m x → x.lim (wBits m)
  | .n i, hx, h => by
    cases m with
    | sums =>
      have h : 0 < i ∧ i < 10 ^ 40 := h
      show i.natAbs < 2 ^ 134
      have : (10 : Int) ^ 40 < 2 ^ 134 := by decide
      omega
    | classes k => exact hx.elim
    | odds => exact hx.elim
  | .c ns, hx, h => by
    cases m with
    | classes k =>
      have h : (∀ n ∈ ns, 0 ≤ n ∧ n < 10 ^ 40) ∧ ∃ n ∈ ns, 0 < n := h
      intro n hn
      obtain ⟨h1, h2⟩ := h.1 n hn
      show n.natAbs < 2 ^ 134
      have : (10 : Int) ^ 40 < 2 ^ 134 := by decide
      omega
    | sums => exact hx.elim
    | odds => exact hx.elim
  | .o x, hx, h => by
    cases m with
    | odds =>
      have h : x.1.2 < x.1.1 ∧ x.1.1 ≤ 1000000 := h
      have : 1000000 < 2 ^ 20 := by decide
      exact ⟨by show x.1.1 < 2 ^ 20; omega, by show x.1.2 < 2 ^ 20; omega⟩
    | sums => exact hx.elim
    | classes k => exact hx.elim
theorem add_lim1 {m : Ms} (no : m ≠ .odds) {a : Nat} : ∀ {x y : Am}, m.has x → m.has y → x.lim a → y.lim a → (x.add y).lim (a + 1)
  | .n i, .n j, _, _, h1, h2 => by
    have h1 : i.natAbs < 2 ^ a := h1
    have h2 : j.natAbs < 2 ^ a := h2
    show (i + j).natAbs < 2 ^ (a + 1)
    rw [Nat.pow_succ]
    omega
  | .c xs, .c ys, _, _, h1, h2 => fun n hn => by
    obtain ⟨i, hi, j, hj, rfl⟩ := zip_mem hn
    have h1 := h1 i hi
    have h2 := h2 j hj
    rw [Nat.pow_succ]
    omega
  | .o _, .o _, h, _, _, _ => by cases m <;> first | exact absurd rfl no | exact h.elim
  | .n _, .c _, h, z, _, _ => by cases m <;> first | exact h.elim | exact z.elim
  | .n _, .o _, h, z, _, _ => by cases m <;> first | exact h.elim | exact z.elim
  | .c _, .n _, h, z, _, _ => by cases m <;> first | exact h.elim | exact z.elim
  | .c _, .o _, h, z, _, _ => by cases m <;> first | exact h.elim | exact z.elim
  | .o _, .n _, h, z, _, _ => by cases m <;> first | exact h.elim | exact z.elim
  | .o _, .c _, h, z, _, _ => by cases m <;> first | exact h.elim | exact z.elim
theorem sum_lim1 {m : Ms} (no : m ≠ .odds) {c : Nat} : ∀ {xs : List Am} {s : Am} {b : Nat}, c ≤ b → (∀ x ∈ xs, m.has x ∧ x.lim c) → m.has s → s.lim b → (xs.foldl Am.add s).lim (b + xs.length)
  | [], _, _, _, _, _, hs => hs
  | x :: xs, s, b, hb, h, ms, hs => by
    obtain ⟨h1, h2⟩ := h x (List.mem_cons_self ..)
    have := sum_lim1 no (xs := xs) (c := c) (b := b + 1) (by omega) (fun y hy => h y (List.mem_cons_of_mem _ hy)) (add_has ms h1) (add_lim1 no ms h1 hs (h2.mono hb))
    rw [List.length_cons, show b + (xs.length + 1) = b + 1 + xs.length by omega]
    exact this
/-- the sum of at most forty weights -/
theorem tot_lim {m : Ms} {ws : List Am} (h : ∀ x ∈ ws, m.has x ∧ Wt m x) (l : ws.length ≤ 40) : (sumA m ws).lim 900 := by
  have hb : ∀ x ∈ ws, m.has x ∧ x.lim (wBits m) := fun x hx => ⟨(h x hx).1, wt_bits (h x hx).1 (h x hx).2⟩
  by_cases no : m = .odds
  · subst no
    exact (sum_lim (a := 20) (b := 1) (by decide) (by decide) hb (Ms.zero_has _) (zero_lim _ (by decide))).mono (by omega)
  · have e : wBits m = 134 := by cases m <;> first | rfl | exact absurd rfl no
    rw [e] at hb
    exact (sum_lim1 no (b := 134) (Nat.le_refl _) hb (Ms.zero_has _) (zero_lim _ (by decide))).mono (by omega)
section
variable {P : Program} {w : World} {K : PySem.W.Frag} {mg : Str → Option Value} {base : Heap} {C : Addr}
def spTotalL : Sp := fun vs H Q _ => ∃ (p L : Addr) (m : Ms) (ws : List Am), vs = [.ref p, .ref L] ∧ MsV H p m ∧ m.ok ∧ AmsD H L ws ∧ (∀ x ∈ ws, m.has x ∧ Wt m x) ∧ ws.length ≤ 40 ∧ ∀ r H', Ex H H' → AmV H' r (sumA m ws) → Q r H'
theorem ok_totalL {f : Addr} {fd : FuncData} (F : Fun K "_law_total" "_law_total" sTotalL f fd) (Pq : DfG P w K mg base 2 "_law_plus" ["_law_measure", "_law_one", "_law_other"] spPlusL) (Zq : DfG P w K mg base 1 "_law_zero" ["_law_measure"] spZeroL) : FnG P w K mg base CX0 3 f fd ["_law_measure", "_law_amounts"] spTotalL := by
  refine okG F scTotalL (fun vs H Q E h => ?_) (fun cdv A0 outer s H vs Q E hr h => ?_)
  · obtain ⟨p, L, m, ws, rfl, _⟩ := h
    rfl
  · obtain ⟨p, L, m, ws, rfl, hm, mok, ⟨ps, eps, eL, hps⟩, fact, hl, q⟩ := h
    have nd := scTotalL.nd
    have r1 := hr.mono (show 1 ≤ 2 by decide)
    have r2 := hr.mono (show 2 ≤ 2 by decide)
    refine ⟨_, pss_cons (ps_set (i := 2) nd rfl (.inl rfl) (pe_callG Zq.G r1 (by rfl) Zq.g Zq.kp Zq.b .nil pass0 (pa_cons (pv 0) pa_nil)))
      (pss_cons (ps_for PassesOwn.never rfl (pi_tup (pv 1)) (pg_name (i := 3) nd rfl (.inl rfl))
        (pss_one (ps_set (i := 2) nd rfl (.inl rfl) (pe_callG Pq.G r2 (by rfl) Pq.g Pq.kp Pq.b .nil pass0 (pa_cons (pv 0) (pa_cons (pv 2) (pa_cons (pv 3) pa_nil)))))))
      (pss_one (ps_ret (pv 2)))), ?_⟩
    refine ⟨_, rfl, p, m, rfl, hm, mok, fun z H1 e1 vz => ?_⟩
    refine ⟨_, rfl, L, rfl, ⟨_, .inl (e1.rd eL)⟩, ?_⟩
    have hx : ∀ x ∈ ws, m.has x ∧ x.lim (wBits m) := fun x hx => ⟨(fact x hx).1, wt_bits (fact x hx).1 (fact x hx).2⟩
    have wb : 1 ≤ wBits m := by cases m <;> (first | exact (by decide : 1 ≤ 20) | exact (by decide : 1 ≤ 134))
    have pl : ps.length = ws.length := by rw [← eps, List.length_map]
    refine for_tup (xs := ps.map (·.1)) (fun i σ H' => ∃ (v : V) (y3 : Option V), σ = [some (.ref p), some (.ref L), some v, y3] ∧ Ex H H' ∧ AmV H' v ((ws.take i).foldl Am.add m.zero)) ⟨z, none, rfl, e1, vz⟩
      (fun i σ H' _ h => ?_) (fun i x σ H2 hx2 h => ?_) (fun σ H2 h => ?_)
    · obtain ⟨v, y3, rfl, ex, _⟩ := h
      exact .inl (ex.rd eL)
    · obtain ⟨v, y3, rfl, ex, vv⟩ := h
      rw [List.getElem?_map] at hx2
      obtain ⟨c, hc, rfl⟩ := Option.map_eq_some_iff.mp hx2
      have il := (List.getElem?_eq_some_iff.mp hc).1
      have hci : ws[i]? = some c.2 := by rw [← eps, List.getElem?_map, hc]; rfl
      obtain ⟨c1, c2⟩ := hx c.2 (List.mem_of_getElem? hci)
      have ht : ∀ x ∈ ws.take i, m.has x ∧ x.lim (wBits m) := fun x h => hx x (List.mem_of_mem_take h)
      have l1 := sum_lim (b := 1) wb (by decide) ht m.zero_has (zero_lim m (by decide))
      have l2 : (ws.take i).length = i := by rw [List.length_take]; omega
      rw [l2] at l1
      refine ⟨_, rfl, _, rfl, _, rfl, p, m, 1 + wBits m * i, wBits m, v, c.1, _, c.2, rfl, ex.rd hm, mok, by omega, wb, fun e => by rw [e]; show 1 + 20 * i + 20 ≤ 2000; omega, sum_has (fun x h => (ht x h).1) m.zero_has, c1, l1, c2, vv, (hps c (List.mem_of_getElem? hc)).ex ex, fun r H3 e3 vr => ?_⟩
      refine ⟨r, _, rfl, ex.trans e3, ?_⟩
      rw [foldl_take hci]
      exact vr
    · obtain ⟨v, y3, rfl, ex, vv⟩ := h
      refine ⟨_, rfl, q v H2 ex ?_⟩
      rw [List.length_map, pl, List.take_length] at vv
      exact vv
end
end Gl
/-! list(zip(a tuple, a tuple)) -/
namespace Gl
open PySem PySem.Spec PyProof.Rows L2
open Builtin.SmallTypes (nextOf)
section
variable {prog : Program} {w : World} {A : Around} {E : Value → Shared → Prop} {s : Shared}
/-- the next pair, while the first one given out is still there -/
theorem pyNext_heldT {z TI TO T i1 i2 l1 l2 : Addr} {f : Bool} {oT : Obj} {k : Nat} {xs ys : Array Value} {x y : Value} {Q : Option Value → Shared → Prop} (D : ZipApart z TI TO i1 i2 l1 l2)
    (hz : IsZipHeld s.heap z TI TO T f) (hT : s.heap.get? T = some oT) (hTI : IsPair s.heap TI (.ref i1) (.ref i2))
    (h1 : s.heap.IsTupleIter i1 l1 k) (h2 : s.heap.IsTupleIter i2 l2 k) (hl1 : s.heap.IsTuple l1 xs) (hl2 : s.heap.IsTuple l2 ys) (hx : xs[k]? = some x) (hy : ys[k]? = some y)
    (hQ : ∀ h', IsZipHeld h' z TI TO T true → h'.IsTupleIter i1 l1 (k + 1) → h'.IsTupleIter i2 l2 (k + 1) → IsPair h' s.heap.objs.size x y → h'.objs.size = s.heap.objs.size + 1 →
      (∀ c o, c ≠ z → c ≠ i1 → c ≠ i2 → s.heap.get? c = some o → h'.get? c = some o) → Q (some (.ref s.heap.objs.size)) { s with heap := h' }) :
    wpAny (model prog w) A (pyNext (.ref z)) Q E s := by
  have ty : s.TypeIs (.ref z) "zip" := ⟨_, hz, rfl⟩
  have body : ∀ {R : Value → Shared → Prop} {A : Around} {E : Value → Shared → Prop}, (∀ h', IsZipHeld h' z TI TO T true → h'.IsTupleIter i1 l1 (k + 1) → h'.IsTupleIter i2 l2 (k + 1) → IsPair h' s.heap.objs.size x y → h'.objs.size = s.heap.objs.size + 1 →
      (∀ c o, c ≠ z → c ≠ i1 → c ≠ i2 → s.heap.get? c = some o → h'.get? c = some o) → R (.ref s.heap.objs.size) { s with heap := h' }) →
      wpAny (model prog w) A (Builtin.«zip.__next__» ⟨[.ref z], []⟩) (fun fin s' => ∃ v, fin = .done (.ret v) ∧ R v s') E s := by
    intro R A E hR
    show wpAny _ _ (field (.ref z) 2 >>= _) _ _ _
    refine wpAny_bind (wpAny_field hz rfl (x := .bool false) rfl ?_)
    show wpAny _ _ (field (.ref z) 3 >>= _) _ _ _
    refine wpAny_bind (wpAny_field hz rfl (x := .ref TI) rfl (wpAny_bind (wpAny_seqItems hTI rfl ?_)))
    show wpAny _ _ (Builtin.SmallTypes.ownedTupleIsFree (.ref z) >>= _) _ _ _
    refine wpAny_bind (wpAny_tupleHeld_zip hz hT fun g1 hz1 b1 => ?_)
    simp only [Bool.false_eq_true, if_false]
    refine wpAny_bind ?_
    rw [← Array.forIn_toList]
    simp only [List.forIn_cons, List.forIn_nil]
    refine wpAny_bind (wpAny_bind (wpAny_holding ?_))
    show wpAny _ _ (nextOf (.ref i1) >>= _) _ _ _
    refine wpAny_bind (wpAny_nextOf_tuple_item (s := { s with heap := g1 }) (h1.at fun o q => b1.extBut _ _ D.i1z q) (hl1.at fun o q => b1.extBut _ _ D.l1z q) hx fun g2 j1 b2 => wpAny_pure (wpAny_pure ?_))
    refine wpAny_bind (wpAny_bind (wpAny_holding ?_))
    show wpAny _ _ (nextOf (.ref i2) >>= _) _ _ _
    refine wpAny_bind (wpAny_nextOf_tuple_item (s := { s with heap := g2 }) (h2.at fun o q => b2.extBut _ _ D.i12.symm (b1.extBut _ _ D.i2z q)) (hl2.at fun o q => b2.extBut _ _ D.l2i1 (b1.extBut _ _ D.l2z q)) hy fun g3 j2 b3 => wpAny_pure (wpAny_pure (wpAny_pure ?_)))
    show wpAny _ _ (newTuple [x, y] >>= _) _ _ _
    refine wpAny_bind (wpAny_newTuple (wpAny_pure ⟨_, rfl, ?_⟩))
    have sz : g3.objs.size = s.heap.objs.size := by rw [b3.1, b2.1, b1.1]
    have hp : IsPair (g3.push { cls := .type "tuple", data := .seq #[x, y] }) g3.objs.size x y := Heap.get?_push_size _ rfl
    have zz : (g3.push { cls := .type "tuple", data := .seq #[x, y] }).objs.size = g3.objs.size + 1 := Heap.size_push ..
    show R (.ref g3.objs.size) _
    rw [sz] at hp zz ⊢
    refine hR _ (Heap.get?_push_of_some _ (b3.extBut _ _ D.i2z.symm (b2.extBut _ _ D.i1z.symm hz1))) (j1.at fun o q => Heap.get?_push_of_some _ (b3.extBut _ _ D.i12 q)) (j2.at fun o q => Heap.get?_push_of_some _ q) hp zz fun c o c1 c2 c3 e => ?_
    exact Heap.get?_push_of_some _ (b3.extBut _ _ c3 (b2.extBut _ _ c2 (b1.extBut _ _ c1 e)))
  unfold pyNext
  exact wpAny_bind (wpAny_attempt (wpAny_callSpecial?_slot (name := Str.ofString "__next__") ty F.slot_zip_next
    (wpAny_call_entry F.slot_zip_next ty F.entry_zip_next (body fun h' a1 a2 a3 a4 a5 a6 => wpAny_pure (hQ h' a1 a2 a3 a4 a5 a6)) (F.args_zip_next_1 _))))
/-- .. and behind the last one -/
theorem pyEnd_heldT {z TI TO T i1 i2 l1 l2 : Addr} {f : Bool} {oT : Obj} {k : Nat} {xs ys : Array Value} {Q : Option Value → Shared → Prop} (hh : A.handled = none) (D : ZipApart z TI TO i1 i2 l1 l2)
    (hz : IsZipHeld s.heap z TI TO T f) (hT : s.heap.get? T = some oT) (hTI : IsPair s.heap TI (.ref i1) (.ref i2))
    (h1 : s.heap.IsTupleIter i1 l1 k) (hl1 : s.heap.IsTuple l1 xs) (hx : xs[k]? = none)
    (hQ : ∀ h', (∀ c o, c ≠ z → c ≠ i1 → s.heap.get? c = some o → h'.get? c = some o) → Q none { s with heap := h' }) : wpAny (model prog w) A (pyNext (.ref z)) Q E s := by
  have ty : s.TypeIs (.ref z) "zip" := ⟨_, hz, rfl⟩
  have body : ∀ {R : PySem.Fin → Shared → Prop} {E : Value → Shared → Prop}, (∀ h' e, (∀ c o, c ≠ z → c ≠ i1 → s.heap.get? c = some o → h'.get? c = some o) → (∃ o, h'.get? e = some o ∧ o.cls = .type "StopIteration") → E (.ref e) { s with heap := h' }) →
      wpAny (model prog w) A.in1 (Builtin.«zip.__next__» ⟨[.ref z], []⟩) R E s := by
    intro R E hE
    show wpAny _ _ (field (.ref z) 2 >>= _) _ _ _
    refine wpAny_bind (wpAny_field hz rfl (x := .bool false) rfl ?_)
    show wpAny _ _ (field (.ref z) 3 >>= _) _ _ _
    refine wpAny_bind (wpAny_field hz rfl (x := .ref TI) rfl (wpAny_bind (wpAny_seqItems hTI rfl ?_)))
    show wpAny _ _ (Builtin.SmallTypes.ownedTupleIsFree (.ref z) >>= _) _ _ _
    refine wpAny_bind (wpAny_tupleHeld_zip hz hT fun g1 hz1 b1 => ?_)
    simp only [Bool.false_eq_true, if_false]
    refine wpAny_bind ?_
    rw [← Array.forIn_toList]
    simp only [List.forIn_cons, List.forIn_nil]
    refine wpAny_bind (wpAny_bind (wpAny_holding ?_))
    show wpAny _ _ (nextOf (.ref i1) >>= _) _ _ _
    refine wpAny_bind (wpAny_nextOf_tuple_end (s := { s with heap := g1 }) hh (h1.at fun o q => b1.extBut _ _ D.i1z q) (hl1.at fun o q => b1.extBut _ _ D.l1z q) hx fun g2 e b2 he => ?_)
    exact hE g2 e (fun c o c1 c2 q => b2 _ _ c2 (b1.extBut _ _ c1 q)) he
  unfold pyNext
  refine wpAny_bind (wpAny_attempt (wpAny_callSpecial?_slot (name := Str.ofString "__next__") ty F.slot_zip_next
    (wpAny_call_entry F.slot_zip_next ty F.entry_zip_next (body fun h' e hk he => ?_) (F.args_zip_next_1 _))))
  obtain ⟨o, ho, hc⟩ := he
  exact wpAny_bind (wpAny_isInstance (T := "StopIteration") (b := true) ⟨o, ho, hc⟩ isSubtype_stop (wpAny_pure (hQ _ hk)))
end
/-- what has been taken out of zip(a tuple, a tuple) so far -/
structure Took (h₀ h : Heap) (S z TI TO i1 i2 l1 l2 : Addr) (xs ys : Array Value) (bs : List Addr) : Prop where
  at_ : ∃ c, h.get? S = some { cls := .type "list", dict := none, data := .seq (bs.map Value.ref).toArray c, slots := #[] }
  zip : (bs = [] ∧ IsZip h z TI TO .none ∧ ∃ a b, IsPair h TO a b) ∨ ∃ T f o, IsZipHeld h z TI TO T f ∧ h.get? T = some o ∧ T ≠ z ∧ T ≠ i1 ∧ T ≠ i2 ∧ T ≠ S
  ti : IsPair h TI (.ref i1) (.ref i2)
  it1 : h.IsTupleIter i1 l1 bs.length
  it2 : h.IsTupleIter i2 l2 bs.length
  t1 : h.IsTuple l1 xs
  t2 : h.IsTuple l2 ys
  keep : ∀ c o, c ≠ S → c ≠ z → c ≠ TO → c ≠ i1 → c ≠ i2 → h₀.get? c = some o → h.get? c = some o
  size : h₀.objs.size ≤ h.objs.size
  prs : ∀ (j : Nat) (b : Addr), bs[j]? = some b → ∃ x y, xs[j]? = some x ∧ ys[j]? = some y ∧ IsPair h b x y ∧ h₀.objs.size ≤ b
  nd : bs.Nodup
section
variable {prog : Program} {w : World} {A : Around} {R : Result → Shared → Prop} {S z TI TO i1 i2 l1 l2 : Addr} {xs ys : Array Value} {h₀ : Heap}
/-- the list grows by one -/
theorem Took.push {h h' : Heap} {bs : List Addr} {T : Addr} {x y : Value} (D : ZipApart z TI TO i1 i2 l1 l2) (hs : S ≠ z ∧ S ≠ TI ∧ S ≠ TO ∧ S ≠ i1 ∧ S ≠ i2 ∧ S ≠ l1 ∧ S ≠ l2) (t : Took h₀ h S z TI TO i1 i2 l1 l2 xs ys bs) (lt : ∀ c ∈ [S, z, TI, TO, i1, i2, l1, l2], c < h₀.objs.size)
    (hT : T = h.objs.size) (hx : xs[bs.length]? = some x) (hy : ys[bs.length]? = some y)
    (hz : ∃ T' f o, IsZipHeld h' z TI TO T' f ∧ h'.get? T' = some o ∧ T' ≠ z ∧ T' ≠ i1 ∧ T' ≠ i2 ∧ T' ≠ S) (a1 : h'.IsTupleIter i1 l1 (bs.length + 1)) (a2 : h'.IsTupleIter i2 l2 (bs.length + 1)) (hp : IsPair h' T x y) (sz : h'.objs.size = h.objs.size + 1)
    (k : ∀ c o, c ≠ z → c ≠ TO → c ≠ i1 → c ≠ i2 → h.get? c = some o → h'.get? c = some o) {c : Nat} (hS : h.get? S = some { cls := .type "list", dict := none, data := .seq (bs.map Value.ref).toArray c, slots := #[] }) :
    Took h₀ (h'.update S (Obj.mapSeq (·.push (.ref T)))) S z TI TO i1 i2 l1 l2 xs ys (bs ++ [T]) := by
  obtain ⟨s1, s2, s3, s4, s5, s6, s7⟩ := hs
  have hS' := k S _ s1 s3 s4 s5 hS
  have up : ∀ c o, c ≠ S → h'.get? c = some o → (h'.update S (Obj.mapSeq (·.push (.ref T)))).get? c = some o := fun c o n e => (Heap.get?_update_other _ _ (Ne.symm n)).trans e
  have zl := lt z (by simp)
  have Sl := lt S (by simp)
  have TOl := lt TO (by simp)
  have i1l := lt i1 (by simp)
  have i2l := lt i2 (by simp)
  have hz0 := t.size
  have key : ∃ c', (h'.update S (Obj.mapSeq (·.push (.ref T)))).get? S = some { cls := .type "list", dict := none, data := .seq ((bs ++ [T]).map Value.ref).toArray c', slots := #[] } := by
    have e := Heap.get?_update_self (Obj.mapSeq (·.push (Value.ref T))) hS' rfl
    rw [List.map_append]
    exact ⟨_, e.trans (by simp [Obj.mapSeq]; rfl)⟩
  refine ⟨key, .inr ?_, up _ _ (Ne.symm s2) (k _ _ D.TIz D.TITO D.TIi1 D.TIi2 t.ti), ?_, ?_, ?_, ?_, fun c o c1 c2 c3 c4 c5 e => up c o c1 (k c o c2 c3 c4 c5 (t.keep c o c1 c2 c3 c4 c5 e)), ?_, fun j b hj => ?_, ?_⟩
  · obtain ⟨T', f, o, q1, q2, q3, q4, q5, q6⟩ := hz
    exact ⟨T', f, o, up _ _ (Ne.symm s1) q1, up _ _ q6 q2, q3, q4, q5, q6⟩
  · rw [List.length_append]; exact a1.at fun o q => up _ _ (Ne.symm s4) q
  · rw [List.length_append]; exact a2.at fun o q => up _ _ (Ne.symm s5) q
  · exact t.t1.at fun o q => up _ _ (Ne.symm s6) (k _ _ D.l1z D.l1TO D.l1i1 D.l1i2 q)
  · exact t.t2.at fun o q => up _ _ (Ne.symm s7) (k _ _ D.l2z D.l2TO D.l2i1 D.l2i2 q)
  · rw [Heap.size_update, sz]; omega
  · have TS : T ≠ S := by rw [hT]; exact Nat.ne_of_gt (Nat.lt_of_lt_of_le Sl hz0)
    rcases Nat.lt_trichotomy j bs.length with q | q | q
    · rw [List.getElem?_append_left q] at hj
      obtain ⟨u, v, e1, e2, e3, e4⟩ := t.prs j b hj
      have bl : b < h.objs.size := Heap.lt_size e3
      refine ⟨u, v, e1, e2, up _ _ (fun e => ?_) (k _ _ (fun e => ?_) (fun e => ?_) (fun e => ?_) (fun e => ?_) e3), e4⟩ <;> (subst e; exact absurd e4 (Nat.not_le_of_lt (by assumption)))
    · subst q
      rw [List.getElem?_append_right (Nat.le_refl _), Nat.sub_self] at hj
      obtain rfl : T = b := by simpa using hj
      exact ⟨x, y, hx, hy, up _ _ TS hp, by rw [hT]; exact hz0⟩
    · rw [List.getElem?_append_right (by omega)] at hj
      have : j - bs.length ≠ 0 := by omega
      obtain ⟨m, e⟩ : ∃ m, j - bs.length = m + 1 := ⟨j - bs.length - 1, by omega⟩
      rw [e] at hj
      simp at hj
  · rw [List.nodup_append]
    refine ⟨t.nd, by simp, fun a ha b hb e => ?_⟩
    obtain rfl : b = T := by simpa using hb
    subst e
    obtain ⟨j, hj⟩ := List.mem_iff_getElem?.mp ha
    obtain ⟨_, _, _, _, e3, _⟩ := t.prs j _ hj
    have q := Heap.lt_size e3
    rw [hT] at q
    exact Nat.lt_irrefl _ q
/-- the whole list -/
structure Got (h₀ h : Heap) (S z TO i1 i2 : Addr) (xs ys : Array Value) (bs : List Addr) : Prop where
  at_ : ∃ c, h.get? S = some { cls := .type "list", dict := none, data := .seq (bs.map Value.ref).toArray c, slots := #[] }
  keep : ∀ c o, c ≠ S → c ≠ z → c ≠ TO → c ≠ i1 → c ≠ i2 → h₀.get? c = some o → h.get? c = some o
  prs : ∀ (j : Nat) (b : Addr), bs[j]? = some b → ∃ x y, xs[j]? = some x ∧ ys[j]? = some y ∧ IsPair h b x y ∧ h₀.objs.size ≤ b
  nd : bs.Nodup
theorem Took.got {h h' : Heap} {bs : List Addr} (t : Took h₀ h S z TI TO i1 i2 l1 l2 xs ys bs) (hs : S ≠ z ∧ S ≠ TI ∧ S ≠ TO ∧ S ≠ i1 ∧ S ≠ i2 ∧ S ≠ l1 ∧ S ≠ l2) (lt : ∀ c ∈ [S, z, TI, TO, i1, i2, l1, l2], c < h₀.objs.size)
    (k : ∀ c o, c ≠ z → c ≠ TO → c ≠ i1 → c ≠ i2 → h.get? c = some o → h'.get? c = some o) : Got h₀ h' S z TO i1 i2 xs ys bs := by
  obtain ⟨c, hS⟩ := t.at_
  refine ⟨⟨c, k _ _ hs.1 hs.2.2.1 hs.2.2.2.1 hs.2.2.2.2.1 hS⟩, fun c o c1 c2 c3 c4 c5 e => k c o c2 c3 c4 c5 (t.keep c o c1 c2 c3 c4 c5 e), fun j b hj => ?_, t.nd⟩
  obtain ⟨x, y, e1, e2, e3, e4⟩ := t.prs j b hj
  have ne : ∀ c ∈ [S, z, TI, TO, i1, i2, l1, l2], b ≠ c := fun c hc => Nat.ne_of_gt (Nat.lt_of_lt_of_le (lt c hc) e4)
  exact ⟨x, y, e1, e2, k _ _ (ne _ (by simp)) (ne _ (by simp)) (ne _ (by simp)) (ne _ (by simp)) e3, e4⟩
theorem extend_took (hh : A.in1.handled = none) (D : ZipApart z TI TO i1 i2 l1 l2) (hs : S ≠ z ∧ S ≠ TI ∧ S ≠ TO ∧ S ≠ i1 ∧ S ≠ i2 ∧ S ≠ l1 ∧ S ≠ l2) (lt : ∀ c ∈ [S, z, TI, TO, i1, i2, l1, l2], c < h₀.objs.size) (le : xs.size = ys.size) (hn : xs.size ≤ sizeLine) (res : Value) :
    ∀ (k : Nat) (s : Shared) (bs : List Addr), xs.size - bs.length = k → bs.length ≤ xs.size → Took h₀ s.heap S z TI TO i1 i2 l1 l2 xs ys bs →
    (∀ h' tk bs', bs'.length = xs.size → Got h₀ h' S z TO i1 i2 xs ys bs' → R (.ok (.ret res)) { s with heap := h', toks := tk }) →
    codeAny (model prog w) A (.builtin "list.extend.loop" ⟨[.ref S, .ref z, res], []⟩) R s := by
  intro k
  induction k with
  | zero =>
    intro s bs hk hi t hR
    have hin : bs.length = xs.size := by omega
    refine codeAny_builtin F.entry_extend_loop ?_
    rw [Around.under_plainId F.plain_extend_loop _]
    show wpAny _ A.in1 (pyNext (.ref z) >>= _) _ _ s
    refine wpAny_bind ?_
    rcases id t.zip with ⟨e, hz, a, b, hTO⟩ | ⟨T, f, o, hz, hT, n1, n2, n3, n4⟩
    · exact RZ.pyNext_zipT_end hh D hz t.ti hTO t.it1 t.it2 t.t1 t.t2 (.inl (Array.getElem?_eq_none (by omega))) fun h' k' => wpAny_pure (hR h' s.toks bs hin (t.got hs lt k'))
    · exact pyEnd_heldT (ys := ys) hh D hz hT t.ti t.it1 t.t1 (Array.getElem?_eq_none (by omega)) fun h' k' => wpAny_pure (hR h' s.toks bs hin (t.got hs lt fun c o c1 _ c2 _ e => k' c o c1 c2 e))
  | succ k ih =>
    intro s bs hk hi t hR
    have hlt : bs.length < xs.size := by omega
    refine codeAny_builtin F.entry_extend_loop ?_
    rw [Around.under_plainId F.plain_extend_loop _]
    show wpAny _ A.in1 (pyNext (.ref z) >>= _) _ _ s
    have hx : xs[bs.length]? = some xs[bs.length] := Array.getElem?_eq_getElem hlt
    have hy : ys[bs.length]? = some (ys[bs.length]'(by omega)) := Array.getElem?_eq_getElem (by omega)
    obtain ⟨c, hS⟩ := t.at_
    have fin : ∀ h', (∃ T' f o, IsZipHeld h' z TI TO T' f ∧ h'.get? T' = some o ∧ T' ≠ z ∧ T' ≠ i1 ∧ T' ≠ i2 ∧ T' ≠ S) → h'.IsTupleIter i1 l1 (bs.length + 1) → h'.IsTupleIter i2 l2 (bs.length + 1) → IsPair h' s.heap.objs.size xs[bs.length] (ys[bs.length]'(by omega)) → h'.objs.size = s.heap.objs.size + 1 →
        (∀ c o, c ≠ z → c ≠ TO → c ≠ i1 → c ≠ i2 → s.heap.get? c = some o → h'.get? c = some o) →
        wpAny (model prog w) A.in1 (updateSeq S (·.push (.ref s.heap.objs.size)) >>= fun _ => again (.builtin "list.extend.loop" ⟨[.ref S, .ref z, res], []⟩)) (GQ.FinOf prog w A R) (fun e s' => R (.error e) s') { s with heap := h' } := by
      intro h' hz a1 a2 hp sz k'
      have tk := t.push D hs lt rfl hx hy hz a1 a2 hp sz k' hS
      have hS' := k' S _ hs.1 hs.2.2.1 hs.2.2.2.1 hs.2.2.2.2.1 hS
      refine wpAny_bind ?_
      refine wpAny_updateSeq hS' rfl (wpAny_pure ⟨plainId_quiet F.plain_extend_loop _, ih _ (bs ++ [s.heap.objs.size]) (by rw [List.length_append]; show _ - (_ + 1) = _; omega) (by rw [List.length_append]; show _ + 1 ≤ _; omega) tk fun h2 tk2 bs' l t' => hR h2 tk2 bs' l t'⟩) (by simp; omega) (by simp; omega)
    refine wpAny_bind ?_
    rcases id t.zip with ⟨e0, hz, a, b, hTO⟩ | ⟨T, f, o, hz, hT, n1, n2, n3, n4⟩
    · refine RZ.pyNext_zipT_item D hz t.ti hTO t.it1 t.it2 t.t1 t.t2 hx hy fun h' hz' hTO' a1 a2 hp sz k' => ?_
      have ne : ∀ c ∈ [S, z, TI, TO, i1, i2, l1, l2], s.heap.objs.size ≠ c := fun c hc => Nat.ne_of_gt (Nat.lt_of_lt_of_le (lt c hc) t.size)
      exact fin h' ⟨_, false, _, hz', hp, ne _ (by simp), ne _ (by simp), ne _ (by simp), ne _ (by simp)⟩ a1 a2 hp sz k'
    · refine pyNext_heldT D hz hT t.ti t.it1 t.it2 t.t1 t.t2 hx hy fun h' hz' a1 a2 hp sz k' => ?_
      exact fin h' ⟨T, true, o, hz', k' _ _ n1 n2 n3 hT, n1, n2, n3, n4⟩ a1 a2 hp sz fun c o c1 _ c2 c3 e => k' c o c1 c2 c3 e
end
theorem zip_nolen : typeLookup (.type "zip") "__len__" = pure none := am_miss_of_fast (by decide +kernel)
theorem zip_nohint : typeLookup (.type "zip") "__length_hint__" = pure none := am_miss_of_fast (by decide +kernel)
section
variable {prog : Program} {w : World} {A : Around} {s : Shared} {R : Result → Shared → Prop} {S z TI TO i1 i2 l1 l2 : Addr} {xs ys : Array Value}
/-- a zip, untouched, beside an empty list -/
structure Raw (h : Heap) (z TI TO i1 i2 l1 l2 : Addr) (xs ys : Array Value) : Prop where
  zip : IsZip h z TI TO .none
  to : ∃ a b, IsPair h TO a b
  ti : IsPair h TI (.ref i1) (.ref i2)
  it1 : h.IsTupleIter i1 l1 0
  it2 : h.IsTupleIter i2 l2 0
  t1 : h.IsTuple l1 xs
  t2 : h.IsTuple l2 ys
theorem Raw.to_ {h h' : Heap} (r : Raw h z TI TO i1 i2 l1 l2 xs ys) (k : ∀ c ∈ [z, TI, TO, i1, i2, l1, l2], ∀ o, h.get? c = some o → h'.get? c = some o) : Raw h' z TI TO i1 i2 l1 l2 xs ys :=
  ⟨k _ (by simp) _ r.zip, let ⟨a, b, e⟩ := r.to; ⟨a, b, k _ (by simp) _ e⟩, k _ (by simp) _ r.ti, r.it1.at fun o e => k _ (by simp) o e, r.it2.at fun o e => k _ (by simp) o e, r.t1.at fun o e => k _ (by simp) o e, r.t2.at fun o e => k _ (by simp) o e⟩
theorem Raw.lt {h : Heap} (r : Raw h z TI TO i1 i2 l1 l2 xs ys) : ∀ c ∈ [z, TI, TO, i1, i2, l1, l2], c < h.objs.size := fun c hc => by
  have e' : c = z ∨ c = TI ∨ c = TO ∨ c = i1 ∨ c = i2 ∨ c = l1 ∨ c = l2 := by simpa using hc
  rcases e' with q | q | q | q | q | q | q
  · rw [q]; exact Heap.lt_size r.zip
  · rw [q]; exact Heap.lt_size r.ti
  · rw [q]; obtain ⟨_, _, e⟩ := r.to; exact Heap.lt_size e
  · rw [q]; obtain ⟨_, e, _⟩ := r.it1; exact Heap.lt_size e
  · rw [q]; obtain ⟨_, e, _⟩ := r.it2; exact Heap.lt_size e
  · rw [q]; obtain ⟨_, e, _⟩ := r.t1; exact Heap.lt_size e
  · rw [q]; obtain ⟨_, e, _⟩ := r.t2; exact Heap.lt_size e
theorem init_zip (hh : A.in1.handled = none) (D : ZipApart z TI TO i1 i2 l1 l2) (r : Raw s.heap z TI TO i1 i2 l1 l2 xs ys) (hS0 : ∀ c ∈ [z, TI, TO, i1, i2, l1, l2], S ≠ c) (le : xs.size = ys.size) (hn : xs.size ≤ sizeLine)
    (hS : s.heap.get? S = some { cls := .type "list", data := .seq #[] })
    (hR : ∀ h' tk bs, bs.length = xs.size → Got s.heap h' S z TO i1 i2 xs ys bs → R (.ok (.ret .none)) { s with heap := h', toks := tk }) :
    wpAny (model prog w) A.in1 (Builtin.«list.__init__» ⟨[.ref S, .ref z], []⟩) (GQ.FinOf prog w A R) (fun e s' => R (.error e) s') s := by
  have oth : ∀ {h : Heap} {f : Array Value → Array Value} (b : Addr) (o : Obj), b ≠ S → h.get? b = some o → (h.update S (Obj.mapSeq f)).get? b = some o := fun b o hb e => (Heap.get?_update_other _ _ (Ne.symm hb)).trans e
  have mv : ∀ {h : Heap} {f : Array Value → Array Value}, Raw h z TI TO i1 i2 l1 l2 xs ys → Raw (h.update S (Obj.mapSeq f)) z TI TO i1 i2 l1 l2 xs ys := fun r => r.to_ fun c hc o e => oth c o (Ne.symm (hS0 c hc)) e
  show wpAny _ A.in1 (do let old ← Builtin.List.listItems (.ref S); Builtin.List.listUpdate (.ref S) (fun _ => #[]); letGo old.toList.reverse; Builtin.List.listExtendWith (.ref S) (.ref z) .none) _ _ s
  refine wpAny_bind ?_
  unfold Builtin.List.listItems
  refine wpAny_bind (wpAny_seqItems hS rfl (wpAny_pure ?_))
  show wpAny _ A.in1 (updateSeq S (fun _ => #[]) >>= fun _ => letGo (#[] : Array Value).toList.reverse >>= fun _ => Builtin.List.listExtendWith (.ref S) (.ref z) .none) _ _ s
  refine wpAny_bind (wpAny_updateSeq hS rfl (wpAny_bind (wpAny_letGo ?_)))
  have hS2 := Heap.get?_update_self (Obj.mapSeq (fun _ => (#[] : Array Value))) hS rfl
  have r2 : Raw (s.heap.update S (Obj.mapSeq fun _ => #[])) z TI TO i1 i2 l1 l2 xs ys := mv r
  have ty : Shared.TypeIs { s with heap := s.heap.update S (Obj.mapSeq fun _ => #[]) } (.ref z) "zip" := ⟨_, r2.zip, rfl⟩
  unfold Builtin.List.listExtendWith
  refine wpAny_bind (wpAny_typeOf ty ?_)
  have q1 : Builtin.List.listSameRef (.ref S) (.ref z) = false := by simp [Builtin.List.listSameRef, hS0 z (by simp)]
  simp only [q1, show (Value.type "zip" == Value.type "list") = false by decide, show (Value.type "zip" == Value.type "tuple") = false by decide, Bool.or_false, Bool.false_eq_true, if_false]
  refine wpAny_bind (wpAny_pyIter_zip r2.zip ?_)
  refine wpAny_bind (wpAny_holding ?_)
  unfold Builtin.List.listLengthHint
  refine wpAny_bind (wpAny_specialOf ty zip_nolen ?_)
  show wpAny _ A.in1 (specialOf (Value.ref z) (Str.ofString "__length_hint__") >>= _) _ _ _
  refine wpAny_bind (wpAny_specialOf ty zip_nohint (wpAny_pure ?_))
  show wpAny _ A.in1 (rule "list.extend.makes-room" >>= fun _ => Builtin.List.listTouch (.ref S) >>= fun _ => again (.builtin "list.extend.loop" ⟨[.ref S, .ref z, .none], []⟩)) _ _ _
  refine wpAny_bind (wpAny_rule (wpAny_bind ?_))
  show wpAny _ A.in1 (updateSeq S (·.push .none) >>= fun _ => updateSeq S (·.pop)) _ _ _
  refine wpAny_bind (wpAny_updateSeq hS2 rfl ?_)
  have hS3 := Heap.get?_update_self (Obj.mapSeq (·.push Value.none)) hS2 rfl
  refine wpAny_updateSeq (hz := by seq_fits) hS3 rfl ?_
  have hS4 := Heap.get?_update_self (Obj.mapSeq (·.pop)) hS3 rfl
  have r4 := mv (f := (·.pop)) (mv (f := (·.push Value.none)) r2)
  have back : ∀ b o, b ≠ S → s.heap.get? b = some o → (((s.heap.update S (Obj.mapSeq fun _ => #[])).update S (Obj.mapSeq (·.push Value.none))).update S (Obj.mapSeq (·.pop))).get? b = some o := fun b o hb e => oth b o hb (oth b o hb (oth b o hb e))
  have sz : (((s.heap.update S (Obj.mapSeq fun _ => #[])).update S (Obj.mapSeq (·.push Value.none))).update S (Obj.mapSeq (·.pop))).objs.size = s.heap.objs.size := by rw [Heap.size_update, Heap.size_update, Heap.size_update]
  refine wpAny_pure ⟨plainId_quiet F.plain_extend_loop _, extend_took (h₀ := s.heap) (xs := xs) (ys := ys) hh D ⟨hS0 _ (by simp), hS0 _ (by simp), hS0 _ (by simp), hS0 _ (by simp), hS0 _ (by simp), hS0 _ (by simp), hS0 _ (by simp)⟩ (fun c hc => ?_) le hn .none _ _ [] rfl (Nat.zero_le _) ⟨⟨_, hS4⟩, .inl ⟨rfl, r4.zip, r4.to⟩, r4.ti, r4.it1, r4.it2, r4.t1, r4.t2, fun c o c1 _ _ _ _ e => back c o c1 e, Nat.le_of_eq sz.symm, fun j b hj => (by simp at hj), List.nodup_nil⟩ fun h' tk bs' l g => hR h' tk bs' l g⟩
  rcases List.mem_cons.mp hc with q | q
  · rw [q]; exact Heap.lt_size hS
  · exact r.lt c q
end
section
variable {prog : Program} {w : World} {A : Around} {E : Value → Shared → Prop} {s : Shared} {z TI TO i1 i2 l1 l2 : Addr} {xs ys : Array Value}
theorem call_list_zip {Q : Value → Shared → Prop} (hh : A.handled = none) (D : ZipApart z TI TO i1 i2 l1 l2) (r : Raw s.heap z TI TO i1 i2 l1 l2 xs ys) (le : xs.size = ys.size) (hn : xs.size ≤ sizeLine)
    (hQ : ∀ h' tk bs, bs.length = xs.size → Got (s.heap.push { cls := .type "list", data := .seq #[] }) h' s.heap.objs.size z TO i1 i2 xs ys bs → Q (.ref s.heap.objs.size) { s with heap := h', toks := tk }) :
    wpAny (model prog w) A (call (.type "list") [.ref z]) Q E s := by
  refine callType_codes (Q₁ := fun obj s₁ => obj = .ref s.heap.objs.size ∧ s₁ = { s with heap := s.heap.push { cls := .type "list", data := .seq #[] } }) F.called_list (F.typeCall_list_1 _) F.entry_list_init
    (code_list_new _ ⟨rfl, rfl⟩) fun obj s₁ h₁ => ?_
  obtain ⟨rfl, rfl⟩ := h₁
  have hS : (s.heap.push { cls := .type "list", data := .seq #[] }).get? s.heap.objs.size = some { cls := .type "list", data := .seq #[] } := Heap.get?_push_size _ rfl
  refine ⟨⟨_, hS, rfl⟩, F.args_list_init_2 _ _, init_zip (A := A.in1) hh D (r.to_ fun c _ o e => Heap.get?_push_of_some _ e) (fun c hc => Nat.ne_of_gt (r.lt c hc)) le hn hS fun h' tk bs l g => ?_⟩
  exact ⟨rfl, hQ h' tk bs l g⟩
end
section
variable {X : Cx} {pins : List (Addr × Obj)} {σ : L2.St} {H Hn : Hp} {s : Shared}
/-- objects laid and tracked, many at once -/
theorem inv_laidAll {h' : Heap} {t' : Nat} (I : Inv X pins σ H s) (k : ∀ b u, s.heap.get? b = some u → h'.get? b = some u) (old : ∀ b, b < s.heap.objs.size → Hn b = H b)
    (new : ∀ b o, s.heap.objs.size ≤ b → Hn b = some o → ObjOk X.prog X.w Hn h' b o) : Inv X pins σ Hn { s with heap := h', toks := t' } := by
  have lt : ∀ {b o}, H b = some o → b < s.heap.objs.size := fun e => I.hok.lt e
  have up : ∀ {b o}, H b = some o → Hn b = some o := fun e => (old _ (lt e)).trans e
  refine I.un ⟨fun b o e _ _ _ => k b o e, fun b o e _ _ _ => ⟨o.slots, k b o e⟩, fun b o e n _ => (old b (Heap.lt_size e)).trans n, fun b o e _ => ⟨o, k b o e⟩, fun b xs e => up e, fun b o u e => up e, fun b ps e => ⟨#[], by rw [up e]; simp⟩⟩ fun b o e => ?_
  rcases Nat.lt_or_ge b s.heap.objs.size with q | q
  · rw [old b q] at e
    exact (I.hok b o e).stay (fun c v _ z => k c v z) (fun c z => up z) fun c xs z => up z
  · exact new b o q e
/-- a list of new pairs -/
structure Pairs2 (H : Hp) (l : Addr) (xs ys : List V) (bs : List Addr) : Prop where
  at_ : H l = some (.lst (bs.map V.ref))
  len : bs.length = xs.length
  prs : ∀ (j : Nat) (b : Addr), bs[j]? = some b → ∃ x y, xs[j]? = some x ∧ ys[j]? = some y ∧ H b = some (.tup [x, y])
def tLstZ (K : PySem.W.Frag) (ta : TA) : TE := fun σ H Q => ta σ H fun vs H1 => ∃ a b xs ys, vs = [.ref a, .ref b] ∧ SqT K H1 a xs ∧ SqT K H1 b ys ∧ xs.length = ys.length ∧
  ∀ l bs H', (∀ b o, H1 b = some o → H' b = some o) → H1 l = none → Pairs2 H' l xs ys bs → Q (.ref l) H'
theorem pe_listZipT {e e2 : Expr} {ta : TA} {p p2 pos pos2 : Pos} (hc : X.calm = true) (hgl : Gl X "list") (hml : X.mg "list" = none) (hg : Gl X "zip") (hm : X.mg "zip" = none) (ha : PA X [e, e2] ta)
    (hs : starEach [e, e2] X.env = (false, eval e X.env) :: starEach [e2] X.env := by rfl) (hpl : (backTo pos2 (starEach [e2] X.env)).any (·.1) = false := by rfl)
    (na : starEach [Expr.Call (.Name "zip" p2) [e, e2] [] pos2] X.env = (false, eval (Expr.Call (.Name "zip" p2) [e, e2] [] pos2) X.env) :: starEach [] X.env := by rfl) :
    PE X (.Call (.Name "list" p) [.Call (.Name "zip" p2) [e, e2] [] pos2] [] pos) (tLstZ X.K ta) := by
  refine ⟨fun pins s σ H Q I h => ?_⟩
  refine Call_ (ld_blt I hgl hml boot_list (PyProof.Rows.callWith_type1 (args_cons ?_ na) na))
  refine Call_ (ld_blt I hg hm PyProof.Rows.boot_zip (PyProof.Rows.callWith_type1 (thn (ha.run pos2 pins s σ H _ I h) fun us s1 ⟨vs, H1, I1, r1, q1⟩ => ?_) hs hpl))
  obtain ⟨a, b, xs, ys, ex, hqx, hqy, le, q⟩ := q1
  subst ex
  cases r1 with
  | cons r rr =>
    cases rr with
    | cons r' rr =>
      cases rr
      cases r
      cases r'
      obtain ⟨its, rv, p1, z1⟩ := I1.tuple hqx
      obtain ⟨its2, rv2, p2', z2⟩ := I1.tuple hqy
      obtain ⟨o1, ho1, _⟩ := id p1
      obtain ⟨o2, ho2, _⟩ := id p2'
      have l1 : xs.length = its.length := rv.length
      have l2 : ys.length = its2.length := rv2.length
      refine RZ.call_zipT (show s1.heap.IsTuple a its.toArray from p1) (show s1.heap.IsTuple b its2.toArray from p2') fun h' hz hTI hTO h1 h2 hsz hk => args_nil ?_
      have raw : Raw h' (s1.heap.objs.size + 4) (s1.heap.objs.size + 2) (s1.heap.objs.size + 3) s1.heap.objs.size (s1.heap.objs.size + 1) a b its.toArray its2.toArray :=
        ⟨hz, ⟨_, _, hTO⟩, hTI, h1, h2, (show s1.heap.IsTuple a its.toArray from p1).at fun o e => hk _ _ e, (show s1.heap.IsTuple b its2.toArray from p2').at fun o e => hk _ _ e⟩
      refine call_list_zip (s := { s1 with heap := h' }) (I1.ok.hd hc) (PySem.W.ktu_apart s1.heap.objs.size a b (Heap.lt_size ho1) (Heap.lt_size ho2)) raw (by simp; omega) (by simp; omega) fun h2 tk bs lb g => ?_
      have eS : h'.objs.size = s1.heap.objs.size + 5 := hsz
      have szP : (h'.push { cls := .type "list", data := .seq #[] }).objs.size = s1.heap.objs.size + 6 := by rw [Heap.size_push, eS]
      have g := g
      simp only [List.size_toArray] at lb
      have keep : ∀ c o, s1.heap.get? c = some o → h2.get? c = some o := fun c o e => by
        have lc := Heap.lt_size e
        refine g.keep c o ?_ ?_ ?_ ?_ ?_ (Heap.get?_push_of_some _ (hk c o e))
        · rw [show Shared.heap { s1 with heap := h' } = h' from rfl, eS]; exact Nat.ne_of_lt (Nat.lt_of_lt_of_le lc (Nat.le_add_right _ _))
        · exact Nat.ne_of_lt (Nat.lt_of_lt_of_le lc (Nat.le_add_right _ _))
        · exact Nat.ne_of_lt (Nat.lt_of_lt_of_le lc (Nat.le_add_right _ _))
        · exact Nat.ne_of_lt lc
        · exact Nat.ne_of_lt (Nat.lt_of_lt_of_le lc (Nat.le_add_right _ _))
      have big : ∀ {j : Nat} {c : Addr}, bs[j]? = some c → s1.heap.objs.size + 6 ≤ c := fun {j c} hj => by
        obtain ⟨_, _, _, _, _, e4⟩ := g.prs j c hj
        have e4 : (h'.push { cls := .type "list", data := .seq #[] }).objs.size ≤ c := e4
        rw [szP] at e4
        exact e4
      let Hn : Hp := fun c => if c = s1.heap.objs.size + 5 then some (.lst (bs.map V.ref)) else if c ∈ bs then some (.tup [xs.getD (bs.idxOf c) .non, ys.getD (bs.idxOf c) .non]) else H1 c
      have old : ∀ c, c < s1.heap.objs.size → Hn c = H1 c := fun c lc => by
        show (if c = s1.heap.objs.size + 5 then _ else _) = _
        rw [if_neg (Nat.ne_of_lt (Nat.lt_of_lt_of_le lc (Nat.le_add_right _ _))), if_neg fun hm => ?_]
        obtain ⟨j, hj⟩ := List.mem_iff_getElem?.mp hm
        exact absurd (Nat.lt_of_lt_of_le lc (Nat.le_add_right _ 6)) (Nat.not_lt_of_le (big hj))
      have atS : Hn (s1.heap.objs.size + 5) = some (.lst (bs.map V.ref)) := if_pos rfl
      have atB : ∀ {j : Nat} {c : Addr}, bs[j]? = some c → Hn c = some (.tup [xs.getD j .non, ys.getD j .non]) := fun {j c} hj => by
        show (if c = s1.heap.objs.size + 5 then _ else _) = _
        have hm := List.mem_of_getElem? hj
        rw [if_neg (Nat.ne_of_gt (Nat.lt_of_lt_of_le (Nat.lt_succ_self _) (big hj))), if_pos hm]
        have ij : bs.idxOf c = j := by
          obtain ⟨jl, rfl⟩ := List.getElem?_eq_some_iff.mp hj
          have il : bs.idxOf bs[j] < bs.length := List.idxOf_lt_length_iff.mpr hm
          have eq := List.getElem_idxOf il
          have pw := List.pairwise_iff_getElem.mp g.nd
          rcases Nat.lt_trichotomy (bs.idxOf bs[j]) j with z | z | z
          · exact absurd eq (pw _ _ il jl z)
          · exact z
          · exact absurd eq.symm (pw _ _ jl il z)
        rw [ij]
      have val : ∀ {j : Nat} {c : Addr}, bs[j]? = some c → ∃ x y u v, xs[j]? = some x ∧ ys[j]? = some y ∧ RelV x u ∧ RelV y v ∧ IsPair h2 c u v := fun {j c} hj => by
        obtain ⟨u, v, e1, e2, e3, _⟩ := g.prs j c hj
        have jl := (List.getElem?_eq_some_iff.mp hj).1
        have hx : xs[j]? = some xs[j] := List.getElem?_eq_getElem (by omega)
        have hy : ys[j]? = some ys[j] := List.getElem?_eq_getElem (by omega)
        obtain ⟨u', hu, ru⟩ := rv.get hx
        obtain ⟨v', hv, rv'⟩ := rv2.get hy
        obtain rfl : u' = u := by
          have : its[j]? = some u := by simpa using e1
          exact Option.some.inj (hu.symm.trans this)
        obtain rfl : v' = v := by
          have : its2[j]? = some v := by simpa using e2
          exact Option.some.inj (hv.symm.trans this)
        exact ⟨_, _, u', v', hx, hy, ru, rv', e3⟩
      have I2 : Inv X pins σ Hn { s1 with heap := h2, toks := tk } := by
        refine inv_laidAll (t' := tk) I1 keep old fun c o lc e => ?_
        by_cases q1 : c = s1.heap.objs.size + 5
        · subst q1
          rw [atS] at e
          obtain rfl := Option.some.inj e
          obtain ⟨n, hn⟩ := g.at_
          refine ⟨by rw [List.length_map]; omega, bs.map Value.ref, n, vals_refs bs, ?_⟩
          have hn : h2.get? h'.objs.size = _ := hn
          rw [eS] at hn
          exact hn
        · by_cases q2 : c ∈ bs
          · obtain ⟨j, hj⟩ := List.mem_iff_getElem?.mp q2
            rw [atB hj] at e
            obtain rfl := Option.some.inj e
            obtain ⟨x, y, u, v, hx, hy, ru, rv', e3⟩ := val hj
            rw [List.getD_eq_getElem?_getD, List.getD_eq_getElem?_getD, hx, hy]
            exact ⟨by show 2 ≤ sizeLine; decide, [u, v], .cons ru (.cons rv' .nil), ⟨_, e3, rfl, _, rfl⟩⟩
          · have e' : H1 c = some o := by
              have : Hn c = H1 c := by
                show (if c = s1.heap.objs.size + 5 then _ else _) = _
                rw [if_neg q1, if_neg q2]
              exact this.symm.trans e
            exact absurd (I1.hok.lt e') (Nat.not_lt_of_le lc)
      refine ⟨.ref (s1.heap.objs.size + 5), Hn, I2, by show Value.ref h'.objs.size = _; rw [eS], q _ bs Hn (fun c o e => (old c (I1.hok.lt e)).trans e) (I1.hok.fresh (Nat.le_add_right _ _)) ⟨atS, by omega, fun j c hj => ?_⟩⟩
      obtain ⟨x, y, u, v, hx, hy, _⟩ := val hj
      refine ⟨x, y, hx, hy, ?_⟩
      rw [atB hj, List.getD_eq_getElem?_getD, List.getD_eq_getElem?_getD, hx, hy]
      rfl
end
end Gl
namespace Gl
open PySem PySem.Spec PyProof.Rows L2 ClX RZ
abbrev sAgrL : Stmt := topS 50
theorem scAgrL : FnScope ["_law_columns_here", "_law_row", "_law_other", "_law_name", "_law_one", "_law_two"] ["_law_columns_here", "_law_row", "_law_other"] (defScope sAgrL) := ⟨rfl, rfl, rfl, by decide +kernel, rfl, by decide +kernel, by decide +kernel⟩
section
variable {P : Program} {w : World} {K : PySem.W.Frag} {mg : Str → Option Value} {base : Heap} {C TC : Addr} {mc : Value}
def spAgrL : Sp := fun vs H Q _ => ∃ (p r q : Addr) (cs : List Str) (ns ms : List Int), vs = [.ref p, .ref r, .ref q] ∧ Rd H p (.tup (cs.map V.str)) ∧ cs.length ≤ 8 ∧ Rd H r (.tup (ns.map V.int)) ∧ Rd H q (.tup (ms.map V.int)) ∧ ns.length = cs.length ∧ ms.length = cs.length ∧
  ∀ v H', Ex H H' → H v = none → Rd H' v (.tup ((agr cs ns ms).map V.str)) → Q (.ref v) H'
theorem ok_agrL {f : Addr} {fd : FuncData} (F : Fun K "_law_agreement" "_law_agreement" sAgrL f fd) (T : Blt mg) : FnG P w K mg base CX0 1 f fd ["_law_columns_here", "_law_row", "_law_other"] spAgrL := by
  refine okG F scAgrL (fun vs H Q E h => ?_) (fun cdv A outer s H vs Q E hr h => ?_)
  · obtain ⟨p, r, q, cs, ns, ms, rfl, _⟩ := h
    rfl
  · obtain ⟨p, r, q, cs, ns, ms, rfl, hc, l8, hr1, hr2, l1, l2, k⟩ := h
    have nd := scAgrL.nd
    refine ⟨_, pss_one (ps_ret (pe_callTy call_tupleF (by rfl) T.tuple (by decide +kernel) (pa_cons (pe_lc (own := [("_law_name", 3), ("_law_one", 4), ("_law_two", 5)]) (g := gTup K 3 (gCons (gName 3) (gCons (gName 4) (gCons (gName 5) gNil)))) rfl nd (pi_zip3T (by rfl) T.zip (pa_cons (pv 0) (pa_cons (pv 1) (pa_cons (pv 2) pa_nil)))) (blkOk_by (N := ["_law_columns_here", "_law_row", "_law_other", "_law_name", "_law_one", "_law_two"]) (sc := defScope sAgrL) (by decide +kernel)) (fun _ _ _ _ _ => pg_tup rfl (pgs_cons (pg_name (i := 3) nd rfl (.inl rfl)) (pgs_cons (pg_name (i := 4) nd rfl (.inl rfl)) (pgs_cons (pg_name (i := 5) nd rfl (.inl rfl)) pgs_nil)))) (fun _ _ _ _ _ => pts_one (pt_cmpR op_eq (pv 4) (pv 5) (nomark _)))
          (fun _ _ _ _ _ => pv 3)) pa_nil))), ?_⟩
    refine ⟨_, rfl, _, rfl, _, rfl, p, r, q, _, _, _, rfl, .inl hc, .inl hr1, .inl hr2, fun D nD => ?_⟩
    refine lc_it (walk_zip3T (n := cs.length) (xs := cs.map V.str) (ys := ns.map V.int) (zs := ms.map V.int) (List.length_map ..) (by rw [List.length_map, l1]) (by rw [List.length_map, l2])) (fun i H' => Ex H H' ∧ H' D = some (.lst ((agrT cs ns ms i).map V.str))) ⟨Ex.new nD, upd_same⟩ (fun i H' _ h => ⟨.inl (h.1.rd hc), .inl (h.1.rd hr1), .inl (h.1.rd hr2)⟩) (fun i t H1 H2 hi h y => ?_) (fun H' h => ?_)
    · obtain ⟨ex, eD⟩ := h
      obtain ⟨t, u1, u2, u3, rfl, nt, rfl, g1, g2, g3⟩ := y
      have i1 : i < ns.length := by omega
      have i2 : i < ms.length := by omega
      have g1 : (cs.map V.str)[i]? = some u1 := g1
      have g2 : (ns.map V.int)[i]? = some u2 := g2
      have g3 : (ms.map V.int)[i]? = some u3 := g3
      rw [List.getElem?_map, List.getElem?_eq_getElem hi] at g1
      rw [List.getElem?_map, List.getElem?_eq_getElem i1] at g2
      rw [List.getElem?_map, List.getElem?_eq_getElem i2] at g3
      obtain rfl : V.str cs[i] = u1 := Option.some.inj g1
      obtain rfl : V.int ns[i] = u2 := Option.some.inj g2
      obtain rfl : V.int ms[i] = u3 := Option.some.inj g3
      have xt := Ex.new (o := .tup [V.str cs[i], V.int ns[i], V.int ms[i]]) nt
      have sc := agrT_succ (List.getElem?_eq_getElem hi) (List.getElem?_eq_getElem i1) (List.getElem?_eq_getElem i2)
      refine ⟨t, _, rfl, .inl (.inl upd_same), rfl, _, _, rfl, _, _, rfl, _, _, rfl, rfl, rfl, _, rfl, _, rfl, rfl, _, rfl, ?_⟩
      refine ite2 (fun e => ?_) (fun e => ?_)
      · have e1 : ns[i] = ms[i] := V.int.inj (of_decide_eq_true e)
        refine ⟨_, rfl, _, xt D _ eD, ?_, (ex.trans xt).mut nD, ?_⟩
        · rw [List.length_map]
          have := agrT_len cs ns ms i
          exact room1000 (by omega)
        · rw [upd_same, sc, if_pos e1, List.map_append]
          rfl
      · have e1 : ¬ ns[i] = ms[i] := fun z => e (decide_eq_true (congrArg V.int z))
        refine ⟨ex.trans xt, ?_⟩
        rw [sc, if_neg e1, List.append_nil]
        exact xt D _ eD
    · obtain ⟨ex, eD⟩ := h
      rw [agrT_all] at eD
      exact ⟨D, _, rfl, .inl (.inl eD), fun v o nv ho => k v _ (ex.trans (Ex.new nv)) (ex.back nv) (.inr ⟨o, upd_same⟩)⟩
end
end Gl
namespace Gl
open PySem PySem.Spec PyProof.Rows L2 ClX RZ
abbrev sFacts : Stmt := topS 54
theorem scFacts : FnScope ["_law_table", "_law_found", "_law_at"] ["_law_table"] (defScope sFacts) := ⟨rfl, rfl, rfl, by decide +kernel, rfl, by decide +kernel, by decide +kernel⟩
abbrev sDue : Stmt := topS 55
theorem scDue : FnScope ["_law_drawn_here", "_law_columns_here", "_law_rows_here", "_law_kind", "_law_masses", "_law_words", "_law_found"] ["_law_drawn_here"] (defScope sDue) := ⟨rfl, rfl, rfl, by decide +kernel, rfl, by decide +kernel, by decide +kernel⟩
/-- the rows beside their weights -/
def pairD : List (List Int) → List Am → List PyData
  | r :: rs, x :: ws => .tuple [dRow r, x.data] :: pairD rs ws
  | _, _ => []
theorem pairD_take : ∀ {rs : List (List Int)} {ws : List Am} {i : Nat} {r : List Int} {x : Am}, rs[i]? = some r → ws[i]? = some x → (pairD rs ws).take (i + 1) = (pairD rs ws).take i ++ [.tuple [dRow r, x.data]]
  | r :: rs, x :: ws, 0, _, _, h1, h2 => by
    obtain rfl := Option.some.inj h1
    obtain rfl := Option.some.inj h2
    rfl
  | r :: rs, x :: ws, i + 1, _, _, h1, h2 => by
    have := pairD_take (rs := rs) (ws := ws) (i := i) h1 h2
    show _ :: (pairD rs ws).take (i + 1) = _ :: _
    rw [this]
    rfl
  | [], _, _, _, _, h1, _ => by simp at h1
  | _ :: _, [], _, _, _, _, h2 => by simp at h2
theorem pairD_len : ∀ {rs : List (List Int)} {ws : List Am}, ws.length = rs.length → (pairD rs ws).length = rs.length
  | [], [], _ => rfl
  | r :: rs, x :: ws, h => congrArg (· + 1) (pairD_len (rs := rs) (ws := ws) (by simpa using h))
/-- what the facts of a table are -/
def factD (t : Tab) : PyData := .list [dCols t.cs, .tuple (t.rs.map dRow), .tuple (t.ws.map Am.data), (sumA t.m t.ws).data, .int (t.rs.length : Nat), .str t.text, .bool (((t.rs.length : Nat) : Int) != 0), .list (pairD t.rs t.ws)]
section
variable {K : PySem.W.Frag} {H H' : Hp}
theorem sqT_ex (e : Ex H H') {a : Addr} {xs : List V} (h : SqT K H a xs) : SqT K H' a xs := h.imp e.rd id
theorem sqL_ex (e : Ex H H') {a : Addr} {xs : List V} (h : SqL K H a xs) : SqL K H' a xs := h.imp e.rd id
mutual
theorem dp_ex (e : Ex H H') : ∀ {v : V} {d : PyData}, Dp K H v d → Dp K H' v d
  | _, _, .non => .non
  | _, _, .bl b => .bl b
  | _, _, .int i => .int i
  | _, _, .str x => .str x
  | _, _, .lst h t => .lst (sqL_ex e h) (dpAll_ex e t)
  | _, _, .tup h t => .tup (sqT_ex e h) (dpAll_ex e t)
theorem dpAll_ex (e : Ex H H') : ∀ {v : List V} {d : List PyData}, DpAll K H v d → DpAll K H' v d
  | _, _, .nil => .nil
  | _, _, .cons h t => .cons (dp_ex e h) (dpAll_ex e t)
end
mutual
def noL : PyData → Bool
  | .list _ => false
  | .tuple ds => noLAll ds
  | _ => true
def noLAll : List PyData → Bool
  | [] => true
  | d :: ds => noL d && noLAll ds
end
mutual
theorem dp_upd {D : Addr} {ys : List V} {o : HO} (hD : H D = some (.lst ys)) : ∀ {v : V} {d : PyData}, noL d = true → Dp K H v d → Dp K (upd H D o) v d
  | _, _, _, .non => .non
  | _, _, _, .bl b => .bl b
  | _, _, _, .int i => .int i
  | _, _, _, .str x => .str x
  | _, _, n, .lst h t => by simp only [noL] at n; exact nomatch n
  | _, _, n, .tup h t => .tup (h.imp (rd_upd hD) id) (dpAll_upd hD (by simpa only [noL] using n) t)
theorem dpAll_upd {D : Addr} {ys : List V} {o : HO} (hD : H D = some (.lst ys)) : ∀ {v : List V} {d : List PyData}, noLAll d = true → DpAll K H v d → DpAll K (upd H D o) v d
  | _, _, _, .nil => .nil
  | _, _, n, .cons h t => by
    simp only [noLAll, Bool.and_eq_true] at n
    exact .cons (dp_upd hD n.1 h) (dpAll_upd hD n.2 t)
end
theorem noL_ints : ∀ ns : List Int, noLAll (ns.map PyData.int) = true
  | [] => by simp only [List.map_nil, noLAll]
  | n :: ns => by simp only [List.map_cons, noLAll, noL, noL_ints ns, Bool.and_self]
theorem noL_am : ∀ x : Am, noL x.data = true
  | .n _ => by simp only [Am.data, noL]
  | .c ns => by simp only [Am.data, noL, noL_ints ns]
  | .o _ => by simp only [Am.data, noL, noLAll, Bool.and_self]
theorem noL_pair (r : List Int) (x : Am) : noL (.tuple [dRow r, x.data]) = true := by simp only [noL, noLAll, dRow, noL_ints r, noL_am x, Bool.and_self]
theorem noL_pairs : ∀ (rs : List (List Int)) (ws : List Am), noLAll (pairD rs ws) = true
  | r :: rs, x :: ws => by simp only [pairD, noLAll, noL_pair, noL_pairs rs ws, Bool.and_self]
  | [], _ => by simp only [pairD, noLAll]
  | _ :: _, [] => by simp only [pairD, noLAll]
theorem noL_strs : ∀ cs : List Str, noLAll (cs.map PyData.str) = true
  | [] => by simp only [List.map_nil, noLAll]
  | n :: ns => by simp only [List.map_cons, noLAll, noL, noL_strs ns, Bool.and_self]
theorem noL_cols (cs : List Str) : noL (dCols cs) = true := by simp only [dCols, noL, noL_strs]
theorem noL_rowsA : ∀ rs : List (List Int), noLAll (rs.map dRow) = true
  | [] => by simp only [List.map_nil, noLAll]
  | r :: rs => by simp only [List.map_cons, noLAll, dRow, noL, noL_ints r, noL_rowsA rs, Bool.and_self]
theorem noL_rows (rs : List (List Int)) : noL (.tuple (rs.map dRow)) = true := by simp only [noL, noL_rowsA]
theorem noL_amsA : ∀ rs : List Am, noLAll (rs.map Am.data) = true
  | [] => by simp only [List.map_nil, noLAll]
  | r :: rs => by simp only [List.map_cons, noLAll, noL_am r, noL_amsA rs, Bool.and_self]
theorem noL_ams (rs : List Am) : noL (.tuple (rs.map Am.data)) = true := by simp only [noL, noL_amsA]
theorem noL_take : ∀ (ds : List PyData) (i : Nat), noLAll ds = true → noLAll (ds.take i) = true
  | [], i, _ => by simp only [List.take_nil, noLAll]
  | d :: ds, 0, _ => by simp only [List.take_zero, noLAll]
  | d :: ds, i + 1, h => by
    simp only [noLAll, Bool.and_eq_true] at h
    simp only [List.take_succ_cons, noLAll, h.1, noL_take ds i h.2, Bool.and_self]
theorem dpAll_snoc : ∀ {vs : List V} {ds : List PyData} {v : V} {d : PyData}, DpAll K H vs ds → Dp K H v d → DpAll K H (vs ++ [v]) (ds ++ [d])
  | _, _, _, _, .nil, h => .cons h .nil
  | _, _, _, _, .cons a t, h => .cons a (dpAll_snoc t h)
theorem dpAll_len : ∀ {vs : List V} {ds : List PyData}, DpAll K H vs ds → vs.length = ds.length
  | _, _, .nil => rfl
  | _, _, .cons _ t => congrArg (· + 1) (dpAll_len t)
end
section
variable {P : Program} {w : World} {K : PySem.W.Frag} {mg : Str → Option Value} {base : Heap} {C TC : Addr} {mc : Value}
/-- what a table can do -/
structure TM (P : Program) (w : World) (K : PySem.W.Frag) (mg : Str → Option Value) (base : Heap) (C TC : Addr) where
  cs : Dp1 P w K mg base TC 1 "columns" (spTCols C TC)
  rs : Dp1 P w K mg base TC 1 "rows" (spTRows C TC)
  ws : Dp1 P w K mg base TC 1 "weights" (spTWts C TC)
  sc : Dp1 P w K mg base TC 1 "scale" (spTScl C TC)
  tt : Dp1 P w K mg base TC 1 "total" (spTTot C TC)
  ln : Do1 P w K mg base TC 1 "__len__" ["self"] (spTLen C TC)
  st : Do1 P w K mg base TC 1 "__str__" ["self"] (spTStr C TC)
  gt : Do1 P w K mg base TC 4 "__getitem__" ["self", "at"] (spTGet C TC)
  gf : PySem.W.fnIn K gt.f = true
  nb : PySem.W.findIn K (.ref TC) "__bool__" = some none
  wg : Dm P w K mg base TC 4 "weight" ["self", "index"] (spTWgt C TC)
def spFacts (K : PySem.W.Frag) (C TC : Addr) : Sp := fun vs H Q _ => ∃ (a : Addr) (t : Tab), vs = [.ref a] ∧ TblAt H a TC C t ∧ t.ok ∧ ∀ l H', Ex H H' → H l = none → Dp K H' (.ref l) (factD t) → Q (.ref l) H'
theorem ok_facts {f : Addr} {fd : FuncData} (F : Fun K "_law_facts" "_law_facts" sFacts f fd) (T : Blt mg) (ts : mg "str" = none) (tb : mg "bool" = none) (Y : TblK K TC) (M : TM P w K mg base C TC) : FnG P w K mg base CX0 8 f fd ["_law_table"] (spFacts K C TC) := by
  refine okG F scFacts (fun vs H Q E h => ?_) (fun cdv A outer s H vs Q E hr h => ?_)
  · obtain ⟨a, t, rfl, _⟩ := h
    rfl
  · obtain ⟨a, t, rfl, tb0, ok, q⟩ := h
    have nd := scFacts.nd
    have r1 := (hr.mono (show 1 ≤ 7 by decide)).rm
    have r2 := (hr.mono (show 2 ≤ 7 by decide)).rm
    have r3 := (hr.mono (show 3 ≤ 7 by decide)).rm
    have r4 := (hr.mono (show 4 ≤ 7 by decide)).rm
    have r5 := (hr.mono (show 5 ≤ 7 by decide)).rm
    refine ⟨_, pss_cons (ps_set (i := 1) nd rfl (.inl rfl) (pe_lst (pa_cons (pe_prop (pv 0) Y.cls M.cs.at_ M.cs.G r2 M.cs.b .nil pass0 rfl) (pa_cons (pe_prop (pv 0) Y.cls M.rs.at_ M.rs.G r2 M.rs.b .nil pass0 rfl) (pa_cons (pe_prop (pv 0) Y.cls M.ws.at_ M.ws.G r2 M.ws.b .nil pass0 rfl) (pa_cons (pe_prop (pv 0) Y.cls M.tt.at_ M.tt.G r2 M.tt.b .nil pass0 rfl) (pa_cons (pe_callB (cr_lenO M.ln.G M.ln.o M.ln.b pass0 r2) (by rfl) T.len PySem.boot_len (pa_cons (pv 0) pa_nil)) (pa_cons (pe_callTy (cr_strO M.st.G M.st.o M.st.b pass0 r3) (by rfl) ts (by decide +kernel) (pa_cons (pv 0) pa_nil)) (pa_cons (pe_callTy (cr_boolO M.ln.G M.ln.o M.nb M.ln.b pass0 r4) (by rfl) tb (by decide +kernel) (pa_cons (pv 0) pa_nil)) pa_nil)))))))))
      (pss_cons (ps_expr (pe_bm PySem.F.plainAttrs_list PySem.F.slot_list_append PySem.F.type_list_append mt_append (pv 1) (pa_cons (pe_lc (own := [("_law_at", 2)]) (g := gName 2) (tt := tYes) rfl nd (pi_range1 rfl T.range (pa_cons (pe_callB (cr_lenO M.ln.G M.ln.o M.ln.b pass0 r2) (by rfl) T.len PySem.boot_len (pa_cons (pv 0) pa_nil)) pa_nil)) (blkOk_by (N := ["_law_table", "_law_found", "_law_at"]) (sc := defScope sFacts) (by decide +kernel)) (fun _ _ _ _ _ => pg_name (i := 2) nd rfl (.inl rfl)) (fun _ _ _ _ _ => pts_nil)
          (fun _ _ _ _ _ => pe_tup (pa_cons (pe_ixO (C := TC) (E := E0) (pv 0) (pv 2) M.gt.G M.gt.o M.gf M.gt.b pass0 r5) (pa_cons (pe_meth (pv 0) Y.cls M.wg.at_ M.wg.G r4 M.wg.b .nil pass0 (pa_cons (pv 2) pa_nil)) pa_nil)))) pa_nil)))
      (pss_one (ps_ret (pv 1)))), ?_⟩
    have sh := tb0
    obtain ⟨dx, pc, pr, ps, pw, vt, fs, tf⟩ := tb0
    have few := ok.few
    have n0 : (0 : Int) ≤ ((t.rs.length : Nat) : Int) := Int.natCast_nonneg _
    have n1 : ((t.rs.length : Nat) : Int) < 2 ^ 63 := by omega
    refine ⟨_, rfl, a, dx, fs, rfl, tf.at_, a, t, rfl, sh, fun p1 h1 => ?_⟩
    refine ⟨_, rfl, a, dx, fs, rfl, tf.at_, a, t, rfl, sh, fun p2 h2 => ?_⟩
    refine ⟨_, rfl, a, dx, fs, rfl, tf.at_, a, t, rfl, sh, fun p3 h3 => ?_⟩
    refine ⟨_, rfl, a, dx, fs, rfl, tf.at_, a, t, rfl, sh, fun v4 h4 => ?_⟩
    refine ⟨_, rfl, a, dx, fs, rfl, tf.at_, a, t, rfl, sh, _, rfl, n0, n1, ?_⟩
    refine ⟨_, rfl, a, dx, fs, rfl, tf.at_, a, t, rfl, sh, ok, _, rfl, ?_⟩
    refine ⟨_, rfl, a, dx, fs, rfl, tf.at_, a, t, rfl, sh, _, rfl, n0, n1, ?_⟩
    refine ⟨by show 7 ≤ sizeLine; decide, fun l nl => ?_⟩
    have xl := Ex.new (o := .lst [.ref p1, .ref p2, .ref p3, v4, .int (t.rs.length : Nat), .str t.text, .bl (((t.rs.length : Nat) : Int) != 0)]) nl
    have sh1 := xl.tbl sh
    obtain ⟨dx, pc, pr, ps, pw, vt, fs, tf⟩ := id sh1
    refine ⟨_, rfl, (.inl ⟨rfl, _, .inl (.inl upd_same)⟩), ?_⟩
    refine ⟨_, rfl, a, dx, fs, rfl, tf.at_, a, t, rfl, sh1, _, rfl, n0, n1, ?_⟩
    refine ⟨_, rfl, by omega, by omega, fun D nD => ?_⟩
    have xD := Ex.new (o := .lst []) nD
    refine lc_range (n := t.rs.length) (fun i H' => Ex (upd H l (.lst [.ref p1, .ref p2, .ref p3, v4, .int (t.rs.length : Nat), .str t.text, .bl (((t.rs.length : Nat) : Int) != 0)])) H' ∧ ∃ vs, H' D = some (.lst vs) ∧ DpAll K H' vs ((pairD t.rs t.ws).take i)) ⟨xD, _, upd_same, .nil⟩ (fun i H' hi h => ?_) (fun H' h => ?_)
    · obtain ⟨ex, vs, eD, da⟩ := h
      have shi := ex.tbl sh1
      obtain ⟨dx, pc, pr, ps, pw, vt, fs, tf⟩ := id shi
      have gi : (0 + (i : Int)) = ((i : Nat) : Int) := by omega
      have i2 : i < t.ws.length := by have := ok.wl; omega
      refine ⟨rfl, _, rfl, ?_⟩
      refine ⟨_, rfl, a, dx, fs, rfl, tf.at_, a, i, t, t.rs[i], by rw [gi], shi, List.getElem?_eq_getElem hi, fun p hp => ?_⟩
      refine ⟨_, rfl, a, dx, fs, rfl, tf.at_, tf.no _ (by decide +kernel), _, rfl, a, i, t, t.ws[i], by rw [gi]; rfl, shi, ok.wl, List.getElem?_eq_getElem i2, fun v hv => ?_⟩
      refine ⟨by show 2 ≤ sizeLine; decide, fun z nz => ?_⟩
      have xz := Ex.new (o := .tup [.ref p, v]) nz
      have lv := dpAll_len da
      have zD : z ≠ D := fun e => by rw [e, eD] at nz; exact nomatch nz
      refine ⟨vs, xz D _ eD, ?_, (ex.trans xz).mut nD, _, upd_same, ?_⟩
      · rw [lv, List.length_take]
        exact room1000 (by omega)
      · rw [pairD_take (List.getElem?_eq_getElem hi) (List.getElem?_eq_getElem i2)]
        exact dpAll_snoc (dpAll_upd (xz D _ eD) (noL_take _ _ (noL_pairs _ _)) (dpAll_ex xz da)) (dp_upd (xz D _ eD) (noL_pair _ _) (.tup (.inl (.inl upd_same)) (.cons (dp_ex xz (dp_row hp)) (.cons (dp_ex xz (dp_am hv)) .nil))))
    · obtain ⟨ex, vs, eD, da⟩ := h
      rw [List.take_of_length_le (Nat.le_of_eq (pairD_len ok.wl))] at da
      have Dl : D ≠ l := fun e => by rw [e, upd_same] at nD; exact nomatch nD
      have el := ex l _ upd_same
      have e0 := xl.trans ex
      refine ⟨l, _, _, rfl, rfl, el, by show 7 < sizeLine; decide, ?_⟩
      have go : ∀ {v : V} {d : PyData}, noL d = true → Dp K H v d → Dp K (upd H' l (.lst ([.ref p1, .ref p2, .ref p3, v4, .int (t.rs.length : Nat), .str t.text, .bl (((t.rs.length : Nat) : Int) != 0)] ++ [.ref D]))) v d := fun n h => dp_upd el n (dp_ex e0 h)
      refine ⟨_, rfl, q l _ (e0.mut nl) nl (.lst (.inl (.inl upd_same)) ?_)⟩
      refine .cons (go (noL_cols _) (dp_cols h1)) (.cons (go (noL_rows _) (dp_rowsD h2)) (.cons (go (noL_ams _) (dp_amsD h3)) (.cons (go (noL_am _) (dp_am h4)) (.cons (.int _) (.cons (.str _) (.cons (.bl _) (.cons (.lst (.inl (.inl ?_)) (dpAll_upd el (noL_pairs _ _) da)) .nil)))))))
      rw [upd_ne Dl]
      exact eD
end
end Gl
namespace Gl
open PySem PySem.Spec PyProof.Rows L2 ClX RZ
theorem empty_app : Str.empty ++ ("table of " : Str) = "table of " := by decide +kernel
theorem eqv_rows_nil (rs : List (List Int)) : PyData.eqv (.tuple (rs.map dRow)) (.tuple []) = !(((rs.length : Nat) : Int) != 0) := by
  cases rs with
  | nil => simp only [List.map_nil, PyData.eqv, PyData.eqvAll]; rfl
  | cons r rs =>
    simp only [List.map_cons, PyData.eqv, PyData.eqvAll]
    have e : ((((r :: rs).length : Nat) : Int) != 0) = true := by
      rw [bne_iff_ne, List.length_cons]
      omega
    rw [e]
    rfl
theorem text_is (t : Tab) : t.text = "table of " ++ numT t.cs.length ++ " columns, " ++ numT t.rs.length ++ " rows" := by
  unfold Tab.text
  rw [empty_app]
section
variable {P : Program} {w : World} {K : PySem.W.Frag} {mg : Str → Option Value} {base : Heap} {C TC : Addr} {mc : Value}
def spDue (K : PySem.W.Frag) : Sp := fun vs H Q _ => ∃ (p : Addr) (t : Tab), vs = [.ref p] ∧ DrawnD H p t ∧ t.ok ∧ t.rs.length ≤ 40 ∧ ∀ l H', Ex H H' → H l = none → Dp K H' (.ref l) (factD t) → Q (.ref l) H'
theorem ok_due {f : Addr} {fd : FuncData} (F : Fun K "_law_due" "_law_due" sDue f fd) (T : Blt mg) (ts : mg "str" = none) (To : DfG P w K mg base 3 "_law_total" ["_law_measure", "_law_amounts"] spTotalL) : FnG P w K mg base CX0 4 f fd ["_law_drawn_here"] (spDue K) := by
  refine okG F scDue (fun vs H Q E h => ?_) (fun cdv A outer s H vs Q E hr h => ?_)
  · obtain ⟨p, t, rfl, _⟩ := h
    rfl
  · obtain ⟨p, t, rfl, dr, ok, few, q⟩ := h
    have nd := scDue.nd
    have hu : (A.deeper (envOfC "_law_due" (defScope sDue) s.heap.objs.size f cdv)).units + 64 < cLine := by have := hr.rm.un; omega
    refine ⟨_, pss_cons (ps_asg (pv 0) (pg_tup rfl (pgs_cons (pg_name (i := 1) nd rfl (.inl rfl)) (pgs_cons (pg_name (i := 2) nd rfl (.inl rfl)) (pgs_cons (pg_name (i := 3) nd rfl (.inl rfl)) (pgs_cons (pg_name (i := 4) nd rfl (.inl rfl)) pgs_nil))))))
      (pss_cons (ps_set (i := 5) nd rfl (.inl rfl) (pe_op op_add_str (pe_op op_add_str (pe_op op_add_str (pe_op op_add_str pe_str (pe_callTy call_str_int (by rfl) ts (by decide +kernel) (pa_cons (pe_callB call_len_seq (by rfl) T.len PySem.boot_len (pa_cons (pv 1) pa_nil)) pa_nil))) pe_str) (pe_callTy call_str_int (by rfl) ts (by decide +kernel) (pa_cons (pe_callB call_len_seq (by rfl) T.len PySem.boot_len (pa_cons (pv 2) pa_nil)) pa_nil))) pe_str))
      (pss_cons (ps_set (i := 6) nd rfl (.inl rfl) (pe_lst (pa_cons (pv 1) (pa_cons (pv 2) (pa_cons (pv 4) (pa_cons (pe_callG To.G hr (by rfl) To.g To.kp To.b .nil pass0 (pa_cons (pv 3) (pa_cons (pv 4) pa_nil))) (pa_cons (pe_callB call_len_seq (by rfl) T.len PySem.boot_len (pa_cons (pv 2) pa_nil)) (pa_cons (pv 5) (pa_cons (pe_cmpR (op_neD hu) (pv 2) (pe_tup pa_nil) (nomark _)) pa_nil)))))))))
      (pss_one (ps_ret (pe_op op_cat (pv 6) (pe_lst (pa_cons (pe_listZipT rfl (by rfl) T.list (by rfl) T.zip (pa_cons (pv 2) (pa_cons (pv 4) pa_nil))) pa_nil))))))), ?_⟩
    obtain ⟨pc, pr, pm, pw, df⟩ := id dr
    obtain ⟨qs, eq, hq, hqs⟩ := df.rs
    obtain ⟨us, eu, hu1, hus⟩ := df.ws
    have l1 : (t.cs.map V.str).length = t.cs.length := List.length_map ..
    have l2 : (qs.map fun q => V.ref q.1).length = t.rs.length := by rw [← eq, List.length_map, List.length_map]
    have c8 := ok.cols.len
    have z1 : (Str.ofString (toString ((t.cs.length : Nat) : Int))).length ≤ 1921 := numT_len (by omega)
    have z2 : (Str.ofString (toString ((t.rs.length : Nat) : Int))).length ≤ 1921 := numT_len (by omega)
    have k1 : ("table of " : Str).length = 9 := by decide +kernel
    have k2 : (" columns, " : Str).length = 10 := by decide +kernel
    have k3 : (" rows" : Str).length = 5 := by decide +kernel
    have lg : ∀ n : Nat, n ≤ 1000 → ((n : Nat) : Int).natAbs.log2 < 1920 := fun n h => by
      rw [Int.natAbs_natCast]
      exact Nat.lt_of_le_of_lt (Nat.log2_le_self n) (by omega)
    refine ⟨_, rfl, p, [.ref pc, .ref pr, .ref pm, .ref pw], rfl, .inl df.at_, rfl, _, _, rfl, _, _, rfl, _, _, rfl, _, _, rfl, rfl, ?_⟩
    refine ⟨_, rfl, pc, _, rfl, .inr (.inl df.cs), _, rfl, by rw [l1]; exact lg _ (by omega), _, _, rfl, rfl, by rw [l1, k1]; exact Nat.le_of_lt (room1000 (by omega)), ?_⟩
    refine ⟨_, _, rfl, rfl, by rw [l1, PySem.Str.length_append, k1, k2]; exact Nat.le_of_lt (room1000 (by omega)), ?_⟩
    refine ⟨_, rfl, pr, _, rfl, .inr (.inl hq), _, rfl, by rw [l2]; exact lg _ (by omega), _, _, rfl, rfl, by rw [l1, l2, PySem.Str.length_append, PySem.Str.length_append, k1, k2]; exact Nat.le_of_lt (room1000 (by omega)), ?_⟩
    refine ⟨_, _, rfl, rfl, by rw [l1, l2, PySem.Str.length_append, PySem.Str.length_append, PySem.Str.length_append, k1, k2, k3]; exact Nat.le_of_lt (room1000 (by omega)), ?_⟩
    refine ⟨_, rfl, _, rfl, _, rfl, _, rfl, _, rfl, pm, pw, t.m, t.ws, rfl, df.ms, ok.mok, df.ws, fun x hx => ⟨(ok.wok x hx).1, (ok.wok x hx).2.2⟩, by rw [ok.wl]; exact few, fun v H1 e1 hv => ?_⟩
    refine ⟨_, rfl, pr, _, rfl, .inr (.inl (e1.rd hq)), _, rfl, _, rfl, Nat.zero_le _, fun z nz => ?_⟩
    have xz := Ex.new (o := .tup []) nz
    have e2 := e1.trans xz
    refine ⟨_, _, dp_rowsD (e2.rowsD df.rs), .tup (.inl (.inl upd_same)) .nil, shaped_rowsT _, shaped_of (by simp only [PyData.canLay0, PyData.canLayAll0]) (by simp only [PyData.depth, PyData.depthAll]; decide), ?_⟩
    rw [eqv_rows_nil, Bool.not_not]
    rw [l1, l2]
    refine ⟨by show 7 ≤ sizeLine; decide, fun l nl => ?_⟩
    have tx : Str.ofString "table of " ++ Str.ofString (toString ((t.cs.length : Nat) : Int)) ++ Str.ofString " columns, " ++ Str.ofString (toString ((t.rs.length : Nat) : Int)) ++ Str.ofString " rows" = t.text := (text_is t).symm
    rw [tx]
    have xl := Ex.new (o := .lst [.ref pc, .ref pr, .ref pw, v, .int (t.rs.length : Nat), .str t.text, .bl (((t.rs.length : Nat) : Int) != 0)]) nl
    have e3 := e2.trans xl
    have lu : us.length = t.rs.length := by rw [← ok.wl, ← eu, List.length_map]
    refine ⟨_, rfl, _, rfl, _, rfl, pr, pw, _, _, rfl, .inl (e3.rd hq), .inl (e3.rd hu1), by rw [l2, List.length_map, lu], fun lz bs H4 e4 nz4 prs => ⟨by show 1 ≤ sizeLine; decide, fun g2 ng2 => ?_⟩⟩
    have x2 := Ex.new (o := .lst [.ref lz]) ng2
    have e4 : Ex _ H4 := e4
    have e5 := e3.trans (e4.trans x2)
    refine ⟨l, g2, _, _, rfl, rfl, (e4.trans x2) l _ upd_same, upd_same, by show 8 ≤ sizeLine; decide, fun l3 nl3 => ?_⟩
    have x3 := Ex.new (o := .lst ([.ref pc, .ref pr, .ref pw, v, .int (t.rs.length : Nat), .str t.text, .bl (((t.rs.length : Nat) : Int) != 0)] ++ [.ref lz])) nl3
    have e6 := e5.trans x3
    have e46 := x2.trans x3
    refine q l3 _ e6 (e5.back nl3) (.lst (.inl (.inl upd_same)) ?_)
    refine .cons (dp_cols (e6.rd df.cs)) (.cons (dp_rowsD (e6.rowsD df.rs)) (.cons (dp_amsD (e6.amsD df.ws)) (.cons (dp_am (hv.ex (xz.trans (xl.trans ((e4.trans x2).trans x3))))) (.cons (.int _) (.cons (.str _) (.cons (.bl _) (.cons (.lst (.inl (.inl (e46 _ _ prs.at_))) ?_) .nil)))))))
    have key : ∀ (n : Nat), n ≤ t.rs.length → DpAll K (upd (upd H4 g2 (.lst [.ref lz])) l3 (.lst ([.ref pc, .ref pr, .ref pw, v, .int (t.rs.length : Nat), .str t.text, .bl (((t.rs.length : Nat) : Int) != 0)] ++ [.ref lz]))) ((bs.take n).map V.ref) ((pairD t.rs t.ws).take n) := by
      intro n
      induction n with
      | zero => intro _; exact .nil
      | succ n ih =>
        intro hn
        have bl : n < bs.length := by rw [prs.len, l2]; exact hn
        have hb : bs[n]? = some bs[n] := List.getElem?_eq_getElem bl
        obtain ⟨x, y, hx, hy, hxy⟩ := prs.prs n _ hb
        rw [List.getElem?_map] at hx hy
        obtain ⟨qr, hqr, rfl⟩ := Option.map_eq_some_iff.mp hx
        obtain ⟨uw, huw, rfl⟩ := Option.map_eq_some_iff.mp hy
        have h1 : t.rs[n]? = some qr.2 := by rw [← eq, List.getElem?_map, hqr]; rfl
        have h2 : t.ws[n]? = some uw.2 := by rw [← eu, List.getElem?_map, huw]; rfl
        rw [pairD_take h1 h2, List.take_add_one, hb, List.map_append]
        refine dpAll_snoc (ih (by omega)) (.tup (.inl (.inl (e46 _ _ hxy))) (.cons (dp_row (e6.rd (hqs qr (List.mem_of_getElem? hqr)))) (.cons (dp_am ((hus uw (List.mem_of_getElem? huw)).ex e6)) .nil)))
    have k := key t.rs.length (Nat.le_refl _)
    rw [List.take_of_length_le (by rw [prs.len, l2]; exact Nat.le_refl _), List.take_of_length_le (Nat.le_of_eq (pairD_len ok.wl))] at k
    exact k
end
end Gl
set_option exponentiation.threshold 10000
namespace Gl
open PySem PySem.Spec PyProof.Rows L2 ClX RZ
/-! shown without trouble -/
theorem show_intB {b : Nat} (hb : 0 < b) (h9 : b ≤ 1900) {n : Int} (h : n.natAbs < 2 ^ b) : PyData.showable (.int n) = true := by
  simp only [PyData.showable]
  exact decide_eq_true (Nat.lt_of_lt_of_le (PySem.Flt.log2_lt_of hb h) (by omega))
theorem show_intsB {b : Nat} (hb : 0 < b) (h9 : b ≤ 1900) : ∀ {ns : List Int}, (∀ n ∈ ns, n.natAbs < 2 ^ b) → PyData.showableAll (ns.map PyData.int) = true
  | [], _ => by simp only [List.map_nil, PyData.showableAll]
  | n :: ns, h => by
    simp only [List.map_cons, PyData.showableAll]
    rw [show_intB hb h9 (h n (List.mem_cons_self ..)), show_intsB hb h9 fun x hx => h x (List.mem_cons_of_mem _ hx)]
    rfl
theorem show_strsA : ∀ cs : List Str, PyData.showableAll (cs.map PyData.str) = true
  | [] => by simp only [List.map_nil, PyData.showableAll]
  | c :: cs => by simp only [List.map_cons, PyData.showableAll, PyData.showable, show_strsA cs, Bool.and_self]
theorem show_am {b : Nat} (hb : 0 < b) (h9 : b ≤ 1900) : ∀ {x : Am}, x.lim b → PyData.showable x.data = true
  | .n i, h => show_intB hb h9 h
  | .c ns, h => by simp only [Am.data, PyData.showable, show_intsB hb h9 h]
  | .o x, h => by
    have h1 := show_intB (n := ((x.1.1 : Nat) : Int)) hb h9 (by rw [Int.natAbs_natCast]; exact h.1)
    have h2 := show_intB (n := ((x.1.2 : Nat) : Int)) hb h9 (by rw [Int.natAbs_natCast]; exact h.2)
    simp only [Am.data, PyData.showable] at h1 h2 ⊢
    simp only [PyData.showableAll, PyData.showable, h1, h2, Bool.and_self]
theorem wt_am {m : Ms} (mok : m.ok) : ∀ {x : Am}, m.has x → wt x.data ≤ 7731
  | .n i, _ => by simp only [Am.data, wt]; omega
  | .c ns, h => by
    cases m with
    | classes k =>
      have h : ns.length = k := h
      have := mok.2
      simp only [Am.data, wt, wt_ints]
      omega
    | sums => exact h.elim
    | odds => exact h.elim
  | .o x, _ => by simp only [Am.data, wt, wtAll]; omega
theorem wt_strB {c : Str} (h : NameOk c) : wt (.str c) ≤ 82 := by
  simp only [wt]
  have := PySem.StrLaws.reprText_len c fun x hx => by
    have := h.2.2 x hx
    unfold Small at this
    have : (122 : Nat) < 16 ^ 8 := by decide
    omega
  have := h.2.1
  omega
theorem wt_strsB : ∀ {cs : List Str}, (∀ c ∈ cs, NameOk c) → wtAll (cs.map PyData.str) ≤ 84 * cs.length
  | [], _ => by simp only [List.map_nil, wtAll]; exact Nat.zero_le _
  | c :: cs, h => by
    simp only [List.map_cons, wtAll, List.length_cons]
    have h1 := wt_strB (h c (List.mem_cons_self ..))
    have h2 := wt_strsB fun x hx => h x (List.mem_cons_of_mem _ hx)
    omega
theorem show_rows {rs : List (List Int)} (h : ∀ r ∈ rs, r.length ≤ 8 ∧ ∀ n ∈ r, Few n) : PyData.showableAll (rs.map dRow) = true ∧ wtAll (rs.map dRow) ≤ 15461 * rs.length := by
  induction rs with
  | nil => exact ⟨by simp only [List.map_nil, PyData.showableAll], by simp only [List.map_nil, wtAll]; exact Nat.zero_le _⟩
  | cons r rs ih =>
    obtain ⟨h1, h2⟩ := h r (List.mem_cons_self ..)
    obtain ⟨h3, h4⟩ := ih fun x hx => h x (List.mem_cons_of_mem _ hx)
    constructor
    · simp only [List.map_cons, PyData.showableAll, dRow, PyData.showable, show_intsB (by decide) (by decide) h2, Bool.true_and]
      exact h3
    · simp only [List.map_cons, wtAll, List.length_cons, dRow, wt, wt_ints]
      omega
theorem show_ams {m : Ms} (mok : m.ok) {ws : List Am} (h : ∀ x ∈ ws, m.has x ∧ x.near) : PyData.showableAll (ws.map Am.data) = true ∧ wtAll (ws.map Am.data) ≤ 7733 * ws.length := by
  induction ws with
  | nil => exact ⟨by simp only [List.map_nil, PyData.showableAll], by simp only [List.map_nil, wtAll]; exact Nat.zero_le _⟩
  | cons x ws ih =>
    obtain ⟨h1, h2⟩ := h x (List.mem_cons_self ..)
    obtain ⟨h3, h4⟩ := ih fun y hy => h y (List.mem_cons_of_mem _ hy)
    have := wt_am mok h1
    constructor
    · simp only [List.map_cons, PyData.showableAll]
      rw [show_am (by decide) (by decide) h2.lim, h3]
      rfl
    · simp only [List.map_cons, wtAll, List.length_cons]
      omega
theorem show_pairs {m : Ms} (mok : m.ok) : ∀ {rs : List (List Int)} {ws : List Am}, (∀ r ∈ rs, r.length ≤ 8 ∧ ∀ n ∈ r, Few n) → (∀ x ∈ ws, m.has x ∧ x.near) → PyData.showableAll (pairD rs ws) = true ∧ wtAll (pairD rs ws) ≤ 23210 * rs.length ∧ PyData.depthAll (pairD rs ws) ≤ 2
  | r :: rs, x :: ws, h, g => by
    obtain ⟨h1, h2⟩ := h r (List.mem_cons_self ..)
    obtain ⟨g1, g2⟩ := g x (List.mem_cons_self ..)
    obtain ⟨h3, h4, h5⟩ := show_pairs mok (rs := rs) (ws := ws) (fun y hy => h y (List.mem_cons_of_mem _ hy)) fun y hy => g y (List.mem_cons_of_mem _ hy)
    have wa := wt_am mok g1
    have da := Am.dep x
    refine ⟨?_, ?_, ?_⟩
    · simp only [pairD, PyData.showableAll, PyData.showable, dRow, show_intsB (by decide) (by decide) h2, show_am (by decide) (by decide) g2.lim, h3, Bool.and_self]
    · simp only [pairD, wtAll, wt, dRow, wt_ints, List.length_cons]
      omega
    · simp only [pairD, PyData.depthAll, PyData.depth, dRow, dep_ints]
      omega
  | [], _, _, _ => ⟨by simp only [pairD, PyData.showableAll], by simp only [pairD, wtAll]; exact Nat.zero_le _, by simp only [pairD, PyData.depthAll]; exact Nat.zero_le _⟩
  | _ :: _, [], _, _ => ⟨by simp only [pairD, PyData.showableAll], by simp only [pairD, wtAll]; exact Nat.zero_le _, by simp only [pairD, PyData.depthAll]; exact Nat.zero_le _⟩
theorem text_small' {t : Tab} : ∀ c ∈ t.text.cps.toList, c < 16 ^ 8 := by
  have ap : ∀ {a b : Str}, (∀ c ∈ a.cps.toList, c < 16 ^ 8) → (∀ c ∈ b.cps.toList, c < 16 ^ 8) → ∀ c ∈ (a ++ b).cps.toList, c < 16 ^ 8 := fun h1 h2 c hc => by
    rw [PySem.Str.cps_append, Array.toList_append] at hc
    exact (List.mem_append.mp hc).elim (h1 c) (h2 c)
  rw [text_is]
  exact ap (ap (ap (ap (text_small _) (text_small _)) (text_small _)) (text_small _)) (text_small _)
theorem text_wtT {t : Tab} (ok : t.ok) : wt (.str t.text) ≤ 40000 := by
  simp only [wt]
  have h := PySem.StrLaws.reprText_len t.text text_small'
  have c8 := ok.cols.len
  have r2 := ok.few
  have z1 : (numT t.cs.length).length ≤ 1921 := numT_len (by omega)
  have z2 : (numT t.rs.length).length ≤ 1921 := numT_len (by omega)
  have k1 : ("table of " : Str).length = 9 := by decide +kernel
  have k2 : (" columns, " : Str).length = 10 := by decide +kernel
  have k3 : (" rows" : Str).length = 5 := by decide +kernel
  have l : t.text.length = _ := congrArg Str.length (text_is t)
  rw [PySem.Str.length_append, PySem.Str.length_append, PySem.Str.length_append, PySem.Str.length_append, k1, k2, k3] at l
  omega
/-- a table that may be shown -/
theorem fact_shows {t : Tab} (ok : t.ok) (fi : ∀ r ∈ t.rs, ∀ n ∈ r, Few n) (few : t.rs.length ≤ 40) : (factD t).showable = true ∧ (factD t).depth ≤ 100 ∧ (factD t).shown.length ≤ sizeLine := by
  have c8 := ok.cols.len
  have hr : ∀ r ∈ t.rs, r.length ≤ 8 ∧ ∀ n ∈ r, Few n := fun r h => ⟨by rw [ok.rlen r h]; exact c8, fi r h⟩
  have hw : ∀ x ∈ t.ws, t.m.has x ∧ x.near := fun x h => ⟨(ok.wok x h).1, (ok.wok x h).2.1⟩
  obtain ⟨a1, a2⟩ := show_rows hr
  obtain ⟨b1, b2⟩ := show_ams ok.mok hw
  obtain ⟨p1, p2, p3⟩ := show_pairs ok.mok hr hw
  have tl := tot_lim (fun x h => ⟨(ok.wok x h).1, (ok.wok x h).2.2⟩) (by rw [ok.wl]; exact few)
  have th : t.m.has (sumA t.m t.ws) := sum_has (fun x h => (ok.wok x h).1) t.m.zero_has
  have t1 := show_am (by decide) (by decide) tl
  have t2 := wt_am ok.mok th
  have t3 := Am.dep (sumA t.m t.ws)
  have tx := text_wtT ok
  have cw := wt_strsB ok.cols.nm
  have wl := ok.wl
  have n1 := show_intB (b := 10) (by decide) (by decide) (n := ((t.rs.length : Nat) : Int)) (by rw [Int.natAbs_natCast]; omega)
  have sh : (factD t).showable = true := by
    simp only [PyData.showable] at n1
    simp only [factD, PyData.showable, PyData.showableAll, dCols, show_strsA, a1, b1, p1, t1, n1, Bool.and_self]
  have dr := dep_rows t.rs
  have da := dep_ams t.ws
  have wx : wt (factD t) ≤ 8000000 := by
    simp only [wt] at tx
    simp only [factD, wt, wtAll, dCols]
    omega
  exact ⟨sh, by simp only [factD, PyData.depth, PyData.depthAll, dCols, dep_strs]; omega, Nat.le_trans (Nat.le_trans (shown_le _ sh) wx) (by decide)⟩
/-- what was drawn, as data -/
def drawnD (t : Tab) : PyData := .tuple [dCols t.cs, .tuple (t.rs.map dRow), .tuple [.str t.m.word, .int (t.m.size : Nat)], .tuple (t.ws.map Am.data)]
theorem word_wt (m : Ms) : wt (.str m.word) ≤ 200 := by
  cases m with
  | sums => simp only [wt]; decide +kernel
  | classes k => exact (show wt (.str (Ms.classes 0).word) ≤ 200 by simp only [wt]; decide +kernel)
  | odds => simp only [wt]; decide +kernel
theorem drawn_shows {t : Tab} (ok : t.ok) (fi : ∀ r ∈ t.rs, ∀ n ∈ r, Few n) (few : t.rs.length ≤ 40) : (drawnD t).showable = true ∧ (drawnD t).depth ≤ 100 ∧ (drawnD t).shown.length ≤ sizeLine := by
  have c8 := ok.cols.len
  have hr : ∀ r ∈ t.rs, r.length ≤ 8 ∧ ∀ n ∈ r, Few n := fun r h => ⟨by rw [ok.rlen r h]; exact c8, fi r h⟩
  have hw : ∀ x ∈ t.ws, t.m.has x ∧ x.near := fun x h => ⟨(ok.wok x h).1, (ok.wok x h).2.1⟩
  obtain ⟨a1, a2⟩ := show_rows hr
  obtain ⟨b1, b2⟩ := show_ams ok.mok hw
  have cw := wt_strsB ok.cols.nm
  have wl := ok.wl
  have mz : t.m.size ≤ 4 := by
    have := ok.mok
    cases hm : t.m with
    | sums => decide
    | classes k => rw [hm] at this; exact this.2
    | odds => decide
  have n1 := show_intB (b := 10) (by decide) (by decide) (n := ((t.m.size : Nat) : Int)) (by rw [Int.natAbs_natCast]; omega)
  have sh : (drawnD t).showable = true := by
    simp only [PyData.showable] at n1
    simp only [drawnD, PyData.showable, PyData.showableAll, dCols, show_strsA, a1, b1, n1, Bool.and_self]
  have dr := dep_rows t.rs
  have da := dep_ams t.ws
  have ww := word_wt t.m
  have wx : wt (drawnD t) ≤ 8000000 := by
    simp only [wt] at ww
    simp only [drawnD, wt, wtAll, dCols]
    omega
  exact ⟨sh, by simp only [drawnD, PyData.depth, PyData.depthAll, dCols, dep_strs]; omega, Nat.le_trans (Nat.le_trans (shown_le _ sh) wx) (by decide)⟩
section
variable {K : PySem.W.Frag} {H : Hp}
theorem dp_drawn {p : Addr} {t : Tab} (h : DrawnD H p t) : Dp K H (.ref p) (drawnD t) := by
  obtain ⟨pc, pr, pm, pw, df⟩ := h
  exact .tup (.inl df.at_) (.cons (dp_cols df.cs) (.cons (dp_rowsD df.rs) (.cons (.tup (.inl df.ms) (.cons (.str _) (.cons (.int _) .nil))) (.cons (dp_amsD df.ws) .nil))))
end
end Gl
namespace Gl
open PySem PySem.Spec PyProof.Rows L2 ClX RZ
abbrev sMadeR : Stmt := topS 56
theorem scMadeR : FnScope ["_law_drawn_here", "_law_columns_here", "_law_rows_here", "_law_kind", "_law_masses", "_law_scaled_here", "_law_kept", "_law_table", "_law_plain", "_law_two"] ["_law_drawn_here"] (defScope sMadeR) := ⟨rfl, rfl, rfl, by decide +kernel, rfl, by decide +kernel, by decide +kernel⟩
/-- the same rows, each with the scale's one -/
def plainT (t : Tab) (m : Ms) : Tab := { cs := t.cs, rs := t.rs, m := m, ws := List.replicate t.rs.length m.one }
theorem Tab.ok.plain {t : Tab} (ok : t.ok) {m : Ms} (mok : m.ok) (few : t.rs.length ≤ 40) : (plainT t m).ok where
  cols := ok.cols
  c1 := ok.c1
  rlen := ok.rlen
  few := ok.few
  fit := fit_of (by show (List.replicate t.rs.length m.one).length ≤ 40; rw [List.length_replicate]; exact few) fun x hx => by rw [(List.mem_replicate.mp hx).2]; exact (one_near mok).2.1
  mok := mok
  wl := by show (List.replicate t.rs.length m.one).length = t.rs.length; rw [List.length_replicate]
  wok := fun x hx => by rw [(List.mem_replicate.mp hx).2]; exact one_near mok
theorem eqv_amsT (ws : List Am) : PyData.eqv (.tuple (ws.map Am.data)) (.tuple (ws.map Am.data)) = true := by simp only [PyData.eqv, eqv_amsS]
theorem eqTab_self (t : Tab) : eqTab t t = true := by
  unfold eqTab
  rw [eqv_cols, eqv_rowsS, eqv_amsS, decide_eq_true rfl]
  rfl
theorem keptI_nil (n : Nat) : keptI [] n = [] := by
  unfold keptI
  exact List.filter_eq_nil_iff.mpr fun i _ => by simp
theorem keptI_01 {n : Nat} (h : 2 ≤ n) : keptI [0, 1] n = [0, 1] := by
  induction n with
  | zero => omega
  | succ n ih =>
    by_cases z : 2 ≤ n
    · unfold keptI at ih ⊢
      rw [filt_succ, ih z, if_neg (by simp; omega), List.append_nil]
    · obtain rfl : n = 1 := by omega
      rfl
theorem keptI_1 {n : Nat} (h : 2 ≤ n) : keptI [1] n = [1] := by
  induction n with
  | zero => omega
  | succ n ih =>
    by_cases z : 2 ≤ n
    · unfold keptI at ih ⊢
      rw [filt_succ, ih z, if_neg (by simp; omega), List.append_nil]
    · obtain rfl : n = 1 := by omega
      rfl
section
variable {P : Program} {w : World} {K : PySem.W.Frag} {mg : Str → Option Value} {base : Heap} {C TC : Addr} {mc : Value}
theorem eqK_scl {H : Hp} {Q : VK} {E : XK} {a b : Addr} {m n : Ms} {neg : Bool} (h1 : SclAt H a C m) (h2 : SclAt H b C n) (nf : PySem.W.notFirst K C (.ref C) = true) (q : Q (.bl (xor neg (decide (m = n)))) H) : rEqK K C (spEqM K C) E neg (.ref a) (.ref b) H Q := by
  obtain ⟨d1, f1, g1, _⟩ := id h1
  obtain ⟨d2, f2, g2, _⟩ := id h2
  exact ⟨a, d1, f1, _, rfl, g1, .ins g2, nf, .inl ⟨a, b, m, n, rfl, h1, h2, _, rfl, q⟩⟩
theorem eqK_tab {H : Hp} {Q : VK} {E : XK} {a b : Addr} {t u : Tab} {neg : Bool} (h1 : TblAt H a TC C t) (h2 : TblAt H b TC C u) (o1 : t.ok) (o2 : u.ok) (nf : PySem.W.notFirst K TC (.ref TC) = true) (q : Q (.bl (xor neg (eqTab t u))) H) : rEqK K TC (spTEq K C TC) E neg (.ref a) (.ref b) H Q := by
  obtain ⟨dx, _, _, _, _, _, fs, tf⟩ := id h1
  obtain ⟨dy, _, _, _, _, _, gs, tg⟩ := id h2
  exact ⟨a, dx, fs, _, rfl, tf.at_, .ins tg.at_, nf, .inl ⟨a, b, t, u, rfl, h1, h2, o1, o2, _, rfl, q⟩⟩
/-- a table made, its rows given one by one -/
theorem made_tab {pick : List V → V → V → Prop} {H : Hp} {Q : VK} {E : XK} {pc : Addr} {sv wv : V} {zs : List V} {qs : List (Addr × List Int)} {t : Tab} (hz : pick zs sv wv) (ok : t.ok) (hc : Rd H pc (.tup (t.cs.map V.str))) (eq : qs.map (·.2) = t.rs) (hqs : ∀ q ∈ qs, Rd H q.1 (.tup (q.2.map V.int))) (hw : WtIn H wv t) (hs : ScIn H sv C t)
    (q : ∀ x H', Ex H H' → H x = none → TblAt H' x TC C t → Q (.ref x) H') : MadeK TC (spMkG pick C TC) E (.ref pc :: qs.map fun q => V.ref q.1) zs H Q := fun x dx nx ndx ne => by
  have xx : Ex H (upd (upd H dx (.own x)) x (.ins TC dx [])) := scl_made nx ndx fun b o _ e => e
  exact ⟨x, dx, pc, sv, wv, qs, t, hz, rfl, upd_same, ok, xx.rd hc, eq, fun r hr => xx.rd (hqs r hr), xx.wtIn hw, xx.scIn hs, fun H2 k tb => ⟨rfl, q x H2 (scl_made nx ndx k) nx tb⟩⟩
structure TabEq (P : Program) (w : World) (K : PySem.W.Frag) (mg : Str → Option Value) (base : Heap) (C TC : Addr) where
  e : Do1 P w K mg base TC 2 "__eq__" ["self", "other"] (spTEq K C TC)
  hne : PySem.W.findIn K (.ref TC) "__ne__" = some (some (.builtin "object.__ne__"))
  ho : PySem.W.subIn K (.ref TC) (.type "object") = some true
  nf : PySem.W.notFirst K TC (.ref TC) = true
/-- how a table is made by its class -/
structure MkT (P : Program) (w : World) (K : PySem.W.Frag) (mg : Str → Option Value) (base : Heap) (C TC : Addr) where
  fi : Addr
  M : Mk K TC fi
  WS : FnK P w K mg base CX0 7 fi ["weights", "scale"] (spMkG kWS C TC)
  N0 : FnK P w K mg base CX0 7 fi [] (spMkG k0 C TC)
def spMadeR : Sp := fun vs H Q _ => ∃ (p : Addr) (t : Tab), vs = [.ref p] ∧ DrawnD H p t ∧ t.ok ∧ t.fine ∧ t.rs.length ≤ 40 ∧ ∀ H', Ex H H' → Q (.bl true) H'
theorem ok_madeR {f : Addr} {fd : FuncData} (F : Fun K "_law_made_right" "_law_made_right" sMadeR f fd) (T : Blt mg) (Z : ClsK K C) (Y : TblK K TC) (gC : mg "Scale" = some (.ref C)) (rd : CRead K C mc) (gT : mg "Table" = some (.ref TC)) {mt : Value} (Of : OfD P w K mg base C TC mt)
    (Md : DfG P w K mg base 4 "_law_scaled" ["_law_kind"] (spMadeL C)) (Tb : DfG P w K mg base 10 "_law_tabled" ["_law_drawn_here"] (spTabled C TC)) (Fa : DfG P w K mg base 8 "_law_facts" ["_law_table"] (spFacts K C TC)) (Du : DfG P w K mg base 4 "_law_due" ["_law_drawn_here"] (spDue K))
    (M : TM P w K mg base C TC) (Es : EqS P w K mg base C) (Ss : Sm P w K mg base C mc 3 "sums" [] (spNew C .sums)) (Oe : Dp1 P w K mg base C 1 "one" (spOne C)) (Te : TabEq P w K mg base C TC) (Mt : MkT P w K mg base C TC) (On : DmR P w K mg base TC 13 "only" (spSelR keptI C TC)) : FnG P w K mg base CX0 14 f fd ["_law_drawn_here"] spMadeR := by
  refine okG F scMadeR (fun vs H Q E h => ?_) (fun cdv A outer s H vs Q E hr h => ?_)
  · obtain ⟨p, t, rfl, _⟩ := h
    rfl
  · obtain ⟨p, t, rfl, dr, ok, fi, few, q⟩ := h
    have nd := scMadeR.nd
    have r2 := hr.mono (show 2 ≤ 13 by decide)
    have r3 := hr.mono (show 3 ≤ 13 by decide)
    have r4 := hr.mono (show 4 ≤ 13 by decide)
    have r8 := hr.mono (show 8 ≤ 13 by decide)
    have r9 := hr.mono (show 9 ≤ 13 by decide)
    have r10 := hr.mono (show 10 ≤ 13 by decide)
    have hu : (A.deeper (envOfC "_law_made_right" (defScope sMadeR) s.heap.objs.size f cdv)).units + 64 < cLine := by have := hr.rm.un; omega
    refine ⟨_, pss_cons (ps_asg (pv 0) (pg_tup rfl (pgs_cons (pg_name (i := 1) nd rfl (.inl rfl)) (pgs_cons (pg_name (i := 2) nd rfl (.inl rfl)) (pgs_cons (pg_name (i := 3) nd rfl (.inl rfl)) (pgs_cons (pg_name (i := 4) nd rfl (.inl rfl)) pgs_nil))))))
      (pss_cons (ps_par (i := 5) (j := 6) rfl nd rfl rfl (by decide) rfl rfl (pa_cons (pe_callG Md.G r4 (by rfl) Md.g Md.kp Md.b .nil pass0 (pa_cons (pv 3) pa_nil)) (pa_cons (pe_callB (call_reprD hr) (by rfl) T.repr (by decide +kernel) (pa_cons (pv 0) pa_nil)) pa_nil)) (by rfl))
      (pss_cons (ps_set (i := 7) nd rfl (.inl rfl) (pe_callG Tb.G r10 (by rfl) Tb.g Tb.kp Tb.b .nil pass0 (pa_cons (pv 0) pa_nil)))
      (pss_cons (ps_if (PW.pt (pw_or (pt_cmpR op_ne (pe_callB (call_reprD hr) (by rfl) T.repr (by decide +kernel) (pa_cons (pe_callG Fa.G r8 (by rfl) Fa.g Fa.kp Fa.b .nil pass0 (pa_cons (pv 7) pa_nil)) pa_nil)) (pe_callB (call_reprD hr) (by rfl) T.repr (by decide +kernel) (pa_cons (pe_callG Du.G r4 (by rfl) Du.g Du.kp Du.b .nil pass0 (pa_cons (pv 0) pa_nil)) pa_nil)) (nomark _)) (pw_or (pt_cmpR (op_neK Es.e.G Es.e.o Es.ne Es.ob Es.e.b pass0 r2.rm) (pe_prop (pv 7) Y.cls M.sc.at_ M.sc.G r2.rm M.sc.b .nil pass0 rfl) (pv 5) (nomark _)) (pw_or1 (pt_cmpR op_ne (pe_callB (call_reprD hr) (by rfl) T.repr (by decide +kernel) (pa_cons (pv 0) pa_nil)) (pv 6) (nomark _)))))) pss_never pss_nil)
      (pss_cons (ps_set (i := 8) nd rfl (.inl rfl) (pe_cmethK (pe_glob (v := .ref TC) (by rfl) Of.g rfl) Of.rd Of.at_ Of.G0 r9.rm pass0 (pa_cons (pv 1) (pa_cons (pv 2) pa_nil)) pk_nil))
      (pss_cons (ps_if (PW.pt (pw_or (pt_cmpR (op_neK Es.e.G Es.e.o Es.ne Es.ob Es.e.b pass0 r2.rm) (pe_prop (pv 8) Y.cls M.sc.at_ M.sc.G r2.rm M.sc.b .nil pass0 rfl) (pe_smeth0 (pe_glob (v := .ref C) (by rfl) gC rfl) rd Ss.at_ Ss.G r3.rm Ss.b .nil pass0) (nomark _)) (pw_or1 (pt_cmpR (op_neD hu) (pe_prop (pv 8) Y.cls M.ws.at_ M.ws.G r2.rm M.ws.b .nil pass0 rfl) (pe_op (op_repT0.or (op_repT1.or op_repT)) (pe_tup (pa_cons pe_int pa_nil)) (pe_callB call_len_seq (by rfl) T.len PySem.boot_len (pa_cons (pv 2) pa_nil))) (nomark _))))) pss_never pss_nil)
      (pss_cons (ps_if (pt_cmpR (op_neD hu) (pe_prop (pe_cmethK (pe_glob (v := .ref TC) (by rfl) Of.g rfl) Of.rd Of.at_ Of.GS r9.rm pass0 (pa_cons (pv 1) (pa_cons (pv 2) pa_nil)) (pk_cons (pv 5) pk_nil)) Y.cls M.ws.at_ M.ws.G r2.rm M.ws.b .nil pass0 rfl) (pe_op (op_repT0.or (op_repT1.or op_repT)) (pe_tup (pa_cons (pe_prop (pv 5) Z.cls Oe.at_ Oe.G r2.rm Oe.b .nil pass0 rfl) pa_nil)) (pe_callB call_len_seq (by rfl) T.len PySem.boot_len (pa_cons (pv 2) pa_nil))) (nomark _)) pss_never pss_nil)
      (pss_cons (ps_if (pt_cmpR (op_neK Te.e.G Te.e.o Te.hne Te.ho Te.e.b pass0 r3.rm) (pe_makeKs Mt.M Mt.N0 r8.rm (by rfl) gT pass0 (pa_cons (pv 1) pa_nil) pk_nil) (pe_methR0 (pv 8) Y.cls On.at_ On.G hr.rm pass0) (nomark _)) pss_never pss_nil)
      (pss_cons (ps_if (pt_cmpR op_lt (pe_callB call_len_seq (by rfl) T.len PySem.boot_len (pa_cons (pv 2) pa_nil)) pe_int (nomark _)) (pss_one (ps_ret pe_bl)) pss_nil)
      (pss_cons (ps_set (i := 9) nd rfl (.inl rfl) (pe_makeKs Mt.M Mt.WS r8.rm (by rfl) gT pass0 (pa_cons (pv 1) (pa_cons (pe_ix ix_tup (pv 2) pe_int (fun _ _ => rfl)) (pa_cons (pe_ix ix_tup (pv 2) pe_int (fun _ _ => rfl)) pa_nil))) (pk_cons (pe_slice sl_tupA (pv 4) po_none (po_some pe_int)) (pk_cons (pv 5) pk_nil))))
      (pss_one (ps_ret (pe_and (pe_cmpR (op_eqK Te.e.G Te.e.o Te.e.b pass0 r2.rm) (pv 9) (pe_methR (pv 7) Y.cls On.at_ On.G hr.rm pass0 (pa_cons pe_int (pa_cons pe_int pa_nil))) (nomark _)) (pe_one (pe_cmpR (op_eqK Te.e.G Te.e.o Te.e.b pass0 r2.rm) (pe_makeKs Mt.M Mt.N0 r8.rm (by rfl) gT pass0 (pa_cons (pv 1) (pa_cons (pe_ix ix_tup (pv 2) pe_int (fun _ _ => rfl)) pa_nil)) pk_nil) (pe_methR (pv 8) Y.cls On.at_ On.G hr.rm pass0 (pa_cons pe_int pa_nil)) (nomark _))))))))))))))), ?_⟩
    obtain ⟨pc, pr, pm, pw, df⟩ := id dr
    obtain ⟨f1, f2, f3⟩ := fact_shows ok fi.few few
    obtain ⟨s1, s2, s3⟩ := drawn_shows ok fi.few few
    refine ⟨_, rfl, p, [.ref pc, .ref pr, .ref pm, .ref pw], rfl, .inl df.at_, rfl, _, _, rfl, _, _, rfl, _, _, rfl, _, _, rfl, rfl, ?_⟩
    refine ⟨_, rfl, pm, t.m, rfl, df.ms, ok.mok, fun g H1 e1 ng sg => ⟨_, rfl, _, drawnD t, rfl, dp_drawn (e1.drawn dr), s1, s2, s3, _, _, rfl, ?_⟩⟩
    refine ⟨_, rfl, p, t, rfl, e1.drawn dr, ok, fun b H2 e2 nb tb => ?_⟩
    have e12 := e1.trans e2
    refine ⟨_, rfl, b, t, rfl, tb, ok, fun l3 H3 e3 n3 d3 => ⟨_, factD t, rfl, d3, f1, f2, f3, ?_⟩⟩
    have e13 := e12.trans e3
    refine ⟨_, rfl, p, t, rfl, e13.drawn dr, ok, few, fun l4 H4 e4 n4 d4 => ⟨_, factD t, rfl, d4, f1, f2, f3, ?_⟩⟩
    have e14 := e13.trans e4
    refine ⟨rfl, _, rfl, ?_⟩
    rw [decide_eq_true rfl]
    refine iteF ?_
    have tb4 := (e3.trans e4).tbl tb
    obtain ⟨dx, _, _, _, _, _, fs, tf⟩ := id tb4
    refine ⟨_, rfl, b, dx, fs, rfl, tf.at_, b, t, rfl, tb4, fun ps hs => ?_⟩
    refine ⟨_, rfl, eqK_scl hs ((e2.trans (e3.trans e4)).scl sg) Es.nf ⟨_, rfl, ?_⟩⟩
    rw [decide_eq_true rfl]
    refine iteF ?_
    refine ⟨_, rfl, _, drawnD t, rfl, dp_drawn (e14.drawn dr), s1, s2, s3, _, rfl, rfl, _, rfl, ?_⟩
    rw [decide_eq_true rfl]
    refine iteF ?_
    -- plain
    obtain ⟨qs, eq, hq, hqs⟩ := df.rs
    obtain ⟨us, eu, hu1, hus⟩ := df.ws
    have lq : (qs.map fun q => V.ref q.1).length = t.rs.length := by rw [← eq, List.length_map, List.length_map]
    have okp := ok.plain (m := .sums) trivial few
    have okm := ok.plain (m := t.m) ok.mok few
    refine ⟨rfl, _, rfl, _, rfl, rfl, pc, pr, .non, .non, plainT t .sums, ⟨rfl, rfl, rfl⟩, rfl, okp, e14.rd df.cs, e14.rowsD df.rs, .inr ⟨rfl, rfl⟩, .inr ⟨rfl, rfl⟩, fun b2 H5 e5 n5 tb5 => ?_⟩
    have e15 := e14.trans e5
    obtain ⟨dx5, _, _, _, _, _, fs5, tf5⟩ := id tb5
    refine ⟨_, rfl, b2, dx5, fs5, rfl, tf5.at_, b2, _, rfl, tb5, fun ps2 hs2 => ⟨rfl, rfl, fun g2 H6 e6 n6 sg6 => eqK_scl (e6.scl hs2) sg6 Es.nf ⟨_, rfl, ?_⟩⟩⟩
    rw [show decide ((plainT t .sums).m = Ms.sums) = true from decide_eq_true rfl]
    refine iteF ?_
    have e16 := e15.trans e6
    have tb6 := e6.tbl tb5
    obtain ⟨dx6, _, _, _, _, _, fs6, tf6⟩ := id tb6
    refine ⟨_, rfl, b2, dx6, fs6, rfl, tf6.at_, b2, _, rfl, tb6, fun pw2 hw2 => ⟨by show 1 ≤ sizeLine; decide, fun z nz => ?_⟩⟩
    have xz := Ex.new (o := .tup [.int 1]) nz
    have e17 := e16.trans xz
    refine ⟨_, rfl, pr, _, rfl, .inr (.inl (e17.rd hq)), rep_any (.inl upd_same) (by omega) fun z2 H7 e7 rz2 => ?_⟩
    refine ⟨_, _, dp_amsD ((xz.trans e7).amsD hw2), dp_amsD (ams_rep (x := .n 1) rz2 rfl), shaped_ams _, shaped_ams _, ?_⟩
    have eP : PyData.eqv (.tuple ((plainT t .sums).ws.map Am.data)) (.tuple ((List.replicate (qs.map fun q => V.ref q.1).length (Am.n 1)).map Am.data)) = true := by
      rw [lq]
      exact eqv_amsT _
    rw [eP]
    refine ⟨_, rfl, iteF ?_⟩
    -- with the scale
    have e27 := e17.trans e7
    have sg7 := (((e2.trans (e3.trans e4)).trans (e5.trans e6)).trans (xz.trans e7)).scl sg
    refine ⟨rfl, _, rfl, _, rfl, _, rfl, rfl, pc, pr, .ref g, .non, plainT t t.m, ⟨rfl, rfl⟩, rfl, okm, e27.rd df.cs, e27.rowsD df.rs, .inl ⟨g, rfl, sg7⟩, .inr ⟨rfl, rfl⟩, fun b3 H8 e8 n8 tb8 => ?_⟩
    obtain ⟨dx8, _, _, _, _, _, fs8, tf8⟩ := id tb8
    refine ⟨b3, dx8, fs8, rfl, tf8.at_, b3, _, rfl, tb8, fun pw3 hw3 => ?_⟩
    have sg8 := e8.scl sg7
    obtain ⟨dg, fg, hg, _⟩ := id sg8
    refine ⟨_, rfl, g, dg, fg, rfl, hg, g, t.m, rfl, sg8, ok.mok, fun v H9 e9 hv => ⟨by show 1 ≤ sizeLine; decide, fun z3 nz3 => ?_⟩⟩
    have xz3 := Ex.new (o := .tup [v]) nz3
    have e29 := e27.trans (e8.trans (e9.trans xz3))
    refine ⟨_, rfl, pr, _, rfl, .inr (.inl (e29.rd hq)), rep_any (.inl upd_same) (by omega) fun z4 HA eA rz4 => ?_⟩
    refine ⟨_, _, dp_amsD ((e9.trans (xz3.trans eA)).amsD hw3), dp_amsD (ams_rep rz4 (hv.ex (xz3.trans eA))), shaped_ams _, shaped_ams _, ?_⟩
    have eM : PyData.eqv (.tuple ((plainT t t.m).ws.map Am.data)) (.tuple ((List.replicate (qs.map fun q => V.ref q.1).length t.m.one).map Am.data)) = true := by
      rw [lq]
      exact eqv_amsT _
    rw [eM]
    refine ⟨_, rfl, iteF ?_⟩
    -- without rows
    have e2A := e29.trans eA
    have tbA := ((xz.trans e7).trans (e8.trans (e9.trans (xz3.trans eA)))).tbl tb6
    have ok0 : ((plainT t .sums).pick (keptI [] t.rs.length)).ok := okp.pick (fun i hi => filt_lt i hi) (Nat.le_trans filt_len few)
    have p0 : (plainT t .sums).pick (keptI [] t.rs.length) = { cs := t.cs, rs := [], m := .sums, ws := [] } := by rw [keptI_nil]; rfl
    rw [p0] at ok0
    refine ⟨_, rfl, rfl, made_tab (qs := []) (t := { cs := t.cs, rs := [], m := .sums, ws := [] }) (sv := .non) (wv := .non) ⟨rfl, rfl, rfl⟩ ok0 (e2A.rd df.cs) rfl (fun _ h => nomatch h) (.inr ⟨rfl, rfl⟩) (.inr ⟨rfl, rfl⟩) fun x1 HB eB nB tbx => ?_⟩
    have tbB := eB.tbl tbA
    obtain ⟨dxB, _, _, _, _, _, fsB, tfB⟩ := id tbB
    refine ⟨_, rfl, b2, dxB, fsB, rfl, tfB.at_, tfB.no _ (by decide +kernel), b2, [], plainT t .sums, rfl, tbB, okp, few, Nat.zero_le _, (fun _ h => nomatch h), fun b5 HC eC nC tb5' => ?_⟩
    have p0' : (plainT t .sums).pick (keptI [] (plainT t .sums).rs.length) = { cs := t.cs, rs := [], m := .sums, ws := [] } := p0
    rw [p0'] at tb5'
    refine eqK_tab (eC.tbl tbx) tb5' ok0 ok0 Te.nf ⟨_, rfl, ?_⟩
    rw [eqTab_self]
    refine iteF ?_
    have e2C := e2A.trans (eB.trans eC)
    refine ⟨_, rfl, pr, _, rfl, .inr (.inl (e2C.rd hq)), _, _, rfl, rfl, _, rfl, ?_⟩
    rw [lq]
    by_cases two : (((t.rs.length : Nat) : Int) < 2)
    · rw [decide_eq_true two]
      exact iteT (q _ e2C)
    rw [decide_eq_false two]
    refine iteF ?_
    have n2 : 2 ≤ t.rs.length := by omega
    obtain ⟨q0, q1, qr, rfl⟩ : ∃ q0 q1 qr, qs = q0 :: q1 :: qr := by
      match qs, eq with
      | q0 :: q1 :: qr, _ => exact ⟨q0, q1, qr, rfl⟩
      | [_], eq => rw [← eq] at n2; simp at n2
      | [], eq => rw [← eq] at n2; simp at n2
    obtain ⟨u0, u1, ur, rfl⟩ : ∃ u0 u1 ur, us = u0 :: u1 :: ur := by
      have wl := ok.wl
      match us, eu with
      | u0 :: u1 :: ur, _ => exact ⟨u0, u1, ur, rfl⟩
      | [_], eu => rw [← eu] at wl; simp at wl; omega
      | [], eu => rw [← eu] at wl; simp at wl; omega
    have rs0 : t.rs = q0.2 :: q1.2 :: qr.map (·.2) := eq.symm
    have ws0 : t.ws = u0.2 :: u1.2 :: ur.map (·.2) := eu.symm
    have pk2 : t.pick (keptI [0, 1] t.rs.length) = { cs := t.cs, rs := [q0.2, q1.2], m := t.m, ws := [u0.2, u1.2] } := by
      rw [keptI_01 n2]
      unfold Tab.pick pickL
      rw [rs0, ws0]
      rfl
    have ok2 : (t.pick (keptI [0, 1] t.rs.length)).ok := ok.pick (fun i hi => filt_lt i hi) (Nat.le_trans filt_len few)
    rw [pk2] at ok2
    have pk1 : (plainT t .sums).pick (keptI [1] t.rs.length) = { cs := t.cs, rs := [q1.2], m := .sums, ws := [.n 1] } := by
      rw [keptI_1 n2]
      unfold Tab.pick pickL plainT
      rw [rs0]
      rfl
    have ok1 : ((plainT t .sums).pick (keptI [1] t.rs.length)).ok := okp.pick (fun i hi => filt_lt i hi) (Nat.le_trans filt_len few)
    rw [pk1] at ok1
    have hqC := e2C.rd hq
    have huC := e2C.rd hu1
    refine ⟨_, rfl, _, rfl, pr, _, 0, _, rfl, rfl, .inl hqC, (show atI ((q0 :: q1 :: qr).map fun q => V.ref q.1) ((0 : Nat) : Int) = some (.ref q0.1) from atI_nat rfl), _, rfl, pr, _, 1, _, rfl, rfl, .inl hqC, (show atI ((q0 :: q1 :: qr).map fun q => V.ref q.1) ((1 : Nat) : Int) = some (.ref q1.1) from atI_nat rfl), ?_⟩
    refine ⟨_, rfl, _, rfl, slA_any huC fun p5 HD eD h5 => ?_⟩
    rw [show (2 : Int) = ((2 : Nat) : Int) from rfl, cut_to] at h5
    have e2D := e2C.trans eD
    have sgD := ((xz.trans e7).trans (e8.trans (e9.trans (xz3.trans eA)))).trans (eB.trans eC)
    refine ⟨_, rfl, rfl, ?_⟩
    have e7D : Ex H7 HD := (e8.trans (e9.trans (xz3.trans eA))).trans ((eB.trans eC).trans eD)
    have e2D' := e2D
    refine made_tab (pick := kWS) (qs := [q0, q1]) (t := { cs := t.cs, rs := [q0.2, q1.2], m := t.m, ws := [u0.2, u1.2] }) (sv := .ref g) (wv := .ref p5) rfl ok2 (e2D.rd df.cs) rfl (fun r hr => e2D.rd (hqs r (by
        rcases List.mem_cons.mp hr with e | hr
        · rw [e]; exact List.mem_cons_self ..
        · rw [List.mem_singleton.mp hr]; exact List.mem_cons_of_mem _ (List.mem_cons_self ..)))) (.inl ⟨p5, rfl, [u0, u1], rfl, h5, fun r hr => (hus r (by
        rcases List.mem_cons.mp hr with e | hr
        · rw [e]; exact List.mem_cons_self ..
        · rw [List.mem_singleton.mp hr]; exact List.mem_cons_of_mem _ (List.mem_cons_self ..))).ex e2D⟩) (.inl ⟨g, rfl, e7D.scl sg7⟩) fun x2 HE eE nE tb2 => ?_
    have eCE := eD.trans eE
    have tbT := ((e5.trans e6).trans (xz.trans e7)).trans (e7D.trans eE) |>.tbl tb4
    obtain ⟨dxE, _, _, _, _, _, fsE, tfE⟩ := id tbT
    refine ⟨_, rfl, _, rfl, b, dxE, fsE, rfl, tfE.at_, tfE.no _ (by decide +kernel), b, [0, 1], t, rfl, tbT, ok, few, by decide, fun i hi => ?_, fun b6 HF eF nF tbq => ?_⟩
    · rcases List.mem_cons.mp hi with e | hi
      · omega
      · rw [List.mem_singleton.mp hi]; omega
    rw [pk2] at tbq
    refine eqK_tab (eF.tbl tb2) tbq ok2 ok2 Te.nf ⟨true, by rw [eqTab_self]; rfl, ?_⟩
    have e2F := e2D.trans (eE.trans eF)
    have hqF := e2F.rd hq
    refine ⟨_, rfl, _, rfl, pr, _, 1, _, rfl, rfl, .inl hqF, (show atI ((q0 :: q1 :: qr).map fun q => V.ref q.1) ((1 : Nat) : Int) = some (.ref q1.1) from atI_nat rfl), rfl, ?_⟩
    refine made_tab (pick := k0) (qs := [q1]) (t := { cs := t.cs, rs := [q1.2], m := .sums, ws := [.n 1] }) (sv := .non) (wv := .non) ⟨rfl, rfl, rfl⟩ ok1 (e2F.rd df.cs) rfl (fun r hr => e2F.rd (hqs r (by rw [List.mem_singleton.mp hr]; exact List.mem_cons_of_mem _ (List.mem_cons_self ..)))) (.inr ⟨rfl, rfl⟩) (.inr ⟨rfl, rfl⟩) fun x3 HG eG nG tb3 => ?_
    have tbP := ((xz.trans e7).trans (e7D.trans (eE.trans (eF.trans eG)))).tbl tb6
    obtain ⟨dxG, _, _, _, _, _, fsG, tfG⟩ := id tbP
    refine ⟨_, rfl, b2, dxG, fsG, rfl, tfG.at_, tfG.no _ (by decide +kernel), b2, [1], plainT t .sums, rfl, tbP, okp, few, by decide, fun i hi => by rw [List.mem_singleton.mp hi]; exact n2, fun b7 HI eI nI tb7 => ?_⟩
    have pk1' : (plainT t .sums).pick (keptI [1] (plainT t .sums).rs.length) = { cs := t.cs, rs := [q1.2], m := .sums, ws := [.n 1] } := pk1
    rw [pk1'] at tb7
    refine eqK_tab (eI.tbl tb3) tb7 ok1 ok1 Te.nf ?_
    rw [eqTab_self]
    exact q _ (e2F.trans (eG.trans eI))
end
end Gl
namespace Gl
open PySem PySem.Spec PyProof.Rows L2 ClX RZ
abbrev sRowR : Stmt := topS 57
theorem scRowR : FnScope ["_law_dice_here", "_law_drawn_here", "_law_columns_here", "_law_rows_here", "_law_kind", "_law_masses", "_law_table", "_law_at", "_law_place", "_law_other", "_law_one"] ["_law_dice_here", "_law_drawn_here"] (defScope sRowR) := ⟨rfl, rfl, rfl, by decide +kernel, rfl, by decide +kernel, by decide +kernel⟩
theorem show_bool (b : Bool) : (PyData.bool b).showable = true ∧ (PyData.bool b).depth ≤ 100 ∧ (PyData.bool b).shown.length ≤ sizeLine := by
  have h : (PyData.bool b).showable = true := by simp only [PyData.showable]
  exact ⟨h, by simp only [PyData.depth]; omega, Nat.le_trans (shown_le _ h) (by simp only [wt]; decide)⟩
theorem shaped_intsL (ns : List Int) : SeqAt.shaped (.list (ns.map PyData.int)) = true := shaped_of (by simp only [PyData.canLay0, lay_ints]) (by simp only [PyData.depth, dep_ints]; decide)
theorem lay_rows1 : ∀ rs : List (List Int), PyData.canLayAll0 (rs.map dRow ++ [.tuple []]) = true
  | [] => by simp only [List.map_nil, List.nil_append, PyData.canLayAll0, PyData.canLay0, Bool.and_self]
  | r :: rs => by simp only [List.map_cons, List.cons_append, PyData.canLayAll0, dRow, PyData.canLay0, lay_ints, Bool.true_and]; exact lay_rows1 rs
theorem dep_rows1 : ∀ rs : List (List Int), PyData.depthAll (rs.map dRow ++ [.tuple []]) ≤ 1
  | [] => by simp only [List.map_nil, List.nil_append, PyData.depthAll, PyData.depth]; decide
  | r :: rs => by
    have := dep_rows1 rs
    simp only [List.map_cons, List.cons_append, PyData.depthAll, dRow, PyData.depth, dep_ints]
    omega
theorem shaped_rows1 (rs : List (List Int)) : SeqAt.shaped (.tuple (rs.map dRow ++ [.tuple []])) = true := shaped_of (by simp only [PyData.canLay0, lay_rows1]) (by simp only [PyData.depth]; have := dep_rows1 rs; omega)
theorem shaped_e : SeqAt.shaped (.tuple []) = true := shaped_of (by simp only [PyData.canLay0, PyData.canLayAll0]) (by simp only [PyData.depth, PyData.depthAll]; decide)
theorem shaped_l : SeqAt.shaped (.list []) = true := shaped_of (by simp only [PyData.canLay0, PyData.canLayAll0]) (by simp only [PyData.depth, PyData.depthAll]; decide)
theorem shaped_non : SeqAt.shaped .none = true := by decide +kernel
theorem shaped_int (i : Int) : SeqAt.shaped (.int i) = true := shaped_of (by simp only [PyData.canLay0]) (by simp only [PyData.depth]; decide)
theorem shaped_rowW : SeqAt.shaped (.str "row") = true := by decide +kernel
theorem atI_m1 {ns : List Int} (h : 1 ≤ ns.length) : atI (ns.map V.int) (-1) = some (.int (ns.getD (ns.length - 1) 0)) := by
  have l : (ns.map V.int).length = ns.length := List.length_map ..
  have e : ixN (ns.map V.int).length (-1) = some (ns.length - 1) := by
    unfold ixN
    rw [if_neg (by omega), if_pos (by rw [l]; omega), l]
    congr 1
    omega
  unfold atI
  rw [e]
  show (ns.map V.int)[ns.length - 1]? = _
  rw [List.getElem?_map, List.getElem?_eq_getElem (show ns.length - 1 < ns.length by omega), List.getD_eq_getElem?_getD, List.getElem?_eq_getElem (show ns.length - 1 < ns.length by omega)]
  rfl
theorem cutV_ints (ns : List Int) (lo hi : Option Int) : ∃ ms : List Int, cutV (ns.map V.int) lo hi = ms.map V.int ∧ ms.length ≤ ns.length := by
  refine ⟨(ns.drop (HT.sIx (ns.map V.int).length 0 lo)).take (HT.sIx (ns.map V.int).length (ns.map V.int).length hi - HT.sIx (ns.map V.int).length 0 lo), ?_, ?_⟩
  · unfold cutV
    rw [List.map_take, List.map_drop]
  · rw [List.length_take, List.length_drop]
    omega
theorem any_row {rs : List (List Int)} {r : List Int} (h : r ∈ rs) : ((rs.map dRow).any fun z => PyData.eqv z (dRow r)) = true :=
  List.any_eq_true.mpr ⟨dRow r, List.mem_map_of_mem h, eqv_row r⟩
theorem any_no {rs : List (List Int)} {d : PyData} (h : ∀ r ∈ rs, PyData.eqv (dRow r) d = false) : ((rs.map dRow).any fun z => PyData.eqv z d) = false := by
  rw [List.any_eq_false]
  intro z hz
  obtain ⟨r, hr, rfl⟩ := List.mem_map.mp hz
  rw [h r hr]
  decide
theorem agr_mem {cs : List Str} {ns ms : List Int} {c : Str} (h : c ∈ agr cs ns ms) : c ∈ cs := by
  unfold agr at h
  obtain ⟨z, hz, rfl⟩ := List.mem_map.mp h
  exact (List.of_mem_zip (List.mem_filter.mp hz).1).1
theorem row_cons {r : List Int} (h : 1 ≤ r.length) : ∃ n ns, r = n :: ns := by
  match r, h with
  | n :: ns, _ => exact ⟨n, ns, rfl⟩
theorem row_none (r : List Int) : PyData.eqv (dRow r) .none = false := by simp only [dRow, PyData.eqv]
theorem row_int (r : List Int) (i : Int) : PyData.eqv (dRow r) (.int i) = false := by simp only [dRow, PyData.eqv]
theorem row_str (r : List Int) (x : Str) : PyData.eqv (dRow r) (.str x) = false := by simp only [dRow, PyData.eqv]
theorem row_list (r : List Int) (xs : List PyData) : PyData.eqv (dRow r) (.list xs) = false := by simp only [dRow, PyData.eqv]
theorem row_nil {r : List Int} (h : 1 ≤ r.length) : PyData.eqv (dRow r) (.tuple []) = false := by
  obtain ⟨n, ns, rfl⟩ := row_cons h
  simp only [dRow, PyData.eqv, List.map_cons, PyData.eqvAll]
theorem row_rows {r : List Int} (h : 1 ≤ r.length) (rs : List (List Int)) : PyData.eqv (dRow r) (.tuple (rs.map dRow ++ [.tuple []])) = false := by
  obtain ⟨n, ns, rfl⟩ := row_cons h
  cases rs with
  | nil => simp only [dRow, PyData.eqv, List.map_cons, List.map_nil, List.nil_append, PyData.eqvAll, Bool.false_and]
  | cons x xs => simp only [dRow, PyData.eqv, List.map_cons, List.cons_append, PyData.eqvAll, Bool.false_and]
section
variable {P : Program} {w : World} {K : PySem.W.Frag} {mg : Str → Option Value} {base : Heap} {C TC : Addr} {mc : Value}
theorem inO_data {H : Hp} {Q : VK} {E : XK} {a : Addr} {t : Tab} {x : V} {d : PyData} {neg : Bool} (tb : TblAt H a TC C t) (ok : t.ok) (hd : Dp K H x d) (sd : SeqAt.shaped d = true) (q : Q (.bl (xor neg ((t.rs.map dRow).any fun z => PyData.eqv z d))) H) : rInO TC (spTHas K C TC) E neg x (.ref a) H Q := by
  obtain ⟨dx, _, _, _, _, _, fs, tf⟩ := id tb
  exact ⟨a, dx, fs, rfl, tf.at_, a, t, x, rfl, tb, ok, .inl ⟨d, hd, sd, _, rfl, q⟩⟩
theorem inO_tab {H : Hp} {Q : VK} {E : XK} {a b : Addr} {t u : Tab} {neg : Bool} (tb : TblAt H a TC C t) (ok : t.ok) (tb2 : TblAt H b TC C u) (q : ∀ H', Ext H H' → Q (.bl (xor neg false)) H') : rInO TC (spTHas K C TC) E neg (.ref b) (.ref a) H Q := by
  obtain ⟨dx, _, _, _, _, _, fs, tf⟩ := id tb
  exact ⟨a, dx, fs, rfl, tf.at_, a, t, _, rfl, tb, ok, .inr ⟨b, u, rfl, tb2, fun H' e => ⟨_, rfl, q H' e⟩⟩⟩
def spRowR : Sp := fun vs H Q _ => ∃ (a p : Addr) (t : Tab), vs = [.ref a, .ref p] ∧ Dice H a ∧ DrawnD H p t ∧ t.ok ∧ t.rs.length ≤ 40 ∧ ∀ H', Gro a H H' → Q (.bl true) H'
theorem ok_rowR {f : Addr} {fd : FuncData} (F : Fun K "_law_rows_right" "_law_rows_right" sRowR f fd) (T : Blt mg) (Y : TblK K TC) (D : Dc P w K mg base)
    (Tb : DfG P w K mg base 10 "_law_tabled" ["_law_drawn_here"] (spTabled C TC)) (Ta : Dm P w K mg base TC 6 "agreement" ["self", "index", "other"] (spTAgr C TC)) (Al : DfG P w K mg base 1 "_law_agreement" ["_law_columns_here", "_law_row", "_law_other"] spAgrL)
    (Hs : Do1 P w K mg base TC 4 "__contains__" ["self", "x"] (spTHas K C TC)) : FnG P w K mg base CX0 11 f fd ["_law_dice_here", "_law_drawn_here"] spRowR := by
  refine okG F scRowR (fun vs H Q E h => ?_) (fun cdv A outer s H vs Q E hr h => ?_)
  · obtain ⟨a, p, t, rfl, _⟩ := h
    rfl
  · obtain ⟨a, p, t, rfl, hd, dr, ok, few, q⟩ := h
    have nd := scRowR.nd
    have r1 := hr.mono (show 1 ≤ 10 by decide)
    have r4 := hr.mono (show 4 ≤ 10 by decide)
    have r6 := hr.mono (show 6 ≤ 10 by decide)
    have hu : (A.deeper (envOfC "_law_rows_right" (defScope sRowR) s.heap.objs.size f cdv)).units + 65 < cLine := by have := hr.rm.un; omega
    have hu4 : (A.deeper (envOfC "_law_rows_right" (defScope sRowR) s.heap.objs.size f cdv)).units + 64 < cLine := by omega
    refine ⟨_, pss_cons (ps_asg (pv 1) (pg_tup rfl (pgs_cons (pg_name (i := 2) nd rfl (.inl rfl)) (pgs_cons (pg_name (i := 3) nd rfl (.inl rfl)) (pgs_cons (pg_name (i := 4) nd rfl (.inl rfl)) (pgs_cons (pg_name (i := 5) nd rfl (.inl rfl)) pgs_nil))))))
      (pss_cons (ps_set (i := 6) nd rfl (.inr rfl) (pe_callG Tb.G hr (by rfl) Tb.g Tb.kp Tb.b .nil pass0 (pa_cons (pv 1) pa_nil)))
      (pss_cons (ps_for PassesOwn.never rfl (pi_range1 rfl T.range (pa_cons (pe_callB call_len_seq (by rfl) T.len PySem.boot_len (pa_cons (pv 3) pa_nil)) pa_nil)) (pg_name (i := 7) nd rfl (.inl rfl))
        (pss_cons (ps_for PassesOwn.never rfl (pi_range1 rfl T.range (pa_cons (pe_callB call_len_seq (by rfl) T.len PySem.boot_len (pa_cons (pv 3) pa_nil)) pa_nil)) (pg_name (i := 8) nd rfl (.inl rfl))
          (pss_one (ps_if (pt_cmpR (op_neD hu4) (pe_meth (pv 6) Y.cls Ta.at_ Ta.G r6.rm Ta.b .nil pass0 (pa_cons (pv 7) (pa_cons (pv 8) pa_nil))) (pe_callG Al.G r1 (by rfl) Al.g Al.kp Al.b .nil pass0 (pa_cons (pv 2) (pa_cons (pe_ix ix_tup (pv 3) (pv 7) (fun _ _ => rfl)) (pa_cons (pe_ix ix_tup (pv 3) (pv 8) (fun _ _ => rfl)) pa_nil)))) (nomark _)) pss_never pss_nil)))
        (pss_cons (ps_set (i := 9) nd rfl (.inl rfl) (pe_op op_catA (pe_slice sl_tupA (pe_ix ix_tup (pv 3) (pv 7) (fun _ _ => rfl)) po_none (po_some (pe_un un_neg pe_int))) (pe_tup (pa_cons (pe_op op_add (pe_ix ix_tup (pe_ix ix_tup (pv 3) (pv 7) (fun _ _ => rfl)) (pe_un un_neg pe_int) (fun _ _ => rfl)) (pe_callG D.G r1 (by rfl) D.g D.kp D.b .nil pass0 (pa_cons (pv 0) (pa_cons pe_int pa_nil)))) pa_nil))))
        (pss_one (ps_if (PW.pt (pw_or (pt_cmpR (op_notinO Hs.G Hs.o Hs.b pass0 r4.rm) (pe_ix ix_tup (pv 3) (pv 7) (fun _ _ => rfl)) (pv 6) rfl) (pw_or (pt_cmpR op_ne (pe_callB (call_reprD hr) (by rfl) T.repr (by decide +kernel) (pa_cons (pe_cmpR (op_inO Hs.G Hs.o Hs.b pass0 r4.rm) (pv 9) (pv 6) rfl) pa_nil)) (pe_callB (call_reprD hr) (by rfl) T.repr (by decide +kernel) (pa_cons (pe_cmpR (op_inT hu) (pv 9) (pv 3) rfl) pa_nil)) (nomark _)) (pw_or1 (pt_cmpR (op_inO Hs.G Hs.o Hs.b pass0 r4.rm) (pe_callTy call_list_of (by rfl) T.list (by decide +kernel) (pa_cons (pe_ix ix_tup (pv 3) (pv 7) (fun _ _ => rfl)) pa_nil)) (pv 6) rfl))))) pss_never pss_nil)))))
      (pss_one (ps_ret (pe_cmpR (op_eqD hu4) (pe_lc (own := [("_law_one", 10)]) (g := gName 10) rfl nd (pi_tup (pe_tup (pa_cons pe_non (pa_cons pe_int (pa_cons (pe_tup pa_nil) (pa_cons pe_str (pa_cons (pe_op op_catA (pv 3) (pe_tup (pa_cons (pe_tup pa_nil) pa_nil))) (pa_cons (pv 6) pa_nil)))))))) (blkOk_by (N := ["_law_dice_here", "_law_drawn_here", "_law_columns_here", "_law_rows_here", "_law_kind", "_law_masses", "_law_table", "_law_at", "_law_place", "_law_other", "_law_one"]) (sc := defScope sRowR) (by decide +kernel)) (fun _ _ _ _ _ => pg_name (i := 10) nd rfl (.inl rfl)) (fun _ _ _ _ _ => pts_one (pt_cmpR (op_inO (C := TC) (E := E0) Hs.G Hs.o Hs.b pass0 r4.rm) (pv 10) (pv 6) rfl))
          (fun _ _ _ _ _ => pv 10)) (pe_lst pa_nil) (nomark _)))))), ?_⟩
    obtain ⟨pc, pr, pm, pw, df⟩ := id dr
    refine ⟨_, rfl, p, [.ref pc, .ref pr, .ref pm, .ref pw], rfl, .inl df.at_, rfl, _, _, rfl, _, _, rfl, _, _, rfl, _, _, rfl, rfl, ?_⟩
    refine ⟨_, rfl, p, t, rfl, dr, ok, fun b H1 e1 nb tb => ?_⟩
    have d1 := e1.dice hd
    have g1 := Gro.of e1 hd
    obtain ⟨qs, eq, hq, hqs⟩ := e1.rowsD df.rs
    have lq : (qs.map fun q => V.ref q.1).length = t.rs.length := by rw [← eq, List.length_map, List.length_map]
    have hc1 := e1.rd df.cs
    refine ⟨_, rfl, pr, _, rfl, .inr (.inl hq), _, rfl, by omega, by rw [lq]; omega, ?_⟩
    rw [lq]
    refine for_range (n := t.rs.length) (fun i σ H' => ∃ y7 y8 y9 : Option V, σ = [some (.ref a), some (.ref p), some (.ref pc), some (.ref pr), some (.ref pm), some (.ref pw), some (.ref b), y7, y8, y9, none] ∧ Gro a H1 H') ⟨none, none, none, rfl, Gro.of (Ex.refl _) d1⟩ (fun i σ H2 hi h => ?_) (fun σ H2 h => ?_)
    · obtain ⟨y7, y8, y9, rfl, g2⟩ := h
      have d2 := g2.di
      have hq2 := g2.rd d1 hq
      have tb2 := g2.tbl d1 tb
      have hc2 := g2.rd d1 hc1
      have hqs2 : ∀ q ∈ qs, Rd H2 q.1 (.tup (q.2.map V.int)) := fun q h => g2.rd d1 (hqs q h)
      have gi : t.rs[i]? = some t.rs[i] := List.getElem?_eq_getElem hi
      obtain ⟨ri, ai, hri⟩ := rows_at (p := pr) eq hqs2 gi
      have rli := ok.rlen _ (List.getElem_mem hi)
      refine ⟨_, rfl, pr, _, rfl, .inr (.inl hq2), _, rfl, by omega, by rw [lq]; omega, ?_⟩
      rw [lq]
      refine for_range (n := t.rs.length) (fun j σ H' => ∃ y8 : Option V, σ = [some (.ref a), some (.ref p), some (.ref pc), some (.ref pr), some (.ref pm), some (.ref pw), some (.ref b), some (.int (i : Nat)), y8, y9, none] ∧ Ex H2 H') ⟨y8, by rw [Int.zero_add]; rfl, Ex.refl _⟩ (fun j σ H3 hj h => ?_) (fun σ H3 h => ?_)
      · obtain ⟨y8', rfl, e3⟩ := h
        rw [Int.zero_add]
        have hq3 := e3.rd hq2
        have tb3 := e3.tbl tb2
        have gj : t.rs[j]? = some t.rs[j] := List.getElem?_eq_getElem hj
        obtain ⟨rj, aj, hrj⟩ := rows_at (p := pr) eq hqs2 gj
        have rlj := ok.rlen _ (List.getElem_mem hj)
        obtain ⟨dx, _, _, _, _, _, fs, tf⟩ := id tb3
        have sa : ∀ c ∈ agr t.cs t.rs[i] t.rs[j], NameOk c := fun c hc => ok.cols.nm c (agr_mem hc)
        refine ⟨_, rfl, b, dx, fs, rfl, tf.at_, tf.no _ (by decide +kernel), _, rfl, _, rfl, b, i, j, t, t.rs[i], t.rs[j], rfl, tb3, ok, gi, gj, fun v1 H4 e4 nv1 rv1 => ?_⟩
        have e34 := e3.trans e4
        refine ⟨_, rfl, _, rfl, _, rfl, pr, _, _, _, rfl, rfl, .inl (e4.rd hq3), ai, _, rfl, _, rfl, pr, _, _, _, rfl, rfl, .inl (e4.rd hq3), aj, pc, ri, rj, t.cs, t.rs[i], t.rs[j], rfl, e34.rd hc2, ok.cols.len, e34.rd hri, e34.rd hrj, rli, rlj, fun v2 H5 e5 nv2 rv2 => ?_⟩
        refine ⟨_, _, dp_cols (e5.rd rv1), dp_cols rv2, shaped_cols sa, shaped_cols sa, ?_⟩
        rw [eqv_cols]
        exact ⟨_, rfl, iteF ⟨_, rfl, e34.trans e5⟩⟩
      · obtain ⟨y8', rfl, e3⟩ := h
        have hq3 := e3.rd hq2
        have hri3 := e3.rd hri
        have r1l : 1 ≤ t.rs[i].length := by rw [rli]; exact ok.c1
        have d3 := e3.dice d2
        refine ⟨_, rfl, _, rfl, pr, _, _, _, rfl, rfl, .inl hq3, ai, _, rfl, _, rfl, slA_any hri3 fun p5 H5 e5 h5 => ?_⟩
        obtain ⟨ms, em, lm⟩ := cutV_ints t.rs[i] none (some (-1))
        have h5 : Rd H5 p5 (.tup (cutV (t.rs[i].map V.int) none (some (-1)))) := h5
        rw [em] at h5
        have d5 := e5.dice d3
        refine ⟨_, rfl, _, rfl, pr, _, _, _, rfl, rfl, .inl (e5.rd hq3), ai, _, rfl, ri, _, -1, _, rfl, rfl, .inl (e5.rd hri3), atI_m1 r1l, ?_⟩
        refine ⟨_, rfl, a, 2, rfl, by decide, by decide, d5, fun v H6 v0 v1 g6 => ⟨_, _, rfl, rfl, by show 1 ≤ sizeLine; decide, fun z nz => ?_⟩⟩
        have xz := Ex.new (o := .tup [.int (t.rs[i].getD (t.rs[i].length - 1) 0 + v)]) nz
        refine catA_any (ys := [.int (t.rs[i].getD (t.rs[i].length - 1) 0 + v)]) (xz.rd (g6.rd d5 h5)) (.inl upd_same) ?_ fun p7 H7 e7 h7 => ?_
        · rw [List.length_map, List.length_singleton]
          have := ok.cols.len
          exact Nat.le_of_lt (room1000 (by omega))
        have em2 : ms.map V.int ++ [.int (t.rs[i].getD (t.rs[i].length - 1) 0 + v)] = (ms ++ [t.rs[i].getD (t.rs[i].length - 1) 0 + v]).map V.int := by rw [List.map_append]; rfl
        rw [em2] at h7
        generalize ms ++ [t.rs[i].getD (t.rs[i].length - 1) 0 + v] = os at h7
        have g17 : Gro a H2 H7 := ((Gro.of (e3.trans e5) d2).trans g6).ex (xz.trans e7)
        have g07 := g2.trans g17
        have tb7 := g17.tbl d2 tb2
        have hq7 := g17.rd d2 hq2
        have hri7 := g17.rd d2 hri
        refine ⟨_, rfl, _, rfl, pr, _, _, _, rfl, rfl, .inl hq7, ai, _, rfl, inO_data tb7 ok (dp_row hri7) (shaped_row _) ?_⟩
        rw [any_row (List.getElem_mem hi)]
        refine ⟨_, rfl, iteF ?_⟩
        refine ⟨_, rfl, _, rfl, inO_data tb7 ok (dp_row h7) (shaped_row _) ?_⟩
        rw [Bool.false_xor]
        obtain ⟨b1, b2, b3⟩ := show_bool ((t.rs.map dRow).any fun z => PyData.eqv z (dRow os))
        refine ⟨_, .bool _, rfl, .bl _, b1, b2, b3, ?_⟩
        refine ⟨_, rfl, _, rfl, dRow os, t.rs.map dRow, dp_row h7, dp_rowsD ⟨qs, eq, hq7, fun q h => g17.rd d2 (hqs2 q h)⟩, shaped_row _, shaped_rowsT _, ?_⟩
        refine ⟨_, .bool _, rfl, .bl _, b1, b2, b3, rfl, _, rfl, ?_⟩
        rw [decide_eq_true rfl]
        refine iteF ?_
        refine ⟨_, rfl, _, rfl, pr, _, _, _, rfl, rfl, .inl hq7, ai, ri, _, rfl, .inr (.inl hri7), fun l nl => ?_⟩
        have xl := Ex.new (o := .lst (t.rs[i].map V.int)) nl
        refine ⟨_, rfl, inO_data (xl.tbl tb7) ok (.lst (.inl (.inl upd_same)) (dp_ints _)) (shaped_intsL _) ?_⟩
        rw [any_no (fun r _ => row_list r _)]
        exact ⟨_, rfl, iteF ⟨_, _, _, rfl, g07.ex xl⟩⟩
    · obtain ⟨y7, y8, y9, rfl, g2⟩ := h
      have d2 := g2.di
      have hq2 := g2.rd d1 hq
      have tb2 := g2.tbl d1 tb
      refine ⟨by show 0 ≤ sizeLine; decide, fun z1 nz1 => ?_⟩
      have x1 := Ex.new (o := .tup []) nz1
      refine ⟨_, rfl, Nat.zero_le _, fun z2 nz2 => ⟨by show 1 ≤ sizeLine; decide, fun z3 nz3 => ?_⟩⟩
      have x2 := Ex.new (o := .tup []) nz2
      have x3 := Ex.new (o := .tup [.ref z2]) nz3
      have x13 := x1.trans (x2.trans x3)
      refine catA_any (x13.rd hq2) (.inl upd_same) (by rw [lq]; show _ + 1 ≤ sizeLine; exact Nat.le_of_lt (room1000 (by omega))) fun z4 H4 e4 h4 => ?_
      refine ⟨_, rfl, by show 6 ≤ sizeLine; decide, fun z5 nz5 => ?_⟩
      have x5 := Ex.new (o := .tup [.non, .int 0, .ref z1, .str "row", .ref z4, .ref b]) nz5
      have e5 : Ex _ _ := x13.trans (e4.trans x5)
      have tb5 := e5.tbl tb2
      refine ⟨z5, rfl, ⟨_, .inl (.inl upd_same)⟩, fun D nD => lc_tup (xs := [.non, .int 0, .ref z1, .str "row", .ref z4, .ref b]) (fun i H' => Ex (upd H4 z5 (.tup [.non, .int 0, .ref z1, .str "row", .ref z4, .ref b])) H' ∧ H' D = some (.lst [])) ⟨Ex.new nD, upd_same⟩ (fun i H' _ h => .inl (h.1.rd (.inl upd_same))) (fun i x H' hx h => ?_) (fun H' h => ?_)⟩
      · obtain ⟨ex, eD⟩ := h
        have tbi := ex.tbl tb5
        have r1 : ∀ r ∈ t.rs, 1 ≤ r.length := fun r hr => by rw [ok.rlen r hr]; exact ok.c1
        match i, hx with
        | 0, hx =>
          obtain rfl := Option.some.inj hx
          refine ⟨rfl, _, rfl, _, rfl, inO_data tbi ok .non shaped_non ?_⟩
          rw [any_no (fun r _ => row_none r)]
          exact ⟨_, rfl, iteF ⟨ex, eD⟩⟩
        | 1, hx =>
          obtain rfl := Option.some.inj hx
          refine ⟨rfl, _, rfl, _, rfl, inO_data tbi ok (.int 0) (shaped_int 0) ?_⟩
          rw [any_no (fun r _ => row_int r 0)]
          exact ⟨_, rfl, iteF ⟨ex, eD⟩⟩
        | 2, hx =>
          obtain rfl := Option.some.inj hx
          refine ⟨rfl, _, rfl, _, rfl, inO_data tbi ok (.tup (.inl (ex.rd (x5.rd (e4.rd (x3.rd (x2.rd (.inl upd_same))))))) .nil) shaped_e ?_⟩
          rw [any_no (fun r hr => row_nil (r1 r hr))]
          exact ⟨_, rfl, iteF ⟨ex, eD⟩⟩
        | 3, hx =>
          obtain rfl := Option.some.inj hx
          refine ⟨rfl, _, rfl, _, rfl, inO_data tbi ok (.str "row") shaped_rowW ?_⟩
          rw [any_no (fun r _ => row_str r "row")]
          exact ⟨_, rfl, iteF ⟨ex, eD⟩⟩
        | 4, hx =>
          obtain rfl := Option.some.inj hx
          have e4D := x5.trans ex
          have dpr : DpAll K H' ((qs.map fun q => V.ref q.1) ++ [.ref z2]) (t.rs.map dRow ++ [.tuple []]) := by
            refine dpAll_snoc ?_ (.tup (.inl (e4D.rd (e4.rd (x3.rd (.inl upd_same))))) .nil)
            have := dp_refs (K := K) (rs := qs) (H := H') fun q hq => (e5.trans ex).rd (g2.rd d1 (hqs q hq))
            rw [show (qs.map fun r => dRow r.2) = t.rs.map dRow by rw [← eq, List.map_map]; rfl] at this
            exact this
          refine ⟨rfl, _, rfl, _, rfl, inO_data tbi ok (.tup (.inl (e4D.rd h4)) dpr) (shaped_rows1 _) ?_⟩
          rw [any_no (fun r hr => row_rows (r1 r hr) _)]
          exact ⟨_, rfl, iteF ⟨ex, eD⟩⟩
        | 5, hx =>
          obtain rfl := Option.some.inj hx
          exact ⟨rfl, _, rfl, _, rfl, inO_tab tbi ok tbi fun H6 e6 => ⟨_, rfl, iteF ⟨fun c o hco => e6 c o (ex c o hco), e6 D _ eD⟩⟩⟩
        | i + 6, hx => simp at hx
      · obtain ⟨ex, eD⟩ := h
        refine ⟨Nat.zero_le _, fun l nl => ⟨.list [], .list [], .lst (.inl (.inl (Ex.new nl D _ eD))) .nil, .lst (.inl (.inl upd_same)) .nil, shaped_l, shaped_l, ?_⟩⟩
        rw [show PyData.eqv (.list []) (.list []) = true by simp only [PyData.eqv, PyData.eqvAll]]
        exact q _ (g1.trans (g2.ex (e5.trans (ex.trans (Ex.new nl)))))
end
end Gl
namespace Gl
open PySem PySem.Spec PyProof.Rows L2 ClX RZ
abbrev sSameR : Stmt := topS 58
theorem scSameR : FnScope ["_law_dice_here", "_law_drawn_here", "_law_columns_here", "_law_rows_here", "_law_kind", "_law_masses", "_law_table", "_law_other", "_law_some", "_law_one", "_law_made", "_law_due_here", "_law_odd", "_law_name"] ["_law_dice_here", "_law_drawn_here"] (defScope sSameR) := ⟨rfl, rfl, rfl, by decide +kernel, rfl, by decide +kernel, by decide +kernel⟩
/-! equal data, either way round -/
theorem eqv_strsD : ∀ as bs : List Str, PyData.eqvAll (as.map PyData.str) (bs.map PyData.str) = decide (as = bs)
  | [], [] => by simp only [List.map_nil, PyData.eqvAll]; rfl
  | [], _ :: _ => by simp only [List.map_nil, List.map_cons, PyData.eqvAll]; rfl
  | _ :: _, [] => by simp only [List.map_nil, List.map_cons, PyData.eqvAll]; rfl
  | a :: as, b :: bs => by
    simp only [List.map_cons, PyData.eqvAll, PyData.eqv, eqv_strsD as bs]
    rw [Bool.eq_iff_iff, Bool.and_eq_true, beq_iff_eq, decide_eq_true_eq, decide_eq_true_eq, List.cons.injEq]
theorem eqv_colsD (as bs : List Str) : PyData.eqv (dCols as) (dCols bs) = decide (as = bs) := by simp only [dCols, PyData.eqv, eqv_strsD]
theorem eqv_rowsD : ∀ as bs : List (List Int), PyData.eqvAll (as.map dRow) (bs.map dRow) = decide (as = bs)
  | [], [] => by simp only [List.map_nil, PyData.eqvAll]; rfl
  | [], _ :: _ => by simp only [List.map_nil, List.map_cons, PyData.eqvAll]; rfl
  | _ :: _, [] => by simp only [List.map_nil, List.map_cons, PyData.eqvAll]; rfl
  | a :: as, b :: bs => by
    simp only [List.map_cons, PyData.eqvAll, eqv_rowsD as bs]
    rw [show PyData.eqv (dRow a) (dRow b) = decide (a = b) by simp only [dRow, PyData.eqv, eqv_ints]]
    rw [Bool.eq_iff_iff, Bool.and_eq_true, decide_eq_true_eq, decide_eq_true_eq, decide_eq_true_eq, List.cons.injEq]
theorem dec_sym {α : Type} [DecidableEq α] (a b : α) : decide (a = b) = decide (b = a) := decide_eq_decide.mpr eq_comm
theorem eqv_amS : ∀ x y : Am, PyData.eqv x.data y.data = PyData.eqv y.data x.data
  | .n i, .n j => by simp only [Am.data, eqv_int]; exact dec_sym i j
  | .n _, .c _ => by simp only [Am.data, PyData.eqv]
  | .n _, .o _ => by simp only [Am.data, PyData.eqv]
  | .c _, .n _ => by simp only [Am.data, PyData.eqv]
  | .o _, .n _ => by simp only [Am.data, PyData.eqv]
  | .c a, .c b => by simp only [Am.data, PyData.eqv, eqv_ints]; exact dec_sym a b
  | .c a, .o y => by
    have h := eqv_ints a [((y.1.1 : Nat) : Int), ((y.1.2 : Nat) : Int)]
    have g := eqv_ints [((y.1.1 : Nat) : Int), ((y.1.2 : Nat) : Int)] a
    simp only [List.map_cons, List.map_nil] at h g
    simp only [Am.data, PyData.eqv, h, g]
    exact dec_sym _ _
  | .o y, .c a => by
    have h := eqv_ints a [((y.1.1 : Nat) : Int), ((y.1.2 : Nat) : Int)]
    have g := eqv_ints [((y.1.1 : Nat) : Int), ((y.1.2 : Nat) : Int)] a
    simp only [List.map_cons, List.map_nil] at h g
    simp only [Am.data, PyData.eqv, h, g]
    exact dec_sym _ _
  | .o x, .o y => by
    have h := eqv_ints [((x.1.1 : Nat) : Int), ((x.1.2 : Nat) : Int)] [((y.1.1 : Nat) : Int), ((y.1.2 : Nat) : Int)]
    have g := eqv_ints [((y.1.1 : Nat) : Int), ((y.1.2 : Nat) : Int)] [((x.1.1 : Nat) : Int), ((x.1.2 : Nat) : Int)]
    simp only [List.map_cons, List.map_nil] at h g
    simp only [Am.data, PyData.eqv, h, g]
    exact dec_sym _ _
theorem eqv_amsSym : ∀ xs ys : List Am, PyData.eqvAll (xs.map Am.data) (ys.map Am.data) = PyData.eqvAll (ys.map Am.data) (xs.map Am.data)
  | [], [] => rfl
  | [], _ :: _ => by simp only [List.map_nil, List.map_cons, PyData.eqvAll]
  | _ :: _, [] => by simp only [List.map_nil, List.map_cons, PyData.eqvAll]
  | x :: xs, y :: ys => by simp only [List.map_cons, PyData.eqvAll, eqv_amS x y, eqv_amsSym xs ys]
def kindD (m : Ms) : PyData := .tuple [.str m.word, .int (m.size : Nat)]
theorem eqv_kind (m n : Ms) : PyData.eqv (kindD m) (kindD n) = decide (m = n) := by
  rw [ms_eq]
  simp only [kindD, PyData.eqv, PyData.eqvAll, Bool.and_true]
  congr 1
  · rw [Bool.eq_iff_iff, beq_iff_eq, decide_eq_true_eq]
    exact ⟨fun h => congrArg V.str h, fun h => V.str.inj h⟩
  · rw [Bool.eq_iff_iff, beq_iff_eq, decide_eq_true_eq]
    exact ⟨fun h => congrArg V.int h, fun h => V.int.inj h⟩
theorem eq_drawn (t u : Tab) : PyData.eqv (drawnD u) (drawnD t) = eqTab t u := by
  have e : drawnD u = .tuple [dCols u.cs, .tuple (u.rs.map dRow), kindD u.m, .tuple (u.ws.map Am.data)] := rfl
  have e' : drawnD t = .tuple [dCols t.cs, .tuple (t.rs.map dRow), kindD t.m, .tuple (t.ws.map Am.data)] := rfl
  rw [e, e']
  have h : PyData.eqv (.tuple [dCols u.cs, .tuple (u.rs.map dRow), kindD u.m, .tuple (u.ws.map Am.data)]) (.tuple [dCols t.cs, .tuple (t.rs.map dRow), kindD t.m, .tuple (t.ws.map Am.data)]) = (PyData.eqv (dCols u.cs) (dCols t.cs) && (PyData.eqvAll (u.rs.map dRow) (t.rs.map dRow) && (PyData.eqv (kindD u.m) (kindD t.m) && (PyData.eqvAll (u.ws.map Am.data) (t.ws.map Am.data) && true)))) := by
    rw [PyData.eqv, PyData.eqvAll, PyData.eqvAll, PyData.eqvAll, PyData.eqvAll, PyData.eqvAll]
    rw [show PyData.eqv (.tuple (u.rs.map dRow)) (.tuple (t.rs.map dRow)) = PyData.eqvAll (u.rs.map dRow) (t.rs.map dRow) by simp only [PyData.eqv], show PyData.eqv (.tuple (u.ws.map Am.data)) (.tuple (t.ws.map Am.data)) = PyData.eqvAll (u.ws.map Am.data) (t.ws.map Am.data) by simp only [PyData.eqv]]
  rw [h, eqv_colsD, eqv_rowsD, eqv_kind, eqv_amsSym]
  unfold eqTab
  rw [eqv_colsD, eqv_rowsD, dec_sym u.cs, dec_sym u.rs, dec_sym u.m, Bool.and_true]
  congr 2
  exact Bool.and_comm ..
/-! odd values -/
section
variable {K : PySem.W.Frag} {H : Hp}
theorem dx_strsA : ∀ cs : List Str, DxAll K H (cs.map V.str) (cs.map PyData.str)
  | [] => .nil
  | c :: cs => .cons (.str c) (dx_strsA cs)
theorem dx_amA {v : V} : ∀ {x : Am}, AmV H v x → Dx K H v x.data
  | .n i, h => by obtain rfl := h; exact .int i
  | .c ns, ⟨p, e, h⟩ => by subst e; exact .tup h (dx_ints ns)
  | .o x, ⟨p, e, h⟩ => by subst e; exact .tup h (.cons (.int _) (.cons (.int _) .nil))
theorem dx_amsA : ∀ {ps : List (V × Am)}, (∀ q ∈ ps, AmV H q.1 q.2) → DxAll K H (ps.map (·.1)) (ps.map fun q => q.2.data)
  | [], _ => .nil
  | q :: ps, h => .cons (dx_amA (h q (List.mem_cons_self ..))) (dx_amsA fun r hr => h r (List.mem_cons_of_mem _ hr))
theorem dx_refsA : ∀ {rs : List (Addr × List Int)}, (∀ r ∈ rs, Rd H r.1 (.tup (r.2.map V.int))) → DxAll K H (rs.map fun r => V.ref r.1) (rs.map fun r => dRow r.2)
  | [], _ => .nil
  | r :: rs, h => .cons (.tup (h r (List.mem_cons_self ..)) (dx_ints _)) (dx_refsA fun q hq => h q (List.mem_cons_of_mem _ hq))
theorem dx_rowsD {p : Addr} {rs : List (List Int)} (h : RowsD H p rs) : ∃ ds, Dx K H (.ref p) (.tuple ds) := by
  obtain ⟨qs, _, h1, h2⟩ := h
  exact ⟨_, .tup h1 (dx_refsA h2)⟩
theorem dx_drawn {p : Addr} {t : Tab} (h : DrawnD H p t) : ∃ ds, Dx K H (.ref p) (.tuple ds) := by
  obtain ⟨pc, pr, pm, pw, df⟩ := h
  obtain ⟨d1, h1⟩ := dx_rowsD (K := K) df.rs
  obtain ⟨us, _, h2, h3⟩ := df.ws
  exact ⟨_, .tup df.at_ (.cons (.tup df.cs (dx_strsA _)) (.cons h1 (.cons (.tup df.ms (.cons (.str _) (.cons (.int _) .nil))) (.cons (.tup h2 (dx_amsA h3)) .nil))))⟩
theorem eqK_odd {C TC : Addr} {Q : VK} {E : XK} {a : Addr} {t : Tab} {v : V} {d : PyData} (tb : TblAt H a TC C t) (hd : Dx K H v d) (ty : TyK K H v (.type (tyName d))) (nf : ∀ t ∈ tys, PySem.W.notFirst K TC (.type t) = true) (q : Q (.bl false) H) : rEqK K TC (spTEq K C TC) E false (.ref a) v H Q := by
  obtain ⟨dx, _, _, _, _, _, fs, tf⟩ := id tb
  exact ⟨a, dx, fs, _, rfl, tf.at_, ty, nf _ (tyName_in d), .inr ⟨a, t, v, d, rfl, tb, hd, _, rfl, q⟩⟩
end
/-! the tables beside -/
def revR (t : Tab) : Tab := { t with rs := t.rs.reverse }
def revW (t : Tab) : Tab := { t with ws := t.ws.reverse }
def tailT (t : Tab) : Tab := { t with rs := t.rs.drop 1, ws := t.ws.drop 1 }
def twosT (t : Tab) : Tab := { cs := t.cs, rs := t.rs, m := .sums, ws := List.replicate t.rs.length (.n 2) }
def zT (t : Tab) : Tab := { t with cs := t.cs.map (· ++ ("z" : Str)) }
theorem fit12 {ws : List Am} {m : Ms} (l : ws.length ≤ 40) (h : ∀ x ∈ ws, m.has x ∧ x.near ∧ Wt m x) : ∃ b, 1 ≤ b ∧ b ≤ 190 ∧ b * ws.length + 1 + b ≤ 8000 ∧ ∀ x ∈ ws, x.lim b := fit_of l fun x hx => (h x hx).2.1
theorem revR_ok {t : Tab} (ok : t.ok) : (revR t).ok :=
  { ok with rlen := fun r hr => ok.rlen r (List.mem_reverse.mp hr), few := by show t.rs.reverse.length ≤ 200; rw [List.length_reverse]; exact ok.few, wl := by show t.ws.length = t.rs.reverse.length; rw [List.length_reverse]; exact ok.wl }
theorem revW_ok {t : Tab} (ok : t.ok) (few : t.rs.length ≤ 12) : (revW t).ok :=
  { ok with
    fit := fit12 (m := t.m) (by show t.ws.reverse.length ≤ 40; rw [List.length_reverse, ok.wl]; omega) fun x hx => ok.wok x (List.mem_reverse.mp hx)
    wl := by show t.ws.reverse.length = t.rs.length; rw [List.length_reverse]; exact ok.wl
    wok := fun x hx => ok.wok x (List.mem_reverse.mp hx) }
theorem tailT_ok {t : Tab} (ok : t.ok) (few : t.rs.length ≤ 12) : (tailT t).ok :=
  { ok with
    rlen := fun r hr => ok.rlen r (List.mem_of_mem_drop hr)
    few := by show (t.rs.drop 1).length ≤ 200; rw [List.length_drop]; omega
    fit := fit12 (m := t.m) (by show (t.ws.drop 1).length ≤ 40; rw [List.length_drop, ok.wl]; omega) fun x hx => ok.wok x (List.mem_of_mem_drop hx)
    wl := by show (t.ws.drop 1).length = (t.rs.drop 1).length; rw [List.length_drop, List.length_drop, ok.wl]
    wok := fun x hx => ok.wok x (List.mem_of_mem_drop hx) }
theorem two_near : Ms.sums.has (.n 2) ∧ (Am.n 2).near ∧ Wt .sums (.n 2) := ⟨trivial, (by show (2 : Int).natAbs < 2 ^ 190; decide), (by show (0 : Int) < 2 ∧ (2 : Int) < 10 ^ 40; decide)⟩
theorem twosT_ok {t : Tab} (ok : t.ok) (few : t.rs.length ≤ 12) : (twosT t).ok where
  cols := ok.cols
  c1 := ok.c1
  rlen := ok.rlen
  few := ok.few
  fit := fit12 (m := .sums) (by show (List.replicate t.rs.length (Am.n 2)).length ≤ 40; rw [List.length_replicate]; omega) fun x hx => by rw [(List.mem_replicate.mp hx).2]; exact two_near
  mok := trivial
  wl := by show (List.replicate t.rs.length (Am.n 2)).length = t.rs.length; rw [List.length_replicate]
  wok := fun x hx => by rw [(List.mem_replicate.mp hx).2]; exact two_near
theorem z_cols {cs : List Str} (h : Words cs) (l : cs.length ≤ 8) : ColsOk (cs.map (· ++ ("z" : Str))) := by
  have hz : ("z" : Str).cps.toList = [122] := by decide +kernel
  have get : ∀ (i : Nat) (c : Str), (cs.map (· ++ ("z" : Str)))[i]? = some c → ∃ (d : Nat) (r : List Nat), c.cps.toList = (97 + d) :: r ∧ (d = 2 * i ∨ d = 2 * i + 1) ∧ r.length ≤ 3 ∧ ∀ x ∈ r, Small x := fun i c hc => by
    rw [List.getElem?_map] at hc
    obtain ⟨c0, h0, rfl⟩ := Option.map_eq_some_iff.mp hc
    obtain ⟨d, r, e, hd, hr, sm⟩ := h i c0 h0
    refine ⟨d, r ++ [122], ?_, hd, by rw [List.length_append, List.length_singleton]; omega, fun x hx => ?_⟩
    · rw [PySem.Str.cps_append, Array.toList_append, e, hz]
      rfl
    · rcases List.mem_append.mp hx with hx | hx
      · exact sm x hx
      · rw [List.mem_singleton.mp hx]; unfold Small; omega
  refine ⟨fun c hc => ?_, ?_, by rw [List.length_map]; exact l⟩
  · obtain ⟨i, hi⟩ := List.getElem?_of_mem hc
    obtain ⟨d, r, e, hd, hr, sm⟩ := get i c hi
    have il := (List.getElem?_eq_some_iff.mp hi).1
    rw [List.length_map] at il
    have len : c.length = r.length + 1 := by
      show c.cps.size = _
      rw [← Array.length_toList, e, List.length_cons]
    refine ⟨by omega, by omega, fun x hx => ?_⟩
    rw [e] at hx
    rcases List.mem_cons.mp hx with rfl | hx
    · unfold Small; omega
    · exact sm x hx
  · refine List.pairwise_iff_getElem.mpr fun i j hi hj lt => ?_
    obtain ⟨d, r, e, hd, _⟩ := get i _ (List.getElem?_eq_getElem hi)
    obtain ⟨d', r', e', hd', _⟩ := get j _ (List.getElem?_eq_getElem hj)
    rw [e, e']
    exact List.Lex.rel (by omega)
theorem zT_ok {t : Tab} (ok : t.ok) (wd : Words t.cs) : (zT t).ok :=
  { ok with
    cols := z_cols wd ok.cols.len
    c1 := by show 1 ≤ (t.cs.map _).length; rw [List.length_map]; exact ok.c1
    rlen := fun r hr => by show r.length = (t.cs.map _).length; rw [List.length_map]; exact ok.rlen r hr }
/-- one of the tables drawn or built from what was drawn -/
def Good (H : Hp) (x : V) : Prop := ∃ (p : Addr) (u : Tab), x = .ref p ∧ DrawnD H p u ∧ u.ok ∧ (∀ r ∈ u.rs, ∀ n ∈ r, Few n) ∧ u.rs.length ≤ 12
theorem shaped_drawn {t : Tab} (ok : t.ok) : SeqAt.shaped (drawnD t) = true := by
  have h1 : (drawnD t).canLay0 = true := by
    have hw : PyData.canLay0 (.str t.m.word) = true := by
      cases t.m with
      | sums => decide +kernel
      | classes k => exact (by decide +kernel : PyData.canLay0 (.str (Ms.classes 0).word) = true)
      | odds => decide +kernel
    simp only [PyData.canLay0] at hw
    simp only [drawnD, PyData.canLay0, PyData.canLayAll0, dCols, lay_strs ok.cols.nm, lay_rows, lay_ams, hw, Bool.and_self]
  refine shaped_of h1 ?_
  have := dep_rows t.rs
  have := dep_ams t.ws
  simp only [drawnD, PyData.depth, PyData.depthAll, dCols, dep_strs]
  omega
theorem shaped_kind (m : Ms) : SeqAt.shaped (kindD m) = true := by
  cases m with
  | sums => decide +kernel
  | classes k =>
    refine shaped_of ?_ (by simp only [kindD, PyData.depth, PyData.depthAll]; decide)
    have hw : PyData.canLay0 (.str (Ms.classes k).word) = true := (by decide +kernel : PyData.canLay0 (.str (Ms.classes 0).word) = true)
    simp only [PyData.canLay0] at hw
    simp only [kindD, PyData.canLay0, PyData.canLayAll0, hw, Bool.and_self]
  | odds => decide +kernel
theorem good_mk {H : Hp} {p pc pr pm pw : Addr} {u : Tab} (h : Rd H p (.tup [.ref pc, .ref pr, .ref pm, .ref pw])) (hc : Rd H pc (.tup (u.cs.map V.str))) (hr : RowsD H pr u.rs) (hm : MsV H pm u.m) (hw : AmsD H pw u.ws) (ok : u.ok) (fw : ∀ r ∈ u.rs, ∀ n ∈ r, Few n) (l : u.rs.length ≤ 12) : Good H (.ref p) :=
  ⟨p, u, rfl, ⟨pc, pr, pm, pw, ⟨h, hc, hr, hm, hw⟩⟩, ok, fw, l⟩
theorem Good.ex {H H' : Hp} {x : V} (e : Ex H H') : Good H x → Good H' x := fun ⟨p, u, a, b, c⟩ => ⟨p, u, a, e.drawn b, c⟩
theorem amV_upd {H : Hp} {l : Addr} {ys : List V} {o : HO} (hl : H l = some (.lst ys)) {v : V} : ∀ {x : Am}, AmV H v x → AmV (upd H l o) v x
  | .n _, h => h
  | .c _, ⟨p, e, h⟩ => ⟨p, e, rd_upd hl h⟩
  | .o _, ⟨p, e, h⟩ => ⟨p, e, rd_upd hl h⟩
theorem drawn_upd {H : Hp} {l p : Addr} {ys : List V} {o : HO} {t : Tab} (hl : H l = some (.lst ys)) : DrawnD H p t → DrawnD (upd H l o) p t := fun ⟨pc, pr, pm, pw, df⟩ => by
  obtain ⟨qs, e1, e2, e3⟩ := df.rs
  obtain ⟨us, f1, f2, f3⟩ := df.ws
  exact ⟨pc, pr, pm, pw, ⟨rd_upd hl df.at_, rd_upd hl df.cs, ⟨qs, e1, rd_upd hl e2, fun q hq => rd_upd hl (e3 q hq)⟩, rd_upd hl df.ms, ⟨us, f1, rd_upd hl f2, fun q hq => amV_upd hl (f3 q hq)⟩⟩⟩
theorem good_upd {H : Hp} {l : Addr} {ys : List V} {o : HO} {x : V} (hl : H l = some (.lst ys)) : Good H x → Good (upd H l o) x := fun ⟨p, u, a, b, c⟩ => ⟨p, u, a, drawn_upd hl b, c⟩
theorem rowsD_rev {H : Hp} {p : Addr} {qs : List (Addr × List Int)} {rs : List (List Int)} (e : qs.map (·.2) = rs) (h : Rd H p (.tup (qs.map fun q => V.ref q.1).reverse)) (hq : ∀ q ∈ qs, Rd H q.1 (.tup (q.2.map V.int))) : RowsD H p rs.reverse :=
  ⟨qs.reverse, by rw [List.map_reverse, e], by rw [List.map_reverse]; exact h, fun q h => hq q (List.mem_reverse.mp h)⟩
theorem amsD_rev {H : Hp} {p : Addr} {qs : List (V × Am)} {rs : List Am} (e : qs.map (·.2) = rs) (h : Rd H p (.tup (qs.map (·.1)).reverse)) (hq : ∀ q ∈ qs, AmV H q.1 q.2) : AmsD H p rs.reverse :=
  ⟨qs.reverse, by rw [List.map_reverse, e], by rw [List.map_reverse]; exact h, fun q h => hq q (List.mem_reverse.mp h)⟩
theorem rowsD_drop {H : Hp} {p : Addr} {qs : List (Addr × List Int)} {rs : List (List Int)} (k : Nat) (e : qs.map (·.2) = rs) (h : Rd H p (.tup ((qs.map fun q => V.ref q.1).drop k))) (hq : ∀ q ∈ qs, Rd H q.1 (.tup (q.2.map V.int))) : RowsD H p (rs.drop k) :=
  ⟨qs.drop k, by rw [List.map_drop, e], by rw [List.map_drop]; exact h, fun q h => hq q (List.mem_of_mem_drop h)⟩
theorem amsD_drop {H : Hp} {p : Addr} {qs : List (V × Am)} {rs : List Am} (k : Nat) (e : qs.map (·.2) = rs) (h : Rd H p (.tup ((qs.map (·.1)).drop k))) (hq : ∀ q ∈ qs, AmV H q.1 q.2) : AmsD H p (rs.drop k) :=
  ⟨qs.drop k, by rw [List.map_drop, e], by rw [List.map_drop]; exact h, fun q h => hq q (List.mem_of_mem_drop h)⟩
theorem cut1 (xs : List V) : cutV xs (some 1) none = xs.drop 1 := by
  cases xs with
  | nil => unfold cutV; simp
  | cons x xs => exact cut_from (x :: xs) 1 (by simp)
section
variable {P : Program} {w : World} {K : PySem.W.Frag} {mg : Str → Option Value} {base : Heap} {C TC : Addr} {mc : Value}
def spSameR : Sp := fun vs H Q _ => ∃ (a p : Addr) (t : Tab), vs = [.ref a, .ref p] ∧ Dice H a ∧ DrawnD H p t ∧ t.ok ∧ t.fine ∧ t.rs.length ≤ 12 ∧ t.cs.length ≤ 4 ∧ ∀ H', Gro a H H' → Q (.bl true) H'
theorem ok_sameR {f : Addr} {fd : FuncData} (F : Fun K "_law_same_right" "_law_same_right" sSameR f fd) (T : Blt mg) (ts : mg "str" = none) (Y : TblK K TC) (nfT : ∀ t ∈ tys, PySem.W.notFirst K TC (.type t) = true)
    (Tb : DfG P w K mg base 10 "_law_tabled" ["_law_drawn_here"] (spTabled C TC)) (Dr : DfG P w K mg base 4 "_law_drawn" ["_law_dice_here", "_law_most"] spDrawn) (Fa : DfG P w K mg base 8 "_law_facts" ["_law_table"] (spFacts K C TC)) (Du : DfG P w K mg base 4 "_law_due" ["_law_drawn_here"] (spDue K))
    (M : TM P w K mg base C TC) (Te : TabEq P w K mg base C TC) (Jo : Do1 P w K mg base TC 11 "__or__" ["self", "other"] (spTOr C TC)) (sf : PySem.W.selfFirst K TC = true) : FnG P w K mg base CX0 14 f fd ["_law_dice_here", "_law_drawn_here"] spSameR := by
  refine okG F scSameR (fun vs H Q E h => ?_) (fun cdv A outer s H vs Q E hr h => ?_)
  · obtain ⟨a, p, t, rfl, _⟩ := h
    rfl
  · obtain ⟨a, p, t, rfl, hd, dr, ok, fi, few, c4, q⟩ := h
    have nd := scSameR.nd
    have r2 := hr.mono (show 2 ≤ 13 by decide)
    have r3 := hr.mono (show 3 ≤ 13 by decide)
    have r4 := hr.mono (show 4 ≤ 13 by decide)
    have r8 := hr.mono (show 8 ≤ 13 by decide)
    have r10 := hr.mono (show 10 ≤ 13 by decide)
    have r11 := hr.mono (show 11 ≤ 13 by decide)
    have hu : (A.deeper (envOfC "_law_same_right" (defScope sSameR) s.heap.objs.size f cdv)).units + 64 < cLine := by have := hr.rm.un; omega
    refine ⟨_, pss_cons (ps_asg (pv 1) (pg_tup rfl (pgs_cons (pg_name (i := 2) nd rfl (.inl rfl)) (pgs_cons (pg_name (i := 3) nd rfl (.inl rfl)) (pgs_cons (pg_name (i := 4) nd rfl (.inl rfl)) (pgs_cons (pg_name (i := 5) nd rfl (.inl rfl)) pgs_nil))))))
      (pss_cons (ps_asg (pe_tup (pa_cons (pe_callG Tb.G r10 (by rfl) Tb.g Tb.kp Tb.b .nil pass0 (pa_cons (pv 1) pa_nil)) (pa_cons (pe_callG Dr.G r4 (by rfl) Dr.g Dr.kp Dr.b .nil pass0 (pa_cons (pv 0) (pa_cons pe_int pa_nil))) pa_nil))) (pg_tup rfl (pgs_cons (pg_name (i := 6) nd rfl (.inr rfl)) (pgs_cons (pg_name (i := 7) nd rfl (.inl rfl)) pgs_nil))))
      (pss_cons (ps_set (i := 8) nd rfl (.inl rfl) (pe_lst (pa_cons (pe_tup (pa_cons (pv 2) (pa_cons (pe_revT (pv 3)) (pa_cons (pv 4) (pa_cons (pv 5) pa_nil))))) (pa_cons (pe_tup (pa_cons (pv 2) (pa_cons (pv 3) (pa_cons (pv 4) (pa_cons (pe_revT (pv 5)) pa_nil))))) (pa_cons (pv 7) pa_nil)))))
      (pss_cons (ps_set (i := 8) nd rfl (.inl rfl) (pe_op op_cat (pv 8) (pe_lst (pa_cons (pe_tup (pa_cons (pv 2) (pa_cons (pe_slice sl_tupA (pv 3) (po_some pe_int) po_none) (pa_cons (pv 4) (pa_cons (pe_slice sl_tupA (pv 5) (po_some pe_int) po_none) pa_nil))))) (pa_cons (pe_tup (pa_cons (pv 2) (pa_cons (pv 3) (pa_cons (pe_tup (pa_cons pe_str (pa_cons pe_int pa_nil))) (pa_cons (pe_op (op_repT0.or (op_repT1.or op_repT)) (pe_tup (pa_cons pe_int pa_nil)) (pe_callB call_len_seq (by rfl) T.len PySem.boot_len (pa_cons (pv 3) pa_nil))) pa_nil))))) (pa_cons (pv 1) pa_nil))))))
      (pss_cons (ps_expr (pe_bm PySem.F.plainAttrs_list PySem.F.slot_list_append PySem.F.type_list_append mt_append (pv 8) (pa_cons (pe_tup (pa_cons (pe_callTy call_tupleF (by rfl) T.tuple (by decide +kernel) (pa_cons (pe_lc (own := [("_law_name", 13)]) (g := gName 13) (tt := tYes) rfl nd (pi_tup (pv 2)) (blkOk_by (N := ["_law_dice_here", "_law_drawn_here", "_law_columns_here", "_law_rows_here", "_law_kind", "_law_masses", "_law_table", "_law_other", "_law_some", "_law_one", "_law_made", "_law_due_here", "_law_odd", "_law_name"]) (sc := defScope sSameR) (by decide +kernel)) (fun _ _ _ _ _ => pg_name (i := 13) nd rfl (.inl rfl)) (fun _ _ _ _ _ => pts_nil)
          (fun _ _ _ _ _ => pe_op op_add_str (pv 13) pe_str)) pa_nil)) (pa_cons (pv 3) (pa_cons (pv 4) (pa_cons (pv 5) pa_nil))))) pa_nil)))
      (pss_cons (ps_for PassesOwn.never rfl (pi_list (pv 8)) (pg_name (i := 9) nd rfl (.inl rfl))
        (pss_cons (ps_set (i := 10) nd rfl (.inl rfl) (pe_callG Tb.G r10 (by rfl) Tb.g Tb.kp Tb.b .nil pass0 (pa_cons (pv 9) pa_nil)))
        (pss_cons (ps_if (PW.pt (pw_or (pt_cmpR op_ne (pe_callB (call_reprD hr) (by rfl) T.repr (by decide +kernel) (pa_cons (pe_cmpR (op_eqK Te.e.G Te.e.o Te.e.b pass0 r2.rm) (pv 6) (pv 10) (nomark _)) pa_nil)) (pe_callB (call_reprD hr) (by rfl) T.repr (by decide +kernel) (pa_cons (pe_cmpR (op_eqD hu) (pv 9) (pv 1) (nomark _)) pa_nil)) (nomark _)) (pw_or1 (pt_cmpR op_ne (pe_callB (call_reprD hr) (by rfl) T.repr (by decide +kernel) (pa_cons (pe_cmpR (op_neK Te.e.G Te.e.o Te.hne Te.ho Te.e.b pass0 r3.rm) (pv 6) (pv 10) (nomark _)) pa_nil)) (pe_callB (call_reprD hr) (by rfl) T.repr (by decide +kernel) (pa_cons (pe_cmpR (op_neD hu) (pv 9) (pv 1) (nomark _)) pa_nil)) (nomark _))))) pss_never pss_nil)
        (pss_one (ps_if (PW.pt (pw_and (pt_cmpR (op_eqD hu) (pe_ix ix_tup (pv 9) pe_int (fun _ _ => rfl)) (pv 2) (nomark _)) (pw_and1 (pt_cmpR (op_eqD hu) (pe_ix ix_tup (pv 9) pe_int (fun _ _ => rfl)) (pv 4) (nomark _))))) (pss_cons (ps_set (i := 11) nd rfl (.inl rfl) (pe_tup (pa_cons (pv 2) (pa_cons (pe_op op_catA (pv 3) (pe_ix ix_tup (pv 9) pe_int (fun _ _ => rfl))) (pa_cons (pv 4) (pa_cons (pe_op op_catA (pv 5) (pe_ix ix_tup (pv 9) pe_int (fun _ _ => rfl))) pa_nil))))))
          (pss_one (ps_if (pt_cmpR op_ne (pe_callB (call_reprD hr) (by rfl) T.repr (by decide +kernel) (pa_cons (pe_callG Fa.G r8 (by rfl) Fa.g Fa.kp Fa.b .nil pass0 (pa_cons (pe_op (op_binO (C := TC) (E := E0) (op := .BitOr) Jo.G Jo.o sf Jo.b pass0 r11.rm) (pv 6) (pv 10)) pa_nil)) pa_nil)) (pe_callB (call_reprD hr) (by rfl) T.repr (by decide +kernel) (pa_cons (pe_callG Du.G r4 (by rfl) Du.g Du.kp Du.b .nil pass0 (pa_cons (pv 11) pa_nil)) pa_nil)) (nomark _)) pss_never pss_nil))) pss_nil)))))
      (pss_cons (ps_set (i := 12) nd rfl (.inl rfl) (pe_tup (pa_cons pe_non (pa_cons (pv 3) (pa_cons (pv 1) (pa_cons pe_int (pa_cons (pe_callTy (cr_strO M.st.G M.st.o M.st.b pass0 r3.rm) (by rfl) ts (by decide +kernel) (pa_cons (pv 6) pa_nil)) pa_nil)))))))
      (pss_one (ps_ret (pe_and (pe_cmpR (op_eqD hu) (pe_lc (own := [("_law_one", 9)]) (g := gName 9) rfl nd (pi_tup (pv 12)) (blkOk_by (N := ["_law_dice_here", "_law_drawn_here", "_law_columns_here", "_law_rows_here", "_law_kind", "_law_masses", "_law_table", "_law_other", "_law_some", "_law_one", "_law_made", "_law_due_here", "_law_odd", "_law_name"]) (sc := defScope sSameR) (by decide +kernel)) (fun _ _ _ _ _ => pg_name (i := 9) nd rfl (.inl rfl)) (fun _ _ _ _ _ => pts_one (pt_cmpR (r := rEqK K TC (spTEq K C TC) E0 false) (op_eqK (C := TC) (E := E0) Te.e.G Te.e.o Te.e.b pass0 r2.rm) (pv 6) (pv 9) (nomark _)))
          (fun _ _ _ _ _ => pv 9)) (pe_lst pa_nil) (nomark _)) (pe_one (pe_cmpR (op_eqK Te.e.G Te.e.o Te.e.b pass0 r2.rm) (pv 6) (pe_callG Tb.G r10 (by rfl) Tb.g Tb.kp Tb.b .nil pass0 (pa_cons (pv 1) pa_nil)) (nomark _)))))))))))), ?_⟩
    obtain ⟨pc, pr, pm, pw, df⟩ := id dr
    refine ⟨_, rfl, p, [.ref pc, .ref pr, .ref pm, .ref pw], rfl, .inl df.at_, rfl, _, _, rfl, _, _, rfl, _, _, rfl, _, _, rfl, rfl, ?_⟩
    refine ⟨_, rfl, p, t, rfl, dr, ok, fun b H1 e1 nb tb => ⟨_, rfl, a, 3, rfl, by decide, e1.dice hd, fun p3 t3 H2 ok3 l3 c3 fi3 n3 g3 dr3 => ⟨by show 2 ≤ sizeLine; decide, fun z nz => ⟨z, [.ref b, .ref p3], rfl, .inl (.inl upd_same), rfl, _, _, rfl, _, _, rfl, rfl, ?_⟩⟩⟩⟩
    have d1 := e1.dice hd
    have xz := Ex.new (o := .tup [.ref b, .ref p3]) nz
    have g0 := ((Gro.of e1 hd).trans g3).ex xz
    have dr0 := g0.drawn hd dr
    have tb0 := xz.tbl (g3.tbl d1 tb)
    have dr30 := xz.drawn dr3
    generalize upd H2 z (.tup [.ref b, .ref p3]) = HA at g0 dr0 tb0 dr30
    have dA := g0.di
    obtain ⟨pc', pr', pm', pw', df0⟩ := id dr0
    have df0 : DrawnF HA p t pc pr pm pw := by
      obtain ⟨i1, i2, i3, i4, i5⟩ := df
      exact ⟨g0.rd hd i1, g0.rd hd i2, g0.rowsD hd i3, g0.rd hd i4, g0.amsD hd i5⟩
    obtain ⟨qs, eq, hq, hqs⟩ := df0.rs
    obtain ⟨us, eu, hu1, hus⟩ := df0.ws
    have lq : (qs.map fun q => V.ref q.1).length = t.rs.length := by rw [← eq, List.length_map, List.length_map]
    -- three
    refine ⟨_, rfl, _, rfl, pr, _, rfl, .inl hq, fun y1 ny1 => ⟨_, rfl, _, rfl, by show 4 ≤ sizeLine; decide, fun w1 nw1 => ?_⟩⟩
    have x1 := (Ex.new (o := .tup (qs.map fun q => V.ref q.1).reverse) ny1).trans (Ex.new (o := .tup [.ref pc, .ref y1, .ref pm, .ref pw]) nw1)
    have G1 : Good _ (.ref w1) := good_mk (u := revR t) (.inl upd_same) (x1.rd df0.cs) (rowsD_rev eq ((Ex.new nw1).rd (.inl upd_same)) fun q hq => x1.rd (hqs q hq)) (x1.rd df0.ms) (x1.amsD df0.ws) (revR_ok ok) (fun r hr => fi.few r (List.mem_reverse.mp hr)) (by show t.rs.reverse.length ≤ 12; rw [List.length_reverse]; exact few)
    refine ⟨_, rfl, _, rfl, _, rfl, _, rfl, pw, _, rfl, .inl (x1.rd hu1), fun y2 ny2 => ⟨by show 4 ≤ sizeLine; decide, fun w2 nw2 => ?_⟩⟩
    have x2' := (Ex.new (o := .tup (us.map (·.1)).reverse) ny2).trans (Ex.new (o := .tup [.ref pc, .ref pr, .ref pm, .ref y2]) nw2)
    have x2 := x1.trans x2'
    have G2 : Good _ (.ref w2) := good_mk (u := revW t) (.inl upd_same) (x2.rd df0.cs) (x2.rowsD df0.rs) (x2.rd df0.ms) (amsD_rev eu ((Ex.new nw2).rd (.inl upd_same)) fun q hq => (hus q hq).ex x2) (revW_ok ok few) fi.few few
    have G1 := G1.ex x2'
    refine ⟨_, rfl, by show 3 ≤ sizeLine; decide, fun l1 nl1 => ?_⟩
    have xl1 := Ex.new (o := .lst [.ref w1, .ref w2, .ref p3]) nl1
    have x3 := x2.trans xl1
    have G1 := G1.ex xl1
    have G2 := G2.ex xl1
    have G3 : Good _ (.ref p3) := ⟨p3, t3, rfl, x3.drawn dr30, ok3, fi3.few, by omega⟩
    -- three more
    refine ⟨_, rfl, _, rfl, _, rfl, _, rfl, ?_⟩
    dsimp only [tNoPart]
    refine slA_any (lo := some 1) (hi := none) (x3.rd hq) fun y3 HB eB rB => ?_
    refine ⟨_, rfl, _, rfl, _, rfl, ?_⟩
    dsimp only [tNoPart]
    refine slA_any (lo := some 1) (hi := none) (eB.rd (x3.rd hu1)) fun y4 HC eC rC => ⟨by show 4 ≤ sizeLine; decide, fun w4 nw4 => ?_⟩
    rw [cut1] at rB rC
    have xw4 := Ex.new (o := .tup [.ref pc, .ref y3, .ref pm, .ref y4]) nw4
    have x4' := eB.trans (eC.trans xw4)
    have x4 := x3.trans x4'
    have G4 : Good _ (.ref w4) := good_mk (u := tailT t) (.inl upd_same) (x4.rd df0.cs) (rowsD_drop 1 eq ((eC.trans xw4).rd rB) fun q hq => x4.rd (hqs q hq)) (x4.rd df0.ms) (amsD_drop 1 eu (xw4.rd rC) fun q hq => (hus q hq).ex x4) (tailT_ok ok few) (fun r hr => fi.few r (List.mem_of_mem_drop hr)) (by show (t.rs.drop 1).length ≤ 12; rw [List.length_drop]; omega)
    refine ⟨_, rfl, _, rfl, by show 2 ≤ sizeLine; decide, fun w5m nw5m => ⟨by show 1 ≤ sizeLine; decide, fun w5t nw5t => ?_⟩⟩
    have x5a := Ex.new (o := .tup [.str "sums", .int 1]) nw5m
    have x5b := Ex.new (o := .tup [.int 2]) nw5t
    have x5 := x4.trans (x5a.trans x5b)
    refine ⟨_, rfl, pr, _, rfl, .inr (.inl (x5.rd hq)), rep_any (.inl upd_same) (by rw [lq]; omega) fun y5 HD eD rD => ⟨by show 4 ≤ sizeLine; decide, fun w5 nw5 => ?_⟩⟩
    rw [lq] at rD
    have xw5 := Ex.new (o := .tup [.ref pc, .ref pr, .ref w5m, .ref y5]) nw5
    have x6' := (x5a.trans x5b).trans (eD.trans xw5)
    have x6 := x4.trans x6'
    have G5 : Good _ (.ref w5) := good_mk (u := twosT t) (.inl upd_same) (x6.rd df0.cs) (x6.rowsD df0.rs) ((x5b.trans (eD.trans xw5)).rd (.inl upd_same)) (ams_rep (xw5.rd rD) rfl) (twosT_ok ok few) fi.few few
    refine ⟨_, rfl, by show 3 ≤ sizeLine; decide, fun l2 nl2 => ?_⟩
    have xl2 := Ex.new (o := .lst [.ref w4, .ref w5, .ref p]) nl2
    refine ⟨l1, l2, _, _, rfl, rfl, (x4'.trans (x6'.trans xl2)) l1 _ upd_same, upd_same, by show 6 ≤ sizeLine; decide, fun l3 nl3 => ?_⟩
    have xl3 := Ex.new (o := .lst ([.ref w1, .ref w2, .ref p3] ++ [.ref w4, .ref w5, .ref p])) nl3
    have x7' := x4'.trans (x6'.trans (xl2.trans xl3))
    have x7 := x3.trans x7'
    have G1 := G1.ex x7'
    have G2 := G2.ex x7'
    have G3 := G3.ex x7'
    have G4 := G4.ex (x6'.trans (xl2.trans xl3))
    have G5 := G5.ex (xl2.trans xl3)
    have G6 : Good _ (.ref p) := ⟨p, t, rfl, x7.drawn dr0, ok, fi.few, few⟩
    refine ⟨_, rfl, .inl ⟨rfl, _, .inl (.inl upd_same)⟩, ?_⟩
    refine ⟨_, rfl, pc, rfl, ⟨_, .inl (x7.rd df0.cs)⟩, fun D nD => ?_⟩
    refine lc_tup (xs := t.cs.map V.str) (fun i H' => Ex _ H' ∧ H' D = some (.lst ((t.cs.take i).map fun c => V.str (c ++ ("z" : Str))))) ⟨Ex.new nD, upd_same⟩ (fun i H' _ h => .inl (h.1.rd (x7.rd df0.cs))) (fun i x H' hx h => ?_) (fun HE h => ?_)
    · obtain ⟨ex, eD⟩ := h
      rw [List.getElem?_map] at hx
      obtain ⟨c, hc, rfl⟩ := Option.map_eq_some_iff.mp hx
      have cl := (ok.cols.nm c (List.mem_of_getElem? hc)).2.1
      have zl : ("z" : Str).length = 1 := by decide +kernel
      have il := (List.getElem?_eq_some_iff.mp hc).1
      refine ⟨rfl, _, rfl, _, _, rfl, rfl, by rw [zl]; exact Nat.le_of_lt (room1000 (by omega)), _, eD, ?_, ex.mut nD, ?_⟩
      · rw [List.length_map, List.length_take]
        exact room1000 (by omega)
      · rw [upd_same, List.take_add_one, hc, List.map_append]
        rfl
    obtain ⟨exE, eD⟩ := h
    rw [List.length_map, List.take_length] at eD
    refine ⟨D, _, rfl, .inl (.inl eD), fun y7 o7 ny7 _ => ?_⟩
    have x8a := Ex.new (o := .frz o7 (.tup (t.cs.map fun c => V.str (c ++ ("z" : Str))))) ny7
    refine ⟨_, rfl, _, rfl, _, rfl, by show 4 ≤ sizeLine; decide, fun w7 nw7 => ?_⟩
    have x8b := Ex.new (o := .tup [.ref y7, .ref pr, .ref pm, .ref pw]) nw7
    have x8' := exE.trans (x8a.trans x8b)
    have x8 := x7.trans x8'
    have G7 : Good _ (.ref w7) := good_mk (u := zT t) (.inl upd_same) (x8b.rd (.inr ⟨o7, by rw [show (zT t).cs.map V.str = t.cs.map fun c => V.str (c ++ ("z" : Str)) from List.map_map]; exact upd_same⟩)) (x8.rowsD df0.rs) (x8.rd df0.ms) (x8.amsD df0.ws) (zT_ok ok fi.wd) fi.few few
    have at3 := x8' l3 _ upd_same
    have G1 := good_upd at3 (o := .lst ([.ref w1, .ref w2, .ref p3] ++ [.ref w4, .ref w5, .ref p] ++ [.ref w7])) (G1.ex x8')
    have G2 := good_upd at3 (o := .lst ([.ref w1, .ref w2, .ref p3] ++ [.ref w4, .ref w5, .ref p] ++ [.ref w7])) (G2.ex x8')
    have G3 := good_upd at3 (o := .lst ([.ref w1, .ref w2, .ref p3] ++ [.ref w4, .ref w5, .ref p] ++ [.ref w7])) (G3.ex x8')
    have G4 := good_upd at3 (o := .lst ([.ref w1, .ref w2, .ref p3] ++ [.ref w4, .ref w5, .ref p] ++ [.ref w7])) (G4.ex x8')
    have G5 := good_upd at3 (o := .lst ([.ref w1, .ref w2, .ref p3] ++ [.ref w4, .ref w5, .ref p] ++ [.ref w7])) (G5.ex x8')
    have G6 := good_upd at3 (o := .lst ([.ref w1, .ref w2, .ref p3] ++ [.ref w4, .ref w5, .ref p] ++ [.ref w7])) (G6.ex x8')
    have G7 := good_upd at3 (o := .lst ([.ref w1, .ref w2, .ref p3] ++ [.ref w4, .ref w5, .ref p] ++ [.ref w7])) G7
    refine ⟨l3, _, _, rfl, rfl, at3, by show 6 < sizeLine; decide, ?_⟩
    have xF : Ex HA (upd _ l3 (.lst ([.ref w1, .ref w2, .ref p3] ++ [.ref w4, .ref w5, .ref p] ++ [.ref w7]))) := (x3.trans (x4'.trans (x6'.trans xl2))).trans ((xl3.trans x8').mut nl3)
    have okP := ok
    have hall : ∀ x ∈ [V.ref w1, .ref w2, .ref p3, .ref w4, .ref w5, .ref p, .ref w7], Good (upd _ l3 (.lst ([.ref w1, .ref w2, .ref p3] ++ [.ref w4, .ref w5, .ref p] ++ [.ref w7]))) x := fun x hx => by
      rcases List.mem_cons.mp hx with rfl | hx
      · exact G1
      rcases List.mem_cons.mp hx with rfl | hx
      · exact G2
      rcases List.mem_cons.mp hx with rfl | hx
      · exact G3
      rcases List.mem_cons.mp hx with rfl | hx
      · exact G4
      rcases List.mem_cons.mp hx with rfl | hx
      · exact G5
      rcases List.mem_cons.mp hx with rfl | hx
      · exact G6
      rw [List.mem_singleton.mp hx]
      exact G7
    refine ⟨_, rfl, l3, rfl, ⟨_, .inl (.inl upd_same)⟩, ?_⟩
    refine for_list (xs := [.ref w1, .ref w2, .ref p3, .ref w4, .ref w5, .ref p, .ref w7]) (fun i σ H' => ∃ y9 y10 y11 : Option V, σ = [some (.ref a), some (.ref p), some (.ref pc), some (.ref pr), some (.ref pm), some (.ref pw), some (.ref b), some (.ref p3), some (.ref l3), y9, y10, y11, none, none] ∧ Ex _ H') ⟨none, none, none, rfl, Ex.refl _⟩ (fun i σ H' _ h => ?_) (fun i x σ H' hx h => ?_) (fun σ H' h => ?_)
    · obtain ⟨y9, y10, y11, rfl, ex⟩ := h
      exact .inl (.inl (ex l3 _ upd_same))
    · obtain ⟨y9, y10, y11, rfl, ex⟩ := h
      obtain ⟨p', u, rfl, du, oku, fwu, lu⟩ := (hall x (List.mem_of_getElem? hx)).ex ex
      have exA := xF.trans ex
      refine ⟨_, rfl, p', u, rfl, du, oku, fun c H2 e2 nc tc => ?_⟩
      have e2A := exA.trans e2
      have tb2 := e2A.tbl tb0
      have du2 := e2.drawn du
      obtain ⟨b1, b2, b3⟩ := show_bool (eqTab t u)
      obtain ⟨b4, b5, b6⟩ := show_bool (!eqTab t u)
      refine ⟨_, rfl, _, rfl, eqK_tab tb2 tc ok oku Te.nf ?_⟩
      rw [Bool.false_xor]
      refine ⟨_, .bool _, rfl, .bl _, b1, b2, b3, ?_⟩
      refine ⟨_, rfl, _, rfl, drawnD u, drawnD t, dp_drawn du2, dp_drawn (e2A.drawn dr0), shaped_drawn oku, shaped_drawn ok, ?_⟩
      rw [eq_drawn]
      refine ⟨_, .bool _, rfl, .bl _, b1, b2, b3, rfl, _, rfl, ?_⟩
      rw [decide_eq_true rfl]
      refine iteF ?_
      refine ⟨_, rfl, _, rfl, eqK_tab tb2 tc ok oku Te.nf ?_⟩
      rw [Bool.true_xor]
      refine ⟨_, .bool _, rfl, .bl _, b4, b5, b6, ?_⟩
      refine ⟨_, rfl, _, rfl, drawnD u, drawnD t, dp_drawn du2, dp_drawn (e2A.drawn dr0), shaped_drawn oku, shaped_drawn ok, ?_⟩
      rw [eq_drawn]
      refine ⟨_, .bool _, rfl, .bl _, b4, b5, b6, rfl, _, rfl, ?_⟩
      rw [decide_eq_true rfl]
      refine iteF ?_
      obtain ⟨cc, cr, cm, cw, df2⟩ := id du2
      refine ⟨_, rfl, p', _, 0, _, rfl, rfl, .inl df2.at_, rfl, _, rfl, dCols u.cs, dCols t.cs, dp_cols df2.cs, dp_cols (e2A.rd df0.cs), shaped_cols oku.cols.nm, shaped_cols ok.cols.nm, ?_⟩
      rw [eqv_colsD]
      refine ⟨_, rfl, ?_⟩
      by_cases hcs : u.cs = t.cs
      · rw [decide_eq_true hcs]
        refine iteT ?_
        refine ⟨_, rfl, p', _, 2, _, rfl, rfl, .inl df2.at_, rfl, _, rfl, kindD u.m, kindD t.m, .tup (.inl df2.ms) (.cons (.str _) (.cons (.int _) .nil)), .tup (.inl (e2A.rd df0.ms)) (.cons (.str _) (.cons (.int _) .nil)), shaped_kind _, shaped_kind _, ?_⟩
        rw [eqv_kind]
        refine ⟨_, rfl, ?_⟩
        by_cases hm : u.m = t.m
        · rw [decide_eq_true hm]
          refine iteT ?_
          have okj := ok.join oku hcs.symm hm.symm (by omega)
          have lj : (t.join u).rs.length ≤ 40 := by show (t.rs ++ u.rs).length ≤ 40; rw [List.length_append]; omega
          have fj : ∀ r ∈ (t.join u).rs, ∀ n ∈ r, Few n := fun r hr => (List.mem_append.mp hr).elim (fi.few r) (fwu r)
          obtain ⟨f1, f2, f3⟩ := fact_shows okj fj lj
          obtain ⟨qs2, eq2, hq2, hqs2⟩ := df2.rs
          obtain ⟨us2, eu2, hu2, hus2⟩ := df2.ws
          have lq2 : (qs2.map fun q => V.ref q.1).length = u.rs.length := by rw [← eq2, List.length_map, List.length_map]
          have lu1 : (us.map (·.1)).length = t.rs.length := by rw [← ok.wl, ← eu, List.length_map, List.length_map]
          have lu2 : (us2.map (·.1)).length = u.rs.length := by rw [← oku.wl, ← eu2, List.length_map, List.length_map]
          refine ⟨_, rfl, _, rfl, _, rfl, p', _, 1, _, rfl, rfl, .inl df2.at_, rfl, ?_⟩
          refine catA_any (e2A.rd hq) hq2 (by rw [lq, lq2]; exact Nat.le_of_lt (room1000 (by omega))) fun r1 H3 e3 h3 => ?_
          refine ⟨_, rfl, _, rfl, _, rfl, p', _, 3, _, rfl, rfl, .inl (e3.rd df2.at_), rfl, ?_⟩
          refine catA_any (e3.rd (e2A.rd hu1)) (e3.rd hu2) (by rw [lu1, lu2]; exact Nat.le_of_lt (room1000 (by omega))) fun r2' H4 e4 h4 => ⟨by show 4 ≤ sizeLine; decide, fun wj nwj => ?_⟩
          have xj := Ex.new (o := .tup [.ref pc, .ref r1, .ref pm, .ref r2']) nwj
          have e24 := e3.trans (e4.trans xj)
          have e4A := e2A.trans e24
          have dj : DrawnD _ wj (t.join u) := ⟨pc, r1, pm, r2', ⟨.inl upd_same, e4A.rd df0.cs, rowsD_cat eq eq2 ((e4.trans xj).rd h3) (fun q hq => e4A.rd (hqs q hq)) (fun q hq => e24.rd (hqs2 q hq)), e4A.rd df0.ms, amsD_cat eu eu2 (xj.rd h4) (fun q hq => (hus q hq).ex e4A) (fun q hq => (hus2 q hq).ex e24)⟩⟩
          have tb4 := e24.tbl tb2
          have tc4 := e24.tbl tc
          obtain ⟨dx, _, _, _, _, _, fs, tf⟩ := id tb4
          obtain ⟨dy, _, _, _, _, _, gs, tg⟩ := id tc4
          refine ⟨_, rfl, _, rfl, b, c, dx, dy, fs, gs, rfl, rfl, tf.at_, tg.at_, b, c, t, u, rfl, tb4, tc4, ok, oku, hcs.symm, hm.symm, by omega, fun j H5 e5 nj tj => ⟨_, rfl, ?_⟩⟩
          refine ⟨j, t.join u, rfl, tj, okj, fun l6 H6 e6 n6 d6 => ⟨_, factD (t.join u), rfl, d6, f1, f2, f3, ?_⟩⟩
          refine ⟨_, rfl, wj, t.join u, rfl, (e5.trans e6).drawn dj, okj, lj, fun l7 H7 e7 n7 d7 => ⟨_, factD (t.join u), rfl, d7, f1, f2, f3, rfl, _, rfl, ?_⟩⟩
          rw [decide_eq_true rfl]
          exact iteF ⟨_, _, _, rfl, ex.trans (e2.trans (e24.trans (e5.trans (e6.trans e7))))⟩
        · rw [decide_eq_false hm]
          exact iteF ⟨_, _, _, rfl, ex.trans e2⟩
      · rw [decide_eq_false hcs]
        exact iteF ⟨_, _, _, rfl, ex.trans e2⟩
    · obtain ⟨y9, y10, y11, rfl, ex⟩ := h
      have exA := xF.trans ex
      have tbF := exA.tbl tb0
      obtain ⟨dx, _, _, _, _, _, fs, tf⟩ := id tbF
      refine ⟨_, rfl, _, rfl, _, rfl, b, dx, fs, rfl, tf.at_, b, t, rfl, tbF, ok, _, rfl, by show 5 ≤ sizeLine; decide, fun zo nzo => ?_⟩
      have xo := Ex.new (o := .tup [.non, .ref pr, .ref p, .int 0, .str t.text]) nzo
      have exo := exA.trans xo
      refine ⟨_, rfl, zo, rfl, ⟨_, .inl (.inl upd_same)⟩, fun D nD => lc_tup (xs := [.non, .ref pr, .ref p, .int 0, .str t.text]) (fun i H' => Ex _ H' ∧ H' D = some (.lst [])) ⟨Ex.new nD, upd_same⟩ (fun i H' _ h => .inl (h.1.rd (.inl upd_same))) (fun i x H' hx h => ?_) (fun H' h => ?_)⟩
      · obtain ⟨ex2, eD⟩ := h
        have exi := exo.trans ex2
        have tbi := exi.tbl tb0
        have dfi := exi.rowsD df0.rs
        have dri := exi.drawn dr0
        match i, hx with
        | 0, hx =>
          obtain rfl := Option.some.inj hx
          exact ⟨rfl, _, rfl, _, rfl, eqK_odd tbi .non .non nfT ⟨_, rfl, iteF ⟨ex2, eD⟩⟩⟩
        | 1, hx =>
          obtain rfl := Option.some.inj hx
          obtain ⟨ds, hd1⟩ := dx_rowsD (K := K) dfi
          exact ⟨rfl, _, rfl, _, rfl, eqK_odd tbi hd1 (.tup (.inl (exi.rd hq))) nfT ⟨_, rfl, iteF ⟨ex2, eD⟩⟩⟩
        | 2, hx =>
          obtain rfl := Option.some.inj hx
          obtain ⟨ds, hd1⟩ := dx_drawn (K := K) dri
          exact ⟨rfl, _, rfl, _, rfl, eqK_odd tbi hd1 (.tup (.inl (exi.rd df0.at_))) nfT ⟨_, rfl, iteF ⟨ex2, eD⟩⟩⟩
        | 3, hx =>
          obtain rfl := Option.some.inj hx
          exact ⟨rfl, _, rfl, _, rfl, eqK_odd tbi (.int 0) (.int 0) nfT ⟨_, rfl, iteF ⟨ex2, eD⟩⟩⟩
        | 4, hx =>
          obtain rfl := Option.some.inj hx
          exact ⟨rfl, _, rfl, _, rfl, eqK_odd tbi (.str _) (.str _) nfT ⟨_, rfl, iteF ⟨ex2, eD⟩⟩⟩
        | i + 5, hx => simp at hx
      · obtain ⟨ex2, eD⟩ := h
        refine ⟨Nat.zero_le _, fun l nl => ⟨.list [], .list [], .lst (.inl (.inl (Ex.new nl D _ eD))) .nil, .lst (.inl (.inl upd_same)) .nil, shaped_l, shaped_l, ?_⟩⟩
        rw [show PyData.eqv (.list []) (.list []) = true by simp only [PyData.eqv, PyData.eqvAll]]
        refine ⟨true, rfl, ?_⟩
        have exl := exo.trans (ex2.trans (Ex.new (o := .lst []) nl))
        refine ⟨_, rfl, _, rfl, p, t, rfl, exl.drawn dr0, ok, fun b2 H9 e9 n9 tb9 => ?_⟩
        refine eqK_tab ((exl.trans e9).tbl tb0) tb9 ok ok Te.nf ?_
        rw [eqTab_self]
        exact q _ (g0.ex (exl.trans e9))
end
end Gl
namespace Gl
open PySem PySem.Spec PyProof.Rows L2 ClX RZ
abbrev sLaw : Stmt := topS 59
theorem scLaw : FnScope ["_law_script", "_law_at", "_law_dice_here", "_law_turn", "_law_drawn_here", "_law_full"] ["_law_script"] (defScope sLaw) := ⟨rfl, rfl, rfl, by decide +kernel, rfl, by decide +kernel, by decide +kernel⟩
def halfR (n : Nat) : List (List Int) := (List.range n).map fun j => [((j : Nat) : Int) / 2]
def t200 : Tab := ⟨["a"], halfR 200, .sums, List.replicate 200 (.n 1)⟩
theorem a_ok : ColsOk (["a"] : List Str) := by
  refine ⟨fun c hc => ?_, List.pairwise_singleton .., by decide⟩
  rw [List.mem_singleton.mp hc]
  exact ⟨by decide, by decide, by unfold Small; decide⟩
theorem half_len (n : Nat) : (halfR n).length = n := by unfold halfR; rw [List.length_map, List.length_range]
theorem t200_ok : t200.ok where
  cols := a_ok
  c1 := by decide
  rlen := by
    intro r hr
    obtain ⟨j, _, rfl⟩ := List.mem_map.mp hr
    rfl
  few := by show (halfR 200).length ≤ 200; rw [half_len]; decide
  fit := ⟨2, by decide, by decide, by show 2 * (List.replicate 200 (Am.n 1)).length + 1 + 2 ≤ 8000; rw [List.length_replicate]; decide, fun x hx => by rw [(List.mem_replicate.mp hx).2]; show (1 : Int).natAbs < 2 ^ 2; decide⟩
  mok := trivial
  wl := by show (List.replicate 200 (Am.n 1)).length = (halfR 200).length; rw [List.length_replicate, half_len]
  wok := fun x hx => by rw [(List.mem_replicate.mp hx).2]; exact one_near (m := .sums) trivial
theorem half_get {n j : Nat} (h : j < n) : (halfR n)[j]? = some [((j : Nat) : Int) / 2] := by
  unfold halfR
  rw [List.getElem?_map, List.getElem?_range h]
  rfl
theorem sum200 : sumA .sums (List.replicate 200 (.n 1)) = .n 200 := by decide +kernel
section
variable {P : Program} {w : World} {K : PySem.W.Frag} {mg : Str → Option Value} {base : Heap} {C TC : Addr} {mc : Value}
theorem gro_ex {H H1 H2 : Hp} {p : Addr} (e : Ex H H1) (n : H p = none) (g : Gro p H1 H2) : Ex H H2 := fun b o q => g.st b o (fun z => by rw [z, n] at q; exact nomatch q) (e b o q)
def spLaw (K : PySem.W.Frag) : Sp := fun vs H Q _ => ∃ (a : Addr) (ns : List Int), vs = [.ref a] ∧ SqL K H a (ns.map V.int) ∧ ns.length ≤ 63 ∧ ∀ H', Q (.bl true) H'
theorem ok_law {f : Addr} {fd : FuncData} (F : Fun K "law" "law" sLaw f fd) (T : Blt mg) (Y : TblK K TC) (gT : mg "Table" = some (.ref TC)) {mt : Value} (Of : OfD P w K mg base C TC mt) (rl : ∃ t, mg "MAX_ROWS" = some (.int 200 t)) {u : Value} (cv : CVal K TC mt "MOST_ROWS" (.int 200) u)
    (Di : DfG P w K mg base 1 "_law_dice" ["_law_script", "_law_at"] (spDice K)) (Dr : DfG P w K mg base 4 "_law_drawn" ["_law_dice_here", "_law_most"] spDrawn) (Mr : DfG P w K mg base 14 "_law_made_right" ["_law_drawn_here"] spMadeR)
    (Rr : DfG P w K mg base 11 "_law_rows_right" ["_law_dice_here", "_law_drawn_here"] spRowR) (Sr : DfG P w K mg base 14 "_law_same_right" ["_law_dice_here", "_law_drawn_here"] spSameR) (M : TM P w K mg base C TC) (Ta : Dm P w K mg base TC 6 "agreement" ["self", "index", "other"] (spTAgr C TC)) : FnG P w K mg base CX0 15 f fd ["_law_script"] (spLaw K) := by
  refine okG F scLaw (fun vs H Q E h => ?_) (fun cdv A outer s H vs Q E hr h => ?_)
  · obtain ⟨a, ns, rfl, _⟩ := h
    rfl
  · obtain ⟨a, ns, rfl, hS, hl, q⟩ := h
    have nd := scLaw.nd
    have hu : (A.deeper (envOfC "law" (defScope sLaw) s.heap.objs.size f cdv)).units + 64 < cLine := by have := hr.rm.un; omega
    have r1 := hr.mono (show 1 ≤ 14 by decide)
    have r2 := hr.mono (show 2 ≤ 14 by decide)
    have r4 := hr.mono (show 4 ≤ 14 by decide)
    have r6 := hr.mono (show 6 ≤ 14 by decide)
    have r9 := hr.mono (show 9 ≤ 14 by decide)
    have r11 := hr.mono (show 11 ≤ 14 by decide)
    obtain ⟨tk, gM⟩ := rl
    refine ⟨_, pss_cons (ps_for PassesOwn.never rfl (pi_range1 rfl T.range (pa_cons (pe_callB (call_max2 rfl) (by rfl) T.max (by decide +kernel) (pa_cons pe_int (pa_cons (pe_callB (call_min2 rfl) (by rfl) T.min (by decide +kernel) (pa_cons pe_int (pa_cons (pe_callB call_len_seq (by rfl) T.len PySem.boot_len (pa_cons (pv 0) pa_nil)) pa_nil))) pa_nil))) pa_nil)) (pg_name (i := 1) nd rfl (.inl rfl))
        (pss_cons (ps_set (i := 2) nd rfl (.inl rfl) (pe_callG Di.G r1 (by rfl) Di.g Di.kp Di.b .nil pass0 (pa_cons (pv 0) (pa_cons (pv 1) pa_nil))))
        (pss_one (ps_for PassesOwn.never rfl (pi_range1 rfl T.range (pa_cons pe_int pa_nil)) (pg_name (i := 3) nd rfl (.inl rfl))
          (pss_cons (ps_set (i := 4) nd rfl (.inl rfl) (pe_callG Dr.G r4 (by rfl) Dr.g Dr.kp Dr.b .nil pass0 (pa_cons (pv 2) (pa_cons pe_int pa_nil))))
          (pss_one (ps_if (PW.pt (pw_or (pt_not (pt_val (pe_callG Mr.G hr (by rfl) Mr.g Mr.kp Mr.b .nil pass0 (pa_cons (pv 4) pa_nil)))) (pw_or (pt_not (pt_val (pe_callG Rr.G r11 (by rfl) Rr.g Rr.kp Rr.b .nil pass0 (pa_cons (pv 2) (pa_cons (pv 4) pa_nil))))) (pw_or1 (pt_not (pt_val (pe_callG Sr.G hr (by rfl) Sr.g Sr.kp Sr.b .nil pass0 (pa_cons (pv 2) (pa_cons (pv 4) pa_nil))))))))) pss_never pss_nil)))))))
      (pss_cons (ps_set (i := 5) nd rfl (.inl rfl) (pe_cmethK (pe_glob (v := .ref TC) (by rfl) Of.g rfl) Of.rd Of.at_ Of.G0 r9.rm pass0 (pa_cons (pe_tup (pa_cons pe_str pa_nil)) (pa_cons (pe_callTy call_tupleF (by rfl) T.tuple (by decide +kernel) (pa_cons (pe_lc (own := [("_law_at", 1)]) (g := gName 1) (tt := tYes) rfl nd (pi_range1 rfl T.range (pa_cons pe_int pa_nil)) (blkOk_by (N := ["_law_script", "_law_at", "_law_dice_here", "_law_turn", "_law_drawn_here", "_law_full"]) (sc := defScope sLaw) (by decide +kernel)) (fun _ _ _ _ _ => pg_name (i := 1) nd rfl (.inl rfl)) (fun _ _ _ _ _ => pts_nil)
          (fun _ _ _ _ _ => pe_tup (pa_cons (pe_op op_fdiv (pv 1) pe_int) pa_nil))) pa_nil)) pa_nil)) pk_nil))
      (pss_one (ps_ret (pe_cmpR (op_eqD hu) (pe_lst (pa_cons (pe_glob (v := .int 200) (by rfl) gM ⟨_, rfl⟩) (pa_cons (pe_cval (pe_glob (v := .ref TC) (by rfl) Of.g rfl)) (pa_cons (pe_callB (cr_lenO M.ln.G M.ln.o M.ln.b pass0 r2.rm) (by rfl) T.len PySem.boot_len (pa_cons (pv 5) pa_nil)) (pa_cons (pe_prop (pv 5) Y.cls M.tt.at_ M.tt.G r2.rm M.tt.b .nil pass0 rfl) (pa_cons (pe_meth (pv 5) Y.cls Ta.at_ Ta.G r6.rm Ta.b .nil pass0 (pa_cons pe_int (pa_cons pe_int pa_nil))) pa_nil)))))) (pe_lst (pa_cons pe_int (pa_cons pe_int (pa_cons pe_int (pa_cons pe_int (pa_cons (pe_tup (pa_cons pe_str pa_nil)) pa_nil)))))) (nomark _))))), ?_⟩
    refine ⟨_, rfl, a, _, rfl, .inl hS, _, _, rfl, _, _, rfl, _, rfl, ?_, ?_, ?_⟩
    · split <;> split <;> omega
    · split <;> split <;> (try rw [List.length_map] at *) <;> omega
    refine for_range (fun i σ H' => ∃ y1 y2 y3 y4 : Option V, σ = [some (.ref a), y1, y2, y3, y4, none] ∧ Ex H H') ⟨none, none, none, none, rfl, Ex.refl H⟩ (fun i σ H1 hi h => ?_) (fun σ H1 h => ?_)
    · obtain ⟨y1, y2, y3, y4, rfl, e1⟩ := h
      refine ⟨_, rfl, _, rfl, a, ns, i, by rw [Int.zero_add]; rfl, e1.sqL hS, hl, fun H2 p e2 np dp => ⟨3, rfl, by decide, by decide, ?_⟩⟩
      refine for_range (n := 3) (fun j σ H' => ∃ y3 y4 : Option V, σ = [some (.ref a), some (.int (0 + (i : Int))), some (.ref p), y3, y4, none] ∧ Gro p H2 H') ⟨y3, y4, rfl, Gro.refl dp⟩ (fun j σ H3 hj h => ?_) (fun σ H3 h => ?_)
      · obtain ⟨y3, y4, rfl, g3⟩ := h
        refine ⟨_, rfl, p, 12, rfl, by decide, g3.di, fun c t H4 ok few c4 fi nc g4 dr => ?_⟩
        refine ⟨_, rfl, c, t, rfl, dr, ok, fi, by omega, fun H5 e5 => ⟨_, rfl, ?_⟩⟩
        have g5 := Gro.of e5 g4.di
        refine ⟨_, rfl, _, rfl, p, c, t, rfl, g5.di, g5.drawn g4.di dr, ok, by omega, fun H6 g6 => ⟨_, rfl, ?_⟩⟩
        refine ⟨_, rfl, _, rfl, p, c, t, rfl, g6.di, g6.drawn g5.di (g5.drawn g4.di dr), ok, fi, few, c4, fun H7 g7 => ⟨_, rfl, ?_⟩⟩
        exact ⟨_, _, rfl, (g3.trans g4).trans (g5.trans (g6.trans g7))⟩
      · obtain ⟨y3, y4, rfl, g3⟩ := h
        exact ⟨_, _, _, _, rfl, e1.trans (gro_ex e2 np g3)⟩
    · obtain ⟨y1, y2, y3, y4, rfl, e1⟩ := h
      refine ⟨rfl, by show 1 ≤ sizeLine; decide, fun pc npc => ?_⟩
      have xc := Ex.new (o := .tup [.str "a"]) npc
      refine ⟨200, rfl, by decide, by decide, fun D nD => ?_⟩
      refine lc_range (n := 200) (fun i H' => Ex _ H' ∧ ∃ zs : List (Addr × List Int), zs.map (·.2) = halfR i ∧ (∀ q ∈ zs, Rd H' q.1 (.tup (q.2.map V.int))) ∧ H' D = some (.lst (zs.map fun q => V.ref q.1))) ⟨Ex.new nD, [], rfl, fun _ h => (nomatch h), upd_same⟩ (fun i H' hi h => ?_) (fun HE h => ?_)
      · obtain ⟨ex, zs, ez, hz, eD⟩ := h
        refine ⟨rfl, _, rfl, _, _, rfl, rfl, ⟨by decide, by decide⟩, by show 1 ≤ sizeLine; decide, fun z nz => ?_⟩
        have xz := Ex.new (o := .tup [.int ((0 + (i : Int)) / 2)]) nz
        have zl : zs.length = i := by have := congrArg List.length ez; rw [List.length_map, half_len] at this; exact this
        refine ⟨_, xz D _ eD, ?_, (ex.trans xz).mut nD, zs ++ [(z, [((i : Nat) : Int) / 2])], ?_, fun r hr => ?_, ?_⟩
        · rw [List.length_map, zl]
          exact room1000 (by omega)
        · unfold halfR at ez ⊢
          rw [List.map_append, ez, List.range_succ, List.map_append]
          rfl
        · rcases List.mem_append.mp hr with hr | hr
          · exact rd_upd (xz D _ eD) (xz.rd (hz r hr))
          · rw [List.mem_singleton.mp hr]
            refine rd_upd (xz D _ eD) (.inl ?_)
            rw [upd_same, Int.zero_add]
            rfl
        · rw [upd_same, List.map_append]
          rfl
      obtain ⟨exE, zs, ez, hz, eD⟩ := h
      refine ⟨D, _, rfl, .inl (.inl eD), fun pr opr npr _ => ?_⟩
      have xr := Ex.new (o := .frz opr (.tup (zs.map fun q => V.ref q.1))) npr
      have e2 := xc.trans (exE.trans xr)
      refine ⟨rfl, pc, pr, .non, .non, t200, ⟨rfl, rfl, rfl⟩, rfl, t200_ok, (exE.trans xr).rd (.inl upd_same), ⟨zs, ez, .inr ⟨opr, upd_same⟩, fun q hq => xr.rd (hz q hq)⟩, .inr ⟨rfl, rfl⟩, .inr ⟨rfl, by show List.replicate 200 (Am.n 1) = List.replicate (halfR 200).length (Ms.sums).one; rw [half_len]; rfl⟩, fun b H3 e3 nb tb => ?_⟩
      obtain ⟨dx, _, _, _, _, _, fs, tf⟩ := id tb
      have tl : t200.rs.length = 200 := half_len 200
      refine ⟨TC, mt, _, u, rfl, Of.rd, cv, ?_⟩
      refine ⟨_, rfl, b, dx, fs, rfl, tf.at_, b, t200, rfl, tb, _, rfl, Int.natCast_nonneg _, by rw [tl]; decide, ?_⟩
      refine ⟨_, rfl, b, dx, fs, rfl, tf.at_, b, t200, rfl, tb, fun v hv => ?_⟩
      have hv : AmV H3 v (sumA .sums (List.replicate 200 (.n 1))) := hv
      rw [sum200] at hv
      obtain rfl : v = .int 200 := hv
      refine ⟨_, rfl, b, dx, fs, rfl, tf.at_, tf.no _ (by decide +kernel), b, 198, 199, t200, [((198 : Nat) : Int) / 2], [((199 : Nat) : Int) / 2], rfl, tb, t200_ok, half_get (by decide), half_get (by decide), fun z H4 e4 nz rz => ?_⟩
      have ea : agr t200.cs [((198 : Nat) : Int) / 2] [((199 : Nat) : Int) / 2] = (["a"] : List Str) := by decide +kernel
      rw [ea] at rz
      rw [tl]
      refine ⟨by show 5 ≤ sizeLine; decide, fun L nL => ⟨by show 1 ≤ sizeLine; decide, fun y ny => ⟨by show 5 ≤ sizeLine; decide, fun L2 nL2 => ?_⟩⟩⟩
      have x1 := Ex.new (o := .lst [.int 200, .int 200, .int ((200 : Nat) : Int), .int 200, .ref z]) nL
      have x2 := Ex.new (o := .tup [.str "a"]) ny
      have x3 := Ex.new (o := .lst [.int 200, .int 200, .int 200, .int 200, .ref y]) nL2
      refine ⟨.list [.int 200, .int 200, .int ((200 : Nat) : Int), .int 200, .tuple [.str "a"]], .list [.int 200, .int 200, .int 200, .int 200, .tuple [.str "a"]], .lst (.inl (.inl ((x2.trans x3) _ _ upd_same))) (.cons (.int _) (.cons (.int _) (.cons (.int _) (.cons (.int _) (.cons (.tup (.inl ((x1.trans (x2.trans x3)).rd rz)) (.cons (.str _) .nil)) .nil))))), .lst (.inl (.inl upd_same)) (.cons (.int _) (.cons (.int _) (.cons (.int _) (.cons (.int _) (.cons (.tup (.inl (x3.rd (.inl upd_same))) (.cons (.str _) .nil)) .nil))))), by decide +kernel, by decide +kernel, ?_⟩
      rw [show PyData.eqv (.list [.int 200, .int 200, .int ((200 : Nat) : Int), .int 200, .tuple [.str "a"]]) (.list [.int 200, .int 200, .int 200, .int 200, .tuple [.str "a"]]) = true by decide +kernel]
      exact q _
end
end Gl
/-! The head of a law by one kernel run, with facts of the module's defs and classes by their names. -/
namespace Gl
open PySem PySem.Spec PyProof.Rows L2 ClX
/-! ### addresses by names -/
abbrev ga := He.ga
def recAd (K : PySem.W.Frag) (p : Addr) (k : String) : Addr := match PySem.W.recIn K p k with
  | some (.ref f :: _) => f
  | _ => 0
def clsAd (K : PySem.W.Frag) (C : Addr) (m : Str) : Addr := match PySem.W.findCls K (.ref C) (.type "type") m with
  | some (.get _ (.ref p) _ _) => p
  | _ => 0
inductive Wh where
  | glo (x : Str)
  | met (C m : Str)
  | prop (C m : Str)
  | stat (C m : Str)
  | clsm (C m : Str)
def Wh.ad (K : PySem.W.Frag) : Wh → Addr
  | .glo x => ga K x
  | .met C m => He.ma K (ga K C) m
  | .prop C m => recAd K (He.ma K (ga K C) m) "property"
  | .stat C m => recAd K (clsAd K (ga K C) m) "staticmethod"
  | .clsm C m => recAd K (clsAd K (ga K C) m) "classmethod"
/-- one def: where it stands, its name and qualified name, its statement, its keyword-only defaults -/
structure DefY where
  wh : Wh
  name : Str
  qual : Str
  st : Stmt
  kwd : List (Str × V) := []
def fnY (K : PySem.W.Frag) (d : DefY) : He.FnW := match K.lookup (d.wh.ad K) with
  | some ⟨_, _, .func g, _⟩ => some (g.name, g.qualname, g.params, g.body, g.scope, g.globals, g.closure, g.builtins)
  | _ => none
def DefY.val (d : DefY) : He.FnW := some (d.name, d.qual, defArgs d.st, .stmts (defBody d.st), defScope d.st, mainGlobals, [], builtinsNs)
def nonB : Value → Bool
  | .none => true
  | _ => false
def DefY.ok (K : PySem.W.Frag) (d : DefY) : Bool := PySem.W.keepIn K (.ref (d.wh.ad K)) && (match K.lookup (d.wh.ad K) with
  | some ⟨_, _, .func g, _⟩ => PySem.W.codeIn K g.code d.qual && (nonB g.defaults && He.kwdB K g.kwdefaults d.kwd)
  | _ => false)
theorem nonB_ok : ∀ {v : Value}, nonB v = true → v = .none
  | .none, _ => rfl
  | .ellipsis, h => nomatch h
  | .notImplemented, h => nomatch h
  | .bool _, h => nomatch h
  | .int _ _, h => nomatch h
  | .float _ _, h => nomatch h
  | .str _ _, h => nomatch h
  | .bytes _ _, h => nomatch h
  | .type _, h => nomatch h
  | .builtin _, h => nomatch h
  | .ref _, h => nomatch h
theorem DefY.full {K : PySem.W.Frag} {d : DefY} (e : fnY K d = d.val) (c : d.ok K = true) :
    ∃ oc od kV doc pm an cdv ct sl, K.lookup (d.wh.ad K) = some ⟨oc, od, .func (PySem.W.fnOf d.name d.qual (defArgs d.st) (defBody d.st) (defScope d.st) .none kV doc pm an cdv ct), sl⟩ ∧ PySem.W.codeIn K cdv d.qual = true ∧ KwdV K kV d.kwd ∧ PySem.W.keepIn K (.ref (d.wh.ad K)) = true := by
  obtain ⟨kp, c⟩ := Bool.and_eq_true_iff.mp c
  revert e c
  unfold fnY
  cases K.lookup (d.wh.ad K) with
  | none => exact fun _ c => nomatch c
  | some o =>
    obtain ⟨oc, od, dt, sl⟩ := o
    cases dt with
    | func g =>
      obtain ⟨m1, m2, m3, m4, m5, m6, m7, m8, m9, m10, m11, m12, m13, m14, m15⟩ := g
      intro e c
      have e' : (m1, m2, m3, m4, m5, m6, m7, m15) = (d.name, d.qual, defArgs d.st, FuncBody.stmts (defBody d.st), defScope d.st, mainGlobals, ([] : List (Str × Addr)), builtinsNs) := Option.some.inj e
      simp only [Prod.mk.injEq] at e'
      obtain ⟨rfl, rfl, rfl, rfl, rfl, rfl, rfl, rfl⟩ := e'
      obtain ⟨c1, c2⟩ := Bool.and_eq_true_iff.mp (show (PySem.W.codeIn K m13 d.qual && (nonB m8 && He.kwdB K m9 d.kwd)) = true from c)
      obtain ⟨c2, c3⟩ := Bool.and_eq_true_iff.mp c2
      obtain rfl := nonB_ok c2
      exact ⟨oc, od, m9, m10, m11, m12, m13, m14, sl, rfl, c1, He.kwdB_ok c3, kp⟩
    | _ => exact fun _ c => nomatch c
theorem DefY.fun_ {K : PySem.W.Frag} {d : DefY} (e : fnY K d = d.val) (c : d.ok K = true) : ∃ fd : FuncData, Fun K d.name d.qual d.st (d.wh.ad K) fd := by
  obtain ⟨_, _, _, _, _, _, _, _, _, l, k, _, p⟩ := DefY.full e c
  exact ⟨_, fun_mk l k p⟩
theorem DefY.funD {K : PySem.W.Frag} {d : DefY} (e : fnY K d = d.val) (c : d.ok K = true) : ∃ fd : FuncData, FunD K d.name d.qual (defArgs d.st) (defBody d.st) (defScope d.st) [] d.kwd (d.wh.ad K) fd := by
  obtain ⟨oc, od, kV, doc, pm, an, cdv, ct, sl, l, k, q, p⟩ := DefY.full e c
  exact ⟨_, ⟨oc, od, .none, kV, doc, pm, an, cdv, ct, sl, rfl, l, k, .inl ⟨rfl, rfl⟩, q⟩, p⟩
/-! ### the Hook -/
abbrev AlY : Type := Bool × List He.FnW
def obsY (fs : List (PySem.W.Frag → Bool)) (fn : List DefY) (K : PySem.W.Frag) : AlY := ((fs.all fun f => f K) && fn.all fun d => d.ok K, fn.map fun d => fnY K d)
def valY (fn : List DefY) : AlY := (true, fn.map DefY.val)
def SaysY (fs : List (PySem.W.Frag → Bool)) (fn : List DefY) (K : PySem.W.Frag) : Prop := obsY fs fn K = valY fn
/-- what an object names, as far as a def's facts ask: a def's code and keyword defaults, a class's names, what a property, a static method, a classmethod holds -/
def refsY (o : Obj) : List Addr := match o.data with
  | .dict es _ => es.toList.flatMap fun e => He.refV e.val
  | .func fd => He.refV fd.code ++ He.refV fd.kwdefaults
  | .cls cd => [cd.ns]
  | .fields vs => (match o.cls with
    | .type n => (match decide (n = "property") || (decide (n = "staticmethod") || decide (n = "classmethod")) with
      | true => vs.toList.flatMap He.refV
      | false => [])
    | _ => [])
  | _ => []
def stepY (g : Addr → Option Obj) (as : List Addr) : List Addr := as.flatMap fun a => match g a with
  | some o => refsY o
  | none => []
/-- level by level, nothing struck out twice: striking out costs more than the whole run of the top -/
def asY (g : Addr → Option Obj) : Nat → List Addr → List Addr
  | 0, l => l
  | n + 1, l => l ++ asY g n (stepY g l)
/-- reading a class asks the statics too, which no name of the module reaches -/
def obsYG (n : Nat) (fs : List (PySem.W.Frag → Bool)) (fn : List DefY) (g : Addr → Option Obj) : AlY := obsY fs fn (He.frG g (cStatics :: asY g n [mainGlobals]))
def hookY (n : Nat) (fs : List (PySem.W.Frag → Bool)) (fn : List DefY) : PySem.W.Hook where
  α := AlY
  obs := fun s => obsYG n fs fn s.heap.get?
  val := fun _ => valY fn
  says := fun _ h => ∃ K : PySem.W.Frag, K.In h ∧ SaysY fs fn K
  of := fun _ _ e => ⟨_, He.frG_in, e⟩
  keeps := fun _ _ _ ⟨K, hK, c⟩ k => ⟨K, hK.keeps k, c⟩
def obY (n : Nat) (fs : List (PySem.W.Frag → Bool)) (fn : List DefY) (s : PySem.W.SharedT) : AlY := obsYG n fs fn (HandSHeadRun.getT s)
theorem obY_eq (n : Nat) (fs : List (PySem.W.Frag → Bool)) (fn : List DefY) (s : PySem.W.SharedT) : obY n fs fn s = (hookY n fs fn).obs s.abs := by
  have e : HandSHeadRun.getT s = s.abs.heap.get? := funext (HandSHeadRun.getT_eq s)
  show obsYG n fs fn _ = obsYG n fs fn _
  rw [e]
section
variable {fs : List (PySem.W.Frag → Bool)} {fn : List DefY} {K : PySem.W.Frag}
theorem SaysY.fact (c : SaysY fs fn K) (i : Nat) {f : PySem.W.Frag → Bool} (h : fs[i]? = some f) : f K = true :=
  List.all_eq_true.mp (Bool.and_eq_true_iff.mp (congrArg Prod.fst c : ((fs.all fun f => f K) && fn.all fun d => d.ok K) = true)).1 f (List.mem_of_getElem? h)
theorem SaysY.dec (c : SaysY fs fn K) (i : Nat) {p : PySem.W.Frag → Prop} [∀ K, Decidable (p K)] (h : fs[i]? = some fun K => decide (p K)) : p K := of_decide_eq_true (c.fact i h)
theorem SaysY.ok (c : SaysY fs fn K) (i : Nat) {d : DefY} (h : fn[i]? = some d) : fnY K d = d.val ∧ d.ok K = true := by
  refine ⟨?_, List.all_eq_true.mp (Bool.and_eq_true_iff.mp (congrArg Prod.fst c : ((fs.all fun f => f K) && fn.all fun d => d.ok K) = true)).2 d (List.mem_of_getElem? h)⟩
  have e : (fn.map fun d => fnY K d)[i]? = (fn.map DefY.val)[i]? := congrArg (fun l : List He.FnW => l[i]?) (congrArg Prod.snd c)
  rw [List.getElem?_map, List.getElem?_map, h] at e
  exact Option.some.inj e
end
/-! ### properties, static methods, classmethods -/
def isPropB (K : PySem.W.Frag) (C m : Str) : Bool := match PySem.W.findIn K (.ref (ga K C)) m with
  | some (some (.ref p)) => decide (PySem.W.specialIn K (.ref p) "__get__" = some (some (.builtin "property.__get__"))) && (decide (PySem.W.takesIn K (.ref p) = some true) && (match PySem.W.recIn K p "property" with
    | some (.ref _ :: _) => true
    | _ => false))
  | _ => false
theorem isProp {K : PySem.W.Frag} {C m : Str} (h : isPropB K C m = true) : PropOf K (ga K C) m (He.ma K (ga K C) m) ((Wh.prop C m).ad K) := by
  unfold isPropB at h
  cases e : PySem.W.findIn K (.ref (ga K C)) m with
  | none => rw [e] at h; exact nomatch h
  | some o =>
    cases o with
    | none => rw [e] at h; exact nomatch h
    | some v =>
      cases v with
      | ref p =>
        rw [e] at h
        have ep : He.ma K (ga K C) m = p := by unfold He.ma; rw [show PySem.W.findIn K (.ref (He.ga K C)) m = _ from e]
        obtain ⟨h1, h⟩ := Bool.and_eq_true_iff.mp h
        obtain ⟨h2, h3⟩ := Bool.and_eq_true_iff.mp h
        have eg : (Wh.prop C m).ad K = recAd K p "property" := by show recAd K (He.ma K (ga K C) m) "property" = _; rw [ep]
        rw [ep, eg]
        refine ⟨e, of_decide_eq_true h1, of_decide_eq_true h2, ?_⟩
        unfold recAd
        cases q : PySem.W.recIn K p "property" with
        | none => rw [q] at h3; exact nomatch h3
        | some l =>
          rw [q] at h3
          match l, h3 with
          | .ref f :: r, _ => exact ⟨r, rfl⟩
      | _ => rw [e] at h; exact nomatch h
def clsB (K : PySem.W.Frag) (C m : Str) (g kind : String) : Bool := match PySem.W.findCls K (.ref (ga K C)) (.type "type") m with
  | some (.get (.builtin b) (.ref p) .none (.ref D)) => decide (b = g) && (decide (D = ga K C) && (match PySem.W.recIn K p kind with
    | some (.ref _ :: _) => true
    | _ => false))
  | _ => false
theorem clsB_ok {K : PySem.W.Frag} {C m : Str} {g kind : String} (h : clsB K C m g kind = true) :
    PySem.W.findCls K (.ref (ga K C)) (.type "type") m = some (.get (.builtin g) (.ref (clsAd K (ga K C) m)) .none (.ref (ga K C))) ∧ ∃ rest, PySem.W.recIn K (clsAd K (ga K C) m) kind = some (.ref (recAd K (clsAd K (ga K C) m) kind) :: rest) := by
  unfold clsB at h
  split at h
  · rename_i b p D e
    obtain ⟨h1, h⟩ := Bool.and_eq_true_iff.mp h
    obtain ⟨h2, h3⟩ := Bool.and_eq_true_iff.mp h
    have e1 := of_decide_eq_true h1
    have e2 := of_decide_eq_true h2
    subst e1
    have ep : clsAd K (ga K C) m = p := by unfold clsAd; rw [e]
    rw [ep]
    refine ⟨by rw [e, e2], ?_⟩
    unfold recAd
    cases q : PySem.W.recIn K p kind with
    | none => rw [q] at h3; exact nomatch h3
    | some l =>
      rw [q] at h3
      match l, h3 with
      | .ref f :: r, _ => exact ⟨r, rfl⟩
  · exact nomatch h
def intB (K : PySem.W.Frag) (x : Str) (i : Int) : Bool := match PySem.W.nsIn K mainGlobals x with
  | some (some (.int j _)) => decide (j = i)
  | _ => false
theorem intB_ok {K : PySem.W.Frag} {x : Str} {i : Int} (h : intB K x i = true) : ∃ t, PySem.W.nsIn K mainGlobals x = some (some (.int i t)) := by
  unfold intB at h
  split at h
  · rename_i j t e
    rw [of_decide_eq_true h] at e
    exact ⟨t, e⟩
  · exact nomatch h
def strB (K : PySem.W.Frag) (x z : Str) : Bool := match PySem.W.nsIn K mainGlobals x with
  | some (some (.str y _)) => decide (y = z)
  | _ => false
theorem strB_ok {K : PySem.W.Frag} {x z : Str} (h : strB K x z = true) : ∃ t, PySem.W.nsIn K mainGlobals x = some (some (.str z t)) := by
  unfold strB at h
  split at h
  · rename_i j t e
    rw [of_decide_eq_true h] at e
    exact ⟨t, e⟩
  · exact nomatch h
/-- the end, the written part told by a Hook -/
theorem walkGE {l : PySem.W.OpenLaw} {n k : Nat} {q : Program} {lo : List Str} {XP : (Str → Option Value) → Heap → Prop} {YP : World → Heap → Prop} {d : DefRec} {sp : PySem.W.Frag → Sp} {x : Str}
    (hn : l.most = some n) (n2 : n ≤ sizeLine) (df : d.params.defaults = []) (rm : Room k callerA)
    (F : ∀ (w : World) (mg : Str → Option Value) (fa : Addr) (h : Heap), YP w h → h.Ns mainGlobals mg → mg d.name = some (.ref fa) →
      ∃ K : PySem.W.Frag, K.In h ∧ ∃ fd : FuncData, (∀ (s : Shared) (u : Value), BindsTo s fd ⟨[u], []⟩ [(x, u)]) ∧
        ∀ base : Heap, K.In base → base.Ns mainGlobals mg → FnG l.prog w K mg base CX0 k fa fd [x] (sp K))
    (hs : ∀ (K : PySem.W.Frag) (H : Hp) (a : Addr) (ns : List Int), ns.length ≤ n → Only H → SqL K H a (ns.map V.int) → sp K [.ref a] H (fun v _ => v = .bl true) fun _ _ _ => False) :
    PySem.W.WalkO q lo XP YP l.row.toRowW d [] (fun f vs => PySem.call f vs) := by
  apply Att.attach_call hn df
  intro w s0 s1 mg mb fa o pm cd doc a vs ns G Y ho hd hc hm ha hi hl hg
  obtain ⟨K, kY, fd, hb, hF⟩ := F w mg fa _ Y G.T.g hm
  exact Entry.run { kin := kY, ng := G.T.g, nb := G.T.b, bb := G.T.builtins, lim := G.T.nolimit, gn := hg, at_ := ha, ia := hi, sz := Nat.le_trans hl n2, rm := rm, F := hF, bind := hb, sp_ := fun H h1 h2 => hs _ H a ns hl h1 h2 }
end Gl
namespace Gl
open PySem PySem.Spec PyProof.Rows L2 ClX
theorem amtR_of {P : Program} {w : World} {K : PySem.W.Frag} {mg : Str → Option Value} {base : Heap} {C : Addr} {k : Nat} {f : Addr} {fd : FuncData} {ps : List Str} (F : FnOk P w K mg base CX0 k f fd ps (spIsAmt K C)) : FnOk P w K mg base CX0 k f fd ps (spAmtR C) := by
  have im : ∀ vs H Q E, spAmtR C vs H Q E → spIsAmt K C vs H Q E := fun vs H Q E h => by
    obtain ⟨a, m, v, x, rfl, sa, mok, hx, vx, q⟩ := h
    exact ⟨a, m, v, x.data, rfl, sa, mok, .dx (dx_am vx), am_short mok hx, fun H' e => by rw [amt_has mok hx]; exact q H' e⟩
  exact ⟨fun vs H Q E q => F.len vs H Q E (im _ _ _ _ q), fun A o s H ar us vs Q E r e b v q => F.run A o s H ar us vs Q E r e b v (im _ _ _ _ q)⟩
theorem kbn_chkC {K : PySem.W.Frag} {f : Addr} {fd : FuncData} (F : FunD K "check_columns" "check_columns" (defArgs sChkC) (defBody sChkC) (defScope sChkC) [] [("least", .int 0)] f fd) :
    KBn K fd ["columns", "least"] 1 ["least"] (fun us ws => us ++ ws) (fun vs zs => vs ++ zs) := by
  obtain ⟨oc, od, dV, kV, doc, pm, an, cdv, ct, osl, rfl, lk, hcd, hD, hK⟩ := F.ex
  rcases hD with ⟨_, rfl⟩ | ⟨e, _⟩
  · refine ⟨fun s us ws X l1 l2 => ?_, fun r rz => r.append rz⟩
    match us, ws, l1, l2 with
    | [u], [z], _, _ => exact .of_eq rfl
  · exact absurd rfl e
section
/-- a def of the text, by what the top has left -/
structure Has (K : PySem.W.Frag) (x : Str) (st : Stmt) (f : Addr) : Prop where
  at_ : PySem.W.nsIn K mainGlobals x = some (some (.ref f))
  fn : ∃ fd : FuncData, Fun K x x st f fd
/-- a method -/
structure HasM (K : PySem.W.Frag) (C : Addr) (x y : Str) (st : Stmt) (f : Addr) : Prop where
  at_ : PySem.W.findIn K (.ref C) x = some (some (.ref f))
  isf : PySem.W.isFn K (.ref f) = true
  fn : ∃ fd : FuncData, Fun K x y st f fd
/-- a staticmethod -/
structure HasS (K : PySem.W.Frag) (C : Addr) (mc : Value) (x y : Str) (st : Stmt) (p f : Addr) : Prop where
  sm : SMet K C mc x p f
  fn : ∃ fd : FuncData, Fun K x y st f fd
/-- a property -/
structure HasP (K : PySem.W.Frag) (C : Addr) (x y : Str) (st : Stmt) (p f : Addr) : Prop where
  pr : PropOf K C x p f
  fn : ∃ fd : FuncData, Fun K x y st f fd
structure HasD (K : PySem.W.Frag) (x : Str) (st : Stmt) (kws : List (Str × V)) (f : Addr) : Prop where
  at_ : PySem.W.nsIn K mainGlobals x = some (some (.ref f))
  fn : ∃ fd : FuncData, FunD K x x (defArgs st) (defBody st) (defScope st) [] kws f fd
structure HasMD (K : PySem.W.Frag) (C : Addr) (x y : Str) (st : Stmt) (kws : List (Str × V)) (f : Addr) : Prop where
  at_ : PySem.W.findIn K (.ref C) x = some (some (.ref f))
  isf : PySem.W.isFn K (.ref f) = true
  fn : ∃ fd : FuncData, FunD K x y (defArgs st) (defBody st) (defScope st) [] kws f fd
/-- a classmethod -/
structure HasC (K : PySem.W.Frag) (C : Addr) (mc : Value) (x y : Str) (st : Stmt) (kws : List (Str × V)) (p f : Addr) : Prop where
  cm : CMet K C mc x p f
  fn : ∃ fd : FuncData, FunD K x y (defArgs st) (defBody st) (defScope st) [] kws f fd
/-- what the law rests on -/
structure Facts (K : PySem.W.Frag) (C TC : Addr) : Prop where
  aC : PySem.W.nsIn K mainGlobals "Scale" = some (some (.ref C))
  aT : PySem.W.nsIn K mainGlobals "Table" = some (some (.ref TC))
  d0 : ∃ f, Has K "is_whole" sWhole f
  d1 : ∃ f, Has K "are_whole" sWholes f
  d2 : ∃ f, Has K "is_index" sIndex f
  d3 : ∃ f, Has K "is_ascending" sAsc f
  d4 : ∃ f, Has K "is_name" sName f
  d5 : ∃ f, Has K "check_row" sChkR f
  d6 : ∃ f, Has K "_is_part" sPart f
  d7 : ∃ f, Has K "_is_lowest" sLowest f
  d8 : ∃ f, Has K "_are_odds" sAreOdds f
  d9 : ∃ f, Has K "_times" sTimes f
  d10 : ∃ f, Has K "_lowest" sLowP f
  d11 : ∃ f, Has K "_law_dice" sDice f
  d12 : ∃ f, Has K "_law_pull" sPull f
  d13 : ∃ f, Has K "_law_pick" sPick f
  d14 : ∃ f, Has K "_law_columns" sColumns f
  d15 : ∃ f, Has K "_law_rows" sRowsL f
  d16 : ∃ f, Has K "_law_scale" sScaleL f
  d17 : ∃ f, Has K "_law_lowest" sLowL f
  d18 : ∃ f, Has K "_law_weight" sWgtL f
  d19 : ∃ f, Has K "_law_weights" sWtsL f
  d20 : ∃ f, Has K "_law_scaled" sMadeL f
  d21 : ∃ f, Has K "_law_drawn" sDrawn f
  d22 : ∃ f, Has K "_law_tabled" sTabled f
  d23 : ∃ f, Has K "_law_zero" sZeroL f
  d24 : ∃ f, Has K "_law_plus" sPlusL f
  d25 : ∃ f, Has K "_law_total" sTotalL f
  d26 : ∃ f, Has K "_law_agreement" sAgrL f
  d27 : ∃ f, Has K "_law_facts" sFacts f
  d28 : ∃ f, Has K "_law_due" sDue f
  d29 : ∃ f, Has K "_law_made_right" sMadeR f
  d30 : ∃ f, Has K "_law_rows_right" sRowR f
  d31 : ∃ f, Has K "_law_same_right" sSameR f
  d32 : ∃ f, Has K "law" sLaw f
  dd0 : ∃ f, HasD K "is_columns" sCols [("least", .int 0)] f
  dd1 : ∃ f, HasD K "check_columns" sChkC [("least", .int 0)] f
  m0 : ∃ f, HasM K C "__init__" "Scale.__init__" sInit f
  m1 : ∃ f, HasM K C "is_weight" "Scale.is_weight" sIsWgt f
  m2 : ∃ f, HasM K C "is_amount" "Scale.is_amount" sIsAmt f
  m3 : ∃ f, HasM K C "__eq__" "Scale.__eq__" sEqM f
  m4 : ∃ f, HasM K C "plus_all" "Scale.plus_all" sPlusAll f
  m5 : ∃ f, HasM K C "_check_all" "Scale._check_all" sChkAll f
  m6 : ∃ f, HasM K C "_sum" "Scale._sum" sSum f
  tm0 : ∃ f, HasM K TC "__len__" "Table.__len__" sTLen f
  tm1 : ∃ f, HasM K TC "__eq__" "Table.__eq__" sTEq f
  tm2 : ∃ f, HasM K TC "only" "Table.only" sTOnly f
  tm3 : ∃ f, HasM K TC "only_all" "Table.only_all" sTOnlyAll f
  tm4 : ∃ f, HasM K TC "_changed" "Table._changed" sTChg f
  tm5 : ∃ f, HasM K TC "_picked" "Table._picked" sTPick f
  tm6 : ∃ f, HasM K TC "_check_index" "Table._check_index" sTCki f
  tm7 : ∃ f, HasM K TC "_check_indices" "Table._check_indices" sTCks f
  tm8 : ∃ f, HasM K TC "__contains__" "Table.__contains__" sTHas f
  tm9 : ∃ f, HasM K TC "__str__" "Table.__str__" sTStr f
  tm10 : ∃ f, HasM K TC "__or__" "Table.__or__" sTOr f
  tm11 : ∃ f, HasM K TC "weight" "Table.weight" sTWgt f
  tm12 : ∃ f, HasM K TC "agreement" "Table.agreement" sTAgr f
  td0 : ∃ f, HasMD K TC "__init__" "Table.__init__" sTInit [("scale", .non), ("weights", .non)] f
  da : ∃ f, PySem.W.nsIn K mainGlobals "agreement_rows" = some (some (.ref f)) ∧ ∃ fd : FuncData, Fun K "agreement" "agreement" sAgr f fd
  tg : ∃ f, HasM K TC "__getitem__" "Table.__getitem__" sTGet f ∧ PySem.W.fnIn K f = true
  cv : ∃ t, PySem.W.findCls K (.ref TC) (.type "type") "MOST_ROWS" = some (.val (.int 200 t))
  tc : ∃ p f, HasC K TC (.type "type") "of" "Table.of" sTOf [("scale", .non), ("weights", .non)] p f
  s0 : ∃ p f, HasS K C (.type "type") "sums" "Scale.sums" sSums p f
  s1 : ∃ p f, HasS K C (.type "type") "classes" "Scale.classes" sClasses p f
  s2 : ∃ p f, HasS K C (.type "type") "odds" "Scale.odds" sOddsM p f
  p0 : ∃ p f, HasP K C "zero" "Scale.zero" sZero p f
  p1 : ∃ p f, HasP K C "one" "Scale.one" sOne p f
  tp0 : ∃ p f, HasP K TC "columns" "Table.columns" sTCols p f
  tp1 : ∃ p f, HasP K TC "rows" "Table.rows" sTRows p f
  tp2 : ∃ p f, HasP K TC "weights" "Table.weights" sTWts p f
  tp3 : ∃ p f, HasP K TC "scale" "Table.scale" sTScl p f
  tp4 : ∃ p f, HasP K TC "total" "Table.total" sTTot p f
  b_len : PySem.W.nsIn K mainGlobals "len" = some none
  b_int : PySem.W.nsIn K mainGlobals "int" = some none
  b_abs : PySem.W.nsIn K mainGlobals "abs" = some none
  b_max : PySem.W.nsIn K mainGlobals "max" = some none
  b_min : PySem.W.nsIn K mainGlobals "min" = some none
  b_range : PySem.W.nsIn K mainGlobals "range" = some none
  b_tuple : PySem.W.nsIn K mainGlobals "tuple" = some none
  b_list : PySem.W.nsIn K mainGlobals "list" = some none
  b_repr : PySem.W.nsIn K mainGlobals "repr" = some none
  b_zip : PySem.W.nsIn K mainGlobals "zip" = some none
  b_isinstance : PySem.W.nsIn K mainGlobals "isinstance" = some none
  b_all : PySem.W.nsIn K mainGlobals "all" = some none
  b_str : PySem.W.nsIn K mainGlobals "str" = some none
  b_bool : PySem.W.nsIn K mainGlobals "bool" = some none
  b_sum : PySem.W.nsIn K mainGlobals "sum" = some none
  pg : PySem.W.plainGet K C Str.empty = true
  hd : PySem.W.hasDictIn K C = true
  po : PySem.W.plainOver K C = true
  sa : PySem.W.findIn K (.ref C) "__setattr__" = some (some (.builtin "object.__setattr__"))
  mk_ : PySem.W.makesIn K C = true
  kc : PySem.W.keepIn K (.ref C) = true
  rdm : PySem.W.readsIn K C (.type "type") = true
  ga : PySem.W.specialIn K (.ref C) "__getattribute__" = some (some (.builtin "type.__getattribute__"))
  t1 : PySem.W.findIn K (.ref C) "__class__" = some (some (.builtin "object.__class__"))
  t4 : PySem.W.mroIn K C (.type "object") = some true
  ki : PySem.W.kitOne K (.ref C) (.type "int") = some false
  kt : PySem.W.kitOne K (.ref C) (.type "tuple") = some false
  kcc : PySem.W.kitOne K (.ref C) (.ref C) = some true
  Tpg : PySem.W.plainGet K TC Str.empty = true
  Thd : PySem.W.hasDictIn K TC = true
  Tpo : PySem.W.plainOver K TC = true
  Tsa : PySem.W.findIn K (.ref TC) "__setattr__" = some (some (.builtin "object.__setattr__"))
  Tmk_ : PySem.W.makesIn K TC = true
  Tkc : PySem.W.keepIn K (.ref TC) = true
  Trdm : PySem.W.readsIn K TC (.type "type") = true
  Tga : PySem.W.specialIn K (.ref TC) "__getattribute__" = some (some (.builtin "type.__getattribute__"))
  Tt1 : PySem.W.findIn K (.ref TC) "__class__" = some (some (.builtin "object.__class__"))
  Tt4 : PySem.W.mroIn K TC (.type "object") = some true
  Tki : PySem.W.kitOne K (.ref TC) (.type "int") = some false
  Tkt : PySem.W.kitOne K (.ref TC) (.type "tuple") = some false
  Tkcc : PySem.W.kitOne K (.ref TC) (.ref TC) = some true
  t2 : PySem.W.specialIn K (.builtin "object.__class__") "__get__" = some (some (.builtin "getset_descriptor.__get__"))
  t3 : PySem.W.takesIn K (.builtin "object.__class__") = some true
  n__word : PySem.W.findIn K (.ref C) "_word" = some none
  n__size : PySem.W.findIn K (.ref C) "_size" = some none
  Tn_columns : PySem.W.findIn K (.ref TC) "_columns" = some none
  Tn_rows : PySem.W.findIn K (.ref TC) "_rows" = some none
  Tn_scale : PySem.W.findIn K (.ref TC) "_scale" = some none
  Tn_weights : PySem.W.findIn K (.ref TC) "_weights" = some none
  Tn_total : PySem.W.findIn K (.ref TC) "_total" = some none
  c_gcd : PySem.W.nsIn K mainGlobals "gcd" = some (some (.builtin "math.gcd"))
  c_MAX_SIZE : ∃ t, PySem.W.nsIn K mainGlobals "MAX_SIZE" = some (some (.int 4 t))
  c_MAX_ODDS : ∃ t, PySem.W.nsIn K mainGlobals "MAX_ODDS" = some (some (.int 1000000 t))
  c_MAX_ROWS : ∃ t, PySem.W.nsIn K mainGlobals "MAX_ROWS" = some (some (.int 200 t))
  c_LETTERS : ∃ t, PySem.W.nsIn K mainGlobals "LETTERS" = some (some (.str abc t))
  c_MOST_LETTERS : ∃ t, PySem.W.nsIn K mainGlobals "MOST_LETTERS" = some (some (.int 8 t))
  c_MOST_NAMES : ∃ t, PySem.W.nsIn K mainGlobals "MOST_NAMES" = some (some (.int 8 t))
  kn_NoneType : PySem.W.kitOne K (.type "NoneType") (.ref C) = some false
  kn_bool : PySem.W.kitOne K (.type "bool") (.ref C) = some false
  kn_int : PySem.W.kitOne K (.type "int") (.ref C) = some false
  kn_str : PySem.W.kitOne K (.type "str") (.ref C) = some false
  kn_list : PySem.W.kitOne K (.type "list") (.ref C) = some false
  kn_tuple : PySem.W.kitOne K (.type "tuple") (.ref C) = some false
  kn_dict : PySem.W.kitOne K (.type "dict") (.ref C) = some false
  Thne : PySem.W.findIn K (.ref TC) "__ne__" = some (some (.builtin "object.__ne__"))
  Tho : PySem.W.subIn K (.ref TC) (.type "object") = some true
  nCT : C ≠ TC
  Chne : PySem.W.findIn K (.ref C) "__ne__" = some (some (.builtin "object.__ne__"))
  Cho : PySem.W.subIn K (.ref C) (.type "object") = some true
  nst : PySem.W.subIn K (.ref TC) (.type "tuple") = some false
  nob : PySem.W.findIn K (.ref TC) "__bool__" = some none
  sf : PySem.W.selfFirst K TC = true
  knT_NoneType : PySem.W.kitOne K (.type "NoneType") (.ref TC) = some false
  nfT_NoneType : PySem.W.notFirst K TC (.type "NoneType") = true
  knT_bool : PySem.W.kitOne K (.type "bool") (.ref TC) = some false
  nfT_bool : PySem.W.notFirst K TC (.type "bool") = true
  knT_int : PySem.W.kitOne K (.type "int") (.ref TC) = some false
  nfT_int : PySem.W.notFirst K TC (.type "int") = true
  knT_str : PySem.W.kitOne K (.type "str") (.ref TC) = some false
  nfT_str : PySem.W.notFirst K TC (.type "str") = true
  knT_list : PySem.W.kitOne K (.type "list") (.ref TC) = some false
  nfT_list : PySem.W.notFirst K TC (.type "list") = true
  knT_tuple : PySem.W.kitOne K (.type "tuple") (.ref TC) = some false
  nfT_tuple : PySem.W.notFirst K TC (.type "tuple") = true
  knT_dict : PySem.W.kitOne K (.type "dict") (.ref TC) = some false
  nfT_dict : PySem.W.notFirst K TC (.type "dict") = true
variable {w : World} {K : PySem.W.Frag} {mg : Str → Option Value} {h : Heap} {fa : Addr}
theorem all_law (P : Program) {C TC : Addr} (Y : Facts K C TC) (X : K.In h) (G : h.Ns mainGlobals mg) (hfa : mg "law" = some (.ref fa)) :
    ∃ fd : FuncData, (∀ (s : Shared) (v : Value), BindsTo s fd ⟨[v], []⟩ [("_law_script", v)]) ∧
      ∀ base : Heap, K.In base → base.Ns mainGlobals mg → FnG P w K mg base CX0 15 fa fd ["_law_script"] (spLaw K) := by
  obtain ⟨f0, h0⟩ := Y.d0
  obtain ⟨e0, F0⟩ := h0.fn
  have g0 := PySem.W.mg_of X G h0.at_
  obtain ⟨f1, h1⟩ := Y.d1
  obtain ⟨e1, F1⟩ := h1.fn
  have g1 := PySem.W.mg_of X G h1.at_
  obtain ⟨f2, h2⟩ := Y.d2
  obtain ⟨e2, F2⟩ := h2.fn
  have g2 := PySem.W.mg_of X G h2.at_
  obtain ⟨f3, h3⟩ := Y.d3
  obtain ⟨e3, F3⟩ := h3.fn
  have g3 := PySem.W.mg_of X G h3.at_
  obtain ⟨f4, h4⟩ := Y.d4
  obtain ⟨e4, F4⟩ := h4.fn
  have g4 := PySem.W.mg_of X G h4.at_
  obtain ⟨f5, h5⟩ := Y.d5
  obtain ⟨e5, F5⟩ := h5.fn
  have g5 := PySem.W.mg_of X G h5.at_
  obtain ⟨f6, h6⟩ := Y.d6
  obtain ⟨e6, F6⟩ := h6.fn
  have g6 := PySem.W.mg_of X G h6.at_
  obtain ⟨f7, h7⟩ := Y.d7
  obtain ⟨e7, F7⟩ := h7.fn
  have g7 := PySem.W.mg_of X G h7.at_
  obtain ⟨f8, h8⟩ := Y.d8
  obtain ⟨e8, F8⟩ := h8.fn
  have g8 := PySem.W.mg_of X G h8.at_
  obtain ⟨f9, h9⟩ := Y.d9
  obtain ⟨e9, F9⟩ := h9.fn
  have g9 := PySem.W.mg_of X G h9.at_
  obtain ⟨f10, h10⟩ := Y.d10
  obtain ⟨e10, F10⟩ := h10.fn
  have g10 := PySem.W.mg_of X G h10.at_
  obtain ⟨f11, h11⟩ := Y.d11
  obtain ⟨e11, F11⟩ := h11.fn
  have g11 := PySem.W.mg_of X G h11.at_
  obtain ⟨f12, h12⟩ := Y.d12
  obtain ⟨e12, F12⟩ := h12.fn
  have g12 := PySem.W.mg_of X G h12.at_
  obtain ⟨f13, h13⟩ := Y.d13
  obtain ⟨e13, F13⟩ := h13.fn
  have g13 := PySem.W.mg_of X G h13.at_
  obtain ⟨f14, h14⟩ := Y.d14
  obtain ⟨e14, F14⟩ := h14.fn
  have g14 := PySem.W.mg_of X G h14.at_
  obtain ⟨f15, h15⟩ := Y.d15
  obtain ⟨e15, F15⟩ := h15.fn
  have g15 := PySem.W.mg_of X G h15.at_
  obtain ⟨f16, h16⟩ := Y.d16
  obtain ⟨e16, F16⟩ := h16.fn
  have g16 := PySem.W.mg_of X G h16.at_
  obtain ⟨f17, h17⟩ := Y.d17
  obtain ⟨e17, F17⟩ := h17.fn
  have g17 := PySem.W.mg_of X G h17.at_
  obtain ⟨f18, h18⟩ := Y.d18
  obtain ⟨e18, F18⟩ := h18.fn
  have g18 := PySem.W.mg_of X G h18.at_
  obtain ⟨f19, h19⟩ := Y.d19
  obtain ⟨e19, F19⟩ := h19.fn
  have g19 := PySem.W.mg_of X G h19.at_
  obtain ⟨f20, h20⟩ := Y.d20
  obtain ⟨e20, F20⟩ := h20.fn
  have g20 := PySem.W.mg_of X G h20.at_
  obtain ⟨f21, h21⟩ := Y.d21
  obtain ⟨e21, F21⟩ := h21.fn
  have g21 := PySem.W.mg_of X G h21.at_
  obtain ⟨f22, h22⟩ := Y.d22
  obtain ⟨e22, F22⟩ := h22.fn
  have g22 := PySem.W.mg_of X G h22.at_
  obtain ⟨f23, h23⟩ := Y.d23
  obtain ⟨e23, F23⟩ := h23.fn
  have g23 := PySem.W.mg_of X G h23.at_
  obtain ⟨f24, h24⟩ := Y.d24
  obtain ⟨e24, F24⟩ := h24.fn
  have g24 := PySem.W.mg_of X G h24.at_
  obtain ⟨f25, h25⟩ := Y.d25
  obtain ⟨e25, F25⟩ := h25.fn
  have g25 := PySem.W.mg_of X G h25.at_
  obtain ⟨f26, h26⟩ := Y.d26
  obtain ⟨e26, F26⟩ := h26.fn
  have g26 := PySem.W.mg_of X G h26.at_
  obtain ⟨f27, h27⟩ := Y.d27
  obtain ⟨e27, F27⟩ := h27.fn
  have g27 := PySem.W.mg_of X G h27.at_
  obtain ⟨f28, h28⟩ := Y.d28
  obtain ⟨e28, F28⟩ := h28.fn
  have g28 := PySem.W.mg_of X G h28.at_
  obtain ⟨f29, h29⟩ := Y.d29
  obtain ⟨e29, F29⟩ := h29.fn
  have g29 := PySem.W.mg_of X G h29.at_
  obtain ⟨f30, h30⟩ := Y.d30
  obtain ⟨e30, F30⟩ := h30.fn
  have g30 := PySem.W.mg_of X G h30.at_
  obtain ⟨f31, h31⟩ := Y.d31
  obtain ⟨e31, F31⟩ := h31.fn
  have g31 := PySem.W.mg_of X G h31.at_
  obtain ⟨f32, h32⟩ := Y.d32
  obtain ⟨e32, F32⟩ := h32.fn
  have g32 := PySem.W.mg_of X G h32.at_
  obtain ⟨df0, dh0⟩ := Y.dd0
  obtain ⟨de0, DF0⟩ := dh0.fn
  have dg0 := PySem.W.mg_of X G dh0.at_
  obtain ⟨df1, dh1⟩ := Y.dd1
  obtain ⟨de1, DF1⟩ := dh1.fn
  have dg1 := PySem.W.mg_of X G dh1.at_
  obtain ⟨mf0, mh0⟩ := Y.m0
  obtain ⟨me0, mF0⟩ := mh0.fn
  obtain ⟨mf1, mh1⟩ := Y.m1
  obtain ⟨me1, mF1⟩ := mh1.fn
  obtain ⟨mf2, mh2⟩ := Y.m2
  obtain ⟨me2, mF2⟩ := mh2.fn
  obtain ⟨mf3, mh3⟩ := Y.m3
  obtain ⟨me3, mF3⟩ := mh3.fn
  obtain ⟨mf4, mh4⟩ := Y.m4
  obtain ⟨me4, mF4⟩ := mh4.fn
  obtain ⟨mf5, mh5⟩ := Y.m5
  obtain ⟨me5, mF5⟩ := mh5.fn
  obtain ⟨mf6, mh6⟩ := Y.m6
  obtain ⟨me6, mF6⟩ := mh6.fn
  obtain ⟨tmf0, tmh0⟩ := Y.tm0
  obtain ⟨tme0, tmF0⟩ := tmh0.fn
  obtain ⟨tmf1, tmh1⟩ := Y.tm1
  obtain ⟨tme1, tmF1⟩ := tmh1.fn
  obtain ⟨tmf2, tmh2⟩ := Y.tm2
  obtain ⟨tme2, tmF2⟩ := tmh2.fn
  obtain ⟨tmf3, tmh3⟩ := Y.tm3
  obtain ⟨tme3, tmF3⟩ := tmh3.fn
  obtain ⟨tmf4, tmh4⟩ := Y.tm4
  obtain ⟨tme4, tmF4⟩ := tmh4.fn
  obtain ⟨tmf5, tmh5⟩ := Y.tm5
  obtain ⟨tme5, tmF5⟩ := tmh5.fn
  obtain ⟨tmf6, tmh6⟩ := Y.tm6
  obtain ⟨tme6, tmF6⟩ := tmh6.fn
  obtain ⟨tmf7, tmh7⟩ := Y.tm7
  obtain ⟨tme7, tmF7⟩ := tmh7.fn
  obtain ⟨tmf8, tmh8⟩ := Y.tm8
  obtain ⟨tme8, tmF8⟩ := tmh8.fn
  obtain ⟨tmf9, tmh9⟩ := Y.tm9
  obtain ⟨tme9, tmF9⟩ := tmh9.fn
  obtain ⟨tmf10, tmh10⟩ := Y.tm10
  obtain ⟨tme10, tmF10⟩ := tmh10.fn
  obtain ⟨tmf11, tmh11⟩ := Y.tm11
  obtain ⟨tme11, tmF11⟩ := tmh11.fn
  obtain ⟨tmf12, tmh12⟩ := Y.tm12
  obtain ⟨tme12, tmF12⟩ := tmh12.fn
  obtain ⟨tdf0, tdh0⟩ := Y.td0
  obtain ⟨tde0, tdF0⟩ := tdh0.fn
  obtain ⟨af, ag0, ae, aF⟩ := Y.da
  have ag := PySem.W.mg_of X G ag0
  obtain ⟨gf, gh, gfi⟩ := Y.tg
  obtain ⟨ge, gF⟩ := gh.fn
  obtain ⟨cvt, cv0⟩ := Y.cv
  obtain ⟨cp, cf, ch⟩ := Y.tc
  obtain ⟨ce, cF⟩ := ch.fn
  obtain ⟨sp0, sf0, sh0⟩ := Y.s0
  obtain ⟨se0, sF0⟩ := sh0.fn
  obtain ⟨sp1, sf1, sh1⟩ := Y.s1
  obtain ⟨se1, sF1⟩ := sh1.fn
  obtain ⟨sp2, sf2, sh2⟩ := Y.s2
  obtain ⟨se2, sF2⟩ := sh2.fn
  obtain ⟨pp0, pf0, ph0⟩ := Y.p0
  obtain ⟨pe0, pF0⟩ := ph0.fn
  obtain ⟨pp1, pf1, ph1⟩ := Y.p1
  obtain ⟨pe1, pF1⟩ := ph1.fn
  obtain ⟨tpp0, tpf0, tph0⟩ := Y.tp0
  obtain ⟨tpe0, tpF0⟩ := tph0.fn
  obtain ⟨tpp1, tpf1, tph1⟩ := Y.tp1
  obtain ⟨tpe1, tpF1⟩ := tph1.fn
  obtain ⟨tpp2, tpf2, tph2⟩ := Y.tp2
  obtain ⟨tpe2, tpF2⟩ := tph2.fn
  obtain ⟨tpp3, tpf3, tph3⟩ := Y.tp3
  obtain ⟨tpe3, tpF3⟩ := tph3.fn
  obtain ⟨tpp4, tpf4, tph4⟩ := Y.tp4
  obtain ⟨tpe4, tpF4⟩ := tph4.fn
  have T : Blt mg := { len := PySem.W.mg_none_of X G Y.b_len, int := PySem.W.mg_none_of X G Y.b_int, abs := PySem.W.mg_none_of X G Y.b_abs, max := PySem.W.mg_none_of X G Y.b_max, min := PySem.W.mg_none_of X G Y.b_min, range := PySem.W.mg_none_of X G Y.b_range, tuple := PySem.W.mg_none_of X G Y.b_tuple, list := PySem.W.mg_none_of X G Y.b_list, repr := PySem.W.mg_none_of X G Y.b_repr, zip := PySem.W.mg_none_of X G Y.b_zip, isinstance := PySem.W.mg_none_of X G Y.b_isinstance, all := PySem.W.mg_none_of X G Y.b_all, str := PySem.W.mg_none_of X G Y.b_str, bool := PySem.W.mg_none_of X G Y.b_bool }
  have hg := PySem.W.mg_of X G Y.c_gcd
  obtain ⟨tm, km⟩ := Y.c_MAX_SIZE
  have ms : ∃ t, mg "MAX_SIZE" = some (.int 4 t) := ⟨_, PySem.W.mg_of X G km⟩
  obtain ⟨to, ko⟩ := Y.c_MAX_ODDS
  have mo : ∃ t, mg "MAX_ODDS" = some (.int 1000000 t) := ⟨_, PySem.W.mg_of X G ko⟩
  obtain ⟨tl, kl⟩ := Y.c_MAX_ROWS
  have rl : ∃ t, mg "MAX_ROWS" = some (.int 200 t) := ⟨_, PySem.W.mg_of X G kl⟩
  obtain ⟨t1, k1⟩ := Y.c_LETTERS
  obtain ⟨t2, k2⟩ := Y.c_MOST_LETTERS
  obtain ⟨t3, k3⟩ := Y.c_MOST_NAMES
  have Cs0 : Cst mg := ⟨⟨_, PySem.W.mg_of X G k1⟩, ⟨_, PySem.W.mg_of X G k2⟩, ⟨_, PySem.W.mg_of X G k3⟩⟩
  have gC := PySem.W.mg_of X G Y.aC
  have gT := PySem.W.mg_of X G Y.aT
  have Zk : ClsK K C := ⟨⟨Y.pg, Y.hd, Y.po, Y.sa⟩, Y.n__word, Y.n__size⟩
  have Zt : ClsT K C := ⟨⟨Y.pg, Y.hd, Y.po, Y.sa⟩, Y.t1, Y.t2, Y.t3, Y.t4, Y.ki, Y.kt⟩
  have Yk : TblK K TC := ⟨⟨Y.Tpg, Y.Thd, Y.Tpo, Y.Tsa⟩, Y.Tn_columns, Y.Tn_rows, Y.Tn_scale, Y.Tn_weights, Y.Tn_total⟩
  have Yt : ClsT K TC := ⟨⟨Y.Tpg, Y.Thd, Y.Tpo, Y.Tsa⟩, Y.Tt1, Y.t2, Y.t3, Y.Tt4, Y.Tki, Y.Tkt⟩
  have kn : ∀ t ∈ tys, PySem.W.kitOne K (.type t) (.ref C) = some false := by
    intro t ht
    simp only [tys, List.mem_cons, List.not_mem_nil, or_false] at ht
    rcases ht with rfl | rfl | rfl | rfl | rfl | rfl | rfl
    · exact Y.kn_NoneType
    · exact Y.kn_bool
    · exact Y.kn_int
    · exact Y.kn_str
    · exact Y.kn_list
    · exact Y.kn_tuple
    · exact Y.kn_dict
  have knT : ∀ t ∈ tys, PySem.W.kitOne K (.type t) (.ref TC) = some false := by
    intro t ht
    simp only [tys, List.mem_cons, List.not_mem_nil, or_false] at ht
    rcases ht with rfl | rfl | rfl | rfl | rfl | rfl | rfl
    · exact Y.knT_NoneType
    · exact Y.knT_bool
    · exact Y.knT_int
    · exact Y.knT_str
    · exact Y.knT_list
    · exact Y.knT_tuple
    · exact Y.knT_dict
  have nfY : ∀ t ∈ tys, PySem.W.notFirst K TC (.type t) = true := by
    intro t ht
    simp only [tys, List.mem_cons, List.not_mem_nil, or_false] at ht
    rcases ht with rfl | rfl | rfl | rfl | rfl | rfl | rfl
    · exact Y.nfT_NoneType
    · exact Y.nfT_bool
    · exact Y.nfT_int
    · exact Y.nfT_str
    · exact Y.nfT_list
    · exact Y.nfT_tuple
    · exact Y.nfT_dict
  have nfC : PySem.W.notFirst K C (.ref C) = true := by
    unfold PySem.W.notFirst
    simp
  have nfT : PySem.W.notFirst K TC (.ref TC) = true := by
    unfold PySem.W.notFirst
    simp
  have ts := PySem.W.mg_none_of X G Y.b_sum
  have tstr := PySem.W.mg_none_of X G Y.b_str
  have tbool := PySem.W.mg_none_of X G Y.b_bool
  have rd : CRead K C (.type "type") := ⟨Y.rdm, Y.ga⟩
  have rdT : CRead K TC (.type "type") := ⟨Y.Trdm, Y.Tga⟩
  have b0 := F0.binds (ps := ["value"]) fun _ _ _ _ _ _ us hl => match us, hl with | [_], _ => rfl
  have b1 := F1.binds (ps := ["value", "many"]) fun _ _ _ _ _ _ us hl => match us, hl with | [_, _], _ => rfl
  have b2 := F2.binds (ps := ["value", "many"]) fun _ _ _ _ _ _ us hl => match us, hl with | [_, _], _ => rfl
  have b3 := F3.binds (ps := ["values"]) fun _ _ _ _ _ _ us hl => match us, hl with | [_], _ => rfl
  have b4 := F4.binds (ps := ["value"]) fun _ _ _ _ _ _ us hl => match us, hl with | [_], _ => rfl
  have b5 := F5.binds (ps := ["columns", "row"]) fun _ _ _ _ _ _ us hl => match us, hl with | [_, _], _ => rfl
  have b6 := F6.binds (ps := ["value"]) fun _ _ _ _ _ _ us hl => match us, hl with | [_], _ => rfl
  have b7 := F7.binds (ps := ["value"]) fun _ _ _ _ _ _ us hl => match us, hl with | [_], _ => rfl
  have b8 := F8.binds (ps := ["right", "wrong"]) fun _ _ _ _ _ _ us hl => match us, hl with | [_, _], _ => rfl
  have b9 := F9.binds (ps := ["numbers"]) fun _ _ _ _ _ _ us hl => match us, hl with | [_], _ => rfl
  have b10 := F10.binds (ps := ["over", "under"]) fun _ _ _ _ _ _ us hl => match us, hl with | [_, _], _ => rfl
  have b11 := F11.binds (ps := ["_law_script", "_law_at"]) fun _ _ _ _ _ _ us hl => match us, hl with | [_, _], _ => rfl
  have b12 := F12.binds (ps := ["_law_dice_here", "_law_total_here"]) fun _ _ _ _ _ _ us hl => match us, hl with | [_, _], _ => rfl
  have b13 := F13.binds (ps := ["_law_dice_here", "_law_items"]) fun _ _ _ _ _ _ us hl => match us, hl with | [_, _], _ => rfl
  have b14 := F14.binds (ps := ["_law_dice_here", "_law_total_here"]) fun _ _ _ _ _ _ us hl => match us, hl with | [_, _], _ => rfl
  have b15 := F15.binds (ps := ["_law_dice_here", "_law_columns_here", "_law_total_here"]) fun _ _ _ _ _ _ us hl => match us, hl with | [_, _, _], _ => rfl
  have b16 := F16.binds (ps := ["_law_dice_here"]) fun _ _ _ _ _ _ us hl => match us, hl with | [_], _ => rfl
  have b17 := F17.binds (ps := ["_law_top", "_law_bottom"]) fun _ _ _ _ _ _ us hl => match us, hl with | [_, _], _ => rfl
  have b18 := F18.binds (ps := ["_law_dice_here", "_law_measure"]) fun _ _ _ _ _ _ us hl => match us, hl with | [_, _], _ => rfl
  have b19 := F19.binds (ps := ["_law_dice_here", "_law_measure", "_law_total_here"]) fun _ _ _ _ _ _ us hl => match us, hl with | [_, _, _], _ => rfl
  have b20 := F20.binds (ps := ["_law_kind"]) fun _ _ _ _ _ _ us hl => match us, hl with | [_], _ => rfl
  have b21 := F21.binds (ps := ["_law_dice_here", "_law_most"]) fun _ _ _ _ _ _ us hl => match us, hl with | [_, _], _ => rfl
  have b22 := F22.binds (ps := ["_law_drawn_here"]) fun _ _ _ _ _ _ us hl => match us, hl with | [_], _ => rfl
  have b23 := F23.binds (ps := ["_law_measure"]) fun _ _ _ _ _ _ us hl => match us, hl with | [_], _ => rfl
  have b24 := F24.binds (ps := ["_law_measure", "_law_one", "_law_other"]) fun _ _ _ _ _ _ us hl => match us, hl with | [_, _, _], _ => rfl
  have b25 := F25.binds (ps := ["_law_measure", "_law_amounts"]) fun _ _ _ _ _ _ us hl => match us, hl with | [_, _], _ => rfl
  have b26 := F26.binds (ps := ["_law_columns_here", "_law_row", "_law_other"]) fun _ _ _ _ _ _ us hl => match us, hl with | [_, _, _], _ => rfl
  have b27 := F27.binds (ps := ["_law_table"]) fun _ _ _ _ _ _ us hl => match us, hl with | [_], _ => rfl
  have b28 := F28.binds (ps := ["_law_drawn_here"]) fun _ _ _ _ _ _ us hl => match us, hl with | [_], _ => rfl
  have b29 := F29.binds (ps := ["_law_drawn_here"]) fun _ _ _ _ _ _ us hl => match us, hl with | [_], _ => rfl
  have b30 := F30.binds (ps := ["_law_dice_here", "_law_drawn_here"]) fun _ _ _ _ _ _ us hl => match us, hl with | [_, _], _ => rfl
  have b31 := F31.binds (ps := ["_law_dice_here", "_law_drawn_here"]) fun _ _ _ _ _ _ us hl => match us, hl with | [_, _], _ => rfl
  have mb0 := mF0.binds (ps := ["self", "word", "size"]) fun _ _ _ _ _ _ us hl => match us, hl with | [_, _, _], _ => rfl
  have mb1 := mF1.binds (ps := ["self", "value"]) fun _ _ _ _ _ _ us hl => match us, hl with | [_, _], _ => rfl
  have mb2 := mF2.binds (ps := ["self", "value"]) fun _ _ _ _ _ _ us hl => match us, hl with | [_, _], _ => rfl
  have mb3 := mF3.binds (ps := ["self", "other"]) fun _ _ _ _ _ _ us hl => match us, hl with | [_, _], _ => rfl
  have mb4 := mF4.binds (ps := ["self", "amounts"]) fun _ _ _ _ _ _ us hl => match us, hl with | [_, _], _ => rfl
  have mb5 := mF5.binds (ps := ["self", "amounts"]) fun _ _ _ _ _ _ us hl => match us, hl with | [_, _], _ => rfl
  have mb6 := mF6.binds (ps := ["self", "amounts"]) fun _ _ _ _ _ _ us hl => match us, hl with | [_, _], _ => rfl
  have tmb0 := tmF0.binds (ps := ["self"]) fun _ _ _ _ _ _ us hl => match us, hl with | [_], _ => rfl
  have tmb1 := tmF1.binds (ps := ["self", "other"]) fun _ _ _ _ _ _ us hl => match us, hl with | [_, _], _ => rfl
  have tmb3 := tmF3.binds (ps := ["self", "indices"]) fun _ _ _ _ _ _ us hl => match us, hl with | [_, _], _ => rfl
  have tmb4 := tmF4.binds (ps := ["self", "rows", "weights"]) fun _ _ _ _ _ _ us hl => match us, hl with | [_, _, _], _ => rfl
  have tmb5 := tmF5.binds (ps := ["self", "indices"]) fun _ _ _ _ _ _ us hl => match us, hl with | [_, _], _ => rfl
  have tmb6 := tmF6.binds (ps := ["self", "index"]) fun _ _ _ _ _ _ us hl => match us, hl with | [_, _], _ => rfl
  have tmb7 := tmF7.binds (ps := ["self", "indices"]) fun _ _ _ _ _ _ us hl => match us, hl with | [_, _], _ => rfl
  have tmb8 := tmF8.binds (ps := ["self", "x"]) fun _ _ _ _ _ _ us hl => match us, hl with | [_, _], _ => rfl
  have tmb9 := tmF9.binds (ps := ["self"]) fun _ _ _ _ _ _ us hl => match us, hl with | [_], _ => rfl
  have tmb10 := tmF10.binds (ps := ["self", "other"]) fun _ _ _ _ _ _ us hl => match us, hl with | [_, _], _ => rfl
  have tmb11 := tmF11.binds (ps := ["self", "index"]) fun _ _ _ _ _ _ us hl => match us, hl with | [_, _], _ => rfl
  have tmb12 := tmF12.binds (ps := ["self", "index", "other"]) fun _ _ _ _ _ _ us hl => match us, hl with | [_, _, _], _ => rfl
  have ab := aF.binds (ps := ["columns", "row", "other"]) fun _ _ _ _ _ _ us hl => match us, hl with | [_, _, _], _ => rfl
  have gb := gF.binds (ps := ["self", "at"]) fun _ _ _ _ _ _ us hl => match us, hl with | [_, _], _ => rfl
  have sb0 := sF0.binds (ps := []) fun _ _ _ _ _ _ us hl => match us, hl with | [], _ => rfl
  have sb1 := sF1.binds (ps := ["size"]) fun _ _ _ _ _ _ us hl => match us, hl with | [_], _ => rfl
  have sb2 := sF2.binds (ps := []) fun _ _ _ _ _ _ us hl => match us, hl with | [], _ => rfl
  have pb0 := pF0.binds (ps := ["self"]) fun _ _ _ _ _ _ us hl => match us, hl with | [_], _ => rfl
  have pb1 := pF1.binds (ps := ["self"]) fun _ _ _ _ _ _ us hl => match us, hl with | [_], _ => rfl
  have tpb0 := tpF0.binds (ps := ["self"]) fun _ _ _ _ _ _ us hl => match us, hl with | [_], _ => rfl
  have tpb1 := tpF1.binds (ps := ["self"]) fun _ _ _ _ _ _ us hl => match us, hl with | [_], _ => rfl
  have tpb2 := tpF2.binds (ps := ["self"]) fun _ _ _ _ _ _ us hl => match us, hl with | [_], _ => rfl
  have tpb3 := tpF3.binds (ps := ["self"]) fun _ _ _ _ _ _ us hl => match us, hl with | [_], _ => rfl
  have tpb4 := tpF4.binds (ps := ["self"]) fun _ _ _ _ _ _ us hl => match us, hl with | [_], _ => rfl
  obtain rfl : f32 = fa := Value.ref.inj (Option.some.inj (g32.symm.trans hfa))
  refine ⟨e32, fun s v => ?_, fun base KB NB => ?_⟩
  · obtain ⟨_, _, _, _, _, _, _, _, _, rfl, _, _⟩ := F32.ex
    exact .of_eq rfl
  let Wh : Df P w K mg base 1 "is_whole" ["value"] (spWhole K) := ⟨f0, e0, ok_whole F0 T, g0, F0.kp, b0⟩
  let Ws : Df P w K mg base 2 "are_whole" ["value", "many"] (spWholes K) := ⟨f1, e1, ok_wholes F1 T Wh, g1, F1.kp, b1⟩
  let WsR : Df P w K mg base 2 "are_whole" ["value", "many"] spWholesR := ⟨f1, e1, wholesR_of Ws.G, g1, F1.kp, b1⟩
  let In : Df P w K mg base 2 "is_index" ["value", "many"] spIndex := ⟨f2, e2, ok_index F2 T Wh, g2, F2.kp, b2⟩
  let As : Df P w K mg base 1 "is_ascending" ["values"] spAsc := ⟨f3, e3, ok_asc F3 T, g3, F3.kp, b3⟩
  let Nm : Df P w K mg base 1 "is_name" ["value"] spName := ⟨f4, e4, ok_name F4 T Cs0, g4, F4.kp, b4⟩
  let Ic : DfK P w K mg base 3 "is_columns" ["value", "least"] spIsCols := ⟨df0, de0, ok_isCols DF0 T Cs0 In Nm As, dg0, DF0.kp⟩
  let Ck : DfK P w K mg base 4 "check_columns" ["columns", "least"] spChkC := ⟨df1, de1, ok_chkC DF1 Ic (kbn_isCols DF0), dg1, DF1.kp⟩
  have kb : KBn K Ck.fd ["columns", "least"] 1 ["least"] (fun us ws => us ++ ws) (fun vs zs => vs ++ zs) := kbn_chkC DF1
  let Ckr : Df P w K mg base 3 "check_row" ["columns", "row"] spChkR := ⟨f5, e5, ok_chkR F5 T WsR, g5, F5.kp, b5⟩
  let Pa : Df P w K mg base 2 "_is_part" ["value"] (spPart K) := ⟨f6, e6, ok_part F6 Wh, g6, F6.kp, b6⟩
  let Lw : Df P w K mg base 3 "_is_lowest" ["value"] (spLowest K) := ⟨f7, e7, ok_lowest F7 hg Ws, g7, F7.kp, b7⟩
  let Ao : Df P w K mg base 1 "_are_odds" ["right", "wrong"] spAreOdds := ⟨f8, e8, ok_areOdds F8 mo, g8, F8.kp, b8⟩
  let ScD : SclD P w K mg base C := ⟨Zk, mf0, me0, ok_init mF0 Zk, ⟨Y.mk_, mh0.at_, mh0.isf, Y.kc⟩, gC, mb0⟩
  let Ze : Dp1 P w K mg base C 1 "zero" (spZero C) := ⟨pp0, pf0, pe0, ok_zero pF0 Zk, ph0.pr, pb0⟩
  let Oe : Dp1 P w K mg base C 1 "one" (spOne C) := ⟨pp1, pf1, pe1, ok_one pF1 Zk, ph1.pr, pb1⟩
  let Ia : Dm P w K mg base C 4 "is_amount" ["self", "value"] (spIsAmt K C) := ⟨mf2, me2, ok_isAmt mF2 Zk Wh Ws Lw, ⟨mh2.at_, mh2.isf, mF2.kp⟩, mb2⟩
  let IaR : Dm P w K mg base C 4 "is_amount" ["self", "value"] (spAmtR C) := ⟨mf2, me2, amtR_of Ia.G, ⟨mh2.at_, mh2.isf, mF2.kp⟩, mb2⟩
  let Iw : Dm P w K mg base C 4 "is_weight" ["self", "value"] (spIsWgt K C) := ⟨mf1, me1, ok_isWgt mF1 Zk T Pa Ao Ws Lw Ze, ⟨mh1.at_, mh1.isf, mF1.kp⟩, mb1⟩
  let Eq : Do1 P w K mg base C 1 "__eq__" ["self", "other"] (spEqM K C) := ⟨mf3, me3, ok_eqM mF3 Zk T Zt gC Y.kcc kn, ⟨mh3.at_, mh3.isf⟩, mb3⟩
  let Ti : Df P w K mg base 1 "_times" ["numbers"] (spTimes K) := ⟨f9, e9, ok_times F9, g9, F9.kp, b9⟩
  let Lp : Df P w K mg base 1 "_lowest" ["over", "under"] spLowP := ⟨f10, e10, ok_lowP F10 hg, g10, F10.kp, b10⟩
  let Ca : Dm P w K mg base C 5 "_check_all" ["self", "amounts"] (spChkAll C) := ⟨mf5, me5, ok_chkAll mF5 Zk T IaR, ⟨mh5.at_, mh5.isf, mF5.kp⟩, mb5⟩
  let Su : Dm P w K mg base C 2 "_sum" ["self", "amounts"] (spSum C) := ⟨mf6, me6, ok_sum mF6 Zk T ts Ti Lp, ⟨mh6.at_, mh6.isf, mF6.kp⟩, mb6⟩
  let Pl : Dm P w K mg base C 6 "plus_all" ["self", "amounts"] (spPlusAll C) := ⟨mf4, me4, ok_plusAll mF4 Zk Ca Su, ⟨mh4.at_, mh4.isf, mF4.kp⟩, mb4⟩
  let Ss : Sm P w K mg base C (.type "type") 3 "sums" [] (spNew C .sums) := ⟨sp0, sf0, se0, ok_sums sF0 ScD, sh0.sm, sb0⟩
  let Cs : Sm P w K mg base C (.type "type") 3 "classes" ["size"] (spClasses C) := ⟨sp1, sf1, se1, ok_classes sF1 ScD In ms, sh1.sm, sb1⟩
  let Os : Sm P w K mg base C (.type "type") 3 "odds" [] (spNew C .odds) := ⟨sp2, sf2, se2, ok_oddsM sF2 ScD, sh2.sm, sb2⟩
  have It : InitT P w K mg base C TC (.type "type") := ⟨T, Zk, Zt, Y.kcc, Yk, Y.nCT, gC, rd, rl⟩
  have FiSW := ok_mkSW tdF0 It Ck kb Ckr Ss Oe Iw Pl
  have FiWS := ok_mkWS tdF0 It Ck kb Ckr Ss Oe Iw Pl
  have Fi0 := ok_mk0 tdF0 It Ck kb Ckr Ss Oe Iw Pl
  have Mt : Mk K TC tdf0 := ⟨Y.Tmk_, tdh0.at_, tdh0.isf, Y.Tkc⟩
  have Gof := ok_of cF T Mt FiSW Ck kb
  let Of : OfD P w K mg base C TC (.type "type") := ⟨cp, cf, okK_of cF Gof, okS_of cF Gof, ok0_of cF Gof, ch.cm, gT, rdT⟩
  let Mt2 : MkT P w K mg base C TC := ⟨tdf0, Mt, FiWS, Fi0⟩
  obtain ⟨cds, cvals, cbs⟩ := bind_chkC DF1
  let Cc : DfC P w K mg base := ⟨df1, de1, cds, Ck.G, dg1, DF1.kp, cbs, cvals⟩
  let Agd : Df P w K mg base 5 "agreement_rows" ["columns", "row", "other"] spAgr := ⟨af, ae, ok_agr aF T Cc Ckr, ag, aF.kp, ab⟩
  let Es : EqS P w K mg base C := ⟨Eq, Y.Chne, Y.Cho, nfC⟩
  let Cg : Dm P w K mg base TC 10 "_changed" ["self", "rows", "weights"] (spChg C TC) := ⟨tmf4, tme4, ok_chg tmF4 Yk Of, ⟨tmh4.at_, tmh4.isf, tmF4.kp⟩, tmb4⟩
  let Cki : Dm P w K mg base TC 3 "_check_index" ["self", "index"] (spCki C TC) := ⟨tmf6, tme6, ok_cki tmF6 T Yk In, ⟨tmh6.at_, tmh6.isf, tmF6.kp⟩, tmb6⟩
  let Cks : Dm P w K mg base TC 4 "_check_indices" ["self", "indices"] (spCks C TC) := ⟨tmf7, tme7, ok_cks tmF7 T Yk Cki, ⟨tmh7.at_, tmh7.isf, tmF7.kp⟩, tmb7⟩
  let PiL : Dm P w K mg base TC 11 "_picked" ["self", "indices"] (spPickd (fun H l xs => H l = some (.lst xs)) C TC) := ⟨tmf5, tme5, ok_pickL tmF5 T Yk Cg, ⟨tmh5.at_, tmh5.isf, tmF5.kp⟩, tmb5⟩
  let Oa : Dm P w K mg base TC 12 "only_all" ["self", "indices"] (spSel keptI C TC) := ⟨tmf3, tme3, ok_onAll tmF3 T Yk Cks PiL, ⟨tmh3.at_, tmh3.isf, tmF3.kp⟩, tmb3⟩
  let On : DmR P w K mg base TC 13 "only" (spSelR keptI C TC) := ⟨tmf2, ok_on tmF2 Yk Oa, ⟨tmh2.at_, tmh2.isf, tmF2.kp⟩⟩
  let Tcs : Dp1 P w K mg base TC 1 "columns" (spTCols C TC) := ⟨tpp0, tpf0, tpe0, ok_tCols tpF0 Yk, tph0.pr, tpb0⟩
  let Tr : Dp1 P w K mg base TC 1 "rows" (spTRows C TC) := ⟨tpp1, tpf1, tpe1, ok_tRows tpF1 Yk, tph1.pr, tpb1⟩
  let Tw : Dp1 P w K mg base TC 1 "weights" (spTWts C TC) := ⟨tpp2, tpf2, tpe2, ok_tWts tpF2 Yk, tph2.pr, tpb2⟩
  let Tsc : Dp1 P w K mg base TC 1 "scale" (spTScl C TC) := ⟨tpp3, tpf3, tpe3, ok_tScl tpF3 Yk, tph3.pr, tpb3⟩
  let Tt : Dp1 P w K mg base TC 1 "total" (spTTot C TC) := ⟨tpp4, tpf4, tpe4, ok_tTot tpF4 Yk, tph4.pr, tpb4⟩
  let Tl : Do1 P w K mg base TC 1 "__len__" ["self"] (spTLen C TC) := ⟨tmf0, tme0, ok_tLen tmF0 T Yk, ⟨tmh0.at_, tmh0.isf⟩, tmb0⟩
  let Teq : Do1 P w K mg base TC 2 "__eq__" ["self", "other"] (spTEq K C TC) := ⟨tmf1, tme1, ok_tEq tmF1 T Yk Yt gT Y.Tkcc knT nfC Eq, ⟨tmh1.at_, tmh1.isf⟩, tmb1⟩
  let Te : TabEq P w K mg base C TC := ⟨Teq, Y.Thne, Y.Tho, nfT⟩
  let Thas : Do1 P w K mg base TC 4 "__contains__" ["self", "x"] (spTHas K C TC) := ⟨tmf8, tme8, ok_tHas tmF8 Yk Y.nst Teq, ⟨tmh8.at_, tmh8.isf⟩, tmb8⟩
  let Tstr : Do1 P w K mg base TC 1 "__str__" ["self"] (spTStr C TC) := ⟨tmf9, tme9, ok_tStr tmF9 T Yk, ⟨tmh9.at_, tmh9.isf⟩, tmb9⟩
  let Tor : Do1 P w K mg base TC 11 "__or__" ["self", "other"] (spTOr C TC) := ⟨tmf10, tme10, ok_tOr tmF10 T Yk Yt gT Y.Tkcc Es Cg, ⟨tmh10.at_, tmh10.isf⟩, tmb10⟩
  let Twg : Dm P w K mg base TC 4 "weight" ["self", "index"] (spTWgt C TC) := ⟨tmf11, tme11, ok_tWgt tmF11 Yk Cki, ⟨tmh11.at_, tmh11.isf, tmF11.kp⟩, tmb11⟩
  let Tag : Dm P w K mg base TC 6 "agreement" ["self", "index", "other"] (spTAgr C TC) := ⟨tmf12, tme12, ok_tAgr tmF12 Yk Cki Agd, ⟨tmh12.at_, tmh12.isf, tmF12.kp⟩, tmb12⟩
  let Tget : Do1 P w K mg base TC 4 "__getitem__" ["self", "at"] (spTGet C TC) := ⟨gf, ge, ok_tGet gF Yk Cki, ⟨gh.at_, gh.isf⟩, gb⟩
  let TMx : TM P w K mg base C TC := ⟨Tcs, Tr, Tw, Tsc, Tt, Tl, Tstr, Tget, gfi, Y.nob, Twg⟩
  let Dd : Dc P w K mg base := ⟨f12, e12, ok_pull F12 T, g12, F12.kp, b12⟩
  let Di : DfG P w K mg base 1 "_law_dice" ["_law_script", "_law_at"] (spDice K) := ⟨f11, e11, ok_dice F11 T, g11, F11.kp, b11⟩
  let Pk : DfG P w K mg base 2 "_law_pick" ["_law_dice_here", "_law_items"] spPick := ⟨f13, e13, ok_pick F13 T Dd, g13, F13.kp, b13⟩
  let Co : DfG P w K mg base 2 "_law_columns" ["_law_dice_here", "_law_total_here"] spColumns := ⟨f14, e14, ok_columns F14 T Dd, g14, F14.kp, b14⟩
  let Ro : DfG P w K mg base 3 "_law_rows" ["_law_dice_here", "_law_columns_here", "_law_total_here"] spRowsL := ⟨f15, e15, ok_rowsL F15 T Dd Pk, g15, F15.kp, b15⟩
  let Sc : DfG P w K mg base 2 "_law_scale" ["_law_dice_here"] spScaleL := ⟨f16, e16, ok_scaleL F16 Dd, g16, F16.kp, b16⟩
  let Lo : DfG P w K mg base 1 "_law_lowest" ["_law_top", "_law_bottom"] spLowL := ⟨f17, e17, ok_lowL F17 T, g17, F17.kp, b17⟩
  let Wq : DfG P w K mg base 2 "_law_weight" ["_law_dice_here", "_law_measure"] spWgtR := ⟨f18, e18, ok_wgtR F18 T Dd Lo, g18, F18.kp, b18⟩
  let Wl : DfG P w K mg base 3 "_law_weights" ["_law_dice_here", "_law_measure", "_law_total_here"] spWtsL := ⟨f19, e19, ok_wtsL F19 T Pk Wq, g19, F19.kp, b19⟩
  let Md : DfG P w K mg base 4 "_law_scaled" ["_law_kind"] (spMadeL C) := ⟨f20, e20, ok_madeL F20 gC rd Cs Ss Os, g20, F20.kp, b20⟩
  let Dr : DfG P w K mg base 4 "_law_drawn" ["_law_dice_here", "_law_most"] spDrawn := ⟨f21, e21, ok_drawn F21 T Dd Co Sc Ro Wl, g21, F21.kp, b21⟩
  let Tb : DfG P w K mg base 10 "_law_tabled" ["_law_drawn_here"] (spTabled C TC) := ⟨f22, e22, ok_tabled F22 Of Md, g22, F22.kp, b22⟩
  let LoW : DfG P w K mg base 1 "_law_lowest" ["_law_top", "_law_bottom"] spLowW := ⟨f17, e17, ok_lowW F17 T, g17, F17.kp, b17⟩
  let Zq : DfG P w K mg base 1 "_law_zero" ["_law_measure"] spZeroL := ⟨f23, e23, ok_zeroL F23, g23, F23.kp, b23⟩
  let Pq : DfG P w K mg base 2 "_law_plus" ["_law_measure", "_law_one", "_law_other"] spPlusL := ⟨f24, e24, ok_plusL F24 T LoW, g24, F24.kp, b24⟩
  let To : DfG P w K mg base 3 "_law_total" ["_law_measure", "_law_amounts"] spTotalL := ⟨f25, e25, ok_totalL F25 Pq Zq, g25, F25.kp, b25⟩
  let Al : DfG P w K mg base 1 "_law_agreement" ["_law_columns_here", "_law_row", "_law_other"] spAgrL := ⟨f26, e26, ok_agrL F26 T, g26, F26.kp, b26⟩
  let Fa : DfG P w K mg base 8 "_law_facts" ["_law_table"] (spFacts K C TC) := ⟨f27, e27, ok_facts F27 T tstr tbool Yk TMx, g27, F27.kp, b27⟩
  let Du : DfG P w K mg base 4 "_law_due" ["_law_drawn_here"] (spDue K) := ⟨f28, e28, ok_due F28 T tstr To, g28, F28.kp, b28⟩
  let Mr : DfG P w K mg base 14 "_law_made_right" ["_law_drawn_here"] spMadeR := ⟨f29, e29, ok_madeR F29 T Zk Yk gC rd gT Of Md Tb Fa Du TMx Es Ss Oe Te Mt2 On, g29, F29.kp, b29⟩
  let Rr : DfG P w K mg base 11 "_law_rows_right" ["_law_dice_here", "_law_drawn_here"] spRowR := ⟨f30, e30, ok_rowR F30 T Yk Dd Tb Tag Al Thas, g30, F30.kp, b30⟩
  let Sr : DfG P w K mg base 14 "_law_same_right" ["_law_dice_here", "_law_drawn_here"] spSameR := ⟨f31, e31, ok_sameR F31 T tstr Yk nfY Tb Dr Fa Du TMx Te Tor Y.sf, g31, F31.kp, b31⟩
  exact ok_law F32 T Yk gT Of rl ⟨cv0, ⟨_, rfl⟩⟩ Di Dr Mr Rr Sr TMx Tag
end
end Gl
namespace Gl
open PySem PySem.Spec PyProof.Rows L2 ClX
/-- a whole number in a class, read from the class -/
def clsIntB (K : PySem.W.Frag) (C : Addr) (x : Str) (i : Int) : Bool := match PySem.W.findCls K (.ref C) (.type "type") x with
  | some (.val (.int j _)) => decide (j = i)
  | _ => false
theorem clsIntB_ok {K : PySem.W.Frag} {C : Addr} {x : Str} {i : Int} (h : clsIntB K C x i = true) : ∃ t, PySem.W.findCls K (.ref C) (.type "type") x = some (.val (.int i t)) := by
  unfold clsIntB at h
  split at h
  · rename_i j t e
    exact ⟨t, by rw [e, of_decide_eq_true h]⟩
  · exact absurd h (by decide)
def FS0 : List (PySem.W.Frag → Bool) := [fun K => decide (PySem.W.nsIn K mainGlobals "Scale" = some (some (.ref (ga K "Scale")))),
  fun K => decide (PySem.W.nsIn K mainGlobals "Table" = some (some (.ref (ga K "Table")))),
  fun K => decide (PySem.W.nsIn K mainGlobals "is_whole" = some (some (.ref (ga K "is_whole")))),
  fun K => decide (PySem.W.nsIn K mainGlobals "are_whole" = some (some (.ref (ga K "are_whole")))),
  fun K => decide (PySem.W.nsIn K mainGlobals "is_index" = some (some (.ref (ga K "is_index")))),
  fun K => decide (PySem.W.nsIn K mainGlobals "is_ascending" = some (some (.ref (ga K "is_ascending")))),
  fun K => decide (PySem.W.nsIn K mainGlobals "is_name" = some (some (.ref (ga K "is_name")))),
  fun K => decide (PySem.W.nsIn K mainGlobals "check_row" = some (some (.ref (ga K "check_row"))))]
def FS1 : List (PySem.W.Frag → Bool) := [fun K => decide (PySem.W.nsIn K mainGlobals "_is_part" = some (some (.ref (ga K "_is_part")))),
  fun K => decide (PySem.W.nsIn K mainGlobals "_is_lowest" = some (some (.ref (ga K "_is_lowest")))),
  fun K => decide (PySem.W.nsIn K mainGlobals "_are_odds" = some (some (.ref (ga K "_are_odds")))),
  fun K => decide (PySem.W.nsIn K mainGlobals "_times" = some (some (.ref (ga K "_times")))),
  fun K => decide (PySem.W.nsIn K mainGlobals "_lowest" = some (some (.ref (ga K "_lowest")))),
  fun K => decide (PySem.W.nsIn K mainGlobals "_law_dice" = some (some (.ref (ga K "_law_dice")))),
  fun K => decide (PySem.W.nsIn K mainGlobals "_law_pull" = some (some (.ref (ga K "_law_pull")))),
  fun K => decide (PySem.W.nsIn K mainGlobals "_law_pick" = some (some (.ref (ga K "_law_pick"))))]
def FS2 : List (PySem.W.Frag → Bool) := [fun K => decide (PySem.W.nsIn K mainGlobals "_law_columns" = some (some (.ref (ga K "_law_columns")))),
  fun K => decide (PySem.W.nsIn K mainGlobals "_law_rows" = some (some (.ref (ga K "_law_rows")))),
  fun K => decide (PySem.W.nsIn K mainGlobals "_law_scale" = some (some (.ref (ga K "_law_scale")))),
  fun K => decide (PySem.W.nsIn K mainGlobals "_law_lowest" = some (some (.ref (ga K "_law_lowest")))),
  fun K => decide (PySem.W.nsIn K mainGlobals "_law_weight" = some (some (.ref (ga K "_law_weight")))),
  fun K => decide (PySem.W.nsIn K mainGlobals "_law_weights" = some (some (.ref (ga K "_law_weights")))),
  fun K => decide (PySem.W.nsIn K mainGlobals "_law_scaled" = some (some (.ref (ga K "_law_scaled")))),
  fun K => decide (PySem.W.nsIn K mainGlobals "_law_drawn" = some (some (.ref (ga K "_law_drawn"))))]
def FS3 : List (PySem.W.Frag → Bool) := [fun K => decide (PySem.W.nsIn K mainGlobals "_law_tabled" = some (some (.ref (ga K "_law_tabled")))),
  fun K => decide (PySem.W.nsIn K mainGlobals "_law_zero" = some (some (.ref (ga K "_law_zero")))),
  fun K => decide (PySem.W.nsIn K mainGlobals "_law_plus" = some (some (.ref (ga K "_law_plus")))),
  fun K => decide (PySem.W.nsIn K mainGlobals "_law_total" = some (some (.ref (ga K "_law_total")))),
  fun K => decide (PySem.W.nsIn K mainGlobals "_law_agreement" = some (some (.ref (ga K "_law_agreement")))),
  fun K => decide (PySem.W.nsIn K mainGlobals "_law_facts" = some (some (.ref (ga K "_law_facts")))),
  fun K => decide (PySem.W.nsIn K mainGlobals "_law_due" = some (some (.ref (ga K "_law_due")))),
  fun K => decide (PySem.W.nsIn K mainGlobals "_law_made_right" = some (some (.ref (ga K "_law_made_right"))))]
def FS4 : List (PySem.W.Frag → Bool) := [fun K => decide (PySem.W.nsIn K mainGlobals "_law_rows_right" = some (some (.ref (ga K "_law_rows_right")))),
  fun K => decide (PySem.W.nsIn K mainGlobals "_law_same_right" = some (some (.ref (ga K "_law_same_right")))),
  fun K => decide (PySem.W.nsIn K mainGlobals "law" = some (some (.ref (ga K "law")))),
  fun K => decide (PySem.W.nsIn K mainGlobals "is_columns" = some (some (.ref (ga K "is_columns")))),
  fun K => decide (PySem.W.nsIn K mainGlobals "check_columns" = some (some (.ref (ga K "check_columns")))),
  fun K => decide (PySem.W.findIn K (.ref (ga K "Scale")) "__init__" = some (some (.ref (He.ma K (ga K "Scale") "__init__")))),
  fun K => PySem.W.isFn K (.ref (He.ma K (ga K "Scale") "__init__")),
  fun K => decide (PySem.W.findIn K (.ref (ga K "Scale")) "is_weight" = some (some (.ref (He.ma K (ga K "Scale") "is_weight"))))]
def FS5 : List (PySem.W.Frag → Bool) := [fun K => PySem.W.isFn K (.ref (He.ma K (ga K "Scale") "is_weight")),
  fun K => decide (PySem.W.findIn K (.ref (ga K "Scale")) "is_amount" = some (some (.ref (He.ma K (ga K "Scale") "is_amount")))),
  fun K => PySem.W.isFn K (.ref (He.ma K (ga K "Scale") "is_amount")),
  fun K => decide (PySem.W.findIn K (.ref (ga K "Scale")) "__eq__" = some (some (.ref (He.ma K (ga K "Scale") "__eq__")))),
  fun K => PySem.W.isFn K (.ref (He.ma K (ga K "Scale") "__eq__")),
  fun K => decide (PySem.W.findIn K (.ref (ga K "Scale")) "plus_all" = some (some (.ref (He.ma K (ga K "Scale") "plus_all")))),
  fun K => PySem.W.isFn K (.ref (He.ma K (ga K "Scale") "plus_all")),
  fun K => decide (PySem.W.findIn K (.ref (ga K "Scale")) "_check_all" = some (some (.ref (He.ma K (ga K "Scale") "_check_all"))))]
def FS6 : List (PySem.W.Frag → Bool) := [fun K => PySem.W.isFn K (.ref (He.ma K (ga K "Scale") "_check_all")),
  fun K => decide (PySem.W.findIn K (.ref (ga K "Scale")) "_sum" = some (some (.ref (He.ma K (ga K "Scale") "_sum")))),
  fun K => PySem.W.isFn K (.ref (He.ma K (ga K "Scale") "_sum")),
  fun K => decide (PySem.W.findIn K (.ref (ga K "Table")) "__len__" = some (some (.ref (He.ma K (ga K "Table") "__len__")))),
  fun K => PySem.W.isFn K (.ref (He.ma K (ga K "Table") "__len__")),
  fun K => decide (PySem.W.findIn K (.ref (ga K "Table")) "__eq__" = some (some (.ref (He.ma K (ga K "Table") "__eq__")))),
  fun K => PySem.W.isFn K (.ref (He.ma K (ga K "Table") "__eq__")),
  fun K => decide (PySem.W.findIn K (.ref (ga K "Table")) "only" = some (some (.ref (He.ma K (ga K "Table") "only"))))]
def FS7 : List (PySem.W.Frag → Bool) := [fun K => PySem.W.isFn K (.ref (He.ma K (ga K "Table") "only")),
  fun K => decide (PySem.W.findIn K (.ref (ga K "Table")) "only_all" = some (some (.ref (He.ma K (ga K "Table") "only_all")))),
  fun K => PySem.W.isFn K (.ref (He.ma K (ga K "Table") "only_all")),
  fun K => decide (PySem.W.findIn K (.ref (ga K "Table")) "_changed" = some (some (.ref (He.ma K (ga K "Table") "_changed")))),
  fun K => PySem.W.isFn K (.ref (He.ma K (ga K "Table") "_changed")),
  fun K => decide (PySem.W.findIn K (.ref (ga K "Table")) "_picked" = some (some (.ref (He.ma K (ga K "Table") "_picked")))),
  fun K => PySem.W.isFn K (.ref (He.ma K (ga K "Table") "_picked")),
  fun K => decide (PySem.W.findIn K (.ref (ga K "Table")) "_check_index" = some (some (.ref (He.ma K (ga K "Table") "_check_index"))))]
def FS8 : List (PySem.W.Frag → Bool) := [fun K => PySem.W.isFn K (.ref (He.ma K (ga K "Table") "_check_index")),
  fun K => decide (PySem.W.findIn K (.ref (ga K "Table")) "_check_indices" = some (some (.ref (He.ma K (ga K "Table") "_check_indices")))),
  fun K => PySem.W.isFn K (.ref (He.ma K (ga K "Table") "_check_indices")),
  fun K => decide (PySem.W.findIn K (.ref (ga K "Table")) "__contains__" = some (some (.ref (He.ma K (ga K "Table") "__contains__")))),
  fun K => PySem.W.isFn K (.ref (He.ma K (ga K "Table") "__contains__")),
  fun K => decide (PySem.W.findIn K (.ref (ga K "Table")) "__str__" = some (some (.ref (He.ma K (ga K "Table") "__str__")))),
  fun K => PySem.W.isFn K (.ref (He.ma K (ga K "Table") "__str__")),
  fun K => decide (PySem.W.findIn K (.ref (ga K "Table")) "__or__" = some (some (.ref (He.ma K (ga K "Table") "__or__"))))]
def FS9 : List (PySem.W.Frag → Bool) := [fun K => PySem.W.isFn K (.ref (He.ma K (ga K "Table") "__or__")),
  fun K => decide (PySem.W.findIn K (.ref (ga K "Table")) "weight" = some (some (.ref (He.ma K (ga K "Table") "weight")))),
  fun K => PySem.W.isFn K (.ref (He.ma K (ga K "Table") "weight")),
  fun K => decide (PySem.W.findIn K (.ref (ga K "Table")) "agreement" = some (some (.ref (He.ma K (ga K "Table") "agreement")))),
  fun K => PySem.W.isFn K (.ref (He.ma K (ga K "Table") "agreement")),
  fun K => decide (PySem.W.findIn K (.ref (ga K "Table")) "__init__" = some (some (.ref (He.ma K (ga K "Table") "__init__")))),
  fun K => PySem.W.isFn K (.ref (He.ma K (ga K "Table") "__init__")),
  fun K => decide (PySem.W.nsIn K mainGlobals "agreement_rows" = some (some (.ref (ga K "agreement_rows"))))]
def FS10 : List (PySem.W.Frag → Bool) := [fun K => decide (PySem.W.findIn K (.ref (ga K "Table")) "__getitem__" = some (some (.ref (He.ma K (ga K "Table") "__getitem__")))),
  fun K => PySem.W.isFn K (.ref (He.ma K (ga K "Table") "__getitem__")),
  fun K => PySem.W.fnIn K (He.ma K (ga K "Table") "__getitem__"),
  fun K => clsIntB K (ga K "Table") "MOST_ROWS" 200,
  fun K => clsB K "Table" "of" "classmethod.__get__" "classmethod",
  fun K => PySem.W.fnIn K ((Wh.clsm "Table" "of").ad K),
  fun K => clsB K "Scale" "sums" "staticmethod.__get__" "staticmethod",
  fun K => PySem.W.keepIn K (.ref ((Wh.stat "Scale" "sums").ad K))]
def FS11 : List (PySem.W.Frag → Bool) := [fun K => clsB K "Scale" "classes" "staticmethod.__get__" "staticmethod",
  fun K => PySem.W.keepIn K (.ref ((Wh.stat "Scale" "classes").ad K)),
  fun K => clsB K "Scale" "odds" "staticmethod.__get__" "staticmethod",
  fun K => PySem.W.keepIn K (.ref ((Wh.stat "Scale" "odds").ad K)),
  fun K => isPropB K "Scale" "zero",
  fun K => isPropB K "Scale" "one",
  fun K => isPropB K "Table" "columns",
  fun K => isPropB K "Table" "rows"]
def FS12 : List (PySem.W.Frag → Bool) := [fun K => isPropB K "Table" "weights",
  fun K => isPropB K "Table" "scale",
  fun K => isPropB K "Table" "total",
  fun K => decide (PySem.W.nsIn K mainGlobals "len" = some none),
  fun K => decide (PySem.W.nsIn K mainGlobals "int" = some none),
  fun K => decide (PySem.W.nsIn K mainGlobals "abs" = some none),
  fun K => decide (PySem.W.nsIn K mainGlobals "max" = some none),
  fun K => decide (PySem.W.nsIn K mainGlobals "min" = some none)]
def FS13 : List (PySem.W.Frag → Bool) := [fun K => decide (PySem.W.nsIn K mainGlobals "range" = some none),
  fun K => decide (PySem.W.nsIn K mainGlobals "tuple" = some none),
  fun K => decide (PySem.W.nsIn K mainGlobals "list" = some none),
  fun K => decide (PySem.W.nsIn K mainGlobals "repr" = some none),
  fun K => decide (PySem.W.nsIn K mainGlobals "zip" = some none),
  fun K => decide (PySem.W.nsIn K mainGlobals "isinstance" = some none),
  fun K => decide (PySem.W.nsIn K mainGlobals "all" = some none),
  fun K => decide (PySem.W.nsIn K mainGlobals "str" = some none)]
def FS14 : List (PySem.W.Frag → Bool) := [fun K => decide (PySem.W.nsIn K mainGlobals "bool" = some none),
  fun K => decide (PySem.W.nsIn K mainGlobals "sum" = some none),
  fun K => decide (PySem.W.plainGet K (ga K "Scale") Str.empty = true),
  fun K => decide (PySem.W.hasDictIn K (ga K "Scale") = true),
  fun K => decide (PySem.W.plainOver K (ga K "Scale") = true),
  fun K => decide (PySem.W.findIn K (.ref (ga K "Scale")) "__setattr__" = some (some (.builtin "object.__setattr__"))),
  fun K => decide (PySem.W.makesIn K (ga K "Scale") = true),
  fun K => decide (PySem.W.keepIn K (.ref (ga K "Scale")) = true)]
def FS15 : List (PySem.W.Frag → Bool) := [fun K => decide (PySem.W.readsIn K (ga K "Scale") (.type "type") = true),
  fun K => decide (PySem.W.specialIn K (.ref (ga K "Scale")) "__getattribute__" = some (some (.builtin "type.__getattribute__"))),
  fun K => decide (PySem.W.findIn K (.ref (ga K "Scale")) "__class__" = some (some (.builtin "object.__class__"))),
  fun K => decide (PySem.W.mroIn K (ga K "Scale") (.type "object") = some true),
  fun K => decide (PySem.W.kitOne K (.ref (ga K "Scale")) (.type "int") = some false),
  fun K => decide (PySem.W.kitOne K (.ref (ga K "Scale")) (.type "tuple") = some false),
  fun K => decide (PySem.W.kitOne K (.ref (ga K "Scale")) (.ref (ga K "Scale")) = some true),
  fun K => decide (PySem.W.plainGet K (ga K "Table") Str.empty = true)]
def FS16 : List (PySem.W.Frag → Bool) := [fun K => decide (PySem.W.hasDictIn K (ga K "Table") = true),
  fun K => decide (PySem.W.plainOver K (ga K "Table") = true),
  fun K => decide (PySem.W.findIn K (.ref (ga K "Table")) "__setattr__" = some (some (.builtin "object.__setattr__"))),
  fun K => decide (PySem.W.makesIn K (ga K "Table") = true),
  fun K => decide (PySem.W.keepIn K (.ref (ga K "Table")) = true),
  fun K => decide (PySem.W.readsIn K (ga K "Table") (.type "type") = true),
  fun K => decide (PySem.W.specialIn K (.ref (ga K "Table")) "__getattribute__" = some (some (.builtin "type.__getattribute__"))),
  fun K => decide (PySem.W.findIn K (.ref (ga K "Table")) "__class__" = some (some (.builtin "object.__class__")))]
def FS17 : List (PySem.W.Frag → Bool) := [fun K => decide (PySem.W.mroIn K (ga K "Table") (.type "object") = some true),
  fun K => decide (PySem.W.kitOne K (.ref (ga K "Table")) (.type "int") = some false),
  fun K => decide (PySem.W.kitOne K (.ref (ga K "Table")) (.type "tuple") = some false),
  fun K => decide (PySem.W.kitOne K (.ref (ga K "Table")) (.ref (ga K "Table")) = some true),
  fun K => decide (PySem.W.specialIn K (.builtin "object.__class__") "__get__" = some (some (.builtin "getset_descriptor.__get__"))),
  fun K => decide (PySem.W.takesIn K (.builtin "object.__class__") = some true),
  fun K => decide (PySem.W.findIn K (.ref (ga K "Scale")) "_word" = some none),
  fun K => decide (PySem.W.findIn K (.ref (ga K "Scale")) "_size" = some none)]
def FS18 : List (PySem.W.Frag → Bool) := [fun K => decide (PySem.W.findIn K (.ref (ga K "Table")) "_columns" = some none),
  fun K => decide (PySem.W.findIn K (.ref (ga K "Table")) "_rows" = some none),
  fun K => decide (PySem.W.findIn K (.ref (ga K "Table")) "_scale" = some none),
  fun K => decide (PySem.W.findIn K (.ref (ga K "Table")) "_weights" = some none),
  fun K => decide (PySem.W.findIn K (.ref (ga K "Table")) "_total" = some none),
  fun K => decide (PySem.W.nsIn K mainGlobals "gcd" = some (some (.builtin "math.gcd"))),
  fun K => intB K "MAX_SIZE" 4,
  fun K => intB K "MAX_ODDS" 1000000]
def FS19 : List (PySem.W.Frag → Bool) := [fun K => intB K "MAX_ROWS" 200,
  fun K => strB K "LETTERS" abc,
  fun K => intB K "MOST_LETTERS" 8,
  fun K => intB K "MOST_NAMES" 8,
  fun K => decide (PySem.W.kitOne K (.type "NoneType") (.ref (ga K "Scale")) = some false),
  fun K => decide (PySem.W.kitOne K (.type "bool") (.ref (ga K "Scale")) = some false),
  fun K => decide (PySem.W.kitOne K (.type "int") (.ref (ga K "Scale")) = some false),
  fun K => decide (PySem.W.kitOne K (.type "str") (.ref (ga K "Scale")) = some false)]
def FS20 : List (PySem.W.Frag → Bool) := [fun K => decide (PySem.W.kitOne K (.type "list") (.ref (ga K "Scale")) = some false),
  fun K => decide (PySem.W.kitOne K (.type "tuple") (.ref (ga K "Scale")) = some false),
  fun K => decide (PySem.W.kitOne K (.type "dict") (.ref (ga K "Scale")) = some false),
  fun K => decide (PySem.W.findIn K (.ref (ga K "Table")) "__ne__" = some (some (.builtin "object.__ne__"))),
  fun K => decide (PySem.W.subIn K (.ref (ga K "Table")) (.type "object") = some true),
  fun K => decide ((ga K "Scale") ≠ (ga K "Table")),
  fun K => decide (PySem.W.findIn K (.ref (ga K "Scale")) "__ne__" = some (some (.builtin "object.__ne__"))),
  fun K => decide (PySem.W.subIn K (.ref (ga K "Scale")) (.type "object") = some true)]
def FS21 : List (PySem.W.Frag → Bool) := [fun K => decide (PySem.W.subIn K (.ref (ga K "Table")) (.type "tuple") = some false),
  fun K => decide (PySem.W.findIn K (.ref (ga K "Table")) "__bool__" = some none),
  fun K => decide (PySem.W.selfFirst K (ga K "Table") = true),
  fun K => decide (PySem.W.kitOne K (.type "NoneType") (.ref (ga K "Table")) = some false),
  fun K => decide (PySem.W.notFirst K (ga K "Table") (.type "NoneType") = true),
  fun K => decide (PySem.W.kitOne K (.type "bool") (.ref (ga K "Table")) = some false),
  fun K => decide (PySem.W.notFirst K (ga K "Table") (.type "bool") = true),
  fun K => decide (PySem.W.kitOne K (.type "int") (.ref (ga K "Table")) = some false)]
def FS22 : List (PySem.W.Frag → Bool) := [fun K => decide (PySem.W.notFirst K (ga K "Table") (.type "int") = true),
  fun K => decide (PySem.W.kitOne K (.type "str") (.ref (ga K "Table")) = some false),
  fun K => decide (PySem.W.notFirst K (ga K "Table") (.type "str") = true),
  fun K => decide (PySem.W.kitOne K (.type "list") (.ref (ga K "Table")) = some false),
  fun K => decide (PySem.W.notFirst K (ga K "Table") (.type "list") = true),
  fun K => decide (PySem.W.kitOne K (.type "tuple") (.ref (ga K "Table")) = some false),
  fun K => decide (PySem.W.notFirst K (ga K "Table") (.type "tuple") = true),
  fun K => decide (PySem.W.kitOne K (.type "dict") (.ref (ga K "Table")) = some false)]
def FS23 : List (PySem.W.Frag → Bool) := [fun K => decide (PySem.W.notFirst K (ga K "Table") (.type "dict") = true)]
def FS : List (PySem.W.Frag → Bool) := FS0 ++ (FS1 ++ (FS2 ++ (FS3 ++ (FS4 ++ (FS5 ++ (FS6 ++ (FS7 ++ (FS8 ++ (FS9 ++ (FS10 ++ (FS11 ++ (FS12 ++ (FS13 ++ (FS14 ++ (FS15 ++ (FS16 ++ (FS17 ++ (FS18 ++ (FS19 ++ (FS20 ++ (FS21 ++ (FS22 ++ (FS23)))))))))))))))))))))))
def FN0 : List DefY := [{ wh := .glo "is_whole", name := "is_whole", qual := "is_whole", st := sWhole, kwd := [] },
  { wh := .glo "are_whole", name := "are_whole", qual := "are_whole", st := sWholes, kwd := [] },
  { wh := .glo "is_index", name := "is_index", qual := "is_index", st := sIndex, kwd := [] },
  { wh := .glo "is_ascending", name := "is_ascending", qual := "is_ascending", st := sAsc, kwd := [] },
  { wh := .glo "is_name", name := "is_name", qual := "is_name", st := sName, kwd := [] },
  { wh := .glo "check_row", name := "check_row", qual := "check_row", st := sChkR, kwd := [] },
  { wh := .glo "_is_part", name := "_is_part", qual := "_is_part", st := sPart, kwd := [] },
  { wh := .glo "_is_lowest", name := "_is_lowest", qual := "_is_lowest", st := sLowest, kwd := [] }]
def FN1 : List DefY := [{ wh := .glo "_are_odds", name := "_are_odds", qual := "_are_odds", st := sAreOdds, kwd := [] },
  { wh := .glo "_times", name := "_times", qual := "_times", st := sTimes, kwd := [] },
  { wh := .glo "_lowest", name := "_lowest", qual := "_lowest", st := sLowP, kwd := [] },
  { wh := .glo "_law_dice", name := "_law_dice", qual := "_law_dice", st := sDice, kwd := [] },
  { wh := .glo "_law_pull", name := "_law_pull", qual := "_law_pull", st := sPull, kwd := [] },
  { wh := .glo "_law_pick", name := "_law_pick", qual := "_law_pick", st := sPick, kwd := [] },
  { wh := .glo "_law_columns", name := "_law_columns", qual := "_law_columns", st := sColumns, kwd := [] },
  { wh := .glo "_law_rows", name := "_law_rows", qual := "_law_rows", st := sRowsL, kwd := [] }]
def FN2 : List DefY := [{ wh := .glo "_law_scale", name := "_law_scale", qual := "_law_scale", st := sScaleL, kwd := [] },
  { wh := .glo "_law_lowest", name := "_law_lowest", qual := "_law_lowest", st := sLowL, kwd := [] },
  { wh := .glo "_law_weight", name := "_law_weight", qual := "_law_weight", st := sWgtL, kwd := [] },
  { wh := .glo "_law_weights", name := "_law_weights", qual := "_law_weights", st := sWtsL, kwd := [] },
  { wh := .glo "_law_scaled", name := "_law_scaled", qual := "_law_scaled", st := sMadeL, kwd := [] },
  { wh := .glo "_law_drawn", name := "_law_drawn", qual := "_law_drawn", st := sDrawn, kwd := [] },
  { wh := .glo "_law_tabled", name := "_law_tabled", qual := "_law_tabled", st := sTabled, kwd := [] },
  { wh := .glo "_law_zero", name := "_law_zero", qual := "_law_zero", st := sZeroL, kwd := [] }]
def FN3 : List DefY := [{ wh := .glo "_law_plus", name := "_law_plus", qual := "_law_plus", st := sPlusL, kwd := [] },
  { wh := .glo "_law_total", name := "_law_total", qual := "_law_total", st := sTotalL, kwd := [] },
  { wh := .glo "_law_agreement", name := "_law_agreement", qual := "_law_agreement", st := sAgrL, kwd := [] },
  { wh := .glo "_law_facts", name := "_law_facts", qual := "_law_facts", st := sFacts, kwd := [] },
  { wh := .glo "_law_due", name := "_law_due", qual := "_law_due", st := sDue, kwd := [] },
  { wh := .glo "_law_made_right", name := "_law_made_right", qual := "_law_made_right", st := sMadeR, kwd := [] },
  { wh := .glo "_law_rows_right", name := "_law_rows_right", qual := "_law_rows_right", st := sRowR, kwd := [] },
  { wh := .glo "_law_same_right", name := "_law_same_right", qual := "_law_same_right", st := sSameR, kwd := [] }]
def FN4 : List DefY := [{ wh := .glo "law", name := "law", qual := "law", st := sLaw, kwd := [] },
  { wh := .glo "is_columns", name := "is_columns", qual := "is_columns", st := sCols, kwd := [("least", .int 0)] },
  { wh := .glo "check_columns", name := "check_columns", qual := "check_columns", st := sChkC, kwd := [("least", .int 0)] },
  { wh := .met "Scale" "__init__", name := "__init__", qual := "Scale.__init__", st := sInit, kwd := [] },
  { wh := .met "Scale" "is_weight", name := "is_weight", qual := "Scale.is_weight", st := sIsWgt, kwd := [] },
  { wh := .met "Scale" "is_amount", name := "is_amount", qual := "Scale.is_amount", st := sIsAmt, kwd := [] },
  { wh := .met "Scale" "__eq__", name := "__eq__", qual := "Scale.__eq__", st := sEqM, kwd := [] },
  { wh := .met "Scale" "plus_all", name := "plus_all", qual := "Scale.plus_all", st := sPlusAll, kwd := [] }]
def FN5 : List DefY := [{ wh := .met "Scale" "_check_all", name := "_check_all", qual := "Scale._check_all", st := sChkAll, kwd := [] },
  { wh := .met "Scale" "_sum", name := "_sum", qual := "Scale._sum", st := sSum, kwd := [] },
  { wh := .met "Table" "__len__", name := "__len__", qual := "Table.__len__", st := sTLen, kwd := [] },
  { wh := .met "Table" "__eq__", name := "__eq__", qual := "Table.__eq__", st := sTEq, kwd := [] },
  { wh := .met "Table" "only", name := "only", qual := "Table.only", st := sTOnly, kwd := [] },
  { wh := .met "Table" "only_all", name := "only_all", qual := "Table.only_all", st := sTOnlyAll, kwd := [] },
  { wh := .met "Table" "_changed", name := "_changed", qual := "Table._changed", st := sTChg, kwd := [] },
  { wh := .met "Table" "_picked", name := "_picked", qual := "Table._picked", st := sTPick, kwd := [] }]
def FN6 : List DefY := [{ wh := .met "Table" "_check_index", name := "_check_index", qual := "Table._check_index", st := sTCki, kwd := [] },
  { wh := .met "Table" "_check_indices", name := "_check_indices", qual := "Table._check_indices", st := sTCks, kwd := [] },
  { wh := .met "Table" "__contains__", name := "__contains__", qual := "Table.__contains__", st := sTHas, kwd := [] },
  { wh := .met "Table" "__str__", name := "__str__", qual := "Table.__str__", st := sTStr, kwd := [] },
  { wh := .met "Table" "__or__", name := "__or__", qual := "Table.__or__", st := sTOr, kwd := [] },
  { wh := .met "Table" "weight", name := "weight", qual := "Table.weight", st := sTWgt, kwd := [] },
  { wh := .met "Table" "agreement", name := "agreement", qual := "Table.agreement", st := sTAgr, kwd := [] },
  { wh := .met "Table" "__init__", name := "__init__", qual := "Table.__init__", st := sTInit, kwd := [("scale", .non), ("weights", .non)] }]
def FN7 : List DefY := [{ wh := .glo "agreement_rows", name := "agreement", qual := "agreement", st := sAgr, kwd := [] },
  { wh := .met "Table" "__getitem__", name := "__getitem__", qual := "Table.__getitem__", st := sTGet, kwd := [] },
  { wh := .clsm "Table" "of", name := "of", qual := "Table.of", st := sTOf, kwd := [("scale", .non), ("weights", .non)] },
  { wh := .stat "Scale" "sums", name := "sums", qual := "Scale.sums", st := sSums, kwd := [] },
  { wh := .stat "Scale" "classes", name := "classes", qual := "Scale.classes", st := sClasses, kwd := [] },
  { wh := .stat "Scale" "odds", name := "odds", qual := "Scale.odds", st := sOddsM, kwd := [] },
  { wh := .prop "Scale" "zero", name := "zero", qual := "Scale.zero", st := sZero, kwd := [] },
  { wh := .prop "Scale" "one", name := "one", qual := "Scale.one", st := sOne, kwd := [] }]
def FN8 : List DefY := [{ wh := .prop "Table" "columns", name := "columns", qual := "Table.columns", st := sTCols, kwd := [] },
  { wh := .prop "Table" "rows", name := "rows", qual := "Table.rows", st := sTRows, kwd := [] },
  { wh := .prop "Table" "weights", name := "weights", qual := "Table.weights", st := sTWts, kwd := [] },
  { wh := .prop "Table" "scale", name := "scale", qual := "Table.scale", st := sTScl, kwd := [] },
  { wh := .prop "Table" "total", name := "total", qual := "Table.total", st := sTTot, kwd := [] }]
def FN : List DefY := FN0 ++ (FN1 ++ (FN2 ++ (FN3 ++ (FN4 ++ (FN5 ++ (FN6 ++ (FN7 ++ (FN8))))))))
def nms0 : List Str := [⟨#[103, 99, 100]⟩,
  ⟨#[95, 119, 97, 108, 108]⟩,
  ⟨#[95, 95, 110, 97, 109, 101, 95, 95]⟩,
  ⟨#[105, 115, 95, 119, 104, 111, 108, 101]⟩,
  ⟨#[97, 114, 101, 95, 119, 104, 111, 108, 101]⟩,
  ⟨#[105, 115, 95, 105, 110, 100, 101, 120]⟩,
  ⟨#[105, 115, 95, 97, 115, 99, 101, 110, 100, 105, 110, 103]⟩,
  ⟨#[84, 97, 98, 108, 101, 69, 114, 114, 111, 114]⟩,
  ⟨#[73, 110, 118, 97, 108, 105, 100, 67, 111, 108, 117, 109, 110, 115]⟩,
  ⟨#[73, 110, 118, 97, 108, 105, 100, 83, 99, 97, 108, 101]⟩,
  ⟨#[73, 110, 118, 97, 108, 105, 100, 84, 97, 98, 108, 101]⟩,
  ⟨#[73, 110, 118, 97, 108, 105, 100, 79, 112, 101, 114, 97, 116, 105, 111, 110]⟩]
def nms1 : List Str := [⟨#[73, 110, 118, 97, 108, 105, 100, 78, 117, 109, 98, 101, 114]⟩,
  ⟨#[84, 111, 111, 77, 97, 110, 121]⟩,
  ⟨#[76, 69, 84, 84, 69, 82, 83]⟩,
  ⟨#[77, 79, 83, 84, 95, 76, 69, 84, 84, 69, 82, 83]⟩,
  ⟨#[77, 79, 83, 84, 95, 78, 65, 77, 69, 83]⟩,
  ⟨#[105, 115, 95, 110, 97, 109, 101]⟩,
  ⟨#[105, 115, 95, 99, 111, 108, 117, 109, 110, 115]⟩,
  ⟨#[99, 104, 101, 99, 107, 95, 99, 111, 108, 117, 109, 110, 115]⟩,
  ⟨#[99, 104, 101, 99, 107, 95, 114, 111, 119]⟩,
  ⟨#[97, 103, 114, 101, 101, 109, 101, 110, 116]⟩,
  ⟨#[97, 103, 114, 101, 101, 109, 101, 110, 116, 95, 114, 111, 119, 115]⟩,
  ⟨#[77, 65, 88, 95, 83, 73, 90, 69]⟩]
def nms2 : List Str := [⟨#[77, 65, 88, 95, 79, 68, 68, 83]⟩,
  ⟨#[83, 99, 97, 108, 101]⟩,
  ⟨#[95, 105, 115, 95, 112, 97, 114, 116]⟩,
  ⟨#[95, 105, 115, 95, 108, 111, 119, 101, 115, 116]⟩,
  ⟨#[95, 97, 114, 101, 95, 111, 100, 100, 115]⟩,
  ⟨#[95, 116, 105, 109, 101, 115]⟩,
  ⟨#[95, 108, 111, 119, 101, 115, 116]⟩,
  ⟨#[77, 65, 88, 95, 82, 79, 87, 83]⟩,
  ⟨#[84, 97, 98, 108, 101]⟩,
  ⟨#[95, 108, 97, 119, 95, 100, 105, 99, 101]⟩,
  ⟨#[95, 108, 97, 119, 95, 112, 117, 108, 108]⟩,
  ⟨#[95, 108, 97, 119, 95, 112, 105, 99, 107]⟩]
def nms3 : List Str := [⟨#[95, 108, 97, 119, 95, 99, 111, 108, 117, 109, 110, 115]⟩,
  ⟨#[95, 108, 97, 119, 95, 114, 111, 119, 115]⟩,
  ⟨#[95, 108, 97, 119, 95, 115, 99, 97, 108, 101]⟩,
  ⟨#[95, 108, 97, 119, 95, 108, 111, 119, 101, 115, 116]⟩,
  ⟨#[95, 108, 97, 119, 95, 119, 101, 105, 103, 104, 116]⟩,
  ⟨#[95, 108, 97, 119, 95, 119, 101, 105, 103, 104, 116, 115]⟩,
  ⟨#[95, 108, 97, 119, 95, 122, 101, 114, 111]⟩,
  ⟨#[95, 108, 97, 119, 95, 112, 108, 117, 115]⟩,
  ⟨#[95, 108, 97, 119, 95, 116, 111, 116, 97, 108]⟩,
  ⟨#[95, 108, 97, 119, 95, 97, 103, 114, 101, 101, 109, 101, 110, 116]⟩,
  ⟨#[95, 108, 97, 119, 95, 115, 99, 97, 108, 101, 100]⟩,
  ⟨#[95, 108, 97, 119, 95, 100, 114, 97, 119, 110]⟩]
def nms4 : List Str := [⟨#[95, 108, 97, 119, 95, 116, 97, 98, 108, 101, 100]⟩,
  ⟨#[95, 108, 97, 119, 95, 102, 97, 99, 116, 115]⟩,
  ⟨#[95, 108, 97, 119, 95, 100, 117, 101]⟩,
  ⟨#[95, 108, 97, 119, 95, 109, 97, 100, 101, 95, 114, 105, 103, 104, 116]⟩,
  ⟨#[95, 108, 97, 119, 95, 114, 111, 119, 115, 95, 114, 105, 103, 104, 116]⟩,
  ⟨#[95, 108, 97, 119, 95, 115, 97, 109, 101, 95, 114, 105, 103, 104, 116]⟩]
def nms : List Str := nms0 ++ (nms1 ++ (nms2 ++ (nms3 ++ (nms4))))
theorem facts_of {K : PySem.W.Frag} (c : SaysY FS FN K) : Facts K (ga K "Scale") (ga K "Table") where
  aC := c.dec (p := fun K => PySem.W.nsIn K mainGlobals "Scale" = some (some (.ref (ga K "Scale")))) 0 rfl
  aT := c.dec (p := fun K => PySem.W.nsIn K mainGlobals "Table" = some (some (.ref (ga K "Table")))) 1 rfl
  d0 := ⟨_, c.dec (p := fun K => PySem.W.nsIn K mainGlobals "is_whole" = some (some (.ref (ga K "is_whole")))) 2 rfl, (c.ok 0 (d := { wh := .glo "is_whole", name := "is_whole", qual := "is_whole", st := sWhole, kwd := [] }) rfl).elim fun e k => DefY.fun_ e k⟩
  d1 := ⟨_, c.dec (p := fun K => PySem.W.nsIn K mainGlobals "are_whole" = some (some (.ref (ga K "are_whole")))) 3 rfl, (c.ok 1 (d := { wh := .glo "are_whole", name := "are_whole", qual := "are_whole", st := sWholes, kwd := [] }) rfl).elim fun e k => DefY.fun_ e k⟩
  d2 := ⟨_, c.dec (p := fun K => PySem.W.nsIn K mainGlobals "is_index" = some (some (.ref (ga K "is_index")))) 4 rfl, (c.ok 2 (d := { wh := .glo "is_index", name := "is_index", qual := "is_index", st := sIndex, kwd := [] }) rfl).elim fun e k => DefY.fun_ e k⟩
  d3 := ⟨_, c.dec (p := fun K => PySem.W.nsIn K mainGlobals "is_ascending" = some (some (.ref (ga K "is_ascending")))) 5 rfl, (c.ok 3 (d := { wh := .glo "is_ascending", name := "is_ascending", qual := "is_ascending", st := sAsc, kwd := [] }) rfl).elim fun e k => DefY.fun_ e k⟩
  d4 := ⟨_, c.dec (p := fun K => PySem.W.nsIn K mainGlobals "is_name" = some (some (.ref (ga K "is_name")))) 6 rfl, (c.ok 4 (d := { wh := .glo "is_name", name := "is_name", qual := "is_name", st := sName, kwd := [] }) rfl).elim fun e k => DefY.fun_ e k⟩
  d5 := ⟨_, c.dec (p := fun K => PySem.W.nsIn K mainGlobals "check_row" = some (some (.ref (ga K "check_row")))) 7 rfl, (c.ok 5 (d := { wh := .glo "check_row", name := "check_row", qual := "check_row", st := sChkR, kwd := [] }) rfl).elim fun e k => DefY.fun_ e k⟩
  d6 := ⟨_, c.dec (p := fun K => PySem.W.nsIn K mainGlobals "_is_part" = some (some (.ref (ga K "_is_part")))) 8 rfl, (c.ok 6 (d := { wh := .glo "_is_part", name := "_is_part", qual := "_is_part", st := sPart, kwd := [] }) rfl).elim fun e k => DefY.fun_ e k⟩
  d7 := ⟨_, c.dec (p := fun K => PySem.W.nsIn K mainGlobals "_is_lowest" = some (some (.ref (ga K "_is_lowest")))) 9 rfl, (c.ok 7 (d := { wh := .glo "_is_lowest", name := "_is_lowest", qual := "_is_lowest", st := sLowest, kwd := [] }) rfl).elim fun e k => DefY.fun_ e k⟩
  d8 := ⟨_, c.dec (p := fun K => PySem.W.nsIn K mainGlobals "_are_odds" = some (some (.ref (ga K "_are_odds")))) 10 rfl, (c.ok 8 (d := { wh := .glo "_are_odds", name := "_are_odds", qual := "_are_odds", st := sAreOdds, kwd := [] }) rfl).elim fun e k => DefY.fun_ e k⟩
  d9 := ⟨_, c.dec (p := fun K => PySem.W.nsIn K mainGlobals "_times" = some (some (.ref (ga K "_times")))) 11 rfl, (c.ok 9 (d := { wh := .glo "_times", name := "_times", qual := "_times", st := sTimes, kwd := [] }) rfl).elim fun e k => DefY.fun_ e k⟩
  d10 := ⟨_, c.dec (p := fun K => PySem.W.nsIn K mainGlobals "_lowest" = some (some (.ref (ga K "_lowest")))) 12 rfl, (c.ok 10 (d := { wh := .glo "_lowest", name := "_lowest", qual := "_lowest", st := sLowP, kwd := [] }) rfl).elim fun e k => DefY.fun_ e k⟩
  d11 := ⟨_, c.dec (p := fun K => PySem.W.nsIn K mainGlobals "_law_dice" = some (some (.ref (ga K "_law_dice")))) 13 rfl, (c.ok 11 (d := { wh := .glo "_law_dice", name := "_law_dice", qual := "_law_dice", st := sDice, kwd := [] }) rfl).elim fun e k => DefY.fun_ e k⟩
  d12 := ⟨_, c.dec (p := fun K => PySem.W.nsIn K mainGlobals "_law_pull" = some (some (.ref (ga K "_law_pull")))) 14 rfl, (c.ok 12 (d := { wh := .glo "_law_pull", name := "_law_pull", qual := "_law_pull", st := sPull, kwd := [] }) rfl).elim fun e k => DefY.fun_ e k⟩
  d13 := ⟨_, c.dec (p := fun K => PySem.W.nsIn K mainGlobals "_law_pick" = some (some (.ref (ga K "_law_pick")))) 15 rfl, (c.ok 13 (d := { wh := .glo "_law_pick", name := "_law_pick", qual := "_law_pick", st := sPick, kwd := [] }) rfl).elim fun e k => DefY.fun_ e k⟩
  d14 := ⟨_, c.dec (p := fun K => PySem.W.nsIn K mainGlobals "_law_columns" = some (some (.ref (ga K "_law_columns")))) 16 rfl, (c.ok 14 (d := { wh := .glo "_law_columns", name := "_law_columns", qual := "_law_columns", st := sColumns, kwd := [] }) rfl).elim fun e k => DefY.fun_ e k⟩
  d15 := ⟨_, c.dec (p := fun K => PySem.W.nsIn K mainGlobals "_law_rows" = some (some (.ref (ga K "_law_rows")))) 17 rfl, (c.ok 15 (d := { wh := .glo "_law_rows", name := "_law_rows", qual := "_law_rows", st := sRowsL, kwd := [] }) rfl).elim fun e k => DefY.fun_ e k⟩
  d16 := ⟨_, c.dec (p := fun K => PySem.W.nsIn K mainGlobals "_law_scale" = some (some (.ref (ga K "_law_scale")))) 18 rfl, (c.ok 16 (d := { wh := .glo "_law_scale", name := "_law_scale", qual := "_law_scale", st := sScaleL, kwd := [] }) rfl).elim fun e k => DefY.fun_ e k⟩
  d17 := ⟨_, c.dec (p := fun K => PySem.W.nsIn K mainGlobals "_law_lowest" = some (some (.ref (ga K "_law_lowest")))) 19 rfl, (c.ok 17 (d := { wh := .glo "_law_lowest", name := "_law_lowest", qual := "_law_lowest", st := sLowL, kwd := [] }) rfl).elim fun e k => DefY.fun_ e k⟩
  d18 := ⟨_, c.dec (p := fun K => PySem.W.nsIn K mainGlobals "_law_weight" = some (some (.ref (ga K "_law_weight")))) 20 rfl, (c.ok 18 (d := { wh := .glo "_law_weight", name := "_law_weight", qual := "_law_weight", st := sWgtL, kwd := [] }) rfl).elim fun e k => DefY.fun_ e k⟩
  d19 := ⟨_, c.dec (p := fun K => PySem.W.nsIn K mainGlobals "_law_weights" = some (some (.ref (ga K "_law_weights")))) 21 rfl, (c.ok 19 (d := { wh := .glo "_law_weights", name := "_law_weights", qual := "_law_weights", st := sWtsL, kwd := [] }) rfl).elim fun e k => DefY.fun_ e k⟩
  d20 := ⟨_, c.dec (p := fun K => PySem.W.nsIn K mainGlobals "_law_scaled" = some (some (.ref (ga K "_law_scaled")))) 22 rfl, (c.ok 20 (d := { wh := .glo "_law_scaled", name := "_law_scaled", qual := "_law_scaled", st := sMadeL, kwd := [] }) rfl).elim fun e k => DefY.fun_ e k⟩
  d21 := ⟨_, c.dec (p := fun K => PySem.W.nsIn K mainGlobals "_law_drawn" = some (some (.ref (ga K "_law_drawn")))) 23 rfl, (c.ok 21 (d := { wh := .glo "_law_drawn", name := "_law_drawn", qual := "_law_drawn", st := sDrawn, kwd := [] }) rfl).elim fun e k => DefY.fun_ e k⟩
  d22 := ⟨_, c.dec (p := fun K => PySem.W.nsIn K mainGlobals "_law_tabled" = some (some (.ref (ga K "_law_tabled")))) 24 rfl, (c.ok 22 (d := { wh := .glo "_law_tabled", name := "_law_tabled", qual := "_law_tabled", st := sTabled, kwd := [] }) rfl).elim fun e k => DefY.fun_ e k⟩
  d23 := ⟨_, c.dec (p := fun K => PySem.W.nsIn K mainGlobals "_law_zero" = some (some (.ref (ga K "_law_zero")))) 25 rfl, (c.ok 23 (d := { wh := .glo "_law_zero", name := "_law_zero", qual := "_law_zero", st := sZeroL, kwd := [] }) rfl).elim fun e k => DefY.fun_ e k⟩
  d24 := ⟨_, c.dec (p := fun K => PySem.W.nsIn K mainGlobals "_law_plus" = some (some (.ref (ga K "_law_plus")))) 26 rfl, (c.ok 24 (d := { wh := .glo "_law_plus", name := "_law_plus", qual := "_law_plus", st := sPlusL, kwd := [] }) rfl).elim fun e k => DefY.fun_ e k⟩
  d25 := ⟨_, c.dec (p := fun K => PySem.W.nsIn K mainGlobals "_law_total" = some (some (.ref (ga K "_law_total")))) 27 rfl, (c.ok 25 (d := { wh := .glo "_law_total", name := "_law_total", qual := "_law_total", st := sTotalL, kwd := [] }) rfl).elim fun e k => DefY.fun_ e k⟩
  d26 := ⟨_, c.dec (p := fun K => PySem.W.nsIn K mainGlobals "_law_agreement" = some (some (.ref (ga K "_law_agreement")))) 28 rfl, (c.ok 26 (d := { wh := .glo "_law_agreement", name := "_law_agreement", qual := "_law_agreement", st := sAgrL, kwd := [] }) rfl).elim fun e k => DefY.fun_ e k⟩
  d27 := ⟨_, c.dec (p := fun K => PySem.W.nsIn K mainGlobals "_law_facts" = some (some (.ref (ga K "_law_facts")))) 29 rfl, (c.ok 27 (d := { wh := .glo "_law_facts", name := "_law_facts", qual := "_law_facts", st := sFacts, kwd := [] }) rfl).elim fun e k => DefY.fun_ e k⟩
  d28 := ⟨_, c.dec (p := fun K => PySem.W.nsIn K mainGlobals "_law_due" = some (some (.ref (ga K "_law_due")))) 30 rfl, (c.ok 28 (d := { wh := .glo "_law_due", name := "_law_due", qual := "_law_due", st := sDue, kwd := [] }) rfl).elim fun e k => DefY.fun_ e k⟩
  d29 := ⟨_, c.dec (p := fun K => PySem.W.nsIn K mainGlobals "_law_made_right" = some (some (.ref (ga K "_law_made_right")))) 31 rfl, (c.ok 29 (d := { wh := .glo "_law_made_right", name := "_law_made_right", qual := "_law_made_right", st := sMadeR, kwd := [] }) rfl).elim fun e k => DefY.fun_ e k⟩
  d30 := ⟨_, c.dec (p := fun K => PySem.W.nsIn K mainGlobals "_law_rows_right" = some (some (.ref (ga K "_law_rows_right")))) 32 rfl, (c.ok 30 (d := { wh := .glo "_law_rows_right", name := "_law_rows_right", qual := "_law_rows_right", st := sRowR, kwd := [] }) rfl).elim fun e k => DefY.fun_ e k⟩
  d31 := ⟨_, c.dec (p := fun K => PySem.W.nsIn K mainGlobals "_law_same_right" = some (some (.ref (ga K "_law_same_right")))) 33 rfl, (c.ok 31 (d := { wh := .glo "_law_same_right", name := "_law_same_right", qual := "_law_same_right", st := sSameR, kwd := [] }) rfl).elim fun e k => DefY.fun_ e k⟩
  d32 := ⟨_, c.dec (p := fun K => PySem.W.nsIn K mainGlobals "law" = some (some (.ref (ga K "law")))) 34 rfl, (c.ok 32 (d := { wh := .glo "law", name := "law", qual := "law", st := sLaw, kwd := [] }) rfl).elim fun e k => DefY.fun_ e k⟩
  dd0 := ⟨_, c.dec (p := fun K => PySem.W.nsIn K mainGlobals "is_columns" = some (some (.ref (ga K "is_columns")))) 35 rfl, (c.ok 33 (d := { wh := .glo "is_columns", name := "is_columns", qual := "is_columns", st := sCols, kwd := [("least", .int 0)] }) rfl).elim fun e k => DefY.funD e k⟩
  dd1 := ⟨_, c.dec (p := fun K => PySem.W.nsIn K mainGlobals "check_columns" = some (some (.ref (ga K "check_columns")))) 36 rfl, (c.ok 34 (d := { wh := .glo "check_columns", name := "check_columns", qual := "check_columns", st := sChkC, kwd := [("least", .int 0)] }) rfl).elim fun e k => DefY.funD e k⟩
  m0 := ⟨_, c.dec (p := fun K => PySem.W.findIn K (.ref (ga K "Scale")) "__init__" = some (some (.ref (He.ma K (ga K "Scale") "__init__")))) 37 rfl, c.fact 38 (f := fun K => PySem.W.isFn K (.ref (He.ma K (ga K "Scale") "__init__"))) rfl, (c.ok 35 (d := { wh := .met "Scale" "__init__", name := "__init__", qual := "Scale.__init__", st := sInit, kwd := [] }) rfl).elim fun e k => DefY.fun_ e k⟩
  m1 := ⟨_, c.dec (p := fun K => PySem.W.findIn K (.ref (ga K "Scale")) "is_weight" = some (some (.ref (He.ma K (ga K "Scale") "is_weight")))) 39 rfl, c.fact 40 (f := fun K => PySem.W.isFn K (.ref (He.ma K (ga K "Scale") "is_weight"))) rfl, (c.ok 36 (d := { wh := .met "Scale" "is_weight", name := "is_weight", qual := "Scale.is_weight", st := sIsWgt, kwd := [] }) rfl).elim fun e k => DefY.fun_ e k⟩
  m2 := ⟨_, c.dec (p := fun K => PySem.W.findIn K (.ref (ga K "Scale")) "is_amount" = some (some (.ref (He.ma K (ga K "Scale") "is_amount")))) 41 rfl, c.fact 42 (f := fun K => PySem.W.isFn K (.ref (He.ma K (ga K "Scale") "is_amount"))) rfl, (c.ok 37 (d := { wh := .met "Scale" "is_amount", name := "is_amount", qual := "Scale.is_amount", st := sIsAmt, kwd := [] }) rfl).elim fun e k => DefY.fun_ e k⟩
  m3 := ⟨_, c.dec (p := fun K => PySem.W.findIn K (.ref (ga K "Scale")) "__eq__" = some (some (.ref (He.ma K (ga K "Scale") "__eq__")))) 43 rfl, c.fact 44 (f := fun K => PySem.W.isFn K (.ref (He.ma K (ga K "Scale") "__eq__"))) rfl, (c.ok 38 (d := { wh := .met "Scale" "__eq__", name := "__eq__", qual := "Scale.__eq__", st := sEqM, kwd := [] }) rfl).elim fun e k => DefY.fun_ e k⟩
  m4 := ⟨_, c.dec (p := fun K => PySem.W.findIn K (.ref (ga K "Scale")) "plus_all" = some (some (.ref (He.ma K (ga K "Scale") "plus_all")))) 45 rfl, c.fact 46 (f := fun K => PySem.W.isFn K (.ref (He.ma K (ga K "Scale") "plus_all"))) rfl, (c.ok 39 (d := { wh := .met "Scale" "plus_all", name := "plus_all", qual := "Scale.plus_all", st := sPlusAll, kwd := [] }) rfl).elim fun e k => DefY.fun_ e k⟩
  m5 := ⟨_, c.dec (p := fun K => PySem.W.findIn K (.ref (ga K "Scale")) "_check_all" = some (some (.ref (He.ma K (ga K "Scale") "_check_all")))) 47 rfl, c.fact 48 (f := fun K => PySem.W.isFn K (.ref (He.ma K (ga K "Scale") "_check_all"))) rfl, (c.ok 40 (d := { wh := .met "Scale" "_check_all", name := "_check_all", qual := "Scale._check_all", st := sChkAll, kwd := [] }) rfl).elim fun e k => DefY.fun_ e k⟩
  m6 := ⟨_, c.dec (p := fun K => PySem.W.findIn K (.ref (ga K "Scale")) "_sum" = some (some (.ref (He.ma K (ga K "Scale") "_sum")))) 49 rfl, c.fact 50 (f := fun K => PySem.W.isFn K (.ref (He.ma K (ga K "Scale") "_sum"))) rfl, (c.ok 41 (d := { wh := .met "Scale" "_sum", name := "_sum", qual := "Scale._sum", st := sSum, kwd := [] }) rfl).elim fun e k => DefY.fun_ e k⟩
  tm0 := ⟨_, c.dec (p := fun K => PySem.W.findIn K (.ref (ga K "Table")) "__len__" = some (some (.ref (He.ma K (ga K "Table") "__len__")))) 51 rfl, c.fact 52 (f := fun K => PySem.W.isFn K (.ref (He.ma K (ga K "Table") "__len__"))) rfl, (c.ok 42 (d := { wh := .met "Table" "__len__", name := "__len__", qual := "Table.__len__", st := sTLen, kwd := [] }) rfl).elim fun e k => DefY.fun_ e k⟩
  tm1 := ⟨_, c.dec (p := fun K => PySem.W.findIn K (.ref (ga K "Table")) "__eq__" = some (some (.ref (He.ma K (ga K "Table") "__eq__")))) 53 rfl, c.fact 54 (f := fun K => PySem.W.isFn K (.ref (He.ma K (ga K "Table") "__eq__"))) rfl, (c.ok 43 (d := { wh := .met "Table" "__eq__", name := "__eq__", qual := "Table.__eq__", st := sTEq, kwd := [] }) rfl).elim fun e k => DefY.fun_ e k⟩
  tm2 := ⟨_, c.dec (p := fun K => PySem.W.findIn K (.ref (ga K "Table")) "only" = some (some (.ref (He.ma K (ga K "Table") "only")))) 55 rfl, c.fact 56 (f := fun K => PySem.W.isFn K (.ref (He.ma K (ga K "Table") "only"))) rfl, (c.ok 44 (d := { wh := .met "Table" "only", name := "only", qual := "Table.only", st := sTOnly, kwd := [] }) rfl).elim fun e k => DefY.fun_ e k⟩
  tm3 := ⟨_, c.dec (p := fun K => PySem.W.findIn K (.ref (ga K "Table")) "only_all" = some (some (.ref (He.ma K (ga K "Table") "only_all")))) 57 rfl, c.fact 58 (f := fun K => PySem.W.isFn K (.ref (He.ma K (ga K "Table") "only_all"))) rfl, (c.ok 45 (d := { wh := .met "Table" "only_all", name := "only_all", qual := "Table.only_all", st := sTOnlyAll, kwd := [] }) rfl).elim fun e k => DefY.fun_ e k⟩
  tm4 := ⟨_, c.dec (p := fun K => PySem.W.findIn K (.ref (ga K "Table")) "_changed" = some (some (.ref (He.ma K (ga K "Table") "_changed")))) 59 rfl, c.fact 60 (f := fun K => PySem.W.isFn K (.ref (He.ma K (ga K "Table") "_changed"))) rfl, (c.ok 46 (d := { wh := .met "Table" "_changed", name := "_changed", qual := "Table._changed", st := sTChg, kwd := [] }) rfl).elim fun e k => DefY.fun_ e k⟩
  tm5 := ⟨_, c.dec (p := fun K => PySem.W.findIn K (.ref (ga K "Table")) "_picked" = some (some (.ref (He.ma K (ga K "Table") "_picked")))) 61 rfl, c.fact 62 (f := fun K => PySem.W.isFn K (.ref (He.ma K (ga K "Table") "_picked"))) rfl, (c.ok 47 (d := { wh := .met "Table" "_picked", name := "_picked", qual := "Table._picked", st := sTPick, kwd := [] }) rfl).elim fun e k => DefY.fun_ e k⟩
  tm6 := ⟨_, c.dec (p := fun K => PySem.W.findIn K (.ref (ga K "Table")) "_check_index" = some (some (.ref (He.ma K (ga K "Table") "_check_index")))) 63 rfl, c.fact 64 (f := fun K => PySem.W.isFn K (.ref (He.ma K (ga K "Table") "_check_index"))) rfl, (c.ok 48 (d := { wh := .met "Table" "_check_index", name := "_check_index", qual := "Table._check_index", st := sTCki, kwd := [] }) rfl).elim fun e k => DefY.fun_ e k⟩
  tm7 := ⟨_, c.dec (p := fun K => PySem.W.findIn K (.ref (ga K "Table")) "_check_indices" = some (some (.ref (He.ma K (ga K "Table") "_check_indices")))) 65 rfl, c.fact 66 (f := fun K => PySem.W.isFn K (.ref (He.ma K (ga K "Table") "_check_indices"))) rfl, (c.ok 49 (d := { wh := .met "Table" "_check_indices", name := "_check_indices", qual := "Table._check_indices", st := sTCks, kwd := [] }) rfl).elim fun e k => DefY.fun_ e k⟩
  tm8 := ⟨_, c.dec (p := fun K => PySem.W.findIn K (.ref (ga K "Table")) "__contains__" = some (some (.ref (He.ma K (ga K "Table") "__contains__")))) 67 rfl, c.fact 68 (f := fun K => PySem.W.isFn K (.ref (He.ma K (ga K "Table") "__contains__"))) rfl, (c.ok 50 (d := { wh := .met "Table" "__contains__", name := "__contains__", qual := "Table.__contains__", st := sTHas, kwd := [] }) rfl).elim fun e k => DefY.fun_ e k⟩
  tm9 := ⟨_, c.dec (p := fun K => PySem.W.findIn K (.ref (ga K "Table")) "__str__" = some (some (.ref (He.ma K (ga K "Table") "__str__")))) 69 rfl, c.fact 70 (f := fun K => PySem.W.isFn K (.ref (He.ma K (ga K "Table") "__str__"))) rfl, (c.ok 51 (d := { wh := .met "Table" "__str__", name := "__str__", qual := "Table.__str__", st := sTStr, kwd := [] }) rfl).elim fun e k => DefY.fun_ e k⟩
  tm10 := ⟨_, c.dec (p := fun K => PySem.W.findIn K (.ref (ga K "Table")) "__or__" = some (some (.ref (He.ma K (ga K "Table") "__or__")))) 71 rfl, c.fact 72 (f := fun K => PySem.W.isFn K (.ref (He.ma K (ga K "Table") "__or__"))) rfl, (c.ok 52 (d := { wh := .met "Table" "__or__", name := "__or__", qual := "Table.__or__", st := sTOr, kwd := [] }) rfl).elim fun e k => DefY.fun_ e k⟩
  tm11 := ⟨_, c.dec (p := fun K => PySem.W.findIn K (.ref (ga K "Table")) "weight" = some (some (.ref (He.ma K (ga K "Table") "weight")))) 73 rfl, c.fact 74 (f := fun K => PySem.W.isFn K (.ref (He.ma K (ga K "Table") "weight"))) rfl, (c.ok 53 (d := { wh := .met "Table" "weight", name := "weight", qual := "Table.weight", st := sTWgt, kwd := [] }) rfl).elim fun e k => DefY.fun_ e k⟩
  tm12 := ⟨_, c.dec (p := fun K => PySem.W.findIn K (.ref (ga K "Table")) "agreement" = some (some (.ref (He.ma K (ga K "Table") "agreement")))) 75 rfl, c.fact 76 (f := fun K => PySem.W.isFn K (.ref (He.ma K (ga K "Table") "agreement"))) rfl, (c.ok 54 (d := { wh := .met "Table" "agreement", name := "agreement", qual := "Table.agreement", st := sTAgr, kwd := [] }) rfl).elim fun e k => DefY.fun_ e k⟩
  td0 := ⟨_, c.dec (p := fun K => PySem.W.findIn K (.ref (ga K "Table")) "__init__" = some (some (.ref (He.ma K (ga K "Table") "__init__")))) 77 rfl, c.fact 78 (f := fun K => PySem.W.isFn K (.ref (He.ma K (ga K "Table") "__init__"))) rfl, (c.ok 55 (d := { wh := .met "Table" "__init__", name := "__init__", qual := "Table.__init__", st := sTInit, kwd := [("scale", .non), ("weights", .non)] }) rfl).elim fun e k => DefY.funD e k⟩
  da := ⟨_, c.dec (p := fun K => PySem.W.nsIn K mainGlobals "agreement_rows" = some (some (.ref (ga K "agreement_rows")))) 79 rfl, (c.ok 56 (d := { wh := .glo "agreement_rows", name := "agreement", qual := "agreement", st := sAgr, kwd := [] }) rfl).elim fun e k => DefY.fun_ e k⟩
  tg := ⟨_, ⟨c.dec (p := fun K => PySem.W.findIn K (.ref (ga K "Table")) "__getitem__" = some (some (.ref (He.ma K (ga K "Table") "__getitem__")))) 80 rfl, c.fact 81 (f := fun K => PySem.W.isFn K (.ref (He.ma K (ga K "Table") "__getitem__"))) rfl, (c.ok 57 (d := { wh := .met "Table" "__getitem__", name := "__getitem__", qual := "Table.__getitem__", st := sTGet, kwd := [] }) rfl).elim fun e k => DefY.fun_ e k⟩, c.fact 82 (f := fun K => PySem.W.fnIn K (He.ma K (ga K "Table") "__getitem__")) rfl⟩
  cv := clsIntB_ok (c.fact 83 (f := fun K => clsIntB K (ga K "Table") "MOST_ROWS" 200) rfl)
  tc := ⟨_, _, ⟨(clsB_ok (c.fact 84 (f := fun K => clsB K "Table" "of" "classmethod.__get__" "classmethod") rfl)).1, (clsB_ok (c.fact 84 (f := fun K => clsB K "Table" "of" "classmethod.__get__" "classmethod") rfl)).2, c.fact 85 (f := fun K => PySem.W.fnIn K ((Wh.clsm "Table" "of").ad K)) rfl⟩, (c.ok 58 (d := { wh := .clsm "Table" "of", name := "of", qual := "Table.of", st := sTOf, kwd := [("scale", .non), ("weights", .non)] }) rfl).elim fun e k => DefY.funD e k⟩
  s0 := ⟨_, _, ⟨(clsB_ok (c.fact 86 (f := fun K => clsB K "Scale" "sums" "staticmethod.__get__" "staticmethod") rfl)).1, (clsB_ok (c.fact 86 (f := fun K => clsB K "Scale" "sums" "staticmethod.__get__" "staticmethod") rfl)).2, c.fact 87 (f := fun K => PySem.W.keepIn K (.ref ((Wh.stat "Scale" "sums").ad K))) rfl⟩, (c.ok 59 (d := { wh := .stat "Scale" "sums", name := "sums", qual := "Scale.sums", st := sSums, kwd := [] }) rfl).elim fun e k => DefY.fun_ e k⟩
  s1 := ⟨_, _, ⟨(clsB_ok (c.fact 88 (f := fun K => clsB K "Scale" "classes" "staticmethod.__get__" "staticmethod") rfl)).1, (clsB_ok (c.fact 88 (f := fun K => clsB K "Scale" "classes" "staticmethod.__get__" "staticmethod") rfl)).2, c.fact 89 (f := fun K => PySem.W.keepIn K (.ref ((Wh.stat "Scale" "classes").ad K))) rfl⟩, (c.ok 60 (d := { wh := .stat "Scale" "classes", name := "classes", qual := "Scale.classes", st := sClasses, kwd := [] }) rfl).elim fun e k => DefY.fun_ e k⟩
  s2 := ⟨_, _, ⟨(clsB_ok (c.fact 90 (f := fun K => clsB K "Scale" "odds" "staticmethod.__get__" "staticmethod") rfl)).1, (clsB_ok (c.fact 90 (f := fun K => clsB K "Scale" "odds" "staticmethod.__get__" "staticmethod") rfl)).2, c.fact 91 (f := fun K => PySem.W.keepIn K (.ref ((Wh.stat "Scale" "odds").ad K))) rfl⟩, (c.ok 61 (d := { wh := .stat "Scale" "odds", name := "odds", qual := "Scale.odds", st := sOddsM, kwd := [] }) rfl).elim fun e k => DefY.fun_ e k⟩
  p0 := ⟨_, _, isProp (c.fact 92 (f := fun K => isPropB K "Scale" "zero") rfl), (c.ok 62 (d := { wh := .prop "Scale" "zero", name := "zero", qual := "Scale.zero", st := sZero, kwd := [] }) rfl).elim fun e k => DefY.fun_ e k⟩
  p1 := ⟨_, _, isProp (c.fact 93 (f := fun K => isPropB K "Scale" "one") rfl), (c.ok 63 (d := { wh := .prop "Scale" "one", name := "one", qual := "Scale.one", st := sOne, kwd := [] }) rfl).elim fun e k => DefY.fun_ e k⟩
  tp0 := ⟨_, _, isProp (c.fact 94 (f := fun K => isPropB K "Table" "columns") rfl), (c.ok 64 (d := { wh := .prop "Table" "columns", name := "columns", qual := "Table.columns", st := sTCols, kwd := [] }) rfl).elim fun e k => DefY.fun_ e k⟩
  tp1 := ⟨_, _, isProp (c.fact 95 (f := fun K => isPropB K "Table" "rows") rfl), (c.ok 65 (d := { wh := .prop "Table" "rows", name := "rows", qual := "Table.rows", st := sTRows, kwd := [] }) rfl).elim fun e k => DefY.fun_ e k⟩
  tp2 := ⟨_, _, isProp (c.fact 96 (f := fun K => isPropB K "Table" "weights") rfl), (c.ok 66 (d := { wh := .prop "Table" "weights", name := "weights", qual := "Table.weights", st := sTWts, kwd := [] }) rfl).elim fun e k => DefY.fun_ e k⟩
  tp3 := ⟨_, _, isProp (c.fact 97 (f := fun K => isPropB K "Table" "scale") rfl), (c.ok 67 (d := { wh := .prop "Table" "scale", name := "scale", qual := "Table.scale", st := sTScl, kwd := [] }) rfl).elim fun e k => DefY.fun_ e k⟩
  tp4 := ⟨_, _, isProp (c.fact 98 (f := fun K => isPropB K "Table" "total") rfl), (c.ok 68 (d := { wh := .prop "Table" "total", name := "total", qual := "Table.total", st := sTTot, kwd := [] }) rfl).elim fun e k => DefY.fun_ e k⟩
  b_len := c.dec (p := fun K => PySem.W.nsIn K mainGlobals "len" = some none) 99 rfl
  b_int := c.dec (p := fun K => PySem.W.nsIn K mainGlobals "int" = some none) 100 rfl
  b_abs := c.dec (p := fun K => PySem.W.nsIn K mainGlobals "abs" = some none) 101 rfl
  b_max := c.dec (p := fun K => PySem.W.nsIn K mainGlobals "max" = some none) 102 rfl
  b_min := c.dec (p := fun K => PySem.W.nsIn K mainGlobals "min" = some none) 103 rfl
  b_range := c.dec (p := fun K => PySem.W.nsIn K mainGlobals "range" = some none) 104 rfl
  b_tuple := c.dec (p := fun K => PySem.W.nsIn K mainGlobals "tuple" = some none) 105 rfl
  b_list := c.dec (p := fun K => PySem.W.nsIn K mainGlobals "list" = some none) 106 rfl
  b_repr := c.dec (p := fun K => PySem.W.nsIn K mainGlobals "repr" = some none) 107 rfl
  b_zip := c.dec (p := fun K => PySem.W.nsIn K mainGlobals "zip" = some none) 108 rfl
  b_isinstance := c.dec (p := fun K => PySem.W.nsIn K mainGlobals "isinstance" = some none) 109 rfl
  b_all := c.dec (p := fun K => PySem.W.nsIn K mainGlobals "all" = some none) 110 rfl
  b_str := c.dec (p := fun K => PySem.W.nsIn K mainGlobals "str" = some none) 111 rfl
  b_bool := c.dec (p := fun K => PySem.W.nsIn K mainGlobals "bool" = some none) 112 rfl
  b_sum := c.dec (p := fun K => PySem.W.nsIn K mainGlobals "sum" = some none) 113 rfl
  pg := c.dec (p := fun K => PySem.W.plainGet K (ga K "Scale") Str.empty = true) 114 rfl
  hd := c.dec (p := fun K => PySem.W.hasDictIn K (ga K "Scale") = true) 115 rfl
  po := c.dec (p := fun K => PySem.W.plainOver K (ga K "Scale") = true) 116 rfl
  sa := c.dec (p := fun K => PySem.W.findIn K (.ref (ga K "Scale")) "__setattr__" = some (some (.builtin "object.__setattr__"))) 117 rfl
  mk_ := c.dec (p := fun K => PySem.W.makesIn K (ga K "Scale") = true) 118 rfl
  kc := c.dec (p := fun K => PySem.W.keepIn K (.ref (ga K "Scale")) = true) 119 rfl
  rdm := c.dec (p := fun K => PySem.W.readsIn K (ga K "Scale") (.type "type") = true) 120 rfl
  ga := c.dec (p := fun K => PySem.W.specialIn K (.ref (ga K "Scale")) "__getattribute__" = some (some (.builtin "type.__getattribute__"))) 121 rfl
  t1 := c.dec (p := fun K => PySem.W.findIn K (.ref (ga K "Scale")) "__class__" = some (some (.builtin "object.__class__"))) 122 rfl
  t4 := c.dec (p := fun K => PySem.W.mroIn K (ga K "Scale") (.type "object") = some true) 123 rfl
  ki := c.dec (p := fun K => PySem.W.kitOne K (.ref (ga K "Scale")) (.type "int") = some false) 124 rfl
  kt := c.dec (p := fun K => PySem.W.kitOne K (.ref (ga K "Scale")) (.type "tuple") = some false) 125 rfl
  kcc := c.dec (p := fun K => PySem.W.kitOne K (.ref (ga K "Scale")) (.ref (ga K "Scale")) = some true) 126 rfl
  Tpg := c.dec (p := fun K => PySem.W.plainGet K (ga K "Table") Str.empty = true) 127 rfl
  Thd := c.dec (p := fun K => PySem.W.hasDictIn K (ga K "Table") = true) 128 rfl
  Tpo := c.dec (p := fun K => PySem.W.plainOver K (ga K "Table") = true) 129 rfl
  Tsa := c.dec (p := fun K => PySem.W.findIn K (.ref (ga K "Table")) "__setattr__" = some (some (.builtin "object.__setattr__"))) 130 rfl
  Tmk_ := c.dec (p := fun K => PySem.W.makesIn K (ga K "Table") = true) 131 rfl
  Tkc := c.dec (p := fun K => PySem.W.keepIn K (.ref (ga K "Table")) = true) 132 rfl
  Trdm := c.dec (p := fun K => PySem.W.readsIn K (ga K "Table") (.type "type") = true) 133 rfl
  Tga := c.dec (p := fun K => PySem.W.specialIn K (.ref (ga K "Table")) "__getattribute__" = some (some (.builtin "type.__getattribute__"))) 134 rfl
  Tt1 := c.dec (p := fun K => PySem.W.findIn K (.ref (ga K "Table")) "__class__" = some (some (.builtin "object.__class__"))) 135 rfl
  Tt4 := c.dec (p := fun K => PySem.W.mroIn K (ga K "Table") (.type "object") = some true) 136 rfl
  Tki := c.dec (p := fun K => PySem.W.kitOne K (.ref (ga K "Table")) (.type "int") = some false) 137 rfl
  Tkt := c.dec (p := fun K => PySem.W.kitOne K (.ref (ga K "Table")) (.type "tuple") = some false) 138 rfl
  Tkcc := c.dec (p := fun K => PySem.W.kitOne K (.ref (ga K "Table")) (.ref (ga K "Table")) = some true) 139 rfl
  t2 := c.dec (p := fun K => PySem.W.specialIn K (.builtin "object.__class__") "__get__" = some (some (.builtin "getset_descriptor.__get__"))) 140 rfl
  t3 := c.dec (p := fun K => PySem.W.takesIn K (.builtin "object.__class__") = some true) 141 rfl
  n__word := c.dec (p := fun K => PySem.W.findIn K (.ref (ga K "Scale")) "_word" = some none) 142 rfl
  n__size := c.dec (p := fun K => PySem.W.findIn K (.ref (ga K "Scale")) "_size" = some none) 143 rfl
  Tn_columns := c.dec (p := fun K => PySem.W.findIn K (.ref (ga K "Table")) "_columns" = some none) 144 rfl
  Tn_rows := c.dec (p := fun K => PySem.W.findIn K (.ref (ga K "Table")) "_rows" = some none) 145 rfl
  Tn_scale := c.dec (p := fun K => PySem.W.findIn K (.ref (ga K "Table")) "_scale" = some none) 146 rfl
  Tn_weights := c.dec (p := fun K => PySem.W.findIn K (.ref (ga K "Table")) "_weights" = some none) 147 rfl
  Tn_total := c.dec (p := fun K => PySem.W.findIn K (.ref (ga K "Table")) "_total" = some none) 148 rfl
  c_gcd := c.dec (p := fun K => PySem.W.nsIn K mainGlobals "gcd" = some (some (.builtin "math.gcd"))) 149 rfl
  c_MAX_SIZE := intB_ok (c.fact 150 (f := fun K => intB K "MAX_SIZE" 4) rfl)
  c_MAX_ODDS := intB_ok (c.fact 151 (f := fun K => intB K "MAX_ODDS" 1000000) rfl)
  c_MAX_ROWS := intB_ok (c.fact 152 (f := fun K => intB K "MAX_ROWS" 200) rfl)
  c_LETTERS := strB_ok (c.fact 153 (f := fun K => strB K "LETTERS" abc) rfl)
  c_MOST_LETTERS := intB_ok (c.fact 154 (f := fun K => intB K "MOST_LETTERS" 8) rfl)
  c_MOST_NAMES := intB_ok (c.fact 155 (f := fun K => intB K "MOST_NAMES" 8) rfl)
  kn_NoneType := c.dec (p := fun K => PySem.W.kitOne K (.type "NoneType") (.ref (ga K "Scale")) = some false) 156 rfl
  kn_bool := c.dec (p := fun K => PySem.W.kitOne K (.type "bool") (.ref (ga K "Scale")) = some false) 157 rfl
  kn_int := c.dec (p := fun K => PySem.W.kitOne K (.type "int") (.ref (ga K "Scale")) = some false) 158 rfl
  kn_str := c.dec (p := fun K => PySem.W.kitOne K (.type "str") (.ref (ga K "Scale")) = some false) 159 rfl
  kn_list := c.dec (p := fun K => PySem.W.kitOne K (.type "list") (.ref (ga K "Scale")) = some false) 160 rfl
  kn_tuple := c.dec (p := fun K => PySem.W.kitOne K (.type "tuple") (.ref (ga K "Scale")) = some false) 161 rfl
  kn_dict := c.dec (p := fun K => PySem.W.kitOne K (.type "dict") (.ref (ga K "Scale")) = some false) 162 rfl
  Thne := c.dec (p := fun K => PySem.W.findIn K (.ref (ga K "Table")) "__ne__" = some (some (.builtin "object.__ne__"))) 163 rfl
  Tho := c.dec (p := fun K => PySem.W.subIn K (.ref (ga K "Table")) (.type "object") = some true) 164 rfl
  nCT := c.dec (p := fun K => (ga K "Scale") ≠ (ga K "Table")) 165 rfl
  Chne := c.dec (p := fun K => PySem.W.findIn K (.ref (ga K "Scale")) "__ne__" = some (some (.builtin "object.__ne__"))) 166 rfl
  Cho := c.dec (p := fun K => PySem.W.subIn K (.ref (ga K "Scale")) (.type "object") = some true) 167 rfl
  nst := c.dec (p := fun K => PySem.W.subIn K (.ref (ga K "Table")) (.type "tuple") = some false) 168 rfl
  nob := c.dec (p := fun K => PySem.W.findIn K (.ref (ga K "Table")) "__bool__" = some none) 169 rfl
  sf := c.dec (p := fun K => PySem.W.selfFirst K (ga K "Table") = true) 170 rfl
  knT_NoneType := c.dec (p := fun K => PySem.W.kitOne K (.type "NoneType") (.ref (ga K "Table")) = some false) 171 rfl
  nfT_NoneType := c.dec (p := fun K => PySem.W.notFirst K (ga K "Table") (.type "NoneType") = true) 172 rfl
  knT_bool := c.dec (p := fun K => PySem.W.kitOne K (.type "bool") (.ref (ga K "Table")) = some false) 173 rfl
  nfT_bool := c.dec (p := fun K => PySem.W.notFirst K (ga K "Table") (.type "bool") = true) 174 rfl
  knT_int := c.dec (p := fun K => PySem.W.kitOne K (.type "int") (.ref (ga K "Table")) = some false) 175 rfl
  nfT_int := c.dec (p := fun K => PySem.W.notFirst K (ga K "Table") (.type "int") = true) 176 rfl
  knT_str := c.dec (p := fun K => PySem.W.kitOne K (.type "str") (.ref (ga K "Table")) = some false) 177 rfl
  nfT_str := c.dec (p := fun K => PySem.W.notFirst K (ga K "Table") (.type "str") = true) 178 rfl
  knT_list := c.dec (p := fun K => PySem.W.kitOne K (.type "list") (.ref (ga K "Table")) = some false) 179 rfl
  nfT_list := c.dec (p := fun K => PySem.W.notFirst K (ga K "Table") (.type "list") = true) 180 rfl
  knT_tuple := c.dec (p := fun K => PySem.W.kitOne K (.type "tuple") (.ref (ga K "Table")) = some false) 181 rfl
  nfT_tuple := c.dec (p := fun K => PySem.W.notFirst K (ga K "Table") (.type "tuple") = true) 182 rfl
  knT_dict := c.dec (p := fun K => PySem.W.kitOne K (.type "dict") (.ref (ga K "Table")) = some false) 183 rfl
  nfT_dict := c.dec (p := fun K => PySem.W.notFirst K (ga K "Table") (.type "dict") = true) 184 rfl
abbrev RR : PySem.W.OpenRow := PySem.W.OpenLaw.row PySem.Challenge.rw_mostkept_k11_tables_made
abbrev qv : Program := PySem.W.view RR.prog [0, 59]
end Gl
namespace Gl
open PySem PySem.Spec PyProof.Rows L2 ClX
set_option maxHeartbeats 0 in
theorem run (w : World) : HandSHeadRun.RunEqI RR qv (hookY 5 FS FN) (obY 5 FS FN) 8000 nms w := by
  unfold HandSHeadRun.RunEqI
  kernel_rfl
end Gl
open PySem PySem.W PyProof.Rows in
set_option maxHeartbeats 0 in
theorem PySem.Challenge.cw_mostkept_k11_tables_made_holds : PySem.Challenge.rw_mostkept_k11_tables_made.Holds := by
  w_on; o_law
  refine HandSHeadRun.head_imp (r := Gl.RR) (q := Gl.qv) (H := Gl.hookY 5 Gl.FS Gl.FN) (ob := Gl.obY 5 Gl.FS Gl.FN) (M := 8000) (loose := Gl.nms) (d := HandSHeadRun.topDef Gl.RR.prog 59) (kwd := []) (Gl.obY_eq 5 Gl.FS Gl.FN)
    Gl.run (by kernel_rfl) (by kernel_rfl) (by kernel_rfl) (by rfl) (by first | assumption | decide +kernel) (by decide +kernel) ⟨rfl, rfl, rfl, rfl, rfl, by decide +kernel⟩ ?hw ?hc
  case hw => w_witness2
  case hc =>
    refine Gl.walkGE (l := PySem.Challenge.rw_mostkept_k11_tables_made) (n := 63) (k := 15) (x := "_law_script") (sp := Gl.spLaw) rfl (by decide) (by kernel_rfl) ⟨rfl, by decide, by decide⟩ ?F (fun _ _ a ns hl _ hS => ⟨a, ns, rfl, hS, hl, fun _ => rfl⟩)
    intro w mg fa h Y G hmg0
    obtain ⟨K, KX, c⟩ := Y
    have hmg : mg ("law" : PySem.Str) = some (.ref fa) := by
      have e : (HandSHeadRun.topDef Gl.RR.prog 59).name = ("law" : PySem.Str) := by kernel_rfl
      rw [← e]; exact hmg0
    exact ⟨K, KX, Gl.all_law _ (Gl.facts_of c) KX G hmg⟩
