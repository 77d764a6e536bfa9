import PyProof.Rows.All
import Wide.All
import OpenK.AllK
import Wide.FinOn
import HandS.ForMost
import HandS.IsInst
import HandS.Style
import HandS.WideBits
import HandS.RaiseMore
import PyProof.ReprRoads
import PyProof.Rows.ReprR
import HandS.Walk
import HandS.Evl
import HandS.More
import HandS.Star
import HandS.Property
import HandS.ClsMeth
import HandS.SetFor
import HandS.Strs
import KE.GoesEnum
import OpenK.KEqL
import KE.KEqDeep
import HandS.Deep
import KE.GoesZip
import OpenK.KMeth
import HandS.Conv
import HandS.NamedTup0
import PyProof.InstNe
import HandS.FStr
import PyProof.ReprNest
import PyProof.ReprBulk
import PyProof.StrHeap
import KE.KLam
import OpenK.KOps
import OpenK.KMore
import HandS.ListEq
import HandS.ExcValue
import PyProof.TupleOfSeq
import PyProof.Rows.SortShellAny
import HandS.NoneIn
import HandS.MakeKwOnly
import PySem.Challenge.RW_cutshows_k11_whole_partitions_beside_mar
set_option Elab.async false
set_option linter.all false
set_option maxRecDepth 100000
set_option maxHeartbeats 8100000
namespace Jc
open PySem PySem.Spec L2
open PyProof.Rows hiding St

/-! ### the pot of a law: two ints in a list; hidden behind one word, so that a draw leaves the heap as it was -/
def potPhi (p : Addr) : Heap → Prop := fun h => ∃ (a b : Int) (t u : Tok) (n : Nat), 0 ≤ a ∧ 0 ≤ b ∧ b < 2147483587 ∧
  h.get? p = some { cls := .type "list", data := .seq #[.int a t, .int b u] n }
abbrev Pot (H : Hp) (p : Addr) : Prop := H p = some (.ext (potPhi p))
section
variable {X : Cx} {pins : List (Addr × Obj)} {σ : St} {H : Hp} {s : Shared} {p : Addr}
theorem two_le : 2 ≤ sizeLine := by rw [sizeLine_eq]; decide
theorem pot_open (I : Inv X pins σ H s) (h : Pot H p) : ∃ a b : Int, 0 ≤ a ∧ 0 ≤ b ∧ b < 2147483587 ∧ Inv X pins σ (upd H p (.lst [.int a, .int b])) s := by
  obtain ⟨⟨a, b, t, u, n, ha, hb, hb2, hg⟩, _, _⟩ := (show ObjOk X.prog X.w H s.heap p (.ext (potPhi p)) from I.hok p _ h)
  refine ⟨a, b, ha, hb, hb2, ?_⟩
  exact I.write (x := p) (e := p) (h' := s.heap) (t' := s.toks) (by rw [h]; trivial) (.inl rfl) (fun _ _ _ e => e) ⟨_, hg⟩
    ⟨two_le, [.int a t, .int b u], n, .cons ⟨_, rfl⟩ (.cons ⟨_, rfl⟩ .nil), hg⟩
theorem pot_shut (I : Inv X pins σ H s) {a b : Int} (h : H p = some (.lst [.int a, .int b])) (ha : 0 ≤ a) (hb : 0 ≤ b) (hb2 : b < 2147483587) : Inv X pins σ (upd H p (.ext (potPhi p))) s := by
  obtain ⟨_, its, n, r, hg⟩ := (show ObjOk X.prog X.w H s.heap p (.lst [.int a, .int b]) from I.hok p _ h)
  obtain ⟨u1, u2, e, ⟨t, r1⟩, ⟨u, r2⟩⟩ := vals2 r
  subst e r1 r2
  refine I.write (x := p) (e := p) (h' := s.heap) (t' := s.toks) (by rw [h]; trivial) (.inl rfl) (fun _ _ _ e => e) ⟨_, hg⟩ ⟨⟨a, b, t, u, n, ha, hb, hb2, hg⟩, ⟨_, hg⟩, ?_⟩
  rintro h1 h2 ⟨a', b', t', u', n', c1, c2, c3, c4⟩ k
  exact ⟨a', b', t', u', n', c1, c2, c3, k _ c4⟩
end
section
variable {X : Cx}
/-- a block, its pot laid open first -/
theorem pss_pot {body : List Stmt} {t : TS} (h : PSs X body t) : PSs X body (fun D σ H => ∃ p, Pot H p ∧ ∀ a b : Int, 0 ≤ a → 0 ≤ b → b < 2147483587 → t D σ (upd H p (.lst [.int a, .int b]))) := by
  refine ⟨fun pins s σ H D I ht => ?_⟩
  obtain ⟨p, hp, k⟩ := ht
  obtain ⟨a, b, ha, hb, hb2, I2⟩ := pot_open I hp
  exact h.run pins s σ _ D I2 (k a b ha hb hb2)
/-- behind an expression a list of two ints is hidden as a pot -/
theorem pe_pot {e : Expr} {t : TE} (h : PE X e t) : PE X e (fun σ H Q => t σ H fun v H1 => ∃ (p : Addr) (a b : Int), H1 p = some (.lst [.int a, .int b]) ∧ 0 ≤ a ∧ 0 ≤ b ∧ b < 2147483587 ∧ Q v (upd H1 p (.ext (potPhi p)))) := by
  refine ⟨fun pins s σ H Q I ht => ?_⟩
  refine thn (h.run pins s σ H _ I ht) fun u s1 ⟨v, H1, I1, r1, p, a, b, e1, ha, hb, hb2, q⟩ => ?_
  exact ⟨v, _, pot_shut I1 e1 ha hb hb2, r1, q⟩
end

/-! ### a def that is called where no repr is under way -/
structure FnG (P : Program) (w : World) (K : PySem.W.Frag) (mg : Str → Option Value) (base : Heap) (k : Nat) (f : Addr) (fd : FuncData) (ps : List Str) (sp : Sp) : Prop where
  lenG : ∀ vs H Q E, sp vs H Q E → vs.length = ps.length
  runG : ∀ (A : Around) (outer : List Env) (s : Shared) (H : Hp) (args : Args) (us : List Value) (vs : List V) (Q : VK), Room k A → A.guards = some [] →
    Env0 P w K mg base A outer s H → BindsTo s fd args (ps.zip us) → Vals vs us → sp vs H Q E0 → codeAny (model P w) A (.call (.ref f) args) (CR CX0 outer P w H s Q E0) s
section
variable {P : Program} {w : World} {K : PySem.W.Frag} {mg : Str → Option Value} {base : Heap}
theorem FnG.of {k : Nat} {f : Addr} {fd : FuncData} {ps : List Str} {sp : Sp} (F : FnOk P w K mg base CX0 k f fd ps sp) : FnG P w K mg base k f fd ps sp :=
  ⟨F.len, fun A outer s H args us vs Q hr _ e b r h => F.run A outer s H args us vs Q E0 hr e b r h⟩
theorem fnG_of {x qual : Str} {st : Stmt} {f : Addr} {fd : FuncData} {N ps : List Str} {k : Nat} {sp : Sp} (F : Fun K x qual st f fd) (S : FnScope N ps (defScope st)) (len : ∀ vs H Q E, sp vs H Q E → vs.length = ps.length)
    (hkind : ∀ us : List Value, us.length = ps.length → ((ps.zip us).all fun y => (defScope st).names.lookup y.1 == some .local || (defScope st).names.lookup y.1 == some .cell) = true)
    (body : ∀ (cdv : Value) (A : Around) (outer : List Env) (s : Shared) (H : Hp) (vs : List V) (Q : VK), Room k (A.deeper (envOfC qual (defScope st) s.heap.objs.size f cdv)) → A.guards = some [] → sp vs H Q E0 →
      ∃ t, PSs (cxOf CX0 P w K mg base N qual (defScope st) f cdv A outer s H E0).nox (defBody st) t ∧ t { nx := fun _ H' => Q .non H', rt := Q } (start N vs) H) :
    FnG P w K mg base (k + 1) f fd ps sp := by
  obtain ⟨oc, od, kV, doc, pm, an, cdv, ct, osl, rfl, lk, hcd⟩ := F.ex
  refine ⟨len, fun A outer s H args us vs Q hr hg e0 hb r h => ?_⟩
  have hl := len _ _ _ _ h
  have hlu : us.length = ps.length := r.length.symm.trans hl
  have KX : K.In s.heap := e0.mod.kin.keeps fun b o e => (e0.bs b o e).1
  have lim : s.heap.NoLimit := e0.mod.nolimit.keeps fun b o e => (e0.bs b o e).1
  obtain ⟨t, ht, q⟩ := body cdv A outer s H vs Q (hr.deeper _) hg h
  refine Att.call_fn KX lim lk hcd hr.depth hb (hkind us hlu) (fun s1 ic => ?_) S.co S.gen S.kind
  have I : Inv (cxOf CX0 P w K mg base N qual (defScope st) f cdv A outer s H E0) [] (start N vs) H s1 := inv_start S hr.hd e0 hl r ic
  refine wpAny_mono (ht.nox.run [] s1 (start N vs) H _ I q) (fun fl s2 z => ?_) fun _ _ z => z
  match fl, z with
  | .ret u, ⟨v, σ2, H2, J, rv, q2⟩ => exact ⟨v, H2, J.os, J.bare, J.base, J.hok, rv, q2⟩
  | .next, ⟨σ2, H2, J, q2⟩ => exact ⟨.non, H2, J.os, J.bare, J.base, J.hok, rfl, q2⟩
  | .brk, ⟨_, _, _, q2⟩ => exact q2.elim
  | .cont, ⟨_, _, _, q2⟩ => exact q2.elim
end

/-! ### a def of the module as its callers see it -/
structure Own (P : Program) (w : World) (K : PySem.W.Frag) (mg : Str → Option Value) (base : Heap) (x : Str) (k : Nat) (ps : List Str) (sp : Sp) : Prop where
  ex : ∃ (f : Addr) (fd : FuncData), FnG P w K mg base k f fd ps sp ∧ mg x = some (.ref f) ∧ PySem.W.keepIn K (.ref f) = true ∧
    (∀ (s : Shared) (us : List Value), us.length = ps.length → BindsTo s fd ⟨us, []⟩ (ps.zip us)) ∧
    (∀ (s : Shared) (u : Value), ps.length = 1 → BindsTo s fd ⟨[], ps.zip [u]⟩ (ps.zip [u]))
def tOwn (sp : Sp) (t : TA) : TE := fun σ H Q => t σ H fun vs H1 => sp vs H1 Q E0
section
variable {X : Cx} {k j : Nat} {x : Str} {ps : List Str} {sp : Sp} {p pos : Pos} {e : Expr} {es : List Expr} {t : TA} {kws : List Keyword}
theorem run_own {pins : List (Addr × Obj)} {σ : L2.St} {H : Hp} {s : Shared} {Q : VK} {f : Addr} {fd : FuncData} {args : Args} {us : List Value} {vs : List V} (G : FnG X.prog X.w X.K X.mg X.base k f fd ps sp) (hr : Room k X.A) (hq : X.A.guards = some [])
    (I : Inv X pins σ H s) (b : BindsTo s fd args (ps.zip us)) (r : Vals vs us) (h : sp vs H Q E0) : wpAny (model X.prog X.w) X.A (call (.ref f) args.pos args.kw) (EP X pins σ Q) X.xe s := by
  refine wpAny_call (codeAny_mono (G.runG X.A X.stack s H args us vs Q hr hq I.env0 b r h) fun rs s2 z => ?_)
  match rs, z with
  | .ok (.ret u), z => exact I.after z
  | .ok .next, z => exact z.elim
  | .ok .brk, z => exact z.elim
  | .ok .cont, z => exact z.elim
  | .error _, z => exact z.elim
theorem pe_own (c : Own X.prog X.w X.K X.mg X.base x k ps sp) (hr : Room j X.A) (hq : X.A.guards = some []) (hj : k ≤ j) (ha : PA X (e :: es) t) (hg : Gl X x := by rfl) (hdb : (x == ("__debug__" : Str)) = false := by decide)
    (he : starEach (e :: es) X.env = (false, eval e X.env) :: starEach es X.env := by rfl) (hpl : (backTo pos (starEach es X.env)).any (·.1) = false := by rfl) : PE X (.Call (.Name x p) (e :: es) [] pos) (tOwn sp t) := by
  obtain ⟨f, fd, G, hm, hk, hb, _⟩ := c.ex
  refine ⟨fun pins s σ H Q I h => wpAny_Call_Name_kw (ld_glob I hg hm ?_ hdb)⟩
  refine PySem.W.callWith_K (h₀ := X.base) I.ok.mod.kin hk (thn (ha.run pos pins s σ H _ I h) fun us s1 z => ?_) he hpl
  obtain ⟨vs, H1, I1, r, q⟩ := z
  exact ⟨I1.kIn, run_own (args := ⟨us, []⟩) G (hr.mono hj) hq I1 (hb s1 us (r.length.symm.trans (G.lenG _ _ _ _ q))) r q⟩
/-- f(a = e), the one parameter by its name -/
theorem pe_ownK {a : Str} {tk : TA} (c : Own X.prog X.w X.K X.mg X.base x k [a] sp) (hr : Room j X.A) (hq : X.A.guards = some []) (hj : k ≤ j) (hkw : PK X kws tk) (hg : Gl X x := by rfl) (hdb : (x == ("__debug__" : Str)) = false := by decide)
    (hall : (backToKw pos (keywordEach kws X.env)).all (·.1.isSome) = true := by rfl) (hks : (backToKw pos (keywordEach kws X.env)).filterMap (·.1) = [a] := by rfl)
    (hpl : ((backTo pos (starEach [] X.env)).any (·.1) || (backToKw pos (keywordEach kws X.env)).any (·.1.isNone)) = false := by rfl) : PE X (.Call (.Name x p) [] kws pos) (tOwn sp tk) := by
  obtain ⟨f, fd, G, hm, hk, _, hb⟩ := c.ex
  refine ⟨fun pins s σ H Q I h => wpAny_Call_Name_kw (ld_glob I hg hm ?_ hdb)⟩
  refine PySem.W.callWith_KW0 (h₀ := X.base) I.ok.mod.kin hk hall (thn (hkw.run pos pins s σ H _ I h) fun ws s1 z => ?_) hpl
  obtain ⟨vs, H1, I1, r, q⟩ := z
  refine ⟨I1.kIn, ?_⟩
  rw [hks]
  have l1 : vs.length = 1 := G.lenG _ _ _ _ q
  obtain ⟨u, rfl⟩ : ∃ u, ws = [u] := by
    have l2 : ws.length = 1 := r.length.symm.trans l1
    match ws, l2 with
    | [u], _ => exact ⟨u, rfl⟩
  exact run_own (args := ⟨[], [(a, u)]⟩) G (hr.mono hj) hq I1 (hb s1 u rfl) r q
end

/-! ### repr -/
def rRepr (K : PySem.W.Frag) : List V → Hp → VK → Prop := fun xs H Q => ∃ v d, xs = [v] ∧ Dp K H v d ∧ d.showable = true ∧ d.hasDict = false ∧ d.depth ≤ 60 ∧ d.shown.length ≤ sizeLine ∧ Q (.str d.shown) H
theorem call_repr {X : Cx} (hq : X.A.guards = some []) (hu : X.A.units + 64 < cLine) : CallR X (.builtin "repr") (rRepr X.K) := by
  intro pins s σ H xs us Q I r h
  obtain ⟨v, d, rfl, hd, hs, hn, hdep, hsz, q⟩ := h
  obtain ⟨u, rfl, rv⟩ := vals1 r
  have back : ∀ (h2 : Heap) (x : Tok) (tk : Nat), (∀ b o, s.heap.get? b = some o → h2.get? b = some o) → EP X pins σ Q (.str d.shown x) { s with heap := h2, toks := tk } := fun h2 x tk k => ⟨.str d.shown, H, I.kept k, ⟨_, rfl⟩, q⟩
  obtain ⟨as, rd⟩ := Dp.reads I d v u hd rv
  cases hd with
  | non => cases rv; exact P.repr_of_none (back _ _ _ fun _ _ e => e)
  | bl b =>
    cases rv
    have e : PyData.shown (.bool b) = (if b then ("True" : Str) else "False") := by cases b <;> rfl
    rw [e] at back
    exact P.repr_of_bool (by cases b <;> exact back _ _ _ fun _ _ e => e)
  | int i =>
    obtain ⟨t, rfl⟩ := rv
    exact P.repr_of_int (by simpa [PyData.showable] using hs) (back _ _ _ fun _ _ e => e)
  | str z =>
    obtain ⟨t, rfl⟩ := rv
    exact P.repr_of_str (back _ _ _ fun _ _ e => e) hsz
  | lst _ _ =>
    cases rv
    exact repr_of_reads' rd hs (PyData.noDict_hsm hn) hq (by omega) (fun _ _ e => e) (fun h2 x tk k => back h2 x tk k) hsz
  | tup _ _ =>
    cases rv
    exact repr_of_reads' rd hs (PyData.noDict_hsm hn) hq (by omega) (fun _ _ e => e) (fun h2 x tk k => back h2 x tk k) hsz

/-! ### the built-in names that the texts use -/
theorem bo_len : bootBuiltins "len" = some (.builtin "len") := by decide +kernel
theorem bo_abs : bootBuiltins "abs" = some (.builtin "abs") := by decide +kernel
theorem bo_max : bootBuiltins "max" = some (.builtin "max") := by decide +kernel
theorem bo_min : bootBuiltins "min" = some (.builtin "min") := by decide +kernel
theorem bo_divmod : bootBuiltins "divmod" = some (.builtin "divmod") := by decide +kernel
theorem bo_repr : bootBuiltins "repr" = some (.builtin "repr") := by decide +kernel
theorem bo_isinstance : bootBuiltins "isinstance" = some (.builtin "isinstance") := by decide +kernel
theorem bo_all : bootBuiltins "all" = some (.builtin "all") := by decide +kernel
theorem bo_any : bootBuiltins "any" = some (.builtin "any") := by decide +kernel
theorem bo_sum : bootBuiltins "sum" = some (.builtin "sum") := by decide +kernel
theorem bo_sorted : bootBuiltins "sorted" = some (.builtin "sorted") := by decide +kernel
theorem bo_int : bootBuiltins "int" = some (.type "int") := by decide +kernel
theorem bo_str : bootBuiltins "str" = some (.type "str") := by decide +kernel
theorem bo_bool : bootBuiltins "bool" = some (.type "bool") := by decide +kernel
theorem bo_list : bootBuiltins "list" = some (.type "list") := by decide +kernel
theorem bo_tuple : bootBuiltins "tuple" = some (.type "tuple") := by decide +kernel
theorem bo_dict : bootBuiltins "dict" = some (.type "dict") := by decide +kernel
theorem bo_set : bootBuiltins "set" = some (.type "set") := by decide +kernel
theorem bo_range : bootBuiltins "range" = some (.type "range") := by decide +kernel
theorem bo_enumerate : bootBuiltins "enumerate" = some (.type "enumerate") := by decide +kernel
theorem bo_zip : bootBuiltins "zip" = some (.type "zip") := by decide +kernel
theorem bo_reversed : bootBuiltins "reversed" = some (.type "reversed") := by decide +kernel
structure Blt (mg : Str → Option Value) : Prop where
  len : mg "len" = none
  abs : mg "abs" = none
  max : mg "max" = none
  min : mg "min" = none
  divmod : mg "divmod" = none
  repr : mg "repr" = none
  isinstance : mg "isinstance" = none
  all : mg "all" = none
  any : mg "any" = none
  sum : mg "sum" = none
  sorted : mg "sorted" = none
  int : mg "int" = none
  str : mg "str" = none
  bool : mg "bool" = none
  list : mg "list" = none
  tuple : mg "tuple" = none
  dict : mg "dict" = none
  set : mg "set" = none
  range : mg "range" = none
  enumerate : mg "enumerate" = none
  zip : mg "zip" = none
  reversed : mg "reversed" = none

/-! ### the law's own helpers: what they promise -/
def spDraw : Sp := fun vs H Q _ => ∃ (p : Addr) (n : Int), vs = [.ref p, .int n] ∧ Pot H p ∧ 0 < n ∧ n < 1073741824 ∧ ∀ (d : Int) (H2 : Hp), 0 ≤ d → d < n → Same H H2 → Q (.int d) H2
def spPick (K : PySem.W.Frag) : Sp := fun vs H Q _ => ∃ (p l : Addr) (xs : List V), vs = [.ref p, .ref l] ∧ Pot H p ∧ SqL K H l xs ∧ 0 < xs.length ∧ xs.length ≤ 1000 ∧ ∀ (i : Nat) (v : V) (H2 : Hp), xs[i]? = some v → Same H H2 → Q v H2
def spPot (K : PySem.W.Frag) : Sp := fun vs H Q _ => ∃ (a : Addr) (ns : List Int) (k : Nat), vs = [.ref a, .int (k : Int)] ∧ SqL K H a (ns.map V.int) ∧ k < 100 ∧
  ∀ (p : Addr) (x y : Int), H p = none → 0 ≤ x → 0 ≤ y → y < 2147483587 → Q (.ref p) (upd H p (.lst [.int x, .int y]))
theorem same_new {H : Hp} {p : Addr} {o : HO} (h : H p = none) : Same H (upd H p o) := fun b u e => by
  rw [upd_ne (ne_of_none e h)]
  exact e
theorem same_mut {H H2 : Hp} {p : Addr} {o : HO} (s : Same H H2) (h : H p = none) : Same H (upd H2 p o) := fun b u e => by
  rw [upd_ne (ne_of_none e h)]
  exact s b u e
theorem same_back {H H2 : Hp} {p : Addr} {o : HO} (h : H p = some o) (s : ∀ b u, b ≠ p → H b = some u → H2 b = some u) : Same H (upd H2 p o) := fun b u e => by
  by_cases hb : b = p
  · subst hb
    rw [h] at e
    rw [upd_same, ← e]
  · rw [upd_ne hb]
    exact s b u hb e
end Jc
namespace Jc
open PySem PySem.Spec L2
open PyProof.Rows hiding St
/-- what law promises: handed a list of at most 63 ints, it gives True -/
def spLaw (K : PySem.W.Frag) : Sp := fun vs H Q _ => ∃ (a : Addr) (ns : List Int), vs = [.ref a] ∧ SqL K H a (ns.map V.int) ∧ ns.length ≤ 63 ∧ ∀ H2, Q (.bl true) H2
/-- the script as it lies at the call: known to the object, or one of the module's own -/
structure Lies (K : PySem.W.Frag) (a : Addr) (ob : Obj) (ns : List Int) (H : Hp) : Prop where
  one : ∀ b, H b = none ∨ (b = a ∧ K.lookup a = none ∧ H b = some (.frz ob (.lst (ns.map V.int))))
  seq : SqL K H a (ns.map V.int)
theorem lies_of {K : PySem.W.Frag} {h : Heap} {a : Addr} {vs : List Value} {ns : List Int} (KX : K.In h) (ha : h.get? a = some { cls := .type "list", data := .seq vs.toArray }) (hi : IntsAre vs ns) (hl : ns.length ≤ 63) :
    ∃ H, Lies K a { cls := .type "list", data := .seq vs.toArray } ns H := by
  have r := vals_ints hi
  have hz : ns.length ≤ sizeLine := Nat.le_trans hl (by rw [sizeLine_eq]; decide)
  cases e : K.lookup a with
  | none =>
    refine ⟨fun b => if b = a then some (.frz { cls := .type "list", data := .seq vs.toArray } (.lst (ns.map V.int))) else none, fun b => ?_, .inl (.inr ⟨_, if_pos rfl⟩)⟩
    by_cases hb : b = a
    · exact .inr ⟨hb, e, if_pos hb⟩
    · exact .inl (if_neg hb)
  | some o =>
    have e2 := KX a o e
    rw [ha] at e2
    cases e2
    exact ⟨fun _ => none, fun _ => .inl rfl, .inr ⟨_, vs.toArray, _, e, rfl, rfl, rfl, by rw [List.size_toArray, hi.length]; exact hz, by simpa using r⟩⟩
section
variable {P : Program} {w : World} {K : PySem.W.Frag} {mg mb : Str → Option Value} {k : Nat} {fa a : Addr} {fd : FuncData} {s1 : Shared} {vs : List Value} {ns : List Int}
theorem lawG (KX : K.In s1.heap) (hns : s1.heap.Ns mainGlobals mg) (hb : s1.heap.Ns builtinsNs mb) (hbb : ∀ x : Str, x ≠ "__name__" → mb x = bootBuiltins x) (hlim : s1.heap.NoLimit) (hg : s1.gens = #[])
    (ha : s1.heap.get? a = some { cls := .type "list", data := .seq vs.toArray }) (hi : IntsAre vs ns) (hl : ns.length ≤ 63) (hr : Room k callerA)
    (F : ∀ base : Heap, K.In base → base.Ns mainGlobals mg → FnG P w K mg base k fa fd ["_law_script"] (spLaw K)) (hbind : ∀ (s : Shared) (u : Value), BindsTo s fd ⟨[u], []⟩ [("_law_script", u)]) :
    codeAny (model P w) callerA (.call (.ref fa) ⟨[.ref a], []⟩) (fun r s' => r = .ok (.ret (.bool true)) ∧ OldK s1.heap s'.heap ∧ s'.os = s1.os ∧ AllBare s'.gens) s1 := by
  obtain ⟨H, L⟩ := lies_of KX ha hi hl
  have r := vals_ints hi
  have hok : HOk P w H s1.heap := fun b u z => by
    rcases L.one b with n | ⟨rfl, _, n⟩
    · rw [n] at z; cases z
    · rw [n] at z; cases z
      exact ⟨ha, Nat.le_trans (by rw [List.length_map]; exact hl) (show 63 ≤ sizeLine by rw [sizeLine_eq]; decide), vs, _, r, ha⟩
  have dictFree : ∀ {b : Addr} {m : Str → Option Value}, s1.heap.Ns b m → H b = none := fun {b m} z => by
    rcases L.one b with n | ⟨rfl, _, _⟩
    · exact n
    · obtain ⟨o, es, ep, e1, e2, _⟩ := z
      rw [ha] at e1
      cases e1
      exact nomatch e2
  have nsB : ∀ {b : Addr} {m : Str → Option Value}, s1.heap.Ns b m → (hidT s1.heap H).Ns b m := fun z => by
    have n := dictFree z
    obtain ⟨o, es, ep, e1, e2⟩ := z
    exact ⟨o, es, ep, hidT_get e1 n, e2⟩
  have kB : K.In (hidT s1.heap H) := fun b o e => by
    rcases L.one b with n | ⟨rfl, n, _⟩
    · exact hidT_get (KX b o e) n
    · rw [n] at e; cases e
  have hM : Mod K mg (hidT s1.heap H) := by
    obtain ⟨mc, h1, h2⟩ := hlim
    exact ⟨kB, nsB hns, ⟨mb, nsB hb, hbb⟩, mc, nsB h1, h2⟩
  have e0 : Env0 P w K mg (hidT s1.heap H) callerA [] s1 H := ⟨rfl, hM, fun _ _ e => of_hidT e, Nat.le_of_eq (hidT_size _ _), trivial, fun b z => (List.not_mem_nil z).elim, hok, .of_eq hg⟩
  refine codeAny_mono ((F _ kB (nsB hns)).runG callerA [] s1 H ⟨[.ref a], []⟩ [.ref a] [.ref a] (fun v _ => v = .bl true) hr rfl e0 (hbind s1 (.ref a)) (.cons rfl .nil) ⟨a, ns, rfl, L.seq, hl, fun _ => rfl⟩) fun rs s2 z => ?_
  match rs, z with
  | .ok .next, z => exact z.elim
  | .ok .brk, z => exact z.elim
  | .ok .cont, z => exact z.elim
  | .error _, z => exact z.elim
  | .ok (.ret u), z =>
    obtain ⟨v, H2, os, bare, un, hok2, rv, (q : v = .bl true)⟩ := z
    subst q
    cases (show u = Value.bool true from rv)
    refine ⟨rfl, OldK.of_keep fun b o e => ?_, os, bare⟩
    rcases L.one b with n | ⟨_, _, n⟩
    · exact un.keep b o e n (fun z => (List.not_mem_nil z).elim) (fun z => (List.not_mem_nil z).elim)
    · have e1 := (hok b _ n).1
      rw [e] at e1
      cases e1
      exact (hok2 b _ (un.frzs b _ _ n)).1
end
theorem walkG {l : PySem.W.OpenLaw} {k : Nat} {q : Program} {loose : List Str} {XP : (Str → Option Value) → Heap → Prop} {YP : World → Heap → Prop} {d : DefRec} {K : Params → PySem.W.Frag}
    (hn : l.most = some 63) (hdf : d.params.defaults = []) (hr : Room k callerA) (hY : ∀ (w : World) (h : Heap), YP w h → (K w.params).In h)
    (F : ∀ (w : World) (mg : Str → Option Value) (fa : Addr) (h : Heap), (K w.params).In h → h.Ns mainGlobals mg → mg d.name = some (.ref fa) →
      ∃ fd : FuncData, (∀ (s : Shared) (u : Value), BindsTo s fd ⟨[u], []⟩ [("_law_script", u)]) ∧
        ∀ base : Heap, (K w.params).In base → base.Ns mainGlobals mg → FnG l.prog w (K w.params) mg base k fa fd ["_law_script"] (spLaw (K w.params))) :
    PySem.W.WalkO q loose XP YP l.row.toRowW d [] (fun f vs => PySem.call f vs) := by
  refine Att.attach_call hn hdf fun w _ s1 mg _ fa _ _ _ _ a vs ns G Y _ _ _ hmg hobj hints hlen hg => ?_
  obtain ⟨fd, b, hF⟩ := F w mg fa _ (hY w _ Y) G.T.g hmg
  exact lawG (hY w _ Y) G.T.g G.T.b G.T.builtins G.T.nolimit hg hobj hints hlen hr hF b
end Jc
namespace Jc
open PySem PySem.Spec L2
open PyProof.Rows hiding St
/-- a comprehension without a test, its elements flat values told by R -/
theorem lc_flat {J : It} {n : Nat} {G : Hp → Prop} {Y : Nat → Hp → V → Hp → Prop} (w : Walk J n G Y) {g : TG} {te : TE} {vs : List Nat} {σ : L2.St} {H1 : Hp} {D : Addr} {Qd : Hp → Prop} (R : Nat → V → Prop) (hn : n < 1000000) (hD : H1 D = none)
    (hG : ∀ H2, Same H1 H2 → G H2)
    (hs : ∀ i x H H2 (k : V → Hp → Prop), i < n → Same H1 H → Y i H x H2 → (∀ y H4, Same H H4 → R i y → k y H4) → g x (wipe σ vs) H2 fun σ2 H3 => wipe σ2 vs = wipe σ vs ∧ te σ2 H3 k)
    (hd : ∀ ys H2, ys.length = n → (∀ i y, ys[i]? = some y → R i y) → Same H1 H2 → H2 D = some (.lst ys) → Qd H2) :
    ∃ W : Nat → Nat → Hp → Prop, (∃ m, W 0 m (upd H1 D (.lst []))) ∧ ∀ i m H, W i m H →
      (J.stop i H ∧ Qd H) ∨ (J.go i H ∧ ∃ Nx : Hp → Prop, (∀ H', Nx H' → ∃ m', m' < m ∧ W (i + 1) m' H') ∧ ∀ x H', J.yld i H x H' → g x (wipe σ vs) H' fun σ2 H2 => wipe σ2 vs = wipe σ vs ∧ tYes σ2 H2 fun b H3 =>
        if b = true then te σ2 H3 fun y H4 => ∃ acc, H4 D = some (.lst acc) ∧ acc.length < sizeLine ∧ Nx (upd H4 D (.lst (acc ++ [y]))) else Nx H3) := by
  refine lc_it w (fun i H => Same H1 H ∧ ∃ ys : List V, ys.length = i ∧ (∀ j y, ys[j]? = some y → R j y) ∧ H D = some (.lst ys)) ⟨same_new hD, [], rfl, fun j y e => by simp at e, upd_same⟩ (fun i H _ p => hG H p.1) ?_ ?_
  · rintro i x H H2 hi ⟨s1, ys, hl, hR, hy⟩ y
    refine hs i x H H2 _ hi s1 y fun z H4 s4 r => ⟨ys, s4 _ _ hy, Nat.lt_of_lt_of_le (show ys.length < 1000000 by omega) (by rw [sizeLine_eq]; decide), same_mut (s1.trans s4) hD, ys ++ [z], by rw [List.length_append, hl]; rfl, fun j u e => ?_, upd_same⟩
    by_cases hj : j < ys.length
    · rw [List.getElem?_append_left hj] at e
      exact hR j u e
    · have hj2 : j = ys.length := by
        have := (List.getElem?_eq_some_iff.mp e).1
        rw [List.length_append] at this
        simp at this
        omega
      subst hj2
      rw [List.getElem?_append_right (Nat.le_refl _)] at e
      simp at e
      subst e
      rw [hl]
      exact r
  · rintro H ⟨s1, ys, hl, hR, hy⟩
    exact hd ys H hl hR s1 hy
theorem all_eq {α : Type} {xs ys : List α} (hl : xs.length = ys.length) (h : ∀ (i : Nat) x y, xs[i]? = some x → ys[i]? = some y → x = y) : xs = ys := by
  refine List.ext_getElem? fun i => ?_
  by_cases hi : i < xs.length
  · rw [List.getElem?_eq_getElem hi, List.getElem?_eq_getElem (hl ▸ hi)]
    exact congrArg some (h i _ _ (List.getElem?_eq_getElem hi) (List.getElem?_eq_getElem (hl ▸ hi)))
  · rw [List.getElem?_eq_none (by omega), List.getElem?_eq_none (by omega)]
end Jc
namespace Jc
open PySem PySem.Spec L2
open PyProof.Rows hiding St
/-! ### defs and methods as their callers see them, whatever is under way -/
structure OwnK (P : Program) (w : World) (K : PySem.W.Frag) (mg : Str → Option Value) (base : Heap) (x : Str) (k : Nat) (ps : List Str) (sp : Sp) : Prop where
  ex : ∃ (f : Addr) (fd : FuncData), FnOk P w K mg base CX0 k f fd ps sp ∧ mg x = some (.ref f) ∧ PySem.W.keepIn K (.ref f) = true ∧ Binds K fd ps []
structure OwnM (P : Program) (w : World) (K : PySem.W.Frag) (mg : Str → Option Value) (base : Heap) (C : Addr) (m : Str) (k : Nat) (sp : Sp) : Prop where
  ex : ∃ f : Addr, Meth K C m f ∧ FnR P w K mg base CX0 k f sp
structure OwnM0 (P : Program) (w : World) (K : PySem.W.Frag) (mg : Str → Option Value) (base : Heap) (C : Addr) (m : Str) (k : Nat) (sp : Sp) : Prop where
  ex : ∃ (f : Addr) (fd : FuncData), Meth K C m f ∧ FnOk P w K mg base CX0 k f fd ["self"] sp ∧ Binds K fd ["self"] []
structure OwnI (P : Program) (w : World) (K : PySem.W.Frag) (mg : Str → Option Value) (base : Heap) (C : Addr) (k : Nat) (sp : Sp) : Prop where
  ex : ∃ f : Addr, Mk K C f ∧ FnR P w K mg base CX0 k f sp
structure PC (K : PySem.W.Frag) (mg : Str → Option Value) (C : Addr) : Prop where
  cl : Cls K C
  na : NoAttr K C "_classes"
  mc : mg "Partition" = some (.ref C)
section
variable {X : Cx} {k j : Nat} {C : Addr} {x m : Str} {ps : List Str} {sp : Sp} {p pos apos : Pos} {e o : Expr} {es : List Expr} {t : TA} {ta : TE}
theorem pe_ownk (c : OwnK X.prog X.w X.K X.mg X.base x k ps sp) (hr : Room j X.A) (hj : k ≤ j) (ha : PA X (e :: es) t) (hg : Gl X x := by rfl) (hdb : (x == ("__debug__" : Str)) = false := by decide)
    (he : starEach (e :: es) X.env = (false, eval e X.env) :: starEach es X.env := by rfl) (hpl : (backTo pos (starEach es X.env)).any (·.1) = false := by rfl) : PE X (.Call (.Name x p) (e :: es) [] pos) (tOwn sp t) := by
  obtain ⟨f, fd, F, hm, hk, hb⟩ := c.ex
  have h := pe_call F (hr.mono hj) hg hm hk hb .nil (pass0 (X := X)) ha (p := p) (pos := pos) hdb he hpl
  refine ⟨fun pins s σ H Q I q => h.run pins s σ H Q I ?_⟩
  have e2 : (fun (vs : List V) (H1 : Hp) => sp (vs ++ []) H1 Q E0) = fun vs H1 => sp vs H1 Q E0 := by
    funext vs H1
    rw [List.append_nil]
  show t σ H (fun (vs : List V) (H1 : Hp) => sp (vs ++ []) H1 Q E0)
  rw [e2]
  exact q
theorem pe_om {pl : Sem Bool} (he : PE X o ta) (c : Cls X.K C) (h : OwnM X.prog X.w X.K X.mg X.base C m k sp) (hr : Room j X.A) (hj : k ≤ j) (ha : PA X (e :: es) t)
    (hst : starEach (e :: es) X.env = (false, eval e X.env) :: starEach es X.env := by rfl) (hpl : (backTo pos (starEach es X.env)).any (·.1) = false := by rfl)
    (ht : eval (.Call (.Attribute o m apos) (e :: es) [] pos) X.env =
      (eval o X.env >>= fun ov => standAt apos.atName >>= fun _ => holding [ov] (getMethod ov m pl) >>= fun r => callWith pos r.1 r.2 (backTo pos (starEach (e :: es) X.env)) (backToKw pos (keywordEach [] X.env))) := by rfl) :
    PE X (.Call (.Attribute o m apos) (e :: es) [] pos) (tMethR C m sp E0 ta t) := by
  obtain ⟨f, hm, F⟩ := h.ex
  exact pe_methR (pl := pl) he c hm F (hr.mono hj) pass0 ha hst hpl ht
theorem pe_om0 {pl : Sem Bool} (he : PE X o ta) (c : Cls X.K C) (h : OwnM0 X.prog X.w X.K X.mg X.base C m k sp) (hr : Room j X.A) (hj : k ≤ j)
    (ht : eval (.Call (.Attribute o m apos) [] [] pos) X.env =
      (eval o X.env >>= fun ov => standAt apos.atName >>= fun _ => holding [ov] (getMethod ov m pl) >>= fun r => callWith pos r.1 r.2 (backTo pos (starEach [] X.env)) (backToKw pos (keywordEach [] X.env))) := by rfl) :
    PE X (.Call (.Attribute o m apos) [] [] pos) (tMeth C m sp [] E0 ta tNil) := by
  obtain ⟨f, fd, hm, F, hb⟩ := h.ex
  exact pe_meth0 (pl := pl) he c hm F (hr.mono hj) hb .nil pass0 ht
theorem pe_oi (M : OwnI X.prog X.w X.K X.mg X.base C k sp) (hr : Room j X.A) (hj : k + 1 ≤ j) (hm : X.mg x = some (.ref C)) (ha : PA X (e :: es) t) (hg : Gl X x := by rfl) (hdb : (x == ("__debug__" : Str)) = false := by decide)
    (he : starEach (e :: es) X.env = (false, eval e X.env) :: starEach es X.env := by rfl) (hpl : (backTo pos (starEach es X.env)).any (·.1) = false := by rfl) : PE X (.Call (.Name x p) (e :: es) [] pos) (StX.tMakeR C sp E0 t) := by
  obtain ⟨f, hM, F⟩ := M.ex
  exact StX.pe_makeR hM F (hr.mono hj) hg hm pass0 ha hdb he hpl
end
end Jc
namespace Jc
/-! numbering marks by first holders; -1 is gone -/
def toldF (acc : List Int) (m : Int) : List Int := if m ≠ -1 ∧ m ∉ acc then acc ++ [m] else acc
def told (ms : List Int) : List Int := ms.foldl toldF []
def numOf (ts : List Int) (m : Int) : Int := if m = -1 then -1 else (ts.idxOf m : Int)
def num (ms : List Int) : List Int := ms.map (numOf (told ms))
/-- pairs of marks of which both sides tell the same -/
def Kern (ps : List (Int × Int)) : Prop := ∀ p ∈ ps, ∀ q ∈ ps, (p.1 = q.1 ↔ p.2 = q.2) ∧ (p.1 = -1 ↔ p.2 = -1)
def toldP (acc : List (Int × Int)) (p : Int × Int) : List (Int × Int) := if p.1 ≠ -1 ∧ p.1 ∉ acc.map (·.1) then acc ++ [p] else acc
theorem toldP_sub : ∀ (ps acc all : List (Int × Int)), (∀ p ∈ acc, p ∈ all) → (∀ p ∈ ps, p ∈ all) → ∀ p ∈ ps.foldl toldP acc, p ∈ all
  | [], acc, all, h, _ => h
  | p :: r, acc, all, h, h2 => by
    refine toldP_sub r (toldP acc p) all (fun q hq => ?_) fun q hq => h2 q (List.mem_cons_of_mem _ hq)
    unfold toldP at hq
    split at hq
    · rcases List.mem_append.mp hq with hq | hq
      · exact h q hq
      · rw [List.mem_singleton.mp hq]
        exact h2 p List.mem_cons_self
    · exact h q hq
theorem toldP_fst : ∀ (ps acc : List (Int × Int)), (ps.foldl toldP acc).map (·.1) = (ps.map (·.1)).foldl toldF (acc.map (·.1))
  | [], acc => rfl
  | p :: r, acc => by
    show (r.foldl toldP (toldP acc p)).map (·.1) = (r.map (·.1)).foldl toldF (toldF (acc.map (·.1)) p.1)
    rw [toldP_fst r]
    congr 1
    unfold toldP toldF
    split <;> simp
theorem toldP_snd {all : List (Int × Int)} (K : Kern all) : ∀ (ps acc : List (Int × Int)), (∀ p ∈ acc, p ∈ all) → (∀ p ∈ ps, p ∈ all) → (ps.foldl toldP acc).map (·.2) = (ps.map (·.2)).foldl toldF (acc.map (·.2))
  | [], acc, _, _ => rfl
  | p :: r, acc, h, h2 => by
    have hp := h2 p List.mem_cons_self
    have e : (toldP acc p).map (·.2) = toldF (acc.map (·.2)) p.2 := by
      have e1 : (p.1 ≠ -1 ∧ p.1 ∉ acc.map (·.1)) ↔ (p.2 ≠ -1 ∧ p.2 ∉ acc.map (·.2)) := by
        have a := (K p hp p hp).2
        have b : p.1 ∈ acc.map (·.1) ↔ p.2 ∈ acc.map (·.2) := by
          simp only [List.mem_map]
          constructor
          · rintro ⟨q, hq, e⟩
            exact ⟨q, hq, (K q (h q hq) p hp).1.mp e⟩
          · rintro ⟨q, hq, e⟩
            exact ⟨q, hq, (K q (h q hq) p hp).1.mpr e⟩
        rw [b]
        constructor
        · rintro ⟨x, y⟩
          exact ⟨fun z => x (a.mpr z), y⟩
        · rintro ⟨x, y⟩
          exact ⟨fun z => x (a.mp z), y⟩
      unfold toldP toldF
      by_cases c : p.1 ≠ -1 ∧ p.1 ∉ acc.map (·.1)
      · rw [if_pos c, if_pos (e1.mp c)]
        simp
      · rw [if_neg c, if_neg (fun z => c (e1.mpr z))]
    show (r.foldl toldP (toldP acc p)).map (·.2) = (r.map (·.2)).foldl toldF (toldF (acc.map (·.2)) p.2)
    rw [toldP_snd K r (toldP acc p) (fun q hq => ?_) fun q hq => h2 q (List.mem_cons_of_mem _ hq), e]
    exact toldP_sub [p] acc all h (fun x hx => by rw [List.mem_singleton.mp hx]; exact hp) q hq
theorem idx_kern {all : List (Int × Int)} (K : Kern all) {p : Int × Int} (hp : p ∈ all) : ∀ ts : List (Int × Int), (∀ q ∈ ts, q ∈ all) → (ts.map (·.1)).idxOf p.1 = (ts.map (·.2)).idxOf p.2
  | [], _ => rfl
  | q :: r, h => by
    have hq := h q List.mem_cons_self
    have ih := idx_kern K hp r fun x hx => h x (List.mem_cons_of_mem _ hx)
    simp only [List.map_cons, List.idxOf_cons]
    have e := (K q hq p hp).1
    by_cases c : q.1 = p.1
    · rw [show (q.1 == p.1) = true from beq_iff_eq.mpr c, show (q.2 == p.2) = true from beq_iff_eq.mpr (e.mp c)]
      rfl
    · rw [show (q.1 == p.1) = false from beq_eq_false_iff_ne.mpr c, show (q.2 == p.2) = false from beq_eq_false_iff_ne.mpr fun z => c (e.mpr z), ih]
theorem num_congr {ps : List (Int × Int)} (K : Kern ps) : num (ps.map (·.1)) = num (ps.map (·.2)) := by
  have s := toldP_sub ps [] ps (fun p h => (List.not_mem_nil h).elim) fun p h => h
  have e1 := toldP_fst ps []
  have e2 := toldP_snd K ps [] (fun p h => (List.not_mem_nil h).elim) fun p h => h
  unfold num
  rw [List.map_map, List.map_map]
  refine List.map_congr_left fun p hp => ?_
  show numOf (told (ps.map (·.1))) p.1 = numOf (told (ps.map (·.2))) p.2
  unfold told
  rw [show ((ps.map (·.1)).foldl toldF []) = (ps.foldl toldP []).map (·.1) from e1.symm, show ((ps.map (·.2)).foldl toldF []) = (ps.foldl toldP []).map (·.2) from e2.symm]
  unfold numOf
  have c := (K p hp p hp).2
  by_cases z : p.1 = -1
  · rw [if_pos z, if_pos (c.mp z)]
  · rw [if_neg z, if_neg fun y => z (c.mpr y), idx_kern K hp _ s]
theorem num_cong {xs ys : List Int} (hl : xs.length = ys.length) (h : ∀ (i j : Nat) (a b c d : Int), xs[i]? = some a → ys[i]? = some b → xs[j]? = some c → ys[j]? = some d → (a = c ↔ b = d) ∧ (a = -1 ↔ b = -1)) : num xs = num ys := by
  have K : Kern (xs.zip ys) := by
    intro p hp q hq
    obtain ⟨i, hi⟩ := List.getElem?_of_mem hp
    obtain ⟨j, hj⟩ := List.getElem?_of_mem hq
    rw [List.getElem?_zip_eq_some] at hi hj
    exact h i j p.1 p.2 q.1 q.2 hi.1 hi.2 hj.1 hj.2
  have := num_congr K
  rw [List.map_fst_zip (by omega), List.map_snd_zip (by omega)] at this
  exact this
/-! what is known of the numbers -/
theorem told_has : ∀ (ms acc : List Int) (m : Int), m ∈ ms.foldl toldF acc ↔ m ∈ acc ∨ (m ∈ ms ∧ m ≠ -1)
  | [], acc, m => by simp
  | x :: r, acc, m => by
    show m ∈ r.foldl toldF (toldF acc x) ↔ _
    rw [told_has r]
    unfold toldF
    split
    · rename_i c
      simp only [List.mem_append, List.mem_cons, List.mem_singleton, List.not_mem_nil, or_false]
      constructor
      · rintro ((h | h) | h)
        · exact .inl h
        · exact .inr ⟨.inl h, h ▸ c.1⟩
        · exact .inr ⟨.inr h.1, h.2⟩
      · rintro (h | ⟨h | h, n⟩)
        · exact .inl (.inl h)
        · exact .inl (.inr h)
        · exact .inr ⟨h, n⟩
    · rename_i c
      simp only [List.mem_cons]
      constructor
      · rintro (h | h)
        · exact .inl h
        · exact .inr ⟨.inr h.1, h.2⟩
      · rintro (h | ⟨h | h, n⟩)
        · exact .inl h
        · subst h
          by_cases z : m ∈ acc
          · exact .inl z
          · exact absurd ⟨n, z⟩ c
        · exact .inr ⟨h, n⟩
theorem told_mem {ms : List Int} {m : Int} : m ∈ told ms ↔ m ∈ ms ∧ m ≠ -1 := by
  unfold told
  rw [told_has]
  simp
theorem told_len : ∀ (ms acc : List Int), (ms.foldl toldF acc).length ≤ acc.length + ms.length
  | [], acc => by simp
  | x :: r, acc => by
    have h := told_len r (toldF acc x)
    have h2 : (toldF acc x).length ≤ acc.length + 1 := by
      unfold toldF
      split <;> simp
    show (r.foldl toldF (toldF acc x)).length ≤ acc.length + (r.length + 1)
    omega
theorem numOf_inj {ms : List Int} {a b : Int} (ha : a ∈ ms) (hb : b ∈ ms) : numOf (told ms) a = numOf (told ms) b ↔ a = b := by
  unfold numOf
  by_cases x : a = -1
  · by_cases y : b = -1
    · rw [if_pos x, if_pos y]
      exact ⟨fun _ => x.trans y.symm, fun _ => rfl⟩
    · rw [if_pos x, if_neg y]
      constructor
      · intro h
        omega
      · intro h
        exact absurd (h.symm.trans x) y
  · by_cases y : b = -1
    · rw [if_neg x, if_pos y]
      constructor
      · intro h
        omega
      · intro h
        exact absurd (h.trans y) x
    · rw [if_neg x, if_neg y]
      constructor
      · intro h
        have h2 : (told ms).idxOf a = (told ms).idxOf b := by omega
        have h3 := List.idxOf_lt_length_of_mem (told_mem.mpr ⟨ha, x⟩)
        have h4 := List.idxOf_lt_length_of_mem (told_mem.mpr ⟨hb, y⟩)
        have e1 : (told ms)[(told ms).idxOf a] = a := List.getElem_idxOf h3
        have e2 : (told ms)[(told ms).idxOf b] = b := List.getElem_idxOf h4
        rw [← e1, ← e2]
        congr 1
      · intro h
        rw [h]
theorem numOf_gone {ts : List Int} {a : Int} : numOf ts a = -1 ↔ a = -1 := by
  unfold numOf
  split
  · rename_i h
    exact ⟨fun _ => h, fun _ => rfl⟩
  · rename_i h
    constructor
    · intro z
      omega
    · intro z
      exact absurd z h
theorem numOf_range {ms : List Int} {a : Int} (ha : a ∈ ms) : -1 ≤ numOf (told ms) a ∧ numOf (told ms) a < (told ms).length := by
  unfold numOf
  split
  · constructor <;> omega
  · rename_i h
    have := List.idxOf_lt_length_of_mem (told_mem.mpr ⟨ha, h⟩)
    constructor <;> omega
theorem num_len (ms : List Int) : (num ms).length = ms.length := by unfold num; simp
theorem num_at {ms : List Int} {i : Nat} {a : Int} (h : ms[i]? = some a) : (num ms)[i]? = some (numOf (told ms) a) := by
  unfold num
  rw [List.getElem?_map, h]
  rfl
theorem num_at' {ms : List Int} {i : Nat} {c : Int} (h : (num ms)[i]? = some c) : ∃ a, ms[i]? = some a ∧ c = numOf (told ms) a := by
  unfold num at h
  rw [List.getElem?_map] at h
  cases e : ms[i]? with
  | none => rw [e] at h; cases h
  | some a =>
    rw [e] at h
    exact ⟨a, rfl, (Option.some.inj h).symm⟩
theorem num_num (ms : List Int) : num (num ms) = num ms := by
  refine num_cong (num_len ms) fun i j a b c d h1 h2 h3 h4 => ?_
  rw [num_at h2] at h1
  rw [num_at h4] at h3
  cases h1
  cases h3
  exact ⟨numOf_inj (List.mem_of_getElem? h2) (List.mem_of_getElem? h4), numOf_gone⟩
theorem num_small {ms : List Int} {c : Int} (h : c ∈ num ms) : -1 ≤ c ∧ c < ms.length := by
  obtain ⟨i, hi⟩ := List.getElem?_of_mem h
  obtain ⟨a, ha, rfl⟩ := num_at' hi
  have h1 := numOf_range (List.mem_of_getElem? ha)
  have h2 := told_len ms []
  have h3 : (told ms).length ≤ ms.length := by simpa [told] using h2
  omega
/-- marks with holders put to a mark -/
def marked (c : List Int) (ts : List Int) (m : Int) : List Int := c.mapIdx fun i x => if (i : Int) ∈ ts then m else x
theorem marked_len (c ts : List Int) (m : Int) : (marked c ts m).length = c.length := by unfold marked; simp
theorem marked_at {c ts : List Int} {m : Int} {i : Nat} {y : Int} (h : (marked c ts m)[i]? = some y) : ∃ x, c[i]? = some x ∧ y = if (i : Int) ∈ ts then m else x := by
  unfold marked at h
  rw [List.getElem?_mapIdx] at h
  cases e : c[i]? with
  | none => rw [e] at h; cases h
  | some a =>
    rw [e] at h
    exact ⟨a, rfl, (Option.some.inj h).symm⟩
/-- a mark that is new for one list and the other: the same numbers -/
theorem num_marked {bs ts : List Int} {m n : Int} (h : ∀ (i j : Nat) (b d : Int), bs[i]? = some b → bs[j]? = some d → (i : Int) ∈ ts → (j : Int) ∉ ts → (m = numOf (told bs) d ↔ n = d)) (hm : m = -1 ↔ n = -1) :
    num (marked (num bs) ts m) = num (marked bs ts n) := by
  refine num_cong (by rw [marked_len, marked_len, num_len]) fun i j a b c d h1 h2 h3 h4 => ?_
  obtain ⟨x1, e1, rfl⟩ := marked_at h1
  obtain ⟨x2, e2, rfl⟩ := marked_at h2
  obtain ⟨x3, e3, rfl⟩ := marked_at h3
  obtain ⟨x4, e4, rfl⟩ := marked_at h4
  rw [num_at e2] at e1
  rw [num_at e4] at e3
  cases e1
  cases e3
  have g2 := List.mem_of_getElem? e2
  have g4 := List.mem_of_getElem? e4
  by_cases p : (i : Int) ∈ ts
  · rw [if_pos p, if_pos p]
    by_cases q : (j : Int) ∈ ts
    · rw [if_pos q, if_pos q]
      exact ⟨⟨fun _ => rfl, fun _ => rfl⟩, hm⟩
    · rw [if_neg q, if_neg q]
      exact ⟨h i j x2 x4 e2 e4 p q, hm⟩
  · rw [if_neg p, if_neg p]
    by_cases q : (j : Int) ∈ ts
    · rw [if_pos q, if_pos q]
      refine ⟨?_, numOf_gone⟩
      have := h j i x4 x2 e4 e2 q p
      constructor
      · intro z
        exact (this.mp z.symm).symm
      · intro z
        exact (this.mpr z.symm).symm
    · rw [if_neg q, if_neg q]
      exact ⟨numOf_inj g2 g4, numOf_gone⟩
/-- a new mark -/
theorem num_fresh {bs ts : List Int} {n : Int} (hn : n ∉ bs) (hg : n ≠ -1) : num (marked (num bs) ts (bs.length : Int)) = num (marked bs ts n) := by
  refine num_marked (fun i j b d _ e _ _ => ?_) ⟨fun z => ?_, fun z => absurd z hg⟩
  · have g := List.mem_of_getElem? e
    have r := numOf_range g
    have l := told_len bs []
    have l2 : (told bs).length ≤ bs.length := by simpa [told] using l
    constructor
    · intro z
      omega
    · intro z
      exact absurd (z ▸ g) hn
  · have : (0 : Int) ≤ bs.length := Int.natCast_nonneg _
    omega
/-- gone ones -/
theorem num_gone {bs ts : List Int} : num (marked (num bs) ts (-1)) = num (marked bs ts (-1)) := by
  refine num_marked (fun i j b d _ e _ _ => ?_) ⟨fun _ => rfl, fun _ => rfl⟩
  constructor
  · intro z
    exact (numOf_gone.mp z.symm).symm
  · intro z
    exact (numOf_gone.mpr z.symm).symm
/-- a copy -/
theorem num_copied {bs ts : List Int} {k : Nat} {b : Int} (h : bs[k]? = some b) : num (marked (num bs) ts (numOf (told bs) b)) = num (marked bs ts b) := by
  refine num_marked (fun i j x d _ e _ _ => ?_) numOf_gone
  exact numOf_inj (List.mem_of_getElem? h) (List.mem_of_getElem? e)
end Jc
namespace Jc
open PySem PySem.Spec L2
open PyProof.Rows hiding St
/-! ### max of a tuple of ints -/
def rMaxT (K : PySem.W.Frag) : List V → Hp → VK → Prop := fun vs H Q => ∃ (a : Addr) (ns : List Int), vs = [V.ref a] ∧ SqT K H a (ns.map V.int) ∧ 0 < ns.length ∧ ∀ m, m ∈ ns → (∀ y, y ∈ ns → y ≤ m) → Q (.int m) H
section
variable {P : Program} {w : World} {A : Around} {E : Value → Shared → Prop} {s : Shared} {l : Addr}
theorem maxT_raw {its : List Value} {ns : List Int} {Q : Value → Shared → Prop} (hh : A.handled = none) (hl : s.heap.IsTuple l its.toArray) (hi : IntsAre its ns) (hne : 0 < ns.length)
    (h : ∀ h' tk M t', (∀ b o, s.heap.get? b = some o → h'.get? b = some o) → M ∈ ns → (∀ a, a ∈ ns → a ≤ M) → Q (.int M t') { s with heap := h', toks := tk }) : wpAny (model P w) A (call (.builtin "max") [.ref l]) Q E s := by
  obtain ⟨xs, e⟩ := hi.allInts.items
  have hn : numsOf (intItems xs).toList = ns := by rw [← e]; exact hi.numsOf
  rw [nums_intItems] at hn
  subst hn
  rw [e] at hl
  have h0 : 0 < xs.size := by simpa using hne
  have hlt : l < s.heap.objs.size := by
    obtain ⟨_, z, _⟩ := hl
    exact Heap.lt_size z
  refine call_max_walk (wpAny_pyIter_tuple hl ⟨s.heap.objs.size, [s.heap.objs.size, l], [s.heap.objs.size], (intItems xs).size, _, _, _, rfl, Walks.tuple (A := A.in1) hh _ l (Nat.ne_of_lt hlt) (intItems xs), ⟨⟨_, Heap.get?_push_size _ rfl, rfl, rfl⟩, hl.push _⟩, ?_, by simpa [intItems] using h0, CmpOf.ints_gt (numAt xs) (fun _ _ => intItems_at), fun v h' tk hP hk => ?_⟩)
  · intro b hb
    show b < (s.heap.push _).objs.size
    rw [Heap.size_push]
    simp only [List.mem_cons, List.not_mem_nil, or_false] at hb
    rcases hb with z | z
    · rw [z]; exact Nat.lt_succ_self _
    · rw [z]; exact Nat.lt_succ_of_lt hlt
  · have hv : (intItems xs)[argBest (fun i j => decide (numAt xs i > numAt xs j)) (xs.size - 1)]? = some v := by simpa [intItems] using hP
    obtain ⟨t, rfl⟩ := intItems_at hv
    obtain ⟨h1, h2⟩ := argBest_gt (numAt xs) (xs.size - 1)
    refine h h' tk _ t (fun b o z => hk b o (fun hm => ?_) (Heap.get?_push_of_some _ z)) ?_ fun a ha => ?_
    · rw [List.mem_singleton.mp hm] at z
      exact absurd (Heap.lt_size z) (Nat.lt_irrefl _)
    · rw [numAt_eq]
      exact PySem.getD_mem (by rw [List.length_map, Array.length_toList]; omega)
    · obtain ⟨j, hj, rfl⟩ := mem_getD ha
      rw [List.length_map, Array.length_toList] at hj
      rw [← numAt_eq]
      exact h2 j (by omega)
end
theorem cr_maxT {X : Cx} (hc : X.calm = true) : CallR X (.builtin "max") (rMaxT X.K) := by
  intro pins s σ H vs us Q I r h
  obtain ⟨a, ns, rfl, hs, hne, q⟩ := h
  obtain ⟨its, rv, hl, _⟩ := I.tuple hs
  rw [Vals.ref1 r]
  exact maxT_raw (I.ok.hd hc) (show s.heap.IsTuple a its.toArray from hl) rv.ints hne fun h' tk m t' hk h1 h2 => ⟨.int _, H, I.kept hk, ⟨_, rfl⟩, q m h1 h2⟩
/-! ### enumerate(tuple) -/
def Ent (K : PySem.W.Frag) (a : Addr) : It :=
  ⟨fun i H => ∃ xs x, SqT K H a xs ∧ xs[i]? = some x, fun i H v H' => ∃ T x, v = .ref T ∧ H T = none ∧ H' = upd H T (.tup [.int (i : Nat), x]) ∧ ∀ xs, SqT K H a xs → xs[i]? = some x, fun i H => ∃ xs, SqT K H a xs ∧ xs.length = i⟩
theorem turn_ent {P : Program} {w : World} {K : PySem.W.Frag} {elts : List Expr} {kk : Nat} {tpos : Pos} (a e it : Addr) (hai : a ≠ it) (hae : a ≠ e) :
    Turn P w K (.Tuple elts kk tpos) (Ent K a) [e, it] e (fun i h => (∃ old, IsEnum h e it ((i : Nat) : Int) old) ∧ h.IsTupleIter it a i ∧ e ≠ it) where
  mem := List.mem_cons_self
  obj := fun i h st b hb => by
    obtain ⟨⟨old, he⟩, ⟨o, ho, hc, hd⟩, _⟩ := st
    rcases List.mem_cons.mp hb with z | z
    · rw [z]; exact ⟨_, he, fun v q => nomatch q⟩
    · rw [List.mem_singleton.mp z]; exact ⟨o, ho, fun v q => by rw [hd] at q; cases q⟩
  keep := fun i h h' st k => by
    obtain ⟨⟨old, he⟩, hi, hne⟩ := st
    exact ⟨⟨old, k e List.mem_cons_self _ he⟩, hi.at fun o q => k it (by simp) o q, hne⟩
  item := by
    intro X hP hw hK hc i pins s σ H E I hf st hg
    subst hP hw hK
    obtain ⟨⟨old, he⟩, hit, hne⟩ := st
    obtain ⟨xs, x, hq, hx⟩ := hg
    obtain ⟨its, rv, p, hz⟩ := I.tuple hq
    obtain ⟨u, hu, ru⟩ := rv.get hx
    have hel : e < s.heap.objs.size := Heap.lt_size he
    have hil : it < s.heap.objs.size := by obtain ⟨_, q, _⟩ := hit; exact Heap.lt_size q
    have hd : X.A.in1.handled = none := I.ok.hd hc
    have hib : i < its.toArray.size := by
      have := (List.getElem?_eq_some_iff.mp hu).1
      simpa using this
    refine wpAny_pyNext_enum_itemD (Draws.tuple hd it a hai its.toArray) he ⟨hit, p⟩ hib hne (by simp [hne, Ne.symm hae]) fun v h' tk hv ho st' hT hsz hk => ?_
    have ev : v = u := by
      have z : its.toArray[i]? = some v := hv
      rw [List.getElem?_toArray, hu] at z
      exact (Option.some.inj z).symm
    subst ev
    refine ⟨_, rfl, wpAny_letOwnedTupleGo_enum (s := { s with heap := h', toks := tk + 1 }) ho fun h'' he' sb => ?_⟩
    have hT2 : h''.get? s.heap.objs.size = some { cls := .type "tuple", data := .seq #[.int i tk, v] } := (sb.2 _ (Nat.ne_of_gt hel)).trans hT
    have new : ObjOk X.prog X.w (upd H s.heap.objs.size (.tup [.int (i : Nat), x])) h'' s.heap.objs.size (.tup [.int (i : Nat), x]) := ⟨two_le, [.int i tk, v], .cons ⟨_, rfl⟩ (.cons ru .nil), ⟨_, hT2, rfl, _, rfl⟩⟩
    have I1 : Inv X pins σ (upd H s.heap.objs.size (.tup [.int (i : Nat), x])) { s with heap := h'', toks := tk + 1 } :=
      I.turnedNew (ch := [e, it]) (fun b ob hb q => by
        have n1 : b ≠ e := fun z => hb (by simp [z])
        have n2 : b ≠ it := fun z => hb (by simp [z])
        exact (sb.2 b n1).trans (hk b ob n1 n2 q)) hf (Nat.le_refl _) new
    refine ⟨.ref s.heap.objs.size, _, I1, rfl, ⟨_, x, rfl, I.hok.fresh (Nat.le_refl _), rfl, fun ys hy => by rw [I.tuple_inj hy hq]; exact hx⟩, ⟨⟨v, ?_⟩, st'.1.at fun o q => (sb.2 it (Ne.symm hne)).trans q, hne⟩, fun b hb => ?_⟩
    · have e1 : ((i + 1 : Nat) : Int) = (i : Int) + 1 := by omega
      rw [e1]
      exact he'
    · have hb' : b < s.heap.objs.size := by
        rcases List.mem_cons.mp hb with z | z
        · rw [z]; exact hel
        · rw [List.mem_singleton.mp z]; exact hil
      rw [upd_ne (Nat.ne_of_lt hb')]
      exact (hf b hb).1
  done := by
    intro X hP hw hK hc i pins s σ H E I hf st hg
    subst hP hw hK
    obtain ⟨⟨old, he⟩, hit, hne⟩ := st
    obtain ⟨xs, hq, hx⟩ := hg
    obtain ⟨its, rv, p, hz⟩ := I.tuple hq
    obtain ⟨f0, f1, f2, f3, f4, f5⟩ := hf it (by simp)
    have hl := rv.length
    have hd : X.A.in1.handled = none := I.ok.hd hc
    have hn : its.toArray.size = i := by rw [List.size_toArray]; omega
    refine wpAny_pyNext_enum_endD (Draws.tuple hd it a hai its.toArray) he ⟨by rw [hn]; exact hit, p⟩ fun h' eb => ⟨rfl, I.turned (t' := s.toks) (fun b o hb q => eb b o hb q) f0 f1 f3 f4 f5⟩
  self := fun A i s Q E st h => by
    obtain ⟨⟨_, he⟩, _⟩ := st
    exact wpAny_pyIter_enum he h
def iEnt (K : PySem.W.Frag) (ta : TA) : TI := fun σ H R => ta σ H fun vs H1 => ∃ a xs, vs = [.ref a] ∧ SqT K H1 a xs ∧ R (Ent K a) H1
set_option maxHeartbeats 8000000 in
theorem meets_enew {v : Value} {o : Obj} {G : Heap → Prop} (B : Begins v o G) : Meets (Builtin.«enumerate.__new__» ⟨[.type "enumerate", v], []⟩) (fun _ R s => G s.heap ∧
      R (.ok (.ret (.ref (s.heap.push o).objs.size))) { s with heap := (s.heap.push o).push { cls := .type "enumerate", data := .fields #[.none, .bool false, .ref s.heap.objs.size, rawInt 0, .none, .none] } }) :=
  .of_wp fun P w A R s h => by
    obtain ⟨hp, g, d, tk, os⟩ := s
    obtain ⟨h1, h⟩ := h
    have hsub := sub_enumerate
    have st : ∀ {A' : Around} {E : Value → Shared → Prop} {Q : Value → Shared → Prop}, Q (.ref hp.objs.size) ⟨hp.push o, g, d, tk, os⟩ → wpAny (model P w) A' (pyIter v) Q E ⟨hp, g, d, tk, os⟩ := fun q => B.iter P w _ _ _ _ h1 q
    wp_walk using st
    refine wpAny_stack_any fun z => wpAny_pure ?_
    split
    · rename_i c _ _ _ _ _
      cases (c == Value.type "enumerate") <;>
      · wp_walk using st
        exact ⟨_, rfl, h⟩
    · wp_walk using st
      exact ⟨_, rfl, h⟩
theorem pi_ent {X : Cx} {e : Expr} {ta : TA} {p pos tpos : Pos} {elts : List Expr} {kk : Nat} (hg : Gl X "enumerate") (hm : X.mg "enumerate" = none) (ha : PA X [e] ta) (hs : starEach [e] X.env = [(false, eval e X.env)] := by rfl) :
    PI X (.Tuple elts kk tpos) (.Call (.Name "enumerate" p) [e] [] pos) (iEnt X.K ta) := by
  refine ⟨fun pins s σ H R I h => ?_⟩
  refine Call_ (ld_blt I hg hm boot_enumerate (PyProof.Rows.callWith_type1 (thn (ha.run pos pins s σ H _ I h) fun us s1 ⟨vs, H1, I1, r1, q1⟩ => ?_) hs rfl))
  obtain ⟨a, xs, ex, hq, q⟩ := q1
  subst ex
  obtain ⟨its, rv, p', hz⟩ := I1.tuple hq
  rw [Vals.ref1 r1]
  have hlt : a < s1.heap.objs.size := by
    obtain ⟨_, z, _⟩ := (show s1.heap.IsTuple a its.toArray from p')
    exact Heap.lt_size z
  refine callType_new F.called_enumerate (by decide) (F.typeCall_enumerate_1 _) (F.newCall_enumerate_1 _) (fun obj => F.args_object_init_2 obj _) F.entry_enumerate_new (meets_enew (begins_tuple a its.toArray)) ⟨p', ?_⟩
  generalize ho : ({ cls := .type "tuple_iterator", data := .fields #[.ref a, .int 0 0] } : Obj) = o
  have hz1 : (s1.heap.push o).objs.size = s1.heap.objs.size + 1 := Heap.size_push ..
  show _ ∧ _
  have he : IsEnum ((s1.heap.push o).push { cls := .type "enumerate", data := .fields #[.none, .bool false, .ref s1.heap.objs.size, rawInt 0, .none, .none] }) (s1.heap.push o).objs.size s1.heap.objs.size 0 .none := Heap.get?_push_size _ rfl
  refine ⟨⟨_, he, rfl⟩, wpAny_pyIter_enum he ?_⟩
  refine ⟨(s1.heap.push o).objs.size, [(s1.heap.push o).objs.size, s1.heap.objs.size], _, _, H1, rfl, I1.kept (t' := s1.toks) fun b u z => Heap.get?_push_of_some _ (Heap.get?_push_of_some _ z), turn_ent a (s1.heap.push o).objs.size s1.heap.objs.size (Nat.ne_of_lt hlt) (by rw [hz1]; exact Nat.ne_of_lt (Nat.lt_succ_of_lt hlt)),
    ⟨⟨.none, he⟩, ⟨o, Heap.get?_push_of_some _ (Heap.get?_push_size _ (by subst ho; rfl)), by subst ho; rfl, by subst ho; rfl⟩, by rw [hz1]; exact Nat.succ_ne_self _⟩, fun b hb => ?_, q⟩
  have hle : s1.heap.objs.size ≤ b := by
    rcases List.mem_cons.mp hb with z | z
    · rw [z, hz1]; exact Nat.le_succ _
    · rw [List.mem_singleton.mp z]; exact Nat.le_refl _
  exact I1.fpOk hle (I1.hok.fresh hle)
section
variable {K : PySem.W.Frag} {a : Addr} {xs : List V}
theorem walk_ent : Walk (Ent K a) xs.length (fun H => SqT K H a xs) (YPair (fun i => some (.int (i : Nat))) (fun i => xs[i]?)) := by
  refine ⟨fun i _ hi q => ⟨xs, xs[i], q, by simp [hi]⟩, fun _ q => ⟨xs, q, rfl⟩, fun i H v H' _ q y => ?_⟩
  obtain ⟨T, x, h1, h2, h3, h4⟩ := y
  exact ⟨T, .int (i : Nat), x, h1, h2, h3, rfl, h4 xs q⟩
end
end Jc
namespace Jc
open PySem PySem.Spec L2
open PyProof.Rows hiding St
/-! ### set(list of ints) -/
abbrev empt (w : World) : Obj := { cls := .type "set", dict := none, data := .set #[] 0 (.fresh 0 0 (!w.params.followText "set-order")) }
section
variable {P : Program} {w : World} {A : Around} {E : Value → Shared → Prop} {s : Shared}
theorem set_list_raw {l : Addr} {items : Array Value} (ns : List Int) {Q : Value → Shared → Prop} (hh : A.handled = none) (hl : s.heap.IsList l items) (hit : IntsAre items.toList ns) (hb : ns.length + 1 < scanBound)
    (h : ∀ (h' : Heap) (tk c : Nat), SetR w h' s.heap.objs.size (fun j => decide (j ∈ ns)) c → c ≤ ns.length → (∀ b o, s.heap.get? b = some o → h'.get? b = some o) → Q (.ref s.heap.objs.size) { s with heap := h', toks := tk }) : wpAny (model P w) A (call (.type "set") [.ref l]) Q E s := by
  have sz : items.size = ns.length := by
    have z := hit.length
    rwa [Array.length_toList] at z
  obtain ⟨c, tl, m0⟩ := F.called_set.mro
  have m1 := F.called_set.made
  have m2 := F.called_set.sub
  refine wpAny_call (codeAny_of_tree ?_)
  show wpAny _ _ (callAny (.type "set") _) _ _ _
  refine wpAny_pure ⟨Code.quiet_builtin _ (by decide +kernel), codeAny_builtin F.entry_type_call ?_⟩
  rw [Around.under_plain (weight_type_call_type "set" [.ref l] []) rfl]
  have m3 := F.called_set.notType
  have m4 := F.called_set.canCreate
  have m5 := F.typeCall_set_1 (.ref l)
  repeat (any_goals (first | assumption | wp_step))

  refine codeAny_mono (code_set_led1 (.ref l) (E := E) (Q₁ := fun b t => b = .ref s.heap.objs.size ∧ t = { s with heap := s.heap.push (empt w) }) ⟨rfl, rfl⟩) fun r s1 hr => ?_
  match r, hr with
  | .error e, hr => exact hr
  | .ok .next, hr => exact hr.elim
  | .ok .brk, hr => exact hr.elim
  | .ok .cont, hr => exact hr.elim
  | .ok (.ret obj), hr =>
    obtain ⟨rfl, rfl⟩ := hr
    have g0 : (s.heap.push (empt w)).get? s.heap.objs.size = some (empt w) := Heap.get?_push_size _ rfl
    have g1 : Shared.TypeIs { s with heap := s.heap.push (empt w) } (.ref s.heap.objs.size) "set" := ⟨_, g0, rfl⟩
    have m6 := F.called_set.init.lookup
    have m7 := F.called_set.init.bind (.ref s.heap.objs.size)
    repeat (any_goals (first | assumption | wp_step))

    refine codeAny_mono (codeAny_call_builtin (R := wants (fun r t => r = .none ∧ ∃ h' tk c, t = { s with heap := h', toks := tk } ∧ SetR w h' s.heap.objs.size (fun j => decide (j ∈ ns)) c ∧ c ≤ ns.length ∧ (∀ b o, s.heap.get? b = some o → h'.get? b = some o)) E) F.called_set.init.plain F.entry_set_init (check_set_init_1 g1 ?_)) fun r2 s2 h2 => ?_
    · obtain ⟨⟨ocls, odict, odata, oslots⟩, hol, hcl, nl, hdl⟩ := hl
      replace hcl : ocls = .type "list" := hcl
      replace hdl : odata = .seq items nl := hdl
      subst hcl hdl
      have hol' : (s.heap.push (empt w)).get? l = some { cls := .type "list", dict := odict, data := .seq items nl, slots := oslots } := Heap.get?_push_of_some _ hol
      have m8 := F.sub_list_set
      have m9 := F.sub_list_frozenset
      have hne : (Value.type "list" == Value.type "dict") = false := by decide
      have hl1 : (s.heap.push (empt w)).IsList l items := ⟨_, hol', rfl, nl, rfl⟩
      unfold Builtin.«set.__init__» noKeywords Builtin.Frozenset.updateFrom
      generalize hPI : pyIter = PI
      wp_walk
      subst hPI

      refine wpAny_pyIter_list hl1 ?_
      refine wpAny_bind (wpAny_runValue ?_)
      have lS : l < s.heap.objs.size := Heap.lt_size hol
      have hq : A.in1.in1.in1.handled = none := by simp [hh]
      have z1 : (s.heap.push (empt w)).objs.size = s.heap.objs.size + 1 := Heap.size_push ..
      have nI : l ≠ (s.heap.push (empt w)).objs.size := by
        rw [z1]
        exact Nat.ne_of_lt (Nat.lt_succ_of_lt lS)
      have nS : s.heap.objs.size ∉ [(s.heap.push (empt w)).objs.size, l] := by
        rw [z1]
        intro hm
        rcases List.mem_cons.mp hm with y | y
        · exact absurd y (Nat.ne_of_lt (Nat.lt_succ_self _))
        · exact absurd (List.mem_singleton.mp y) (Nat.ne_of_gt lS)
      have val : ∀ (i : Nat) (v : Value), items[i]? = some v → ∃ k t, ns[i]? = some k ∧ v = .int k t := fun i v hv => by
        have hi : i < ns.length := sz ▸ (Array.getElem?_eq_some_iff.mp hv).1
        obtain ⟨t, e⟩ := hit.get i _ (List.getElem?_eq_getElem hi)
        rw [Array.getElem?_toList, hv] at e
        exact ⟨_, t, List.getElem?_eq_getElem hi, Option.some.inj e⟩
      refine set_update_ints ((Walks.list hq _ l nI items).toS) s.heap.objs.size nS ns sz hb val (items.size - 0) 0 _ (by omega) (Nat.zero_le _) ⟨⟨_, Heap.get?_push_size _ rfl, rfl, rfl⟩, (hl1.push _)⟩ ⟨0, Nat.le_refl 0, setR_new_at (Heap.get?_push_of_some _ g0)⟩ fun s' c' hm hc' hS' => ?_
      obtain ⟨h', g2, d', tk', os'⟩ := s'
      obtain rfl : g2 = s.gens := hm.gens
      obtain rfl : d' = s.drawn := hm.drawn
      obtain rfl : os' = s.os := hm.os
      refine wpAny_pure ?_
      show wpAny _ _ (ret Value.none) _ _ _
      refine wpAny_pure ⟨rfl, h', tk', c', rfl, hS', by omega, fun b o e => ?_⟩
      have b0 : b < s.heap.objs.size := Heap.lt_size e
      refine hm.heap b o (fun hx => ?_) (Heap.get?_push_of_some _ (Heap.get?_push_of_some _ e))
      rcases List.mem_cons.mp hx with y | y
      · exact absurd y (Nat.ne_of_lt b0)
      · have y2 := List.mem_singleton.mp y
        rw [z1] at y2
        exact absurd y2 (Nat.ne_of_lt (Nat.lt_succ_of_lt b0))

    · match r2, h2 with
      | .error e, h2 => exact h2
      | .ok .next, h2 => exact h2.elim
      | .ok .brk, h2 => exact h2.elim
      | .ok .cont, h2 => exact h2.elim
      | .ok (.ret r), h2 =>
        obtain ⟨rfl, h', tk, c', rfl, hS', hc', hk'⟩ := h2
        repeat (any_goals (first | assumption | wp_step))
        exact h _ _ _ hS' hc' hk'
end
def rSetL (w : World) (K : PySem.W.Frag) : List V → Hp → VK → Prop := fun xs H Q => ∃ (a : Addr) (ns : List Int), xs = [.ref a] ∧ SqL K H a (ns.map V.int) ∧ ns.length ≤ 1000 ∧ ∀ p c, H p = none → c ≤ ns.length → Q (.ref p) (upd H p (SetO w p (fun j => decide (j ∈ ns)) c))
theorem cr_setL {X : Cx} (hc : X.calm = true) : CallR X (.type "set") (rSetL X.w X.K) := by
  intro pins s σ H xs us Q I r h
  obtain ⟨a, ns, rfl, hs, hl, q⟩ := h
  obtain ⟨its, rv, pl, hz⟩ := I.list hs
  rw [Vals.ref1 r]
  refine set_list_raw (items := its.toArray) ns (I.ok.hd hc) pl.isList (by simpa using rv.ints) (by unfold scanBound; omega) fun h' tk c R hcn k => ?_
  exact ⟨.ref _, upd H s.heap.objs.size (SetO X.w s.heap.objs.size (fun j => decide (j ∈ ns)) c), I.laid (t' := tk) k (Nat.le_refl _) (setO_new R), rfl, q _ _ (I.hok.fresh (Nat.le_refl _)) hcn⟩
end Jc
namespace Jc
open PySem PySem.Spec L2
open PyProof.Rows hiding St
theorem range_get {α : Type} : ∀ xs : List α, (List.range xs.length).filterMap (fun i => xs[i]?) = xs := by
  intro xs
  have h : ∀ n, n ≤ xs.length → (List.range n).filterMap (fun i => xs[i]?) = xs.take n := by
    intro n
    induction n with
    | zero => intro _; simp
    | succ n ih =>
      intro hn
      rw [List.range_succ, List.filterMap_append, ih (by omega), List.take_add_one]
      congr 1
  have := h xs.length (Nat.le_refl _)
  rwa [List.take_length] at this
/-- a comprehension, its kept elements told by f -/
theorem lc_sel {J : It} {n : Nat} {G : Hp → Prop} {Y : Nat → Hp → V → Hp → Prop} (w : Walk J n G Y) {g : TG} {tt : TT} {te : TE} {vs : List Nat} {σ : L2.St} {H1 : Hp} {D : Addr} {Qd : Hp → Prop} (f : Nat → Option V) (hn : n < 1000000) (hD : H1 D = none)
    (hG : ∀ H2, Same H1 H2 → G H2)
    (hs : ∀ i x H H2 (k : V → Hp → Prop) (kn : Hp → Prop), i < n → Same H1 H → Y i H x H2 → (∀ y H4, f i = some y → Same H H4 → k y H4) → (∀ H3, f i = none → Same H H3 → kn H3) →
      g x (wipe σ vs) H2 fun σ2 H3 => wipe σ2 vs = wipe σ vs ∧ tt σ2 H3 fun b H4 => if b = true then te σ2 H4 k else kn H4)
    (hd : ∀ H2, Same H1 H2 → H2 D = some (.lst ((List.range n).filterMap f)) → Qd H2) :
    ∃ W : Nat → Nat → Hp → Prop, (∃ m, W 0 m (upd H1 D (.lst []))) ∧ ∀ i m H, W i m H →
      (J.stop i H ∧ Qd H) ∨ (J.go i H ∧ ∃ Nx : Hp → Prop, (∀ H', Nx H' → ∃ m', m' < m ∧ W (i + 1) m' H') ∧ ∀ x H', J.yld i H x H' → g x (wipe σ vs) H' fun σ2 H2 => wipe σ2 vs = wipe σ vs ∧ tt σ2 H2 fun b H3 =>
        if b = true then te σ2 H3 fun y H4 => ∃ acc, H4 D = some (.lst acc) ∧ acc.length < sizeLine ∧ Nx (upd H4 D (.lst (acc ++ [y]))) else Nx H3) := by
  have hz : ∀ i, ((List.range i).filterMap f).length ≤ i := fun i => by
    have := List.length_filterMap_le f (List.range i)
    rwa [List.length_range] at this
  refine lc_it w (fun i H => Same H1 H ∧ H D = some (.lst ((List.range i).filterMap f))) ⟨same_new hD, upd_same⟩ (fun i H _ p => hG H p.1) ?_ ?_
  · rintro i x H H' hi ⟨s1, hy⟩ y
    refine hs i x H H' _ _ hi s1 y (fun z H4 e s4 => ⟨_, s4 _ _ hy, Nat.lt_of_lt_of_le (show ((List.range i).filterMap f).length < 1000000 from Nat.lt_of_le_of_lt (hz i) (by omega)) (by rw [sizeLine_eq]; decide), same_mut (s1.trans s4) hD, ?_⟩) fun H3 e s3 => ⟨s1.trans s3, ?_⟩
    · rw [upd_same, List.range_succ, List.filterMap_append]
      simp [e]
    · rw [s3 _ _ hy, List.range_succ, List.filterMap_append]
      simp [e]
  · rintro H ⟨s1, hy⟩
    exact hd H s1 hy
theorem inV_ints {m : Int} : ∀ ts : List Int, inV (.int m) (ts.map V.int) = decide (m ∈ ts)
  | [] => by simp [inV]
  | t :: r => by
    have ih := inV_ints (m := m) r
    unfold inV at ih ⊢
    rw [List.map_cons, List.any_cons, ih]
    show ((t == m) || decide (m ∈ r)) = decide (m ∈ t :: r)
    by_cases h : t = m
    · subst h; simp
    · have h2 : m ≠ t := fun z => h z.symm
      simp [h, h2]
theorem flat_ints : ∀ ts : List Int, (ts.map V.int).all flatV = true := fun ts => by
  rw [List.all_eq_true]
  intro x hx
  obtain ⟨y, _, rfl⟩ := List.mem_map.mp hx
  rfl
theorem get_ints {ts : List Int} {i : Nat} {x : V} (h : (ts.map V.int)[i]? = some x) : ∃ k : Int, ts[i]? = some k ∧ x = .int k := by
  rw [List.getElem?_map] at h
  cases e : ts[i]? with
  | none => rw [e] at h; cases h
  | some k =>
    rw [e] at h
    exact ⟨k, rfl, (Option.some.inj h).symm⟩
/-- the place of an int in a list, as list.index tells it -/
theorem idx_ints {ts : List Int} {m : Int} (h : m ∈ ts) : (ts.map V.int)[ts.idxOf m]? = some (.int m) ∧ ∀ (j : Nat) (z : V), j < ts.idxOf m → (ts.map V.int)[j]? = some z → eqV z (.int m) = false := by
  have hl := List.idxOf_lt_length_of_mem h
  refine ⟨?_, fun j z hj e => ?_⟩
  · rw [List.getElem?_map, List.getElem?_eq_getElem hl, List.getElem_idxOf hl]
    rfl
  · obtain ⟨k, hk, rfl⟩ := get_ints e
    have h3 := List.not_of_lt_findIdx (p := (· == m)) hj
    obtain ⟨h1, h2⟩ := List.getElem?_eq_some_iff.mp hk
    rw [h2] at h3
    exact h3
end Jc
namespace Jc
open PySem PySem.Spec L2
open PyProof.Rows hiding St
/-! ### rules whose readings name the kept objects: for the blocks of comprehensions, whose Cx may not stand in a reading -/
section
variable {X : Cx} {K : PySem.W.Frag} {o e : Expr} {es : List Expr} {to ta : TE} {t : TA} {name fl : Str} {apos cpos pos : Pos} {T id : String} {r : V → List V → Hp → VK → Prop}
theorem ixl_K (h : X.K = K) : IxR X (rIxL K) := by subst h; exact ix_list
theorem ixt_K (h : X.K = K) : IxR X (rIxT K) := by subst h; exact ix_tup
theorem in_K (h : X.K = K) : OpR X (compareOp .In) (rIn K false) := by subst h; exact op_in_seq
theorem notin_K (h : X.K = K) : OpR X (compareOp .NotIn) (rIn K true) := by subst h; exact op_notIn_seq
theorem index_K (h : X.K = K) : MtR X "list.index" (rIndex K) := by subst h; exact mt_index
theorem isi_K (h : X.K = K) : CallR X (.builtin "isinstance") (rIsi K) := by subst h; exact call_isi
theorem pe_bmK (h : X.K = K) (pa : PlainAttrs T) (slot : Slot T name id) (hty : typeOf (.builtin id) = pure (.type "method_descriptor")) (hm : MtR X id r) (ho : PE X o to) (ha : PA X (e :: es) t)
    (hbase : attributeBase o name X.env (eval o X.env) = eval o X.env := by rfl)
    (hfew : ((backTo cpos (starEach (e :: es) X.env)).all (fun x => !x.1) && (backToKw cpos (keywordEach [] X.env)).all (fun x => x.1.isSome) && decide ((e :: es).length + ([] : List Keyword).length + (if ([] : List Keyword).isEmpty then 0 else 1) < 30)) = true := by rfl)
    (hline : (apos.endLine == cpos.line) = true := by rfl) (hs : starEach (e :: es) X.env = (false, eval e X.env) :: starEach es X.env := by rfl) (hplain : (backTo cpos (starEach es X.env)).any (·.1) = false := by rfl) :
    PE X (.Call (.Attribute o name apos) (e :: es) [] cpos) (tBM K T r to t) := by
  subst h
  exact pe_bm pa slot hty hm ho ha hbase hfew hline hs hplain
theorem pe_fldK (h : X.K = K) (he : PE X e ta) (hb : attributeBase e fl X.env (eval e X.env) = eval e X.env := by rfl) : PE X (.Attribute e fl pos) (tFld K ta fl) := by
  subst h
  exact pe_fld he hb
theorem pg_tupK {ts : List Expr} {k : Nat} {tt : TGs} {n : Nat} (hK : X.K = K) (hc : X.calm = true) (h : PGs X ts tt)
    (hn : (assignEach ts X.env).length = n := by rfl) (hst : (assignEach ts X.env).findIdx? (·.1) = none := by rfl) : PG X (.Tuple ts k pos) (gTup K n tt) := by
  subst hK
  exact pg_tup hc h hn hst
end
theorem le_line {n : Nat} (h : n ≤ 1000000) : n ≤ sizeLine := Nat.le_trans h (by rw [sizeLine_eq]; decide)
theorem iteNT {c A B : Prop} [Decidable c] (hc : ¬ c) (h : A) : if (!decide c) = true then A else B := by
  rw [decide_eq_false hc]
  exact iteT h
theorem iteDT {c A B : Prop} [Decidable c] (hc : c) (h : A) : if decide c = true then A else B := by
  rw [decide_eq_true hc]
  exact iteT h
theorem iteDF {c A B : Prop} [Decidable c] (hc : ¬ c) (h : B) : if decide c = true then A else B := by
  rw [decide_eq_false hc]
  exact iteF h
end Jc
namespace Jc
open PySem PySem.Spec L2
open PyProof.Rows hiding St
def topS (i : Nat) : Stmt := PySem.Challenge.pw_cutshows_k11_whole_partitions_beside_mar.main.body.getD i (.Pass ⟨0, 0, 0, 0⟩)
section
variable {P : Program} {w : World} {K : PySem.W.Frag} {mg : Str → Option Value} {base : Heap} {f : Addr} {fd : FuncData}
abbrev s_draw : Stmt := topS 27
abbrev N_draw : List Str := ["_law_pot_here", "_law_lot", "_law_digit"]
theorem sc_draw : FnScope N_draw ["_law_pot_here", "_law_lot"] (defScope s_draw) := ⟨rfl, rfl, rfl, by decide +kernel, rfl, by decide +kernel, by decide +kernel⟩
theorem ok_draw (F : Fun K "_law_draw" "_law_draw" s_draw f fd) (B : Blt mg) : FnG P w K mg base 1 f fd ["_law_pot_here", "_law_lot"] spDraw := by
  refine fnG_of F sc_draw (fun vs H Q E h => ?_) (fun us hl => ?_) (fun cdv A outer s H vs Q hr hq h => ?_)
  · obtain ⟨p, n, rfl, _⟩ := h
    rfl
  · match us, hl with
    | [_, _], _ => rfl
  · obtain ⟨p, n, rfl, hp, hn, hn2, q⟩ := h
    refine ⟨_, pss_pot (pss_cons (ps_if (pt_cmpR op_gt (pe_ix ix_list (pv 0) pe_int (fun _ _ => rfl)) pe_int (nomark _)) (pss_cons (ps_asg (pe_callB call_divmodW rfl B.divmod bo_divmod (pa_cons (pe_ix ix_list (pv 0) pe_int (fun _ _ => rfl)) (pa_cons (pv 1) pa_nil))) (pg_tup rfl (pgs_cons (pg_sub (pv 0) pe_int set_list) (pgs_cons (pg_name (i := 2) sc_draw.nd rfl (.inl rfl)) pgs_nil))))
      (pss_one (ps_ret (pe_pot (pv 2))))) pss_nil)
      (pss_cons (ps_asg (pe_op op_mod (pe_callTy call_int1 rfl B.int bo_int (pa_cons (pe_op op_add (pe_op op_mul (pe_ix ix_list (pv 0) pe_int (fun _ _ => rfl)) pe_int) pe_int) pa_nil)) pe_int) (pg_sub (pv 0) pe_int set_list))
      (pss_one (ps_ret (pe_pot (pe_op op_mod (pe_callTy call_int1 rfl B.int bo_int (pa_cons (pe_op op_fdiv (pe_op op_mod (pe_callTy call_int1 rfl B.int bo_int (pa_cons (pe_op op_mul (pe_ix ix_list (pv 0) pe_int (fun _ _ => rfl)) (pe_ix ix_list (pv 0) pe_int (fun _ _ => rfl))) pa_nil)) pe_int) pe_int) pa_nil)) (pv 1))))))), ?_⟩
    refine ⟨p, hp, fun a b ha hb hb2 => ?_⟩
    have S0 : SqL K (upd H p (.lst [.int a, .int b])) p [.int a, .int b] := .inl (.inl upd_same)
    have keep : ∀ b' u, b' ≠ p → H b' = some u → (upd H p (.lst [.int a, .int b])) b' = some u := fun b' u hb' e => by rw [upd_ne hb']; exact e
    refine ⟨.ref p, rfl, p, _, 0, .int a, rfl, rfl, S0, atI_nat (j := 0) rfl, _, _, rfl, rfl, _, rfl, ite2 (fun hc => ?_) (fun hc => ?_)⟩
    · have h0 : 0 < a := of_decide_eq_true hc
      refine ⟨.ref p, rfl, p, _, 0, .int a, rfl, rfl, S0, atI_nat (j := 0) rfl, .int n, rfl, a, n, rfl, ⟨hn, PyProof.noPylong_small (by omega)⟩, fun t nt => ?_⟩
      have npt : p ≠ t := fun e => by
        rw [e, upd_same] at nt
        cases nt
      -- pot[0], digit = ..
      refine ⟨t, _, rfl, .inl (.inl upd_same), rfl, _, _, rfl, ?_⟩
      refine ⟨.ref p, rfl, p, [.int a, .int b], 0, 0, rfl, rfl, by rw [upd_ne npt]; exact upd_same, rfl, _, _, rfl, rfl, ?_⟩
      refine ⟨.int (a % n), rfl, p, a / n, b, upd_same, Int.ediv_nonneg ha (by omega), hb, hb2, ?_⟩
      refine q (a % n) _ (Int.emod_nonneg a (by omega)) (Int.emod_lt_of_pos a hn) (same_back hp fun b' u hb' e => ?_)
      rw [upd_ne hb', upd_ne, upd_ne hb']
      · exact e
      · rintro rfl
        rw [upd_ne (Ne.symm npt)] at nt
        rw [e] at nt
        cases nt
    · refine ⟨.ref p, rfl, p, _, 1, .int b, rfl, rfl, S0, atI_nat (j := 1) rfl, b, 48271, rfl, rfl, .inr ⟨by decide, by decide⟩, _, _, rfl, rfl, .inl ⟨_, rfl, _, _, rfl, rfl, (by show (0 : Int) < 2147483587; decide), .ref p, rfl, p, [.int a, .int b], 1, 1, rfl, rfl, upd_same, rfl, ?_⟩⟩
      have c0 : 0 ≤ (b * 48271 + 12391) % 2147483587 := Int.emod_nonneg _ (by decide)
      have c1 : (b * 48271 + 12391) % 2147483587 < 2147483587 := Int.emod_lt_of_pos _ (by decide)
      have eS : ([V.int a, V.int b].set 1 (.int ((b * 48271 + 12391) % 2147483587))) = [.int a, .int ((b * 48271 + 12391) % 2147483587)] := rfl
      rw [eS]
      generalize (b * 48271 + 12391) % 2147483587 = c at c0 c1
      have S1 : SqL K (upd (upd H p (.lst [.int a, .int b])) p (.lst [.int a, .int c])) p [.int a, .int c] := .inl (.inl upd_same)
      refine ⟨.ref p, rfl, p, _, 1, .int c, rfl, rfl, S1, atI_nat (j := 1) rfl, .ref p, rfl, p, _, 1, .int c, rfl, rfl, S1, atI_nat (j := 1) rfl, c, c, rfl, rfl, .inl ⟨by omega, by omega⟩, .inl ⟨_, rfl, _, _, rfl, rfl, (by show (0 : Int) < 2147483549; decide), _, _, rfl, rfl, ⟨by decide, by decide⟩, .inl ⟨_, rfl, .int n, rfl, _, n, rfl, rfl, hn, ?_⟩⟩⟩
      refine ⟨p, a, c, upd_same, ha, c0, c1, ?_⟩
      refine q _ _ (Int.emod_nonneg _ (by omega)) (Int.emod_lt_of_pos _ hn) (same_back hp fun b' u hb' e => ?_)
      rw [upd_ne hb', upd_ne hb']
      exact e
abbrev s_pot : Stmt := topS 26
abbrev N_pot : List Str := ["_law_script", "_law_k", "_law_cell"]
theorem sc_pot : FnScope N_pot ["_law_script", "_law_k"] (defScope s_pot) := ⟨rfl, rfl, rfl, by decide +kernel, rfl, by decide +kernel, by decide +kernel⟩
theorem ok_pot (F : Fun K "_law_pot" "_law_pot" s_pot f fd) (B : Blt mg) : FnG P w K mg base 1 f fd ["_law_script", "_law_k"] (spPot K) := by
  refine fnG_of F sc_pot (fun vs H Q E h => ?_) (fun us hl => ?_) (fun cdv A outer s H vs Q hr hq h => ?_)
  · obtain ⟨a, ns, k, rfl, _⟩ := h
    rfl
  · match us, hl with
    | [_, _], _ => rfl
  · obtain ⟨a, ns, k, rfl, hS, hk, q⟩ := h
    refine ⟨_, (pss_cons (ps_set (i := 2) sc_pot.nd rfl (.inl rfl) (pe_op op_add (pe_op op_mul pe_int (pv 1)) pe_int))
      (Evl.pss_cut (ps_if (pt_cmpR op_lt (pv 1) (pe_callB call_len_seq rfl B.len bo_len (pa_cons (pv 0) pa_nil)) (nomark _)) (pss_one (ps_set (i := 2) sc_pot.nd rfl (.inl rfl) (pe_callB call_abs rfl B.abs bo_abs (pa_cons (pe_ix ix_list (pv 0) (pv 1) (fun _ _ => rfl)) pa_nil)))) pss_nil)
      (pss_one (ps_ret (pe_lst (pa_cons (pe_callB (call_max2 rfl) rfl B.max bo_max (pa_cons pe_int (pa_cons (pe_op op_sub (pv 2) (pe_op op_pow pe_int pe_int)) pa_nil))) (pa_cons (pe_op op_add (pe_op op_mod (pe_op op_mul (pe_callTy call_int1 rfl B.int bo_int (pa_cons (pe_op op_add (pe_op op_mod (pe_callTy call_int1 rfl B.int bo_int (pa_cons (pv 2) pa_nil)) pe_int) pe_int) pa_nil)) (pe_op op_pow (pe_op op_add (pe_op op_mul pe_int (pv 1)) pe_int) pe_int)) pe_int) pe_int) pa_nil))))))), ?_⟩
    refine ⟨.int k, rfl, _, _, rfl, rfl, .inl ⟨by decide, by decide⟩, _, _, rfl, rfl, ?_⟩
    refine ⟨fun σ H' => H' = H ∧ ∃ z : Int, σ = [some (.ref a), some (.int k), some (.int z)], ?_, ?_⟩
    · refine ⟨.int k, rfl, .ref a, rfl, a, _, rfl, .inl hS, _, _, rfl, rfl, _, rfl, ite2 (fun hc => ?_) (fun hc => ?_)⟩
      · have hc2 : (k : Int) < ((ns.map V.int).length : Int) := of_decide_eq_true hc
        have hlt : k < ns.length := by rw [List.length_map] at hc2; omega
        have g : (ns.map V.int)[k]? = some (.int ns[k]) := by rw [List.getElem?_map, List.getElem?_eq_getElem hlt]; rfl
        exact ⟨.ref a, rfl, .int k, rfl, a, _, _, _, rfl, rfl, hS, atI_nat g, _, rfl, rfl, _, rfl⟩
      · exact ⟨rfl, _, rfl⟩
    · rintro σ H' ⟨rfl, z, rfl⟩
      refine ⟨.int z, rfl, _, _, rfl, rfl, ⟨by decide, by decide, by decide⟩, _, _, rfl, rfl, _, _, rfl, ?_⟩
      refine ⟨.int z, rfl, .inl ⟨_, rfl, _, _, rfl, rfl, (by show (0 : Int) < 2147483549; decide), _, _, rfl, rfl, .inl ⟨_, rfl, ?_⟩⟩⟩
      refine ⟨.int k, rfl, _, _, rfl, rfl, .inl ⟨by decide, by decide⟩, _, _, rfl, rfl, _, _, rfl, rfl, ⟨by decide, by decide, by omega⟩, _, _, rfl, rfl, ?_, ?_⟩
      · have e0 := Int.emod_nonneg z (show (2147483549 : Int) ≠ 0 by decide)
        have e1 := Int.emod_lt_of_pos z (show (0 : Int) < 2147483549 by decide)
        exact .inl ⟨by omega, by omega⟩
      · refine ⟨_, _, rfl, rfl, (by show (0 : Int) < 2147483477; decide), _, _, rfl, rfl, two_le, fun p np => ?_⟩
        refine q p _ _ np ?_ ?_ ?_
        · split <;> omega
        · have := Int.emod_nonneg ((z % 2147483549 + 19) * (2 * (k : Int) + 3) ^ (3 : Int).toNat) (show (2147483477 : Int) ≠ 0 by decide)
          omega
        · have := Int.emod_lt_of_pos ((z % 2147483549 + 19) * (2 * (k : Int) + 3) ^ (3 : Int).toNat) (show (0 : Int) < 2147483477 by decide)
          omega
end
end Jc
namespace Jc
open PySem PySem.Spec L2
open PyProof.Rows hiding St
structure TxP (mg : Str → Option Value) (t1 : Tok) : Prop where
  GONE : mg "GONE" = some (.int (-1) t1)
def spInt : Sp := fun vs H Q _ => ∃ i : Int, vs = [.int i] ∧ Q (.bl true) H
def spCnt : Sp := fun vs H Q _ => ∃ i : Int, vs = [.int i] ∧ Q (.bl (decide (0 ≤ i))) H
/-- a list or tuple of ints -/
def SqI (K : PySem.W.Frag) (H : Hp) (b : Addr) (hs : List Int) : Prop := SqL K H b (hs.map V.int) ∨ SqT K H b (hs.map V.int)
def spHold (K : PySem.W.Frag) : Sp := fun vs H Q _ => ∃ (a b : Addr) (c hs : List Int), vs = [.ref a, .ref b] ∧ SqT K H a (c.map V.int) ∧ SqI K H b hs ∧ (∀ h ∈ hs, 0 ≤ h ∧ h < (c.length : Int)) ∧ ∀ H2, Same H H2 → Q .non H2
def spNum (K : PySem.W.Frag) : Sp := fun vs H Q _ => ∃ (a : Addr) (ms : List Int), vs = [.ref a] ∧ SqL K H a (ms.map V.int) ∧ ms.length ≤ 1000 ∧ ∀ (p : Addr) (H2 : Hp), Same H H2 → H p = none → H2 p = some (.lst ((num ms).map V.int)) → Q (.ref p) H2
def members (c : List Int) (m : Int) : List Int := (List.range c.length).filterMap fun i : Nat => if c[i]? = some m then some (i : Int) else none
def spMem (K : PySem.W.Frag) : Sp := fun vs H Q _ => ∃ (a : Addr) (c : List Int) (m : Int), vs = [.ref a, .int m] ∧ SqT K H a (c.map V.int) ∧ c.length ≤ 1000 ∧ ∀ (p : Addr) (H2 : Hp), Same H H2 → H p = none → H2 p = some (.lst ((members c m).map V.int)) → Q (.ref p) H2
def spMark (K : PySem.W.Frag) : Sp := fun vs H Q _ => ∃ (a b : Addr) (c hs : List Int) (m : Int), vs = [.ref a, .ref b, .int m] ∧ SqT K H a (c.map V.int) ∧ SqI K H b hs ∧ c.length ≤ 1000 ∧ ∀ (p : Addr) (H2 : Hp), Same H H2 → H p = none → H2 p = some (.lst ((marked c hs m).map V.int)) → Q (.ref p) H2
theorem seqT {K : PySem.W.Frag} {H H' : Hp} {a : Addr} {xs : List V} (e : Same H H') (h : SqT K H a xs) : SqT K H' a xs := by
  rcases h with (h | ⟨o, h⟩) | h
  · exact .inl (.inl (e _ _ h))
  · exact .inl (.inr ⟨o, e _ _ h⟩)
  · exact .inr h
theorem SqI.same {K : PySem.W.Frag} {H H2 : Hp} {b : Addr} {hs : List Int} (s : Same H H2) (h : SqI K H b hs) : SqI K H2 b hs := h.imp (fun z => s.seq z) (fun z => seqT s z)
section
variable {P : Program} {w : World} {K : PySem.W.Frag} {mg : Str → Option Value} {base : Heap} {f : Addr} {fd : FuncData} {t1 : Tok}
abbrev s_is_integer : Stmt := topS 2
abbrev N_is_integer : List Str := ["value"]
theorem sc_is_integer : FnScope N_is_integer ["value"] (defScope s_is_integer) := ⟨rfl, rfl, rfl, by decide +kernel, rfl, by decide +kernel, by decide +kernel⟩
theorem ok_is_integer (F : Fun K "is_integer" "is_integer" s_is_integer f fd) (B : Blt mg) : FnOk P w K mg base CX0 1 f fd ["value"] spInt := by
  refine F.ok sc_is_integer (fun vs H Q E h => ?_) (fun cdv A outer s H vs Q E hr h => ?_)
  · obtain ⟨i, rfl, _⟩ := h
    rfl
  · obtain ⟨i, rfl, q⟩ := h
    refine ⟨_, (pss_one (ps_ret (pe_and (pe_callB call_isi rfl B.isinstance bo_isinstance (pa_cons (pv 0) (pa_cons (pe_bltn (v := .ty "int") rfl B.int bo_int rfl) pa_nil))) (pe_one (pe_not (pe_callB call_isi rfl B.isinstance bo_isinstance (pa_cons (pv 0) (pa_cons (pe_bltn (v := .ty "bool") rfl B.bool bo_bool rfl) pa_nil)))))))), ?_⟩
    exact ⟨.int i, rfl, .int i, _, _, _, _, rfl, .ty "int", .base (.int i), kit_ty (r := true) (by decide +kernel), _, rfl, .int i, rfl, .int i, _, _, _, _, rfl, .ty "bool", .base (.int i), kit_ty (r := false) (by decide +kernel), _, rfl, q⟩
abbrev s_is_count : Stmt := topS 3
abbrev N_is_count : List Str := ["value"]
theorem sc_is_count : FnScope N_is_count ["value"] (defScope s_is_count) := ⟨rfl, rfl, rfl, by decide +kernel, rfl, by decide +kernel, by decide +kernel⟩
theorem ok_is_count (F : Fun K "is_count" "is_count" s_is_count f fd) (c_is_integer : OwnK P w K mg base "is_integer" 1 ["value"] spInt) : FnOk P w K mg base CX0 2 f fd ["value"] spCnt := by
  refine F.ok sc_is_count (fun vs H Q E h => ?_) (fun cdv A outer s H vs Q E hr h => ?_)
  · obtain ⟨i, rfl, _⟩ := h
    rfl
  · obtain ⟨i, rfl, q⟩ := h
    refine ⟨_, (pss_one (ps_ret (pe_and (pe_ownk c_is_integer hr (by decide) (pa_cons (pv 0) pa_nil)) (pe_one (pe_cmpR op_ge (pv 0) pe_int (nomark _)))))), ?_⟩
    exact ⟨.int i, rfl, i, rfl, _, rfl, .int i, rfl, _, _, rfl, rfl, q⟩
abbrev s_chold : Stmt := topS 15
abbrev N_chold : List Str := ["classes", "holders", "holder"]
theorem sc_chold : FnScope N_chold ["classes", "holders"] (defScope s_chold) := ⟨rfl, rfl, rfl, by decide +kernel, rfl, by decide +kernel, by decide +kernel⟩
theorem ok_chold (F : Fun K "_check_holders" "_check_holders" s_chold f fd) (B : Blt mg) (c_is_count : OwnK P w K mg base "is_count" 2 ["value"] spCnt) : FnOk P w K mg base CX0 3 f fd ["classes", "holders"] (spHold K) := by
  refine F.ok sc_chold (fun vs H Q E h => ?_) (fun cdv A outer s H vs Q E hr h => ?_)
  · obtain ⟨a, b, c, hs, rfl, _⟩ := h
    rfl
  · obtain ⟨a, b, c, hs, rfl, hc, hb, hi, q⟩ := h
    rcases hb with hb | hb
    · refine ⟨_, (pss_one (ps_for PassesOwn.never rfl (pi_list (pv 1)) (pg_name (i := 2) sc_chold.nd rfl (.inl rfl)) (pss_one (ps_if (PW.pt (pw_or (pt_not (pt_val (pe_ownk c_is_count hr (by decide) (pa_cons (pv 2) pa_nil)))) (pw_or1 (pt_cmpR op_ge (pv 2) (pe_callB call_len_seq rfl B.len bo_len (pa_cons (pv 0) pa_nil)) (nomark _))))) (pss_one ps_never) pss_nil)))), ?_⟩
      refine ⟨_, rfl, b, rfl, ⟨_, hb⟩, for_it walk_list (fun i σ H2 => ∃ y, σ = [some (.ref a), some (.ref b), y] ∧ Same H H2) ⟨_, rfl, Same.refl H⟩ (fun _ _ _ _ z => by obtain ⟨_, _, s2⟩ := z; exact s2.seq hb) ?_ (fun σ H2 ⟨y, _, s2⟩ => q H2 s2)⟩
      rintro i x σ H1 H2 hi' ⟨y, rfl, s1⟩ ⟨rfl, hx⟩
      obtain ⟨h, hh, rfl⟩ := get_ints hx
      obtain ⟨h0, h1⟩ := hi h (List.mem_of_getElem? hh)
      refine ⟨.int h, rfl, h, rfl, ?_⟩
      rw [decide_eq_true h0]
      refine ⟨true, rfl, iteF ⟨.int h, rfl, .ref a, rfl, a, _, rfl, .inr (seqT s1 hc), _, _, rfl, rfl, _, rfl, ?_⟩⟩
      rw [List.length_map, decide_eq_false (by omega)]
      exact iteF ⟨_, rfl, s1⟩
    · refine ⟨_, (pss_one (ps_for PassesOwn.never rfl (pi_tup (pv 1)) (pg_name (i := 2) sc_chold.nd rfl (.inl rfl)) (pss_one (ps_if (PW.pt (pw_or (pt_not (pt_val (pe_ownk c_is_count hr (by decide) (pa_cons (pv 2) pa_nil)))) (pw_or1 (pt_cmpR op_ge (pv 2) (pe_callB call_len_seq rfl B.len bo_len (pa_cons (pv 0) pa_nil)) (nomark _))))) (pss_one ps_never) pss_nil)))), ?_⟩
      refine ⟨_, rfl, b, rfl, ⟨_, hb⟩, for_it walk_tup (fun i σ H2 => ∃ y, σ = [some (.ref a), some (.ref b), y] ∧ Same H H2) ⟨_, rfl, Same.refl H⟩ (fun _ _ _ _ z => by obtain ⟨_, _, s2⟩ := z; exact seqT s2 hb) ?_ (fun σ H2 ⟨y, _, s2⟩ => q H2 s2)⟩
      rintro i x σ H1 H2 hi' ⟨y, rfl, s1⟩ ⟨rfl, hx⟩
      obtain ⟨h, hh, rfl⟩ := get_ints hx
      obtain ⟨h0, h1⟩ := hi h (List.mem_of_getElem? hh)
      refine ⟨.int h, rfl, h, rfl, ?_⟩
      rw [decide_eq_true h0]
      refine ⟨true, rfl, iteF ⟨.int h, rfl, .ref a, rfl, a, _, rfl, .inr (seqT s1 hc), _, _, rfl, rfl, _, rfl, ?_⟩⟩
      rw [List.length_map, decide_eq_false (by omega)]
      exact iteF ⟨_, rfl, s1⟩
end
end Jc
namespace Jc
open PySem PySem.Spec L2
open PyProof.Rows hiding St
theorem told_take (ms : List Int) (i : Nat) {m : Int} (h : ms[i]? = some m) : (ms.take (i + 1)).foldl toldF [] = toldF ((ms.take i).foldl toldF []) m := by
  rw [List.take_add_one, h, List.foldl_append]
  rfl
theorem told_short (ms : List Int) (i : Nat) : ((ms.take i).foldl toldF []).length ≤ ms.length := by
  have h := told_len (ms.take i) []
  have h2 : (ms.take i).length ≤ ms.length := by rw [List.length_take]; omega
  have h3 : ([] : List Int).length = 0 := rfl
  omega
section
variable {P : Program} {w : World} {K : PySem.W.Frag} {mg : Str → Option Value} {base : Heap} {f : Addr} {fd : FuncData} {t1 : Tok}
abbrev s_numbered : Stmt := topS 20
abbrev N_numbered : List Str := ["marks", "told", "mark"]
theorem sc_numbered : FnScope N_numbered ["marks"] (defScope s_numbered) := ⟨rfl, rfl, rfl, by decide +kernel, rfl, by decide +kernel, by decide +kernel⟩
theorem ok_numbered (F : Fun K "numbered" "numbered" s_numbered f fd) (B : Blt mg) (T : TxP mg t1) : FnOk P w K mg base CX0 1 f fd ["marks"] (spNum K) := by
  refine F.ok sc_numbered (fun vs H Q E h => ?_) (fun cdv A outer s H vs Q E hr h => ?_)
  · obtain ⟨a, ms, rfl, _⟩ := h
    rfl
  · obtain ⟨a, ms, rfl, ha, hl, q⟩ := h
    refine ⟨_, (pss_cons (ps_set (i := 1) sc_numbered.nd rfl (.inr rfl) (pe_lst pa_nil))
      (pss_cons (ps_for PassesOwn.never rfl (pi_list (pv 0)) (pg_name (i := 2) sc_numbered.nd rfl (.inl rfl)) (pss_one (ps_if (PW.pt (pw_and (pt_cmpR op_ne (pv 2) (pe_glob (v := .int (-1)) rfl T.GONE ⟨_, rfl⟩) (nomark _)) (pw_and1 (pt_cmpR op_notIn_seq (pv 2) (pv 1) rfl)))) (pss_one (ps_expr (pe_bm PySem.F.plainAttrs_list PySem.F.slot_list_append PySem.F.type_list_append mt_append (pv 1) (pa_cons (pv 2) pa_nil)))) pss_nil)))
      (pss_one (ps_ret (pe_lc (own := [("mark", 2)]) (g := gName 2) rfl sc_numbered.nd (pi_list (pv 0)) (blkOk_by (own := [("mark", 2)]) (N := N_numbered) (sc := defScope s_numbered) (by decide +kernel)) (fun _ _ _ _ _ => pg_name (i := 2) sc_numbered.nd rfl (.inl rfl)) (fun _ _ _ _ _ => pts_nil) (fun _ _ _ _ _ => (pe_ifExp (pt_cmpR op_eq (pv 2) (pe_glob (v := .int (-1)) rfl T.GONE ⟨_, rfl⟩) (nomark _)) (pe_glob (v := .int (-1)) rfl T.GONE ⟨_, rfl⟩) (pe_bmK (K := K) rfl PySem.F.plainAttrs_list PySem.F.slot_list_index PySem.F.type_list_index (index_K (K := K) rfl) (pv 1) (pa_cons (pv 2) pa_nil))))))))), ?_⟩
    refine ⟨le_line (by decide), fun L nL => ?_⟩
    refine ⟨_, rfl, a, rfl, ⟨_, (same_new nL).seq ha⟩, for_it walk_list (fun i σ H2 => ∃ y, σ = [some (.ref a), some (.ref L), y] ∧ Same H H2 ∧ H2 L = some (.lst (((ms.take i).foldl toldF []).map V.int))) ⟨_, rfl, same_new nL, upd_same⟩ (fun _ _ _ _ z => by obtain ⟨_, _, s2, _⟩ := z; exact s2.seq ha) ?_ ?_⟩
    · rintro i x σ H1 H2 hi ⟨y, rfl, s1, hL⟩ ⟨rfl, hx⟩
      obtain ⟨m, hm, rfl⟩ := get_ints hx
      refine ⟨.int m, rfl, rfl, _, rfl, ?_⟩
      have e : (ms.take (i + 1)).foldl toldF [] = toldF ((ms.take i).foldl toldF []) m := told_take ms i hm
      by_cases c1 : m = -1
      · refine iteNS (congrArg V.int c1) (iteF ⟨_, rfl, s1, ?_⟩)
        rw [e, toldF, if_neg (fun z => z.1 c1)]
        exact hL
      · refine iteNT (fun z => c1 (V.int.inj z)) ⟨.int m, rfl, .ref L, rfl, ⟨L, _, rfl, .inl (.inl (.inl hL)), rfl, flat_ints _, _, rfl, ?_⟩⟩
        rw [if_pos (rfl : true = true), inV_ints]
        by_cases c2 : m ∈ (ms.take i).foldl toldF []
        · refine iteNS c2 ⟨_, rfl, s1, ?_⟩
          rw [e, toldF, if_neg (fun z => z.2 c2)]
          exact hL
        · have hz := told_short ms i
          refine iteNT c2 ⟨.ref L, rfl, .inl ⟨rfl, _, .inl (.inl hL)⟩, .int m, rfl, L, _, _, rfl, rfl, hL, ?_, ?_⟩
          · rw [List.length_map]
            exact Nat.lt_of_lt_of_le (show _ < 1000000 by omega) (by rw [sizeLine_eq]; decide)
          · refine ⟨_, rfl, same_mut s1 nL, ?_⟩
            rw [upd_same, e, toldF, if_pos ⟨c1, c2⟩, List.map_append]
            rfl
    · rintro σ H2 ⟨y, rfl, s2, hL⟩
      rw [List.length_map, List.take_length] at hL
      refine ⟨_, rfl, a, rfl, ⟨_, s2.seq ha⟩, fun D hD => ?_⟩
      refine lc_sel walk_list (fun i => ((num ms).map V.int)[i]?) (by rw [List.length_map]; omega) hD (fun H3 z => (s2.trans z).seq ha) ?_ ?_
      · rintro i x H3 H4 k kn hi z ⟨rfl, hx⟩ ky kk
        obtain ⟨m, hm, rfl⟩ := get_ints hx
        have e : ((num ms).map V.int)[i]? = some (.int (numOf (told ms) m)) := by rw [List.getElem?_map, num_at hm]; rfl
        refine ⟨rfl, ?_⟩
        refine iteT (B := kn H4) ?_
        refine ⟨.int m, rfl, rfl, _, rfl, ?_⟩
        by_cases c1 : m = -1
        · refine iteDT (congrArg V.int c1) (ky _ _ ?_ (Same.refl _))
          rw [e, numOf, if_pos c1]
        · have hmem : m ∈ told ms := told_mem.mpr ⟨List.mem_of_getElem? hm, c1⟩
          obtain ⟨i1, i2⟩ := idx_ints hmem
          refine iteDF (fun z => c1 (V.int.inj z)) ⟨.ref L, rfl, .inl ⟨rfl, _, .inl (.inl (z _ _ hL))⟩, .int m, rfl, L, _, .int m, (told ms).idxOf m, .int m, rfl, rfl, .inl (.inl (z _ _ hL)), rfl, flat_ints _, i1, (by show (m == m) = true; exact beq_self_eq_true m), i2, ?_⟩
          refine ky _ _ ?_ (Same.refl _)
          rw [e, numOf, if_neg c1]
      · intro H3 z hD2
        refine q D H3 (s2.trans z) (s2.free hD) ?_
        rw [hD2]
        have e : (ms.map V.int).length = ((num ms).map V.int).length := by rw [List.length_map, List.length_map, num_len]
        rw [e, range_get]
end
end Jc
namespace Jc
open PySem PySem.Spec L2
open PyProof.Rows hiding St
theorem members_map (c : List Int) (m : Int) : (members c m).map V.int = (List.range c.length).filterMap fun i : Nat => if c[i]? = some m then some (V.int (i : Int)) else none := by
  unfold members
  rw [List.map_filterMap]
  congr 1
  funext i
  split <;> rfl
theorem marked_get {c ts : List Int} {m : Int} {i : Nat} {x : Int} (h : c[i]? = some x) : (marked c ts m)[i]? = some (if (i : Int) ∈ ts then m else x) := by
  unfold marked
  rw [List.getElem?_mapIdx, h]
  rfl
section
variable {P : Program} {w : World} {K : PySem.W.Frag} {mg : Str → Option Value} {base : Heap} {f : Addr} {fd : FuncData} {t1 : Tok}
abbrev s_members : Stmt := topS 21
abbrev N_members : List Str := ["classes", "number", "holder", "found"]
theorem sc_members : FnScope N_members ["classes", "number"] (defScope s_members) := ⟨rfl, rfl, rfl, by decide +kernel, rfl, by decide +kernel, by decide +kernel⟩
theorem ok_members (F : Fun K "_members" "_members" s_members f fd) (B : Blt mg) : FnOk P w K mg base CX0 1 f fd ["classes", "number"] (spMem K) := by
  refine F.ok sc_members (fun vs H Q E h => ?_) (fun cdv A outer s H vs Q E hr h => ?_)
  · obtain ⟨a, c, m, rfl, _⟩ := h
    rfl
  · obtain ⟨a, c, m, rfl, ha, hl, q⟩ := h
    refine ⟨_, (pss_one (ps_ret (pe_lc (own := [("holder", 2), ("found", 3)]) (g := _) rfl sc_members.nd (pi_ent rfl B.enumerate (pa_cons (pv 0) pa_nil)) (blkOk_by (own := [("holder", 2), ("found", 3)]) (N := N_members) (sc := defScope s_members) (by decide +kernel)) (fun _ _ _ _ _ => pg_tupK (K := K) (n := 2) rfl rfl (pgs_cons (pg_name (i := 2) sc_members.nd rfl (.inl rfl)) (pgs_cons (pg_name (i := 3) sc_members.nd rfl (.inl rfl)) pgs_nil))) (fun _ _ _ _ _ => pts_one (pt_cmpR op_eq (pv 3) (pv 1) (nomark _))) (fun _ _ _ _ _ => (pv 2))))), ?_⟩
    refine ⟨.ref a, rfl, a, _, rfl, ha, fun D hD => ?_⟩
    refine lc_sel walk_ent (fun i => if c[i]? = some m then some (V.int (i : Int)) else none) (by rw [List.length_map]; omega) hD (fun H3 z => seqT z ha) ?_ ?_
    · rintro i x H3 H4 k kn hi z ⟨U, x1, x2, rfl, nU, rfl, e1, e2⟩ ky kk
      cases e1
      obtain ⟨x, hx, rfl⟩ := get_ints e2
      refine ⟨U, _, rfl, .inl (.inl upd_same), rfl, _, _, rfl, _, _, rfl, rfl, rfl, .int x, rfl, .int m, rfl, rfl, _, rfl, ?_⟩
      by_cases h : x = m
      · subst h
        refine iteDT rfl ⟨.int i, rfl, ky _ _ ?_ (same_new nU)⟩
        show (if c[i]? = some x then _ else _) = _
        rw [if_pos hx]
      · refine iteDF (fun y => h (V.int.inj y)) (kk _ ?_ (same_new nU))
        show (if c[i]? = some m then _ else _) = _
        rw [if_neg]
        rw [hx]
        exact fun y => h (Option.some.inj y)
    · intro H3 z hD2
      refine q D H3 z hD ?_
      rw [hD2, members_map, List.length_map]
abbrev s_marked_ : Stmt := topS 22
abbrev N_marked_ : List Str := ["classes", "holders", "mark", "holder", "number"]
theorem sc_marked_ : FnScope N_marked_ ["classes", "holders", "mark"] (defScope s_marked_) := ⟨rfl, rfl, rfl, by decide +kernel, rfl, by decide +kernel, by decide +kernel⟩
theorem ok_marked (F : Fun K "_marked" "_marked" s_marked_ f fd) (B : Blt mg) : FnOk P w K mg base CX0 1 f fd ["classes", "holders", "mark"] (spMark K) := by
  refine F.ok sc_marked_ (fun vs H Q E h => ?_) (fun cdv A outer s H vs Q E hr h => ?_)
  · obtain ⟨a, b, c, hs, m, rfl, _⟩ := h
    rfl
  · obtain ⟨a, b, c, hs, m, rfl, ha, hb, hl, q⟩ := h
    refine ⟨_, (pss_one (ps_ret (pe_lc (own := [("holder", 3), ("number", 4)]) (g := _) rfl sc_marked_.nd (pi_ent rfl B.enumerate (pa_cons (pv 0) pa_nil)) (blkOk_by (own := [("holder", 3), ("number", 4)]) (N := N_marked_) (sc := defScope s_marked_) (by decide +kernel)) (fun _ _ _ _ _ => pg_tupK (K := K) (n := 2) rfl rfl (pgs_cons (pg_name (i := 3) sc_marked_.nd rfl (.inl rfl)) (pgs_cons (pg_name (i := 4) sc_marked_.nd rfl (.inl rfl)) pgs_nil))) (fun _ _ _ _ _ => pts_nil) (fun _ _ _ _ _ => (pe_ifExp (pt_cmpR (in_K (K := K) rfl) (pv 3) (pv 1) rfl) (pv 2) (pv 4)))))), ?_⟩
    refine ⟨.ref a, rfl, a, _, rfl, ha, fun D hD => ?_⟩
    refine lc_sel walk_ent (fun i => ((marked c hs m).map V.int)[i]?) (by rw [List.length_map]; omega) hD (fun H3 z => seqT z ha) ?_ ?_
    · rintro i x H3 H4 k kn hi z ⟨U, x1, x2, rfl, nU, rfl, e1, e2⟩ ky kk
      cases e1
      obtain ⟨x, hx, rfl⟩ := get_ints e2
      have e : ((marked c hs m).map V.int)[i]? = some (.int (if (i : Int) ∈ hs then m else x)) := by rw [List.getElem?_map, marked_get hx]; rfl
      refine ⟨U, _, rfl, .inl (.inl upd_same), rfl, _, _, rfl, _, _, rfl, rfl, rfl, ?_⟩
      refine iteT (B := kn H3) ?_
      refine ⟨.int i, rfl, .ref b, rfl, ⟨b, _, rfl, SqI.same (z.trans (same_new nU)) hb, rfl, flat_ints _, _, rfl, ?_⟩⟩
      rw [if_neg (show ¬ (false = true) from Bool.false_ne_true), inV_ints]
      by_cases h : (i : Int) ∈ hs
      · refine iteDT h ⟨_, rfl, ky _ _ ?_ (same_new nU)⟩
        rw [e, if_pos h]
      · refine iteDF h ⟨_, rfl, ky _ _ ?_ (same_new nU)⟩
        rw [e, if_neg h]
    · intro H3 z hD2
      refine q D H3 z hD ?_
      rw [hD2]
      have e : (c.map V.int).length = ((marked c hs m).map V.int).length := by rw [List.length_map, List.length_map, marked_len]
      rw [e, range_get]
end
end Jc
namespace Jc
open PySem PySem.Spec L2
open PyProof.Rows hiding St
abbrev dI (ns : List Int) : PyData := .list (ns.map PyData.int)
theorem dpAll_ints {K : PySem.W.Frag} {H : Hp} : ∀ ns : List Int, DpAll K H (ns.map V.int) (ns.map PyData.int)
  | [] => .nil
  | n :: r => .cons (.int n) (dpAll_ints r)
theorem dp_ints {K : PySem.W.Frag} {H : Hp} {a : Addr} {ns : List Int} (h : H a = some (.lst (ns.map V.int))) : Dp K H (.ref a) (dI ns) := .lst (.inl (.inl h)) (dpAll_ints ns)
theorem eqv_ints (ns ms : List Int) : PyData.eqv (dI ns) (dI ms) = decide (ns = ms) := PySem.W.ked_eqvAll ns ms
/-- the facts of the class -/
structure PCf (K : PySem.W.Frag) (mg : Str → Option Value) (C : Addr) : Prop where
  cl : Cls K C
  na : NoAttr K C "_classes"
  mc : mg "Partition" = some (.ref C)
  rd : ∃ m u, ClX.CRead K C m ∧ ClX.CVal K C m "MOST_HOLDERS" (.int 8) u
def spAre (K : PySem.W.Frag) : Sp := fun vs H Q _ => ∃ (a : Addr) (ms : List Int), vs = [.ref a] ∧ H a = some (.lst (ms.map V.int)) ∧ 1 ≤ ms.length ∧ ms.length ≤ 8 ∧ ∀ H2, Same H H2 → Q (.bl (decide (num ms = ms))) H2
/-- a partition -/
structure PartAt (C : Addr) (H : Hp) (p : Addr) (c : List Int) : Prop where
  ex : ∃ dx t, H p = some (.ins C dx [("_classes", .ref t)]) ∧ H t = some (.tup (c.map V.int))
  lo : 1 ≤ c.length
  hi : c.length ≤ 8
  nu : num c = c
theorem PartAt.same {C : Addr} {H H2 : Hp} {p : Addr} {c : List Int} (s : Same H H2) (h : PartAt C H p c) : PartAt C H2 p c := by
  obtain ⟨⟨dx, t, h1, h2⟩, a, b, d⟩ := h
  exact ⟨⟨dx, t, s _ _ h1, s _ _ h2⟩, a, b, d⟩
/-- __init__: the new instance at x gets its classes -/
def spInit (K : PySem.W.Frag) (C : Addr) : Sp := fun vs H Q _ => ∃ (x dx a : Addr) (c : List Int), vs = [.ref x, .ref a] ∧ H x = some (.ins C dx []) ∧ H a = some (.lst (c.map V.int)) ∧ 1 ≤ c.length ∧ c.length ≤ 8 ∧ num c = c ∧
  ∀ (t : Addr) (H2 : Hp), H2 x = some (.ins C dx [("_classes", .ref t)]) → H2 t = some (.tup (c.map V.int)) → (∀ b o, b ≠ x → H b = some o → H2 b = some o) → Q .non H2
section
variable {P : Program} {w : World} {K : PySem.W.Frag} {mg : Str → Option Value} {base : Heap} {f C : Addr} {fd : FuncData} {t1 : Tok}
abbrev s_arecls : Stmt := topS 18
abbrev N_arecls : List Str := ["value", "number"]
theorem sc_arecls : FnScope N_arecls ["value"] (defScope s_arecls) := ⟨rfl, rfl, rfl, by decide +kernel, rfl, by decide +kernel, by decide +kernel⟩
theorem ok_arecls (F : Fun K "are_classes" "are_classes" s_arecls f fd) (B : Blt mg) (T : PCf K mg C) (c_is_integer : OwnK P w K mg base "is_integer" 1 ["value"] spInt) (c_numbered : OwnK P w K mg base "numbered" 1 ["marks"] (spNum K)) :
    FnOk P w K mg base CX0 2 f fd ["value"] (spAre K) := by
  refine F.ok sc_arecls (fun vs H Q E h => ?_) (fun cdv A outer s H vs Q E hr h => ?_)
  · obtain ⟨a, ms, rfl, _⟩ := h
    rfl
  · obtain ⟨a, ms, rfl, ha, l1, l8, q⟩ := h
    obtain ⟨mm, mu, crd, cvl⟩ := T.rd
    have hu := hr.units
    refine ⟨_, (pss_cons (ps_if (PW.pt (pw_or (pt_not (pt_val (pe_callB call_isiT rfl B.isinstance bo_isinstance (pa_cons (pv 0) (pa_cons (pe_tup (pa_cons (pe_bltn (v := .ty "list") rfl B.list bo_list rfl) (pa_cons (pe_bltn (v := .ty "tuple") rfl B.tuple bo_tuple rfl) pa_nil))) pa_nil))))) (pw_or1 (pt_not (pt_chain op_le op_le pe_int (pe_callB call_len_seq rfl B.len bo_len (pa_cons (pv 0) pa_nil)) (ClX.pe_cval (pe_glob (v := .ref C) rfl T.mc rfl))))))) (pss_one (ps_ret pe_bl)) pss_nil)
      (pss_cons (ps_if (pt_not (pt_val (pe_callB (cr_all rfl) rfl B.all bo_all (pa_cons (pe_lc (own := [("number", 1)]) (g := gName 1) rfl sc_arecls.nd (pi_list (pv 0)) (blkOk_by (own := [("number", 1)]) (N := N_arecls) (sc := defScope s_arecls) (by decide +kernel)) (fun _ _ _ _ _ => pg_name (i := 1) sc_arecls.nd rfl (.inl rfl)) (fun _ _ _ _ _ => pts_nil) (fun _ _ _ _ _ => (pe_ownk c_is_integer hr (by decide) (pa_cons (pv 1) pa_nil)))) pa_nil)))) (pss_one (ps_ret pe_bl)) pss_nil)
      (pss_one (ps_ret (pe_cmpR (op_eqD hu) (pe_ownk c_numbered hr (by decide) (pa_cons (pv 0) pa_nil)) (pe_callTy call_list_of rfl B.list bo_list (pa_cons (pv 0) pa_nil)) (nomark _)))))), ?_⟩
    refine ⟨.ref a, rfl, two_le, fun tp ntp => ?_⟩
    have s1 : Same H (upd H tp (.tup [.ty "list", .ty "tuple"])) := same_new ntp
    refine ⟨.ref a, tp, _, .type "list", [.type "list", .type "tuple"], true, rfl, upd_same, .cons (.ty "list") (.cons (.ty "tuple") .nil), .base (.lst (s1 _ _ ha)), kitAny_cons (b := true) (kit_ty (by decide +kernel)) (fun z => nomatch z) (fun _ => rfl), ?_⟩
    refine ⟨true, rfl, ?_⟩
    generalize upd H tp (.tup [.ty "list", .ty "tuple"]) = H1 at s1
    refine iteF ?_
    refine ⟨.ref a, rfl, a, _, rfl, .inl (.inl (.inl (s1 _ _ ha))), _, _, rfl, rfl, _, rfl, ?_⟩
    have hlen : (ms.map V.int).length = ms.length := List.length_map ..
    rw [hlen]
    refine iteDT (by omega) ⟨C, mm, _, mu, rfl, crd, cvl, ⟨_, _, rfl, rfl, _, rfl, iteNS (by omega) ?_⟩⟩
    refine ⟨.ref a, rfl, a, rfl, ⟨_, .inl (.inl (s1 _ _ ha))⟩, fun D hD => ?_⟩
    refine lc_sel walk_list (fun i => ((List.replicate ms.length true).map V.bl)[i]?) (by rw [hlen]; omega) hD (fun H3 z => .inl (.inl (z _ _ (s1 _ _ ha)))) ?_ ?_
    · rintro i x H3 H4 k kn hi z ⟨rfl, hx⟩ ky kk
      obtain ⟨m, hm, rfl⟩ := get_ints hx
      refine ⟨rfl, ?_⟩
      refine iteT (B := kn H4) ⟨.int m, rfl, m, rfl, ky _ _ ?_ (Same.refl _)⟩
      rw [List.map_replicate, List.getElem?_replicate, if_pos (by rw [hlen] at hi; exact hi)]
    · intro H3 z hD2
      have e : (ms.map V.int).length = ((List.replicate ms.length true).map V.bl).length := by simp
      rw [e, range_get] at hD2
      refine ⟨D, _, rfl, .inl (.inl hD2), ?_⟩
      have e2 : (List.replicate ms.length true).all id = true := by
        rw [List.all_eq_true]
        intro x hx
        exact (List.mem_replicate.mp hx).2
      rw [e2]
      refine ⟨true, rfl, iteF ?_⟩
      have s3 : Same H H3 := s1.trans z
      refine ⟨.ref a, rfl, a, ms, rfl, .inl (.inl (s3 _ _ ha)), by omega, fun p H4 s4 np h4 => ?_⟩
      refine ⟨.ref a, rfl, a, _, rfl, .inl (.inl (.inl (s4 _ _ (s3 _ _ ha)))), fun l nl => ?_⟩
      refine ⟨dI (num ms), dI ms, dp_ints ((same_new nl) _ _ h4), dp_ints upd_same, PySem.W.shaped_ints _, PySem.W.shaped_ints _, ?_⟩
      rw [eqv_ints]
      exact q _ (s3.trans (s4.trans (same_new nl)))
end
end Jc
namespace Jc
open PySem PySem.Spec L2
open PyProof.Rows hiding St
section
variable {P : Program} {w : World} {K : PySem.W.Frag} {mg : Str → Option Value} {base : Heap} {f C : Addr} {fd : FuncData} {t1 : Tok}
abbrev s_init : Stmt := inClass (topS 13) 1
abbrev N_init : List Str := ["self", "classes"]
theorem sc_init : FnScope N_init ["self", "classes"] (defScope s_init) := ⟨rfl, rfl, rfl, by decide +kernel, rfl, by decide +kernel, by decide +kernel⟩
theorem ok_init (F : Fun K "__init__" "Partition.__init__" s_init f fd) (B : Blt mg) (T : PCf K mg C) (c_arecls : OwnK P w K mg base "are_classes" 2 ["value"] (spAre K)) : FnOk P w K mg base CX0 3 f fd ["self", "classes"] (spInit K C) := by
  refine F.ok sc_init (fun vs H Q E h => ?_) (fun cdv A outer s H vs Q E hr h => ?_)
  · obtain ⟨x, dx, a, c, rfl, _⟩ := h
    rfl
  · obtain ⟨x, dx, a, c, rfl, hx, ha, l1, l8, hn, q⟩ := h
    refine ⟨_, (pss_cons (ps_if (pt_not (pt_val (pe_ownk c_arecls hr (by decide) (pa_cons (pv 1) pa_nil)))) (pss_one ps_never) pss_nil) (pss_one (ps_fld (pv 0) (pe_callTy call_tuple_of rfl B.tuple bo_tuple (pa_cons (pv 1) pa_nil)) rfl))), ?_⟩
    refine ⟨.ref a, rfl, a, c, rfl, ha, l1, l8, fun H2 s2 => ⟨_, rfl, iteNS hn ?_⟩⟩
    refine ⟨.ref a, rfl, a, _, rfl, .inl ⟨.inl (.inl (s2 _ _ ha)), fun t nt => ⟨.ref x, rfl, x, C, dx, [], rfl, (same_new nt) _ _ (s2 _ _ hx), T.cl, T.na, by decide, ?_⟩⟩⟩
    have hxt : t ≠ x := fun e => by
      rw [e, s2 _ _ hx] at nt
      cases nt
    refine q t _ upd_same ?_ (fun b o hb e => ?_)
    · rw [upd_ne hxt, upd_same]
    · rw [upd_ne hb]
      exact (same_new nt) _ _ (s2 _ _ e)
theorem mk_of {H : Hp} {Q : VK} {a : Addr} {c : List Int} (ha : H a = some (.lst (c.map V.int))) (l1 : 1 ≤ c.length) (l8 : c.length ≤ 8) (hn : num c = c) (q : ∀ p H2, Same H H2 → H p = none → PartAt C H2 p c → Q (.ref p) H2) :
    ∀ x dx, H x = none → H dx = none → dx ≠ x → spInit K C [.ref x, .ref a] (upd (upd H dx (.own x)) x (.ins C dx [])) (fun v H2 => v = .non ∧ Q (.ref x) H2) E0 := by
  intro x dx nx nd hne
  have s0 : Same H (upd (upd H dx (.own x)) x (.ins C dx [])) := same_mut (same_new nd) nx
  refine ⟨x, dx, a, c, rfl, upd_same, s0 _ _ ha, l1, l8, hn, fun t H2 h1 h2 k => ⟨rfl, q x H2 (fun b o e => k b o (ne_of_none e nx) (s0 _ _ e)) nx ⟨⟨dx, t, h1, h2⟩, l1, l8, hn⟩⟩⟩
/-- what the class's methods do to a partition's classes -/
def spGone (C : Addr) : Sp := fun vs H Q _ => ∃ (p : Addr) (c : List Int), vs = [.ref p] ∧ PartAt C H p c ∧ ∀ (q : Addr) (H2 : Hp), Same H H2 → H2 q = some (.lst ((members c (-1)).map V.int)) → Q (.ref q) H2
def spNew (C : Addr) (g : List Int → List Int → List Int) : Sp := fun vs H Q _ => ∃ (p : Addr) (c ts : List Int), vs = .ref p :: ts.map V.int ∧ PartAt C H p c ∧ ts.length ≤ 1000 ∧ (∀ h ∈ ts, 0 ≤ h ∧ h < (c.length : Int)) ∧ ∀ (q : Addr) (H2 : Hp), Same H H2 → PartAt C H2 q (num (g c ts)) → Q (.ref q) H2
/-- the same, its targets in a tuple that was just made -/
def spNewT (K : PySem.W.Frag) (C : Addr) (g : List Int → List Int → List Int) : Sp := fun vs H Q _ => ∃ (p t : Addr) (c ts : List Int), vs = [.ref p, .ref t] ∧ PartAt C H p c ∧ H t = some (.tup (ts.map V.int)) ∧ (∀ h ∈ ts, 0 ≤ h ∧ h < (c.length : Int)) ∧ ∀ (q : Addr) (H2 : Hp), Same H H2 → PartAt C H2 q (num (g c ts)) → Q (.ref q) H2
abbrev s_gone : Stmt := inClass (topS 13) 17
abbrev N_gone : List Str := ["self"]
theorem sc_gone : FnScope N_gone ["self"] (defScope s_gone) := ⟨rfl, rfl, rfl, by decide +kernel, rfl, by decide +kernel, by decide +kernel⟩
theorem ok_gone (F : Fun K "gone" "Partition.gone" s_gone f fd) (T : PCf K mg C) (G : TxP mg t1) (c_members : OwnK P w K mg base "_members" 1 ["classes", "number"] (spMem K)) : FnOk P w K mg base CX0 2 f fd ["self"] (spGone C) := by
  refine F.ok sc_gone (fun vs H Q E h => ?_) (fun cdv A outer s H vs Q E hr h => ?_)
  · obtain ⟨p, c, rfl, _⟩ := h
    rfl
  · obtain ⟨p, c, rfl, hp, q⟩ := h
    obtain ⟨⟨dx, t, h1, h2⟩, lo, hi, nu⟩ := hp
    refine ⟨_, (pss_one (ps_ret (pe_ownk c_members hr (by decide) (pa_cons (pe_fld (pv 0) rfl) (pa_cons (pe_glob (v := .int (-1)) rfl G.GONE ⟨_, rfl⟩) pa_nil))))), ?_⟩
    refine ⟨.ref p, rfl, p, C, dx, _, .ref t, rfl, h1, T.cl, T.na, rfl, ?_⟩
    exact ⟨t, c, -1, rfl, .inl (.inl h2), by omega, fun r H2 s2 _ h3 => q r H2 s2 h3⟩
abbrev s_fresh : Stmt := inClass (topS 13) 19
abbrev N_fresh : List Str := ["self", "targets"]
theorem sc_fresh : FnScope N_fresh ["self", "targets"] (defScope s_fresh) := ⟨rfl, rfl, rfl, by decide +kernel, rfl, by decide +kernel, by decide +kernel⟩
end
end Jc
namespace Jc
open PySem PySem.Spec L2
open PyProof.Rows hiding St
section
variable {P : Program} {w : World} {K : PySem.W.Frag} {mg : Str → Option Value} {base : Heap} {f C : Addr} {fd : FuncData} {t1 : Tok}
/-- def m(self, *v): FnR, its promise about the tuple of what is handed over -/
theorem star_mk {x qual : Str} {st : Stmt} {N : List Str} {pv : Str} {k : Nat} {sp : Sp} (F : Fun K x qual st f fd) (S : FnScope N ["self", pv] (defScope st))
    (h0 : ∀ (kV doc pm : Value) (an : Option Addr) (cdv ct a : Value), bindArgs (PySem.W.fnOf x qual (defArgs st) (defBody st) (defScope st) .none kV doc pm an cdv ct) ⟨[a], []⟩ = (newTuple [] >>= fun t => pure [(("self" : Str), a), (pv, t)]))
    (h1 : ∀ (kV doc pm : Value) (an : Option Addr) (cdv ct a r : Value) (rs : List Value), bindArgs (PySem.W.fnOf x qual (defArgs st) (defBody st) (defScope st) .none kV doc pm an cdv ct) ⟨a :: r :: rs, []⟩ = (newTuple (r :: rs) >>= fun t => pure [(("self" : Str), a), (pv, t)]))
    (body : ∀ (cdv : Value) (A : Around) (outer : List Env) (s : Shared) (H : Hp) (vs : List V) (Q : VK) (E : XK), Room k (A.deeper (envOfC qual (defScope st) s.heap.objs.size f cdv)) → sp vs H Q E →
      ∃ t, PSs (cxOf CX0 P w K mg base N qual (defScope st) f cdv A outer s H E) (defBody st) t ∧ t { nx := fun _ H' => Q .non H', rt := Q } (start N vs) H) :
    FnR P w K mg base CX0 (k + 1) f (fun vs H Q E => ∃ ws rest, vs = ws ++ rest ∧ ws.length = 1 ∧ rest.length ≤ sizeLine ∧ ∀ p, H p = Option.none → sp (ws ++ [V.ref p]) (upd H p (.tup rest)) Q E) := by
  obtain ⟨oc, od, kV, doc, pm, an, cdv, ct, osl, rfl, lk, hcd⟩ := F.ex
  exact StX.fn_star (ps := ["self"]) lk hcd S StX.cxUp_none (StX.bind_star1 (B := fun us => bindArgs (PySem.W.fnOf x qual (defArgs st) (defBody st) (defScope st) .none kV doc pm an cdv ct) ⟨us, []⟩) (fun a => h0 kV doc pm an cdv ct a) (fun a r rs => h1 kV doc pm an cdv ct a r rs)) (body cdv)
theorem PartAt.put {C : Addr} {H : Hp} {p t : Addr} {c : List Int} {o : HO} (h : PartAt C H p c) (n : H t = none) : PartAt C (upd H t o) p c := h.same (same_new n)
theorem num_lenM (c ts : List Int) (m : Int) : (num (marked c ts m)).length = c.length := by rw [num_len, marked_len]
abbrev gFresh (c ts : List Int) : List Int := marked c ts c.length
abbrev gWithout (c ts : List Int) : List Int := marked c ts (-1)
theorem ok_fresh (F : Fun K "fresh" "Partition.fresh" s_fresh f fd) (B : Blt mg) (T : PCf K mg C) (c_chold : OwnK P w K mg base "_check_holders" 3 ["classes", "holders"] (spHold K)) (c_numbered : OwnK P w K mg base "numbered" 1 ["marks"] (spNum K))
    (c_marked : OwnK P w K mg base "_marked" 1 ["classes", "holders", "mark"] (spMark K)) (M : OwnI P w K mg base C 3 (spInit K C)) : FnR P w K mg base CX0 5 f (spNew C gFresh) := by
  refine FnR.imp (star_mk (sp := spNewT K C gFresh) F sc_fresh (fun _ _ _ _ _ _ _ => rfl) (fun _ _ _ _ _ _ _ _ _ => rfl) (k := 4) fun cdv A outer s H vs Q E hr h => ?_) fun vs H Q E h => ?_
  · obtain ⟨p, b, c, ts, rfl, hp, hb, hi, q⟩ := h
    have hp0 := hp
    obtain ⟨⟨dx, t, h1, h2⟩, lo, h8, nu⟩ := hp
    refine ⟨_, (pss_cons (ps_expr (pe_ownk c_chold hr (by decide) (pa_cons (pe_fld (pv 0) rfl) (pa_cons (pv 1) pa_nil)))) (pss_one (ps_ret (pe_oi M hr (by decide) T.mc (pa_cons (pe_ownk c_numbered hr (by decide) (pa_cons (pe_ownk c_marked hr (by decide) (pa_cons (pe_fld (pv 0) rfl) (pa_cons (pv 1) (pa_cons (pe_callB call_len_seq rfl B.len bo_len (pa_cons (pe_fld (pv 0) rfl) pa_nil)) pa_nil)))) pa_nil)) pa_nil))))), ?_⟩
    refine ⟨.ref p, rfl, p, C, dx, _, .ref t, rfl, h1, T.cl, T.na, rfl, .ref b, rfl, t, b, c, ts, rfl, .inl (.inl h2), .inr (.inl (.inl hb)), hi, fun H2 s2 => ?_⟩
    refine ⟨.ref p, rfl, p, C, dx, _, .ref t, rfl, s2 _ _ h1, T.cl, T.na, rfl, .ref b, rfl, .ref p, rfl, p, C, dx, _, .ref t, rfl, s2 _ _ h1, T.cl, T.na, rfl, ?_⟩
    refine ⟨t, _, rfl, .inr (.inl (.inl (s2 _ _ h2))), ?_⟩
    rw [List.length_map]
    refine ⟨t, b, c, ts, _, rfl, .inl (.inl (s2 _ _ h2)), .inr (.inl (.inl (s2 _ _ hb))), by omega, fun l H3 s3 _ h3 => ?_⟩
    refine ⟨l, _, rfl, .inl (.inl h3), by rw [marked_len]; omega, fun r H4 s4 _ h4 => ?_⟩
    exact mk_of h4 (by rw [num_lenM]; omega) (by rw [num_lenM]; omega) (num_num _) fun y H5 s5 _ hy => q y H5 (s2.trans (s3.trans (s4.trans s5))) hy
  · obtain ⟨p, c, ts, rfl, hp, hz, hi, q⟩ := h
    exact ⟨[.ref p], ts.map V.int, rfl, rfl, le_line (by rw [List.length_map]; omega), fun t nt => ⟨p, t, c, ts, rfl, hp.put nt, upd_same, hi, fun y H2 s2 hy => q y H2 ((same_new nt).trans s2) hy⟩⟩
abbrev s_without : Stmt := inClass (topS 13) 20
abbrev N_without : List Str := ["self", "holders"]
theorem sc_without : FnScope N_without ["self", "holders"] (defScope s_without) := ⟨rfl, rfl, rfl, by decide +kernel, rfl, by decide +kernel, by decide +kernel⟩
theorem ok_without (F : Fun K "without" "Partition.without" s_without f fd) (B : Blt mg) (T : PCf K mg C) (G : TxP mg t1) (c_chold : OwnK P w K mg base "_check_holders" 3 ["classes", "holders"] (spHold K)) (c_numbered : OwnK P w K mg base "numbered" 1 ["marks"] (spNum K))
    (c_marked : OwnK P w K mg base "_marked" 1 ["classes", "holders", "mark"] (spMark K)) (M : OwnI P w K mg base C 3 (spInit K C)) : FnR P w K mg base CX0 5 f (spNew C gWithout) := by
  refine FnR.imp (star_mk (sp := spNewT K C gWithout) F sc_without (fun _ _ _ _ _ _ _ => rfl) (fun _ _ _ _ _ _ _ _ _ => rfl) (k := 4) fun cdv A outer s H vs Q E hr h => ?_) fun vs H Q E h => ?_
  · obtain ⟨p, b, c, ts, rfl, hp, hb, hi, q⟩ := h
    have hp0 := hp
    obtain ⟨⟨dx, t, h1, h2⟩, lo, h8, nu⟩ := hp
    refine ⟨_, (pss_cons (ps_expr (pe_ownk c_chold hr (by decide) (pa_cons (pe_fld (pv 0) rfl) (pa_cons (pv 1) pa_nil)))) (pss_one (ps_ret (pe_oi M hr (by decide) T.mc (pa_cons (pe_ownk c_numbered hr (by decide) (pa_cons (pe_ownk c_marked hr (by decide) (pa_cons (pe_fld (pv 0) rfl) (pa_cons (pv 1) (pa_cons (pe_glob (v := .int (-1)) rfl G.GONE ⟨_, rfl⟩) pa_nil)))) pa_nil)) pa_nil))))), ?_⟩
    refine ⟨.ref p, rfl, p, C, dx, _, .ref t, rfl, h1, T.cl, T.na, rfl, .ref b, rfl, t, b, c, ts, rfl, .inl (.inl h2), .inr (.inl (.inl hb)), hi, fun H2 s2 => ?_⟩
    refine ⟨.ref p, rfl, p, C, dx, _, .ref t, rfl, s2 _ _ h1, T.cl, T.na, rfl, .ref b, rfl, ?_⟩
    refine ⟨t, b, c, ts, -1, rfl, .inl (.inl (s2 _ _ h2)), .inr (.inl (.inl (s2 _ _ hb))), by omega, fun l H3 s3 _ h3 => ?_⟩
    refine ⟨l, _, rfl, .inl (.inl h3), by rw [marked_len]; omega, fun r H4 s4 _ h4 => ?_⟩
    exact mk_of h4 (by rw [num_lenM]; omega) (by rw [num_lenM]; omega) (num_num _) fun y H5 s5 _ hy => q y H5 (s2.trans (s3.trans (s4.trans s5))) hy
  · obtain ⟨p, c, ts, rfl, hp, hz, hi, q⟩ := h
    exact ⟨[.ref p], ts.map V.int, rfl, rfl, le_line (by rw [List.length_map]; omega), fun t nt => ⟨p, t, c, ts, rfl, hp.put nt, upd_same, hi, fun y H2 s2 hy => q y H2 ((same_new nt).trans s2) hy⟩⟩
end
end Jc
namespace Jc
open PySem PySem.Spec L2
open PyProof.Rows hiding St
def spCopied (C : Addr) : Sp := fun vs H Q _ => ∃ (p : Addr) (c : List Int) (t k : Nat) (m : Int), vs = [.ref p, .int (t : Int), .int (k : Int)] ∧ PartAt C H p c ∧ t < c.length ∧ c[k]? = some m ∧ ∀ (q : Addr) (H2 : Hp), Same H H2 → PartAt C H2 q (num (marked c [(t : Int)] m)) → Q (.ref q) H2
def pick (c ts : List Int) : List Int := ts.map fun h => c.getD h.toNat 0
def alikeB (c ts : List Int) : Bool := !decide ((-1) ∈ pick c ts) && ((pick c ts).map fun n => decide (n = (pick c ts).headD 0)).all id
def spAlikeT (K : PySem.W.Frag) (C : Addr) : Sp := fun vs H Q _ => ∃ (p t : Addr) (c ts : List Int), vs = [.ref p, .ref t] ∧ PartAt C H p c ∧ H t = some (.tup (ts.map V.int)) ∧ ts.length ≤ 1000 ∧ (∀ h ∈ ts, 0 ≤ h ∧ h < (c.length : Int)) ∧ ∀ (H2 : Hp), Same H H2 → Q (.bl (alikeB c ts)) H2
def spAlike (C : Addr) : Sp := fun vs H Q _ => ∃ (p : Addr) (c ts : List Int), vs = .ref p :: ts.map V.int ∧ PartAt C H p c ∧ ts.length ≤ 1000 ∧ (∀ h ∈ ts, 0 ≤ h ∧ h < (c.length : Int)) ∧ ∀ (H2 : Hp), Same H H2 → Q (.bl (alikeB c ts)) H2
theorem at_ints {ns : List Int} {i : Nat} {k : Int} (h : ns[i]? = some k) : atI (ns.map V.int) (i : Int) = some (.int k) := atI_nat (by rw [List.getElem?_map, h]; rfl)
section
variable {P : Program} {w : World} {K : PySem.W.Frag} {mg : Str → Option Value} {base : Heap} {f C : Addr} {fd : FuncData} {t1 : Tok}
abbrev s_copied : Stmt := inClass (topS 13) 18
abbrev N_copied : List Str := ["self", "target", "source"]
theorem sc_copied : FnScope N_copied ["self", "target", "source"] (defScope s_copied) := ⟨rfl, rfl, rfl, by decide +kernel, rfl, by decide +kernel, by decide +kernel⟩
theorem ok_copied (F : Fun K "copied" "Partition.copied" s_copied f fd) (T : PCf K mg C) (c_chold : OwnK P w K mg base "_check_holders" 3 ["classes", "holders"] (spHold K)) (c_numbered : OwnK P w K mg base "numbered" 1 ["marks"] (spNum K))
    (c_marked : OwnK P w K mg base "_marked" 1 ["classes", "holders", "mark"] (spMark K)) (M : OwnI P w K mg base C 3 (spInit K C)) : FnOk P w K mg base CX0 5 f fd ["self", "target", "source"] (spCopied C) := by
  refine F.ok sc_copied (fun vs H Q E h => ?_) (fun cdv A outer s H vs Q E hr h => ?_)
  · obtain ⟨p, c, t, k, m, rfl, _⟩ := h
    rfl
  · obtain ⟨p, c, tg, k, m, rfl, hp, ht, hm, q⟩ := h
    obtain ⟨⟨dx, t, h1, h2⟩, lo, h8, nu⟩ := hp
    have hk : k < c.length := (List.getElem?_eq_some_iff.mp hm).1
    refine ⟨_, (pss_cons (ps_expr (pe_ownk c_chold hr (by decide) (pa_cons (pe_fld (pv 0) rfl) (pa_cons (pe_lst (pa_cons (pv 1) (pa_cons (pv 2) pa_nil))) pa_nil)))) (pss_one (ps_ret (pe_oi M hr (by decide) T.mc (pa_cons (pe_ownk c_numbered hr (by decide) (pa_cons (pe_ownk c_marked hr (by decide) (pa_cons (pe_fld (pv 0) rfl) (pa_cons (pe_lst (pa_cons (pv 1) pa_nil)) (pa_cons (pe_ix ix_tup (pe_fld (pv 0) rfl) (pv 2) (fun _ _ => rfl)) pa_nil)))) pa_nil)) pa_nil))))), ?_⟩
    refine ⟨.ref p, rfl, p, C, dx, _, .ref t, rfl, h1, T.cl, T.na, rfl, .int tg, rfl, .int k, rfl, two_le, fun b nb => ?_⟩
    have s1 : Same H (upd H b (.lst [.int tg, .int k])) := same_new nb
    refine ⟨t, b, c, [(tg : Int), (k : Int)], rfl, .inl (.inl (s1 _ _ h2)), .inl (.inl (.inl upd_same)), fun h hh => ?_, fun H2 s2 => ?_⟩
    · simp only [List.mem_cons, List.not_mem_nil, or_false] at hh
      rcases hh with rfl | rfl <;> omega
    have s3 := s1.trans s2
    refine ⟨.ref p, rfl, p, C, dx, _, .ref t, rfl, s3 _ _ h1, T.cl, T.na, rfl, .int tg, rfl, le_line (by show (1 : Nat) ≤ 1000000; decide), fun d nd => ?_⟩
    have s4 := s3.trans (same_new (o := .lst [.int tg]) nd)
    refine ⟨.ref p, rfl, p, C, dx, _, .ref t, rfl, s4 _ _ h1, T.cl, T.na, rfl, .int k, rfl, t, _, _, .int m, rfl, rfl, .inl (.inl (s4 _ _ h2)), at_ints hm, ?_⟩
    refine ⟨t, d, c, [(tg : Int)], m, rfl, .inl (.inl (s4 _ _ h2)), .inl (.inl (.inl upd_same)), by omega, fun l H3 s5 _ h3 => ?_⟩
    refine ⟨l, _, rfl, .inl (.inl h3), by rw [marked_len]; omega, fun r H4 s6 _ h4 => ?_⟩
    exact mk_of h4 (by rw [num_lenM]; omega) (by rw [num_lenM]; omega) (num_num _) fun y H5 s7 _ hy => q y H5 (s4.trans (s5.trans (s6.trans s7))) hy
abbrev s_classes : Stmt := inClass (topS 13) 4
abbrev N_classes : List Str := ["self"]
theorem sc_classes : FnScope N_classes ["self"] (defScope s_classes) := ⟨rfl, rfl, rfl, by decide +kernel, rfl, by decide +kernel, by decide +kernel⟩
theorem ok_classes (F : Fun K "classes" "Partition.classes" s_classes f fd) (T : PCf K mg C) : FnOk P w K mg base CX0 1 f fd ["self"] (getSp C "_classes") := by
  obtain ⟨oc, od, kV, doc, pm, an, cdv, ct, osl, rfl, lk, hcd⟩ := F.ex
  exact fn_getter lk hcd sc_classes rfl rfl T.cl T.na
end
end Jc
namespace Jc
open PySem PySem.Spec L2
open PyProof.Rows hiding St
/-! ### data stays data while the heap grows -/
mutual
theorem dp_same {K : PySem.W.Frag} {H H2 : Hp} (s : Same H H2) : ∀ {v : V} {d : PyData}, Dp K H v d → Dp K H2 v d
  | _, _, .non => .non
  | _, _, .bl b => .bl b
  | _, _, .int i => .int i
  | _, _, .str x => .str x
  | _, _, .lst a b => .lst (s.seq a) (dpAll_same s b)
  | _, _, .tup a b => .tup (seqT s a) (dpAll_same s b)
theorem dpAll_same {K : PySem.W.Frag} {H H2 : Hp} (s : Same H H2) : ∀ {vs : List V} {ds : List PyData}, DpAll K H vs ds → DpAll K H2 vs ds
  | _, _, .nil => .nil
  | _, _, .cons a b => .cons (dp_same s a) (dpAll_same s b)
end
theorem dpAll_get {K : PySem.W.Frag} {H : Hp} : ∀ {vs : List V} {ds : List PyData}, DpAll K H vs ds → ∀ {i : Nat} {v : V}, vs[i]? = some v → ∃ d, ds[i]? = some d ∧ Dp K H v d
  | _, _, .nil, i, v, h => by simp at h
  | _, _, .cons a b, 0, v, h => ⟨_, rfl, by cases h; exact a⟩
  | _, _, .cons a b, i + 1, v, h => dpAll_get b (i := i) h
theorem dpAll_app {K : PySem.W.Frag} {H : Hp} : ∀ {vs ws : List V} {ds es : List PyData}, DpAll K H vs ds → DpAll K H ws es → DpAll K H (vs ++ ws) (ds ++ es)
  | _, _, _, _, .nil, h => h
  | _, _, _, _, .cons a b, h => .cons a (dpAll_app b h)
theorem dpAll_len {K : PySem.W.Frag} {H : Hp} : ∀ {vs : List V} {ds : List PyData}, DpAll K H vs ds → vs.length = ds.length
  | _, _, .nil => rfl
  | _, _, .cons _ b => congrArg (· + 1) (dpAll_len b)
/-- ints that stand for marks of any data: told apart just as the ints are -/
structure Marks (D : Int → PyData) (ms : List Int) : Prop where
  gone : D (-1) = .int (-1)
  eqv : ∀ x ∈ (-1) :: ms, ∀ y ∈ (-1) :: ms, PyData.eqv (D x) (D y) = decide (x = y)
  lay : ∀ x ∈ (-1) :: ms, (D x).canLay0 = true ∧ (D x).depth ≤ 8
theorem Marks.shaped {D : Int → PyData} {ms : List Int} (M : Marks D ms) {x : Int} (h : x ∈ (-1) :: ms) : SeqAt.shaped (D x) = true := by
  obtain ⟨a, b⟩ := M.lay x h
  show ((D x).canLay0 && decide ((D x).depth ≤ 64)) = true
  rw [a, decide_eq_true (by omega)]
  rfl
theorem lay_all {D : Int → PyData} : ∀ ts : List Int, (∀ x ∈ ts, (D x).canLay0 = true ∧ (D x).depth ≤ 8) → PyData.canLayAll0 (ts.map D) = true ∧ PyData.depthAll (ts.map D) ≤ 8
  | [], _ => by simp [PyData.canLayAll0, PyData.depthAll]
  | t :: r, h => by
    obtain ⟨a, b⟩ := h t List.mem_cons_self
    obtain ⟨c, d⟩ := lay_all r fun x hx => h x (List.mem_cons_of_mem _ hx)
    simp only [List.map_cons, PyData.canLayAll0, PyData.depthAll, a, c, Bool.and_self, true_and]
    omega
theorem Marks.shapedL {D : Int → PyData} {ms ts : List Int} (M : Marks D ms) (h : ∀ x ∈ ts, x ∈ ms) : SeqAt.shaped (.list (ts.map D)) = true := by
  obtain ⟨a, b⟩ := lay_all ts fun x hx => M.lay x (List.mem_cons_of_mem _ (h x hx))
  have e : PyData.depth (.list (ts.map D)) ≤ 64 := by
    simp only [PyData.depth]
    omega
  show (PyData.canLay0 (.list (ts.map D)) && decide (PyData.depth (.list (ts.map D)) ≤ 64)) = true
  rw [decide_eq_true e]
  simp only [PyData.canLay0, a, Bool.and_true]
theorem Marks.any {D : Int → PyData} {ms ts : List Int} (M : Marks D ms) (h : ∀ x ∈ ts, x ∈ ms) {m : Int} (hm : m ∈ ms) : ((ts.map D).any fun z => PyData.eqv z (D m)) = decide (m ∈ ts) := by
  induction ts with
  | nil => rfl
  | cons t r ih =>
    have ih := ih fun x hx => h x (List.mem_cons_of_mem _ hx)
    rw [List.map_cons, List.any_cons, ih, M.eqv t (List.mem_cons_of_mem _ (h t List.mem_cons_self)) m (List.mem_cons_of_mem _ hm)]
    by_cases c : t = m
    · subst c
      simp
    · have c2 : m ≠ t := fun z => c z.symm
      simp [c, c2]
theorem Marks.idx {D : Int → PyData} {ms ts : List Int} (M : Marks D ms) (h : ∀ x ∈ ts, x ∈ ms) {m : Int} (hm : m ∈ ts) :
    (ts.map D)[ts.idxOf m]? = some (D m) ∧ PyData.eqv (D m) (D m) = true ∧ ∀ (j : Nat) (z : PyData), j < ts.idxOf m → (ts.map D)[j]? = some z → PyData.eqv z (D m) = false := by
  have hl := List.idxOf_lt_length_of_mem hm
  have g := List.mem_cons_of_mem (-1) (h m hm)
  refine ⟨by rw [List.getElem?_map, List.getElem?_eq_getElem hl, List.getElem_idxOf hl]; rfl, by rw [M.eqv m g m g, decide_eq_true rfl], fun j z hj e => ?_⟩
  rw [List.getElem?_map] at e
  cases e2 : ts[j]? with
  | none => rw [e2] at e; cases e
  | some k =>
    rw [e2] at e
    have e3 : D k = z := Option.some.inj e
    rw [← e3, M.eqv k (List.mem_cons_of_mem _ (h k (List.mem_of_getElem? e2))) m g]
    have h3 := List.not_of_lt_findIdx (p := (· == m)) hj
    obtain ⟨h1, h2⟩ := List.getElem?_eq_some_iff.mp e2
    rw [h2] at h3
    exact decide_eq_false (beq_eq_false_iff_ne.mp (by simpa using h3))
end Jc
namespace Jc
open PySem PySem.Spec L2
open PyProof.Rows hiding St
theorem index_D {X : Cx} {K : PySem.W.Frag} (h : X.K = K) (hu : X.A.units + 65 < cLine) : MtR X "list.index" (rIndexD K) := by subst h; exact mt_indexD hu
theorem eq_D {X : Cx} {K : PySem.W.Frag} (h : X.K = K) (hu : X.A.units + 64 < cLine) : OpR X (compareOp .Eq) (rEqD K) := by subst h; exact op_eqD hu
/-- _numbered of marks of any data -/
def spNumD (K : PySem.W.Frag) : Sp := fun vs H Q _ => ∃ (a : Addr) (ys : List V) (ms : List Int) (D : Int → PyData), vs = [.ref a] ∧ SqL K H a ys ∧ DpAll K H ys (ms.map D) ∧ Marks D ms ∧ ms.length ≤ 1000 ∧
  ∀ (p : Addr) (H2 : Hp), Same H H2 → H p = none → H2 p = some (.lst ((num ms).map V.int)) → Q (.ref p) H2
section
variable {P : Program} {w : World} {K : PySem.W.Frag} {mg : Str → Option Value} {base : Heap} {f : Addr} {fd : FuncData} {t1 : Tok}
theorem ok_numberedD (F : Fun K "numbered" "numbered" s_numbered f fd) (B : Blt mg) (T : TxP mg t1) : FnOk P w K mg base CX0 1 f fd ["marks"] (spNumD K) := by
  refine F.ok sc_numbered (fun vs H Q E h => ?_) (fun cdv A outer s H vs Q E hr h => ?_)
  · obtain ⟨a, ys, ms, D, rfl, _⟩ := h
    rfl
  · obtain ⟨a, ys, ms, DD, rfl, ha, hd, MK, hl, q⟩ := h
    have hu := hr.units
    have hu65 : (A.deeper (envOfC "numbered" (defScope s_numbered) s.heap.objs.size f cdv)).units + 65 < cLine := by have := hr.un; omega
    have hylen : ys.length = ms.length := by rw [dpAll_len hd, List.length_map]
    refine ⟨_, (pss_cons (ps_set (i := 1) sc_numbered.nd rfl (.inr rfl) (pe_lst pa_nil))
      (pss_cons (ps_for PassesOwn.never rfl (pi_list (pv 0)) (pg_name (i := 2) sc_numbered.nd rfl (.inl rfl)) (pss_one (ps_if (PW.pt (pw_and (pt_cmpR (op_neD hu) (pv 2) (pe_glob (v := .int (-1)) rfl T.GONE ⟨_, rfl⟩) (nomark _)) (pw_and1 (pt_cmpR (op_notInD hu65) (pv 2) (pv 1) rfl)))) (pss_one (ps_expr (pe_bm PySem.F.plainAttrs_list PySem.F.slot_list_append PySem.F.type_list_append mt_append (pv 1) (pa_cons (pv 2) pa_nil)))) pss_nil)))
      (pss_one (ps_ret (pe_lc (own := [("mark", 2)]) (g := gName 2) rfl sc_numbered.nd (pi_list (pv 0)) (blkOk_by (own := [("mark", 2)]) (N := N_numbered) (sc := defScope s_numbered) (by decide +kernel)) (fun _ _ _ _ _ => pg_name (i := 2) sc_numbered.nd rfl (.inl rfl)) (fun _ _ _ _ _ => pts_nil) (fun _ _ _ _ _ => (pe_ifExp (pt_cmpR (eq_D (K := K) rfl hu) (pv 2) (pe_glob (v := .int (-1)) rfl T.GONE ⟨_, rfl⟩) (nomark _)) (pe_glob (v := .int (-1)) rfl T.GONE ⟨_, rfl⟩) (pe_bmK (K := K) rfl PySem.F.plainAttrs_list PySem.F.slot_list_index PySem.F.type_list_index (index_D (K := K) rfl hu65) (pv 1) (pa_cons (pv 2) pa_nil))))))))), ?_⟩
    refine ⟨le_line (by decide), fun L nL => ?_⟩
    -- what is told is told at the heap of the call
    refine ⟨_, rfl, a, rfl, ⟨_, (same_new nL).seq ha⟩, for_it walk_list (fun i σ H2 => ∃ y zs, σ = [some (.ref a), some (.ref L), y] ∧ Same H H2 ∧ H2 L = some (.lst zs) ∧ DpAll K H zs (((ms.take i).foldl toldF []).map DD)) ⟨_, [], rfl, same_new nL, upd_same, .nil⟩ (fun _ _ _ _ z => by obtain ⟨_, _, _, s2, _⟩ := z; exact s2.seq ha) ?_ ?_⟩
    · rintro i x σ H1 H2 hi ⟨y, zs, rfl, s1, hL, hz⟩ ⟨rfl, hx⟩
      obtain ⟨d, hd1, hd2⟩ := dpAll_get hd hx
      obtain ⟨m, hm, rfl⟩ : ∃ m, ms[i]? = some m ∧ DD m = d := by
        rw [List.getElem?_map] at hd1
        cases e : ms[i]? with
        | none => rw [e] at hd1; cases hd1
        | some m => rw [e] at hd1; exact ⟨m, rfl, Option.some.inj hd1⟩
      have hmm := List.mem_of_getElem? hm
      have e : (ms.take (i + 1)).foldl toldF [] = toldF ((ms.take i).foldl toldF []) m := told_take ms i hm
      have sub : ∀ x ∈ (ms.take i).foldl toldF [], x ∈ ms := fun x hx => by
        rw [told_has] at hx
        rcases hx with z | ⟨z, _⟩
        · cases z
        · exact List.mem_of_mem_take z
      have hzl : zs.length = ((ms.take i).foldl toldF []).length := by rw [dpAll_len hz, List.length_map]
      have hz2 := told_short ms i
      refine ⟨x, rfl, DD m, .int (-1), dp_same s1 hd2, .int (-1), MK.shaped (List.mem_cons_of_mem _ hmm), by decide +kernel, _, rfl, ?_⟩
      have eg : PyData.eqv (DD m) (.int (-1)) = decide (m = -1) := by
        rw [← MK.gone]
        exact MK.eqv m (List.mem_cons_of_mem _ hmm) (-1) List.mem_cons_self
      rw [eg]
      by_cases c1 : m = -1
      · refine iteNS c1 (iteF ⟨_, zs, rfl, s1, hL, ?_⟩)
        rw [e, toldF, if_neg (fun z => z.1 c1)]
        exact hz
      · refine iteNT c1 ⟨x, rfl, .ref L, rfl, ⟨DD m, _, dp_same s1 hd2, .lst (.inl (.inl hL)) (dpAll_same s1 hz), MK.shaped (List.mem_cons_of_mem _ hmm), MK.shapedL sub, _, rfl, ?_⟩⟩
        rw [MK.any sub hmm]
        by_cases c2 : m ∈ (ms.take i).foldl toldF []
        · refine iteNS c2 ⟨_, zs, rfl, s1, hL, ?_⟩
          rw [e, toldF, if_neg (fun z => z.2 c2)]
          exact hz
        · refine iteNT c2 ⟨.ref L, rfl, .inl ⟨rfl, _, .inl (.inl hL)⟩, x, rfl, L, _, _, rfl, rfl, hL, ?_, ?_⟩
          · exact Nat.lt_of_lt_of_le (show zs.length < 1000000 by omega) (by rw [sizeLine_eq]; decide)
          · refine ⟨_, zs ++ [x], rfl, same_mut s1 nL, upd_same, ?_⟩
            rw [e, toldF, if_pos ⟨c1, c2⟩, List.map_append]
            exact dpAll_app hz (.cons hd2 .nil)
    · rintro σ H2 ⟨y, zs, rfl, s2, hL, hz⟩
      rw [hylen, List.take_length] at hz
      have sub : ∀ x ∈ told ms, x ∈ ms := fun x hx => (told_mem.mp hx).1
      refine ⟨_, rfl, a, rfl, ⟨_, s2.seq ha⟩, fun D hD => ?_⟩
      refine lc_sel walk_list (fun i => ((num ms).map V.int)[i]?) (by omega) hD (fun H3 z => (s2.trans z).seq ha) ?_ ?_
      · rintro i x H3 H4 k kn hi z ⟨rfl, hx⟩ ky kk
        obtain ⟨d, hd1, hd2⟩ := dpAll_get hd hx
        obtain ⟨m, hm, rfl⟩ : ∃ m, ms[i]? = some m ∧ DD m = d := by
          rw [List.getElem?_map] at hd1
          cases e : ms[i]? with
          | none => rw [e] at hd1; cases hd1
          | some m => rw [e] at hd1; exact ⟨m, rfl, Option.some.inj hd1⟩
        have hmm := List.mem_of_getElem? hm
        have s4 := s2.trans z
        have e : ((num ms).map V.int)[i]? = some (.int (numOf (told ms) m)) := by rw [List.getElem?_map, num_at hm]; rfl
        have eg : PyData.eqv (DD m) (.int (-1)) = decide (m = -1) := by
          rw [← MK.gone]
          exact MK.eqv m (List.mem_cons_of_mem _ hmm) (-1) List.mem_cons_self
        refine ⟨rfl, ?_⟩
        refine iteT (B := kn H4) ?_
        refine ⟨x, rfl, DD m, .int (-1), dp_same s4 hd2, .int (-1), MK.shaped (List.mem_cons_of_mem _ hmm), by decide +kernel, _, rfl, ?_⟩
        rw [eg]
        by_cases c1 : m = -1
        · refine iteDT c1 (ky _ _ ?_ (Same.refl _))
          rw [e, numOf, if_pos c1]
        · have hmem : m ∈ told ms := told_mem.mpr ⟨hmm, c1⟩
          obtain ⟨i1, i2, i3⟩ := MK.idx sub hmem
          refine iteDF c1 ⟨.ref L, rfl, .inl ⟨rfl, _, .inl (.inl (z _ _ hL))⟩, x, rfl, L, x, DD m, _, (told ms).idxOf m, DD m, rfl, rfl, .lst (.inl (.inl (z _ _ hL))) (dpAll_same s4 hz), dp_same s4 hd2, MK.shapedL sub, MK.shaped (List.mem_cons_of_mem _ hmm), i1, i2, i3, ?_⟩
          refine ky _ _ ?_ (Same.refl _)
          rw [e, numOf, if_neg c1]
      · intro H3 z hD2
        refine q D H3 (s2.trans z) (s2.free hD) ?_
        rw [hD2]
        have e : ys.length = ((num ms).map V.int).length := by rw [List.length_map, num_len]; exact hylen
        rw [e, range_get]
end
end Jc
namespace Jc
open PySem PySem.Spec L2
open PyProof.Rows hiding St
/-! ### zip of two tuples -/
def Znt (K : PySem.W.Frag) (a b : Addr) : It :=
  ⟨fun i H => ∃ xs ys x y, SqT K H a xs ∧ SqT K H b ys ∧ xs[i]? = some x ∧ ys[i]? = some y, fun i H v H' => ∃ T x y, v = .ref T ∧ H T = none ∧ H' = upd H T (.tup [x, y]) ∧ (∀ xs, SqT K H a xs → xs[i]? = some x) ∧ ∀ ys, SqT K H b ys → ys[i]? = some y,
    fun i H => ∃ xs ys, SqT K H a xs ∧ SqT K H b ys ∧ i ≤ xs.length ∧ i ≤ ys.length ∧ (i = xs.length ∨ i = ys.length)⟩
def znTurn (z TI TO i1 i2 a b : Addr) (i : Nat) (h : Heap) : Prop := IsZip h z TI TO .none ∧ IsTupOf2 h TI (.ref i1) (.ref i2) ∧ (∃ x y, IsTupOf2 h TO x y) ∧ h.IsTupleIter i1 a i ∧ h.IsTupleIter i2 b i
theorem zn_all {P : Addr → Prop} {z TI TO i1 i2 : Addr} (h1 : P z) (h2 : P TI) (h3 : P TO) (h4 : P i1) (h5 : P i2) : ∀ c ∈ [z, TI, TO, i1, i2], P c := fun c hc => by
  simp only [List.mem_cons, List.not_mem_nil, or_false] at hc
  rcases hc with e | e | e | e | e
  · exact e ▸ h1
  · exact e ▸ h2
  · exact e ▸ h3
  · exact e ▸ h4
  · exact e ▸ h5
theorem turn_znt {P : Program} {w : World} {K : PySem.W.Frag} {elts : List Expr} {kk : Nat} {tpos : Pos} {a b z TI TO i1 i2 : Addr} (D : ZipSep2 z TI TO i1 i2 [i1, a] [i2, b]) :
    Turn P w K (.Tuple elts kk tpos) (Znt K a b) [z, TI, TO, i1, i2] z (znTurn z TI TO i1 i2 a b) where
  mem := List.mem_cons_self
  obj := fun i h st => by
    obtain ⟨hz, hTI, ⟨x, y, hTO⟩, ⟨o1, e1, _, d1⟩, ⟨o2, e2, _, d2⟩⟩ := st
    exact zn_all ⟨_, hz, fun v q => nomatch q⟩ ⟨_, hTI, fun v q => nomatch q⟩ ⟨_, hTO, fun v q => nomatch q⟩ ⟨o1, e1, fun v q => by rw [d1] at q; cases q⟩ ⟨o2, e2, fun v q => by rw [d2] at q; cases q⟩
  keep := fun i h h' st k => by
    obtain ⟨hz, hTI, ⟨x, y, hTO⟩, h1, h2⟩ := st
    exact ⟨k z (by simp) _ hz, k TI (by simp) _ hTI, ⟨x, y, k TO (by simp) _ hTO⟩, h1.at fun o q => k i1 (by simp) o q, h2.at fun o q => k i2 (by simp) o q⟩
  item := by
    intro X hP hw hK hc i pins s σ H E I hf st hg
    subst hP hw hK
    obtain ⟨hz, hTI, ⟨x0, y0, hTO⟩, h1, h2⟩ := st
    obtain ⟨xs, ys, x, y, hqx, hqy, hx, hy⟩ := hg
    obtain ⟨its, rv, p, _⟩ := I.tuple hqx
    obtain ⟨its2, rv2, p2, _⟩ := I.tuple hqy
    obtain ⟨u, hu, ru⟩ := rv.get hx
    obtain ⟨u2, hu2, ru2⟩ := rv2.get hy
    have hd : X.A.in1.handled = none := I.ok.hd hc
    have n1 : a ≠ i1 := fun e => by
      obtain ⟨o, eo, ec, _⟩ := h1
      obtain ⟨o', eo', ec', _⟩ := (show s.heap.IsTuple a its.toArray from p)
      rw [e, eo] at eo'
      cases eo'
      exact absurd (ec.symm.trans ec') (by intro q; injection q with q; exact absurd q (by decide))
    have n2 : b ≠ i2 := fun e => by
      obtain ⟨o, eo, ec, _⟩ := h2
      obtain ⟨o', eo', ec', _⟩ := (show s.heap.IsTuple b its2.toArray from p2)
      rw [e, eo] at eo'
      cases eo'
      exact absurd (ec.symm.trans ec') (by intro q; injection q with q; exact absurd q (by decide))
    have l1 : i < its.toArray.size := by simpa using (List.getElem?_eq_some_iff.mp hu).1
    have l2 : i < its2.toArray.size := by simpa using (List.getElem?_eq_some_iff.mp hu2).1
    have hzl : z < s.heap.objs.size := Heap.lt_size hz
    refine wpAny_pyNext_zipD2_item D (Draws.tuple hd i1 a n1 its.toArray) (Draws.tuple hd i2 b n2 its2.toArray) hz hTI hTO ⟨h1, p⟩ ⟨h2, p2⟩ l1 l2 fun v1 v2 h' tk q1 q2 z' TO' t1 t2 hT hsz hk => ?_
    have ev1 : v1 = u := by
      have q : its.toArray[i]? = some v1 := q1
      rw [List.getElem?_toArray, hu] at q
      exact (Option.some.inj q).symm
    have ev2 : v2 = u2 := by
      have q : its2.toArray[i]? = some v2 := q2
      rw [List.getElem?_toArray, hu2] at q
      exact (Option.some.inj q).symm
    subst ev1 ev2
    refine ⟨_, rfl, wpAny_letOwnedTupleGo_zip (s := { s with heap := h', toks := tk }) z' fun h'' z'' sb => ?_⟩
    have hT2 : IsTupOf2 h'' s.heap.objs.size v1 v2 := (sb.2 _ (Nat.ne_of_gt hzl)).trans hT
    have new : ObjOk X.prog X.w (upd H s.heap.objs.size (.tup [x, y])) h'' s.heap.objs.size (.tup [x, y]) := ⟨two_le, [v1, v2], .cons ru (.cons ru2 .nil), ⟨_, hT2, rfl, _, rfl⟩⟩
    have I1 : Inv X pins σ (upd H s.heap.objs.size (.tup [x, y])) { s with heap := h'', toks := tk } :=
      I.turnedNew (ch := [z, TI, TO, i1, i2]) (fun c o hb q => by
        have m1 : c ≠ z := fun e => hb (by simp [e])
        exact (sb.2 c m1).trans (hk c o m1 (fun e => hb (by simp [e])) (fun e => hb (by simp [e])) (fun e => hb (by simp [e])) q)) hf (Nat.le_refl _) new
    refine ⟨.ref s.heap.objs.size, _, I1, rfl, ⟨_, x, y, rfl, I.hok.fresh (Nat.le_refl _), rfl, fun l hl => by rw [I.tuple_inj hl hqx]; exact hx, fun l hl => by rw [I.tuple_inj hl hqy]; exact hy⟩, ⟨z'', ?_, ⟨v1, v2, (sb.2 _ D.TOz).trans TO'⟩, t1.1.at fun o q => (sb.2 _ (Ne.symm D.zi1)).trans q, t2.1.at fun o q => (sb.2 _ (Ne.symm D.zi2)).trans q⟩, fun c hcm => ?_⟩
    · exact (sb.2 _ D.TIz).trans (hk _ _ D.TIz D.TITO D.TIi1 D.TIi2 hTI)
    · have hlt : ∀ c ∈ [z, TI, TO, i1, i2], c < s.heap.objs.size := zn_all hzl (Heap.lt_size hTI) (Heap.lt_size hTO) (by obtain ⟨_, q, _⟩ := h1; exact Heap.lt_size q) (by obtain ⟨_, q, _⟩ := h2; exact Heap.lt_size q)
      rw [upd_ne (Nat.ne_of_lt (hlt c hcm))]
      exact (hf c hcm).1
  done := by
    intro X hP hw hK hc i pins s σ H E I hf st hg
    subst hP hw hK
    obtain ⟨hz, hTI, ⟨x0, y0, hTO⟩, h1, h2⟩ := st
    obtain ⟨xs, ys, hqx, hqy, e1, e2, hend⟩ := hg
    obtain ⟨its, rv, p, _⟩ := I.tuple hqx
    obtain ⟨its2, rv2, p2, _⟩ := I.tuple hqy
    have hd : X.A.in1.handled = none := I.ok.hd hc
    have n1 : a ≠ i1 := fun e => by
      obtain ⟨o, eo, ec, _⟩ := h1
      obtain ⟨o', eo', ec', _⟩ := (show s.heap.IsTuple a its.toArray from p)
      rw [e, eo] at eo'
      cases eo'
      exact absurd (ec.symm.trans ec') (by intro q; injection q with q; exact absurd q (by decide))
    have n2 : b ≠ i2 := fun e => by
      obtain ⟨o, eo, ec, _⟩ := h2
      obtain ⟨o', eo', ec', _⟩ := (show s.heap.IsTuple b its2.toArray from p2)
      rw [e, eo] at eo'
      cases eo'
      exact absurd (ec.symm.trans ec') (by intro q; injection q with q; exact absurd q (by decide))
    have l1 := rv.length
    have l2 := rv2.length
    refine wpAny_pyNext_zipD2_end D (Draws.tuple hd i1 a n1 its.toArray) (Draws.tuple hd i2 b n2 its2.toArray) hz hTI hTO ⟨h1, p⟩ ⟨h2, p2⟩ (by rw [List.size_toArray]; omega) (by rw [List.size_toArray]; omega) (by rw [List.size_toArray, List.size_toArray]; omega) fun h' tk hk => ⟨rfl, I.turnedL (t' := tk) (ch := [z, TI, TO, i1, i2]) (fun c o hb q =>
      hk c o (fun e => hb (by simp [e])) (fun e => hb (by simp [e])) (fun e => hb (by simp [e])) (fun e => hb (by simp [e])) q) hf⟩
  self := fun A i s Q E st h => wpAny_pyIter_zip st.1 h
def iZnt (K : PySem.W.Frag) (ta : TA) : TI := fun σ H R => ta σ H fun vs H1 => ∃ a b xs ys, vs = [.ref a, .ref b] ∧ SqT K H1 a xs ∧ SqT K H1 b ys ∧ R (Znt K a b) H1
theorem pi_znt {X : Cx} {e e2 : Expr} {ta : TA} {p pos tpos : Pos} {elts : List Expr} {kk : Nat} (hg : Gl X "zip") (hm : X.mg "zip" = none) (ha : PA X [e, e2] ta)
    (hs : starEach [e, e2] X.env = (false, eval e X.env) :: starEach [e2] X.env := by rfl) (hpl : (backTo pos (starEach [e2] X.env)).any (·.1) = false := by rfl) :
    PI X (.Tuple elts kk tpos) (.Call (.Name "zip" p) [e, e2] [] pos) (iZnt X.K ta) := by
  refine ⟨fun pins s σ H R I h => ?_⟩
  refine Call_ (ld_blt I hg hm PyProof.Rows.boot_zip (PyProof.Rows.callWith_type1 (thn (ha.run pos pins s σ H _ I h) fun us s1 ⟨vs, H1, I1, r1, q1⟩ => ?_) hs hpl))
  obtain ⟨a, b, xs, ys, ex, hqx, hqy, q⟩ := q1
  subst ex
  obtain ⟨u1, u2, rfl, r, r'⟩ := vals2 r1
  obtain rfl : u1 = Value.ref a := r
  obtain rfl : u2 = Value.ref b := r'
  obtain ⟨its, rv, p1, _⟩ := I1.tuple hqx
  obtain ⟨its2, rv2, p2, _⟩ := I1.tuple hqy
  have la : a < s1.heap.objs.size := by
    obtain ⟨_, z, _⟩ := (show s1.heap.IsTuple a its.toArray from p1)
    exact Heap.lt_size z
  have lb : b < s1.heap.objs.size := by
    obtain ⟨_, z, _⟩ := (show s1.heap.IsTuple b its2.toArray from p2)
    exact Heap.lt_size z
  refine zip_begins2 (begins_tuple a its.toArray) (begins_tuple b its2.toArray) p1 p2 fun h' hz hTI hTO g1 g2 hsz hk => ?_
  refine wpAny_pyIter_zip hz ?_
  have ne : ∀ {i j : Nat}, i ≠ j → s1.heap.objs.size + i ≠ s1.heap.objs.size + j := fun h e => h (Nat.add_left_cancel e)
  have na : ∀ {c : Addr} (i : Nat), c < s1.heap.objs.size → s1.heap.objs.size + i ≠ c := fun i h e => absurd h (by rw [← e]; exact Nat.not_lt.mpr (Nat.le_add_right _ _))
  have D : ZipSep2 (s1.heap.objs.size + 4) (s1.heap.objs.size + 2) (s1.heap.objs.size + 3) s1.heap.objs.size (s1.heap.objs.size + 1) [s1.heap.objs.size, a] [s1.heap.objs.size + 1, b] :=
    ⟨ne (by decide), ne (by decide), ne (by decide), ne (j := 0) (by decide), by simp, by simp only [List.mem_cons, List.not_mem_nil, or_false, not_or]; exact ⟨ne (j := 0) (by decide), na 4 la⟩, by simp only [List.mem_cons, List.not_mem_nil, or_false, not_or]; exact ⟨ne (j := 0) (by decide), na 3 la⟩,
      ne (by decide), by simp, by simp only [List.mem_cons, List.not_mem_nil, or_false, not_or]; exact ⟨ne (by decide), na 4 lb⟩, by simp only [List.mem_cons, List.not_mem_nil, or_false, not_or]; exact ⟨ne (by decide), na 3 lb⟩,
      by simp only [List.mem_cons, List.not_mem_nil, or_false, not_or]; exact ⟨ne (i := 0) (by decide), na 0 lb⟩, by simp only [List.mem_cons, List.not_mem_nil, or_false, not_or]; exact ⟨ne (j := 0) (by decide), na 1 la⟩⟩
  refine ⟨_, [s1.heap.objs.size + 4, s1.heap.objs.size + 2, s1.heap.objs.size + 3, s1.heap.objs.size, s1.heap.objs.size + 1], _, _, H1, rfl, I1.kept (t' := s1.toks) hk, turn_znt D, ⟨hz, hTI, ⟨_, _, hTO⟩, ⟨_, g1, rfl, rfl⟩, ⟨_, g2, rfl, rfl⟩⟩, fun c hc => ?_, q⟩
  have hle : ∀ c ∈ [s1.heap.objs.size + 4, s1.heap.objs.size + 2, s1.heap.objs.size + 3, s1.heap.objs.size, s1.heap.objs.size + 1], s1.heap.objs.size ≤ c := zn_all (Nat.le_add_right _ _) (Nat.le_add_right _ _) (Nat.le_add_right _ _) (Nat.le_refl _) (Nat.le_add_right _ _)
  exact I1.fpOk (hle c hc) (I1.hok.fresh (hle c hc))
theorem pi_zntK {X : Cx} {K : PySem.W.Frag} {e e2 : Expr} {ta : TA} {p pos tpos : Pos} {elts : List Expr} {kk : Nat} (hK : X.K = K) (hg : Gl X "zip") (hm : X.mg "zip" = none) (ha : PA X [e, e2] ta)
    (hs : starEach [e, e2] X.env = (false, eval e X.env) :: starEach [e2] X.env := by rfl) (hpl : (backTo pos (starEach [e2] X.env)).any (·.1) = false := by rfl) : PI X (.Tuple elts kk tpos) (.Call (.Name "zip" p) [e, e2] [] pos) (iZnt K ta) := by
  subst hK
  exact pi_znt hg hm ha hs hpl
section
variable {K : PySem.W.Frag} {a b : Addr} {xs ys : List V}
theorem walk_znt (hl : xs.length = ys.length) : Walk (Znt K a b) xs.length (fun H => SqT K H a xs ∧ SqT K H b ys) (YPair (fun i => xs[i]?) (fun i => ys[i]?)) := by
  refine ⟨fun i H hi q => ⟨xs, ys, xs[i], ys[i]'(hl ▸ hi), q.1, q.2, by simp [hi], by simp [hl ▸ hi]⟩, fun H q => ⟨xs, ys, q.1, q.2, Nat.le_refl _, by omega, .inl rfl⟩, fun i H v H' _ q y => ?_⟩
  obtain ⟨T, x, z, h1, h2, h3, h4, h5⟩ := y
  exact ⟨T, x, z, h1, h2, h3, h4 xs q.1, h5 ys q.2⟩
end
end Jc
namespace Jc
open PySem PySem.Spec L2
open PyProof.Rows hiding St
/-- a comprehension without a test, its elements told by R, which stands while the heap grows -/
theorem lc_rel {J : It} {n : Nat} {G : Hp → Prop} {Y : Nat → Hp → V → Hp → Prop} (w : Walk J n G Y) {g : TG} {te : TE} {vs : List Nat} {σ : L2.St} {H1 : Hp} {D : Addr} {Qd : Hp → Prop} (R : Nat → V → Hp → Prop) (hn : n < 1000000) (hD : H1 D = none)
    (hR : ∀ i y H H2, (∀ b o, b ≠ D → H b = some o → H2 b = some o) → R i y H → R i y H2) (hG : ∀ H2, Same H1 H2 → G H2)
    (hs : ∀ i x H H2 (k : V → Hp → Prop), i < n → Same H1 H → (∃ ys, H D = some (.lst ys)) → Y i H x H2 → (∀ y H4, Same H H4 → R i y H4 → k y H4) → g x (wipe σ vs) H2 fun σ2 H3 => wipe σ2 vs = wipe σ vs ∧ te σ2 H3 k)
    (hd : ∀ ys H2, ys.length = n → (∀ i y, ys[i]? = some y → R i y H2) → Same H1 H2 → H2 D = some (.lst ys) → Qd H2) :
    ∃ W : Nat → Nat → Hp → Prop, (∃ m, W 0 m (upd H1 D (.lst []))) ∧ ∀ i m H, W i m H →
      (J.stop i H ∧ Qd H) ∨ (J.go i H ∧ ∃ Nx : Hp → Prop, (∀ H', Nx H' → ∃ m', m' < m ∧ W (i + 1) m' H') ∧ ∀ x H', J.yld i H x H' → g x (wipe σ vs) H' fun σ2 H2 => wipe σ2 vs = wipe σ vs ∧ tYes σ2 H2 fun b H3 =>
        if b = true then te σ2 H3 fun y H4 => ∃ acc, H4 D = some (.lst acc) ∧ acc.length < sizeLine ∧ Nx (upd H4 D (.lst (acc ++ [y]))) else Nx H3) := by
  refine lc_it w (fun i H => Same H1 H ∧ ∃ ys : List V, ys.length = i ∧ (∀ j y, ys[j]? = some y → R j y H) ∧ H D = some (.lst ys)) ⟨same_new hD, [], rfl, fun j y e => by simp at e, upd_same⟩ (fun i H _ p => hG H p.1) ?_ ?_
  · rintro i x H H2 hi ⟨s1, ys, hl, hRs, hy⟩ y
    refine hs i x H H2 _ hi s1 ⟨_, hy⟩ y fun z H4 s4 r => ⟨ys, s4 _ _ hy, Nat.lt_of_lt_of_le (show ys.length < 1000000 by omega) (by rw [sizeLine_eq]; decide), same_mut (s1.trans s4) hD, ys ++ [z], by rw [List.length_append, hl]; rfl, fun j u e => ?_, upd_same⟩
    have kp : ∀ b o, b ≠ D → H4 b = some o → upd H4 D (.lst (ys ++ [z])) b = some o := fun b o hb e => by rw [upd_ne hb]; exact e
    refine hR j u H4 _ kp ?_
    by_cases hj : j < ys.length
    · rw [List.getElem?_append_left hj] at e
      exact hR j u H H4 (fun b o _ e => s4 b o e) (hRs j u e)
    · have hj2 : j = ys.length := by
        have := (List.getElem?_eq_some_iff.mp e).1
        rw [List.length_append] at this
        simp at this
        omega
      subst hj2
      rw [List.getElem?_append_right (Nat.le_refl _)] at e
      simp at e
      subst e
      rw [hl]
      exact r
  · rintro H ⟨s1, ys, hl, hRs, hy⟩
    exact hd ys H hl hRs s1 hy
/-! ### lists of lists of ints -/
structure LL (H : Hp) (q : Addr) (yss : List (List Int)) : Prop where
  ex : ∃ ys : List V, H q = some (.lst ys) ∧ ys.length = yss.length ∧ ∀ (i : Nat) y l, ys[i]? = some y → yss[i]? = some l → ∃ r, y = .ref r ∧ H r = some (.lst (l.map V.int))
theorem LL.same {H H2 : Hp} {q : Addr} {yss : List (List Int)} (s : Same H H2) (h : LL H q yss) : LL H2 q yss := by
  obtain ⟨ys, h1, h2, h3⟩ := h
  refine ⟨ys, s _ _ h1, h2, fun i y l e1 e2 => ?_⟩
  obtain ⟨r, e, e3⟩ := h3 i y l e1 e2
  exact ⟨r, e, s _ _ e3⟩
theorem dpAll_ll {K : PySem.W.Frag} {H : Hp} : ∀ (ys : List V) (yss : List (List Int)), ys.length = yss.length → (∀ (i : Nat) y l, ys[i]? = some y → yss[i]? = some l → ∃ r, y = .ref r ∧ H r = some (.lst (l.map V.int))) →
    DpAll K H ys (yss.map fun l => PyData.list (l.map PyData.int))
  | [], [], _, _ => .nil
  | y :: ys, l :: yss, hl, h => by
    obtain ⟨r, rfl, e⟩ := h 0 y l rfl rfl
    have all : ∀ ns : List Int, DpAll K H (ns.map V.int) (ns.map PyData.int) := fun ns => by
      induction ns with
      | nil => exact .nil
      | cons n r ih => exact .cons (.int n) ih
    exact .cons (.lst (.inl (.inl e)) (all l)) (dpAll_ll ys yss (by simpa using hl) fun i y' l' e1 e2 => h (i + 1) y' l' e1 e2)
  | [], _ :: _, hl, _ => nomatch hl
  | _ :: _, [], hl, _ => nomatch hl
abbrev dLL (yss : List (List Int)) : PyData := .list (yss.map fun l => PyData.list (l.map PyData.int))
theorem LL.dp {K : PySem.W.Frag} {H : Hp} {q : Addr} {yss : List (List Int)} (h : LL H q yss) : Dp K H (.ref q) (dLL yss) := by
  obtain ⟨ys, h1, h2, h3⟩ := h
  exact .lst (.inl (.inl h1)) (dpAll_ll ys yss h2 h3)
theorem eqv_ll : ∀ yss : List (List Int), PyData.eqvAll (yss.map fun l => PyData.list (l.map PyData.int)) (yss.map fun l => PyData.list (l.map PyData.int)) = true
  | [] => by simp [PyData.eqvAll]
  | l :: r => by
    have ih := eqv_ll r
    have h := PySem.W.ked_eqvAll l l
    rw [decide_eq_true rfl] at h
    simp only [List.map_cons, PyData.eqvAll, PyData.eqv, h, ih, Bool.and_self]
theorem shaped_ll (yss : List (List Int)) : SeqAt.shaped (dLL yss) = true := by
  have h1 : ∀ zss : List (List Int), PyData.canLayAll0 (zss.map fun l => PyData.list (l.map PyData.int)) = true := fun zss => by
    induction zss with
    | nil => simp [PyData.canLayAll0]
    | cons l r ih => simp [PyData.canLayAll0, PyData.canLay0, PySem.W.canLayAll0_ints, ih]
  have h2 : ∀ zss : List (List Int), PyData.depthAll (zss.map fun l => PyData.list (l.map PyData.int)) ≤ 2 := fun zss => by
    induction zss with
    | nil => simp [PyData.depthAll]
    | cons l r ih =>
      have h3 := PySem.W.depthAll_ints l
      simp only [List.map_cons, PyData.depthAll, PyData.depth]
      omega
  have h3 : PyData.depth (dLL yss) ≤ 64 := by
    have := h2 yss
    simp only [dLL, PyData.depth]
    omega
  show (PyData.canLay0 (dLL yss) && decide (PyData.depth (dLL yss) ≤ 64)) = true
  rw [Bool.and_eq_true]
  exact ⟨by simp only [dLL, PyData.canLay0]; exact h1 yss, decide_eq_true h3⟩
end Jc
namespace Jc
open PySem PySem.Spec L2
open PyProof.Rows hiding St
/-! ### _gone_marks, _met -/
def gmOf (c : List Int) : List Bool := c.map fun x => decide (x = -1)
def spGM (K : PySem.W.Frag) : Sp := fun vs H Q _ => ∃ (a : Addr) (c : List Int), vs = [.ref a] ∧ SqT K H a (c.map V.int) ∧ c.length ≤ 1000 ∧ ∀ (q : Addr) (H2 : Hp), Same H H2 → H q = none → H2 q = some (.lst ((gmOf c).map V.bl)) → Q (.ref q) H2
/-- the marks of what is alike in both, as ints; and the data they stand for -/
def codeM (x y : Int) : Int := if x = -1 then -1 else 100 * (x + 1) + (y + 1)
def metM (c d : List Int) : List Int := List.zipWith codeM c d
def datM (m : Int) : PyData := if m = -1 then .int (-1) else .tuple [.int (m / 100 - 1), .int (m % 100 - 1)]
def spMet (K : PySem.W.Frag) : Sp := fun vs H Q _ => ∃ (a b : Addr) (c d : List Int), vs = [.ref a, .ref b] ∧ SqT K H a (c.map V.int) ∧ SqT K H b (d.map V.int) ∧ c.length = d.length ∧ c.length ≤ 1000 ∧ (∀ x ∈ c, -1 ≤ x ∧ x < 50) ∧ (∀ x ∈ d, -1 ≤ x ∧ x < 50) ∧
  ∀ (q : Addr) (ys : List V) (H2 : Hp), Same H H2 → H q = none → H2 q = some (.lst ys) → DpAll K H2 ys ((metM c d).map datM) → Q (.ref q) H2
theorem datM_eqv (x y : Int) (hx : x = -1 ∨ 0 ≤ x) (hy : y = -1 ∨ 0 ≤ y) : PyData.eqv (datM x) (datM y) = decide (x = y) := by
  unfold datM
  by_cases a : x = -1
  · by_cases b : y = -1
    · rw [if_pos a, if_pos b, a, b]
      rfl
    · rw [if_pos a, if_neg b, decide_eq_false (fun z => b (z.symm.trans a))]
      rfl
  · by_cases b : y = -1
    · rw [if_neg a, if_pos b, decide_eq_false (fun z => a (z.trans b))]
      rfl
    · rw [if_neg a, if_neg b]
      show ((x / 100 - 1 == y / 100 - 1) && ((x % 100 - 1 == y % 100 - 1) && true)) = decide (x = y)
      by_cases c : x = y
      · subst c
        simp
      · rw [decide_eq_false c]
        by_cases d : x / 100 - 1 = y / 100 - 1
        · have e : ¬ (x % 100 - 1 = y % 100 - 1) := fun e => c (by omega)
          rw [beq_eq_false_iff_ne.mpr e]
          simp
        · rw [beq_eq_false_iff_ne.mpr d]
          simp
theorem codeM_ok {x y : Int} (hx : -1 ≤ x) (hy : -1 ≤ y) : codeM x y = -1 ∨ 0 ≤ codeM x y := by
  unfold codeM
  split
  · exact .inl rfl
  · right
    omega
theorem metM_mem {c d : List Int} {m : Int} (hc : ∀ x ∈ c, -1 ≤ x ∧ x < 50) (hd : ∀ x ∈ d, -1 ≤ x ∧ x < 50) (h : m ∈ metM c d) : m = -1 ∨ 0 ≤ m := by
  unfold metM at h
  obtain ⟨i, hi⟩ := List.getElem?_of_mem h
  rw [List.getElem?_zipWith] at hi
  cases e1 : c[i]? with
  | none => rw [e1] at hi; simp at hi
  | some x =>
    cases e2 : d[i]? with
    | none => rw [e1, e2] at hi; simp at hi
    | some y =>
      rw [e1, e2] at hi
      have e3 : codeM x y = m := Option.some.inj hi
      rw [← e3]
      exact codeM_ok (hc x (List.mem_of_getElem? e1)).1 (hd y (List.mem_of_getElem? e2)).1
theorem marks_met {c d : List Int} (hc : ∀ x ∈ c, -1 ≤ x ∧ x < 50) (hd : ∀ x ∈ d, -1 ≤ x ∧ x < 50) : Marks datM (metM c d) := by
  have h : ∀ x ∈ (-1 : Int) :: metM c d, x = -1 ∨ 0 ≤ x := fun x hx => by
    rcases List.mem_cons.mp hx with e | e
    · exact .inl e
    · exact metM_mem hc hd e
  refine ⟨rfl, fun x hx y hy => datM_eqv x y (h x hx) (h y hy), fun x hx => ?_⟩
  unfold datM
  split
  · exact ⟨rfl, by decide⟩
  · refine ⟨by simp [PyData.canLay0, PyData.canLayAll0], ?_⟩
    simp only [PyData.depth, PyData.depthAll]
    omega
section
variable {P : Program} {w : World} {K : PySem.W.Frag} {mg : Str → Option Value} {base : Heap} {f C : Addr} {fd : FuncData} {t1 : Tok}
abbrev s_gm : Stmt := topS 17
abbrev N_gm : List Str := ["classes", "number"]
theorem sc_gm : FnScope N_gm ["classes"] (defScope s_gm) := ⟨rfl, rfl, rfl, by decide +kernel, rfl, by decide +kernel, by decide +kernel⟩
theorem ok_gm (F : Fun K "_gone_marks" "_gone_marks" s_gm f fd) (T : TxP mg t1) : FnOk P w K mg base CX0 1 f fd ["classes"] (spGM K) := by
  refine F.ok sc_gm (fun vs H Q E h => ?_) (fun cdv A outer s H vs Q E hr h => ?_)
  · obtain ⟨a, c, rfl, _⟩ := h
    rfl
  · obtain ⟨a, c, rfl, ha, hl, q⟩ := h
    refine ⟨_, (pss_one (ps_ret (pe_lc (own := [("number", 1)]) (g := gName 1) rfl sc_gm.nd (pi_tup (pv 0)) (blkOk_by (own := [("number", 1)]) (N := N_gm) (sc := defScope s_gm) (by decide +kernel)) (fun _ _ _ _ _ => pg_name (i := 1) sc_gm.nd rfl (.inl rfl)) (fun _ _ _ _ _ => pts_nil) (fun _ _ _ _ _ => (pe_cmpR op_eq (pv 1) (pe_glob (v := .int (-1)) rfl T.GONE ⟨_, rfl⟩) (nomark _)))))), ?_⟩
    refine ⟨_, rfl, a, rfl, ⟨_, ha⟩, fun D hD => ?_⟩
    refine lc_sel walk_tup (fun i => ((gmOf c).map V.bl)[i]?) (by rw [List.length_map]; omega) hD (fun H3 z => seqT z ha) ?_ ?_
    · rintro i x H3 H4 k kn hi z ⟨rfl, hx⟩ ky kk
      obtain ⟨m, hm, rfl⟩ := get_ints hx
      refine ⟨rfl, ?_⟩
      refine iteT (B := kn H4) ⟨.int m, rfl, rfl, ky _ _ ?_ (Same.refl _)⟩
      rw [List.getElem?_map, gmOf, List.getElem?_map, hm]
      show some (V.bl (decide (m = -1))) = some (V.bl (decide (V.int m = V.int (-1))))
      congr 2
      exact decide_eq_decide.mpr ⟨congrArg V.int, V.int.inj⟩
    · intro H3 z hD2
      refine q D H3 z hD ?_
      rw [hD2]
      have e : (c.map V.int).length = ((gmOf c).map V.bl).length := by simp [gmOf]
      rw [e, range_get]
abbrev s_met : Stmt := topS 23
abbrev N_met : List Str := ["one", "other", "first", "second"]
theorem sc_met : FnScope N_met ["one", "other"] (defScope s_met) := ⟨rfl, rfl, rfl, by decide +kernel, rfl, by decide +kernel, by decide +kernel⟩
theorem ok_met (F : Fun K "_met" "_met" s_met f fd) (B : Blt mg) (T : TxP mg t1) : FnOk P w K mg base CX0 1 f fd ["one", "other"] (spMet K) := by
  refine F.ok sc_met (fun vs H Q E h => ?_) (fun cdv A outer s H vs Q E hr h => ?_)
  · obtain ⟨a, b, c, d, rfl, _⟩ := h
    rfl
  · obtain ⟨a, b, c, d, rfl, ha, hb, hl, hl2, hc, hd, q⟩ := h
    refine ⟨_, (pss_one (ps_ret (pe_lc (own := [("first", 2), ("second", 3)]) (g := _) rfl sc_met.nd (pi_znt rfl B.zip (pa_cons (pv 0) (pa_cons (pv 1) pa_nil))) (blkOk_by (own := [("first", 2), ("second", 3)]) (N := N_met) (sc := defScope s_met) (by decide +kernel)) (fun _ _ _ _ _ => pg_tupK (K := K) (n := 2) rfl rfl (pgs_cons (pg_name (i := 2) sc_met.nd rfl (.inl rfl)) (pgs_cons (pg_name (i := 3) sc_met.nd rfl (.inl rfl)) pgs_nil))) (fun _ _ _ _ _ => pts_nil) (fun _ _ _ _ _ => (pe_ifExp (pt_cmpR op_eq (pv 2) (pe_glob (v := .int (-1)) rfl T.GONE ⟨_, rfl⟩) (nomark _)) (pe_glob (v := .int (-1)) rfl T.GONE ⟨_, rfl⟩) (pe_tup (pa_cons (pv 2) (pa_cons (pv 3) pa_nil)))))))), ?_⟩
    have hcl : (c.map V.int).length = (d.map V.int).length := by rw [List.length_map, List.length_map]; exact hl
    refine ⟨_, rfl, _, rfl, a, b, _, _, rfl, ha, hb, fun D hD => ?_⟩
    refine lc_rel (walk_znt hcl) (fun i y H => ∃ x z, c[i]? = some x ∧ d[i]? = some z ∧ ((x = -1 ∧ y = .int (-1)) ∨ (x ≠ -1 ∧ ∃ r, y = .ref r ∧ r ≠ D ∧ H r = some (.tup [.int x, .int z])))) (by rw [List.length_map]; omega) hD (fun i y H H2 k r => ?_) (fun H3 z => ⟨seqT z ha, seqT z hb⟩) ?_ ?_
    · obtain ⟨x, z, e1, e2, h⟩ := r
      refine ⟨x, z, e1, e2, h.imp (fun w => w) fun ⟨n, r, e, ne, hr⟩ => ⟨n, r, e, ne, k r _ ne hr⟩⟩
    · rintro i v H3 H4 k hi z ⟨ys, hy⟩ ⟨U, v1, v2, rfl, nU, rfl, e1, e2⟩ kk
      obtain ⟨x, hx, rfl⟩ := get_ints e1
      obtain ⟨y, hy2, rfl⟩ := get_ints e2
      refine ⟨U, _, rfl, .inl (.inl upd_same), rfl, _, _, rfl, _, _, rfl, rfl, rfl, .int x, rfl, rfl, _, rfl, ?_⟩
      by_cases c1 : x = -1
      · exact iteDT (congrArg V.int c1) (kk _ _ (same_new nU) ⟨x, y, hx, hy2, .inl ⟨c1, rfl⟩⟩)
      · refine iteDF (fun w => c1 (V.int.inj w)) ⟨.int x, rfl, .int y, rfl, two_le, fun r nr => kk _ _ ((same_new nU).trans (same_new nr)) ⟨x, y, hx, hy2, .inr ⟨c1, r, rfl, ?_, upd_same⟩⟩⟩
        rintro rfl
        rw [(same_new nU) _ _ hy] at nr
        cases nr
    · intro ys H3 hly hR z hD2
      refine q D ys H3 z hD hD2 ?_
      have all : ∀ (n : Nat), n ≤ ys.length → DpAll K H3 (ys.drop (ys.length - n)) (((metM c d).map datM).drop (ys.length - n)) := by
        intro n
        induction n with
        | zero =>
          intro _
          rw [List.drop_of_length_le (by omega), List.drop_of_length_le (by simp [metM]; simp at hly; omega)]
          exact .nil
        | succ n ih =>
          intro hn
          have ih := ih (by omega)
          obtain ⟨y, hy⟩ : ∃ y, ys[ys.length - (n + 1)]? = some y := ⟨_, List.getElem?_eq_getElem (by omega)⟩
          obtain ⟨x, w2, e1, e2, h⟩ := hR _ _ hy
          have e3 : ((metM c d).map datM)[ys.length - (n + 1)]? = some (datM (codeM x w2)) := by
            rw [List.getElem?_map, metM, List.getElem?_zipWith, e1, e2]
            rfl
          obtain ⟨p1, p2⟩ := List.getElem?_eq_some_iff.mp hy
          obtain ⟨p3, p4⟩ := List.getElem?_eq_some_iff.mp e3
          rw [List.drop_eq_getElem_cons p1, List.drop_eq_getElem_cons p3, p2, p4, show ys.length - (n + 1) + 1 = ys.length - n by omega]
          refine .cons ?_ ih
          have b1 := hc x (List.mem_of_getElem? e1)
          have b2 := hd w2 (List.mem_of_getElem? e2)
          rcases h with ⟨h1, rfl⟩ | ⟨h1, r, rfl, _, hr⟩
          · rw [codeM, if_pos h1, datM, if_pos rfl]
            exact .int (-1)
          · have n1 : ¬ (100 * (x + 1) + (w2 + 1) = -1) := by omega
            rw [codeM, if_neg h1, datM, if_neg n1, show (100 * (x + 1) + (w2 + 1)) / 100 - 1 = x by omega, show (100 * (x + 1) + (w2 + 1)) % 100 - 1 = w2 by omega]
            exact .tup (.inl (.inl hr)) (.cons (.int x) (.cons (.int w2) .nil))
      have := all ys.length (Nat.le_refl _)
      rwa [Nat.sub_self, List.drop_zero, List.drop_zero] at this
end
end Jc
namespace Jc
open PySem PySem.Spec L2
open PyProof.Rows hiding St
/-! ### a & b, a | b of two instances of one own class, by its own def -/
section
variable {P : Program} {w : World} {A : Around} {E : Value → Shared → Prop} {s : Shared} {K : PySem.W.Frag} {x C f : Addr} {ox : Obj} {od : Option Obj}
theorem bin_raw {op : Operator} {b : Value} {Q : Value → Shared → Prop} (KX : K.In s.heap) (J : PySem.W.InstAt s.heap x ox C od) (hb : PySem.W.Looks (model P w) s.heap (typeOf b) (.ref C)) (hc : PySem.W.selfFirst K C = true)
    (hs : PySem.W.findIn K (.ref C) (PySem.dunder op.info.2) = some (some (.ref f))) (hf : PySem.W.isFn K (.ref f) = true) (h : wpAny (model P w) A (call (.ref f) [.ref x, b]) (PySem.W.CmpBack Q) E s) : wpAny (model P w) A (binaryOp op (.ref x) b) Q E s := by
  obtain ⟨cd, hcd, hm⟩ := PySem.W.any_some hc
  obtain ⟨rest, hr⟩ : ∃ rest, cd.mro = .ref C :: rest := by
    match q : cd.mro, hm with
    | [], z => cases z
    | y :: r, z =>
      rw [List.head?_cons] at z
      cases (beq_iff_eq.mp z)
      exact ⟨r, rfl⟩
  unfold binaryOp binaryOp1
  refine wpAny_holding (wpAny_bind (wpAny_bind (J.type.here (wpAny_bind (hb.here (wpAny_bind ((PySem.W.fills_K KX hcd hr hs).here ?_)))))))
  simp only [beq_self_eq_true, if_true]
  refine wpAny_bind (wpAny_pure ?_)
  simp only [Bool.and_false, Bool.false_eq_true, if_false, Bool.false_and]
  refine wpAny_bind (wpAny_pure ?_)
  simp only [Bool.false_eq_true, if_false]
  refine wpAny_bind (m := tryMethod (.ref x) _ b) ?_
  unfold tryMethod
  refine wpAny_bind (PySem.W.special_fn KX J hs (beq_iff_eq.mp hf) (wpAny_mono h (fun v s' z => ?_) fun _ _ z => z))
  cases v
  all_goals first | exact z.elim | (refine wpAny_pure (wpAny_pure (wpAny_pure ?_)); exact z)
end
/-- the def's promise at the two of them; what it gives is an object -/
def rBinOwn (C : Addr) (sp : Sp) : R2 := fun x y H Q => ∃ a b dx dy fs gs, x = .ref a ∧ y = .ref b ∧ H a = some (.ins C dx fs) ∧ H b = some (.ins C dy gs) ∧ sp [.ref a, .ref b] H (fun v H2 => (∃ r, v = .ref r) ∧ Q v H2) E0
theorem op_own {X : Cx} {op : Operator} {C f : Addr} {k : Nat} {sp : Sp} (c : Cls X.K C) (hc : PySem.W.selfFirst X.K C = true) (hs : PySem.W.findIn X.K (.ref C) (PySem.dunder op.info.2) = some (some (.ref f))) (hf : PySem.W.isFn X.K (.ref f) = true)
    (F : FnR X.prog X.w X.K X.mg X.base CX0 k f sp) (hr : Room k X.A) : OpR X (binaryOp op) (rBinOwn C sp) := by
  intro pins s σ H x y v u Q I rx ry h
  obtain ⟨a, b, dx, dy, fs, gs, rfl, rfl, ea, eb, q⟩ := h
  obtain rfl : v = Value.ref a := rx
  obtain rfl : u = Value.ref b := ry
  obtain ⟨mA, O, _, _, _, _⟩ := ins_get I.hok ea
  obtain ⟨od, J, _⟩ := O.look
  obtain ⟨mB, OB, _, _, _, _⟩ := ins_get I.hok eb
  obtain ⟨od2, J2, _⟩ := OB.look
  refine bin_raw I.kIn J J2.type hc hs hf (wpAny_call (codeAny_mono (F X.A X.stack s H [.ref a, .ref b] [.ref a, .ref b] _ E0 hr I.env0 (.cons rfl (.cons rfl .nil)) q) fun rs s2 z => ?_))
  match rs, z with
  | .ok .next, z => exact z.elim
  | .ok .brk, z => exact z.elim
  | .ok .cont, z => exact z.elim
  | .error _, z => exact z.elim
  | .ok (.ret r), z =>
    obtain ⟨v2, H2, I2, rv, ⟨r2, e2⟩, q2⟩ := I.after z
    subst e2
    obtain rfl : r = Value.ref r2 := rv
    exact ⟨.ref r2, H2, I2, rfl, q2⟩
end Jc
namespace Jc
open PySem PySem.Spec L2
open PyProof.Rows hiding St
structure OwnP (P : Program) (w : World) (K : PySem.W.Frag) (mg : Str → Option Value) (base : Heap) (C : Addr) (m : Str) (k : Nat) (sp : Sp) : Prop where
  ex : ∃ (p g : Addr) (fd : FuncData), PropOf K C m p g ∧ FnOk P w K mg base CX0 k g fd ["self"] sp ∧ Binds K fd ["self"] []
theorem pe_opr {X : Cx} {k j : Nat} {C : Addr} {m : Str} {sp : Sp} {pos : Pos} {o : Expr} {ta : TE} (he : PE X o ta) (c : Cls X.K C) (h : OwnP X.prog X.w X.K X.mg X.base C m k sp) (hr : Room j X.A) (hj : k + 1 ≤ j) (hab : attributeBase o m X.env (eval o X.env) = eval o X.env := by rfl) : PE X (.Attribute o m pos) (tProp C sp [] E0 ta) := by
  obtain ⟨p, g, fd, hp, F, hb⟩ := h.ex
  exact pe_prop he c hp F (hr.mono hj) hb .nil pass0 hab
/-- what isinstance asks of the class -/
structure PCi (K : PySem.W.Frag) (C : Addr) : Prop where
  ty : ∀ (H : Hp) (a dx : Addr) (fs : List (Str × V)), H a = some (.ins C dx fs) → TyX K H (.ref a) (.ref C)
  ii : PySem.W.kitOne K (.ref C) (.ref C) = some true
abbrev dB (bs : List Bool) : PyData := .list (bs.map PyData.bool)
theorem dp_bools {K : PySem.W.Frag} {H : Hp} {a : Addr} {bs : List Bool} (h : H a = some (.lst (bs.map V.bl))) : Dp K H (.ref a) (dB bs) := by
  have all : ∀ ns : List Bool, DpAll K H (ns.map V.bl) (ns.map PyData.bool) := fun ns => by
    induction ns with
    | nil => exact .nil
    | cons n r ih => exact .cons (.bl n) ih
  exact .lst (.inl (.inl h)) (all bs)
theorem eqv_bools (bs : List Bool) : PyData.eqv (dB bs) (dB bs) = true := by
  show PyData.eqvAll (bs.map PyData.bool) (bs.map PyData.bool) = true
  induction bs with
  | nil => simp [PyData.eqvAll]
  | cons b r ih =>
    simp only [List.map_cons, PyData.eqvAll, PyData.eqv, ih, Bool.and_true]
    exact beq_self_eq_true b
theorem shaped_bools (bs : List Bool) : SeqAt.shaped (dB bs) = true := by
  have h1 : ∀ zs : List Bool, PyData.canLayAll0 (zs.map PyData.bool) = true ∧ PyData.depthAll (zs.map PyData.bool) ≤ 1 := fun zs => by
    induction zs with
    | nil => simp [PyData.canLayAll0, PyData.depthAll]
    | cons l r ih =>
      refine ⟨by simp [PyData.canLayAll0, PyData.canLay0, ih.1], ?_⟩
      simp only [List.map_cons, PyData.depthAll, PyData.depth]
      omega
  obtain ⟨a, b⟩ := h1 bs
  have e : PyData.depth (dB bs) ≤ 64 := by
    simp only [dB, PyData.depth]
    omega
  show (PyData.canLay0 (dB bs) && decide (PyData.depth (dB bs) ≤ 64)) = true
  rw [decide_eq_true e]
  simp only [dB, PyData.canLay0, a, Bool.and_true]
def spPair (C : Addr) : Sp := fun vs H Q _ => ∃ (p q : Addr) (c d : List Int), vs = [.ref p, .ref q] ∧ PartAt C H p c ∧ PartAt C H q d ∧ gmOf c = gmOf d ∧ ∀ H2, Same H H2 → Q .non H2
/-- the meet of two -/
def spAnd (C : Addr) : Sp := fun vs H Q _ => ∃ (p q : Addr) (c d : List Int), vs = [.ref p, .ref q] ∧ PartAt C H p c ∧ PartAt C H q d ∧ gmOf c = gmOf d ∧ ∀ (r : Addr) (H2 : Hp), Same H H2 → PartAt C H2 r (num (metM c d)) → Q (.ref r) H2
def spFiner (C : Addr) : Sp := fun vs H Q _ => ∃ (p q : Addr) (c d : List Int), vs = [.ref p, .ref q] ∧ PartAt C H p c ∧ PartAt C H q d ∧ gmOf c = gmOf d ∧ ∀ H2, Same H H2 → Q (.bl (decide (num (metM c d) = c))) H2
theorem PartAt.small {C : Addr} {H : Hp} {p : Addr} {c : List Int} (h : PartAt C H p c) : ∀ x ∈ c, -1 ≤ x ∧ x < 50 := fun x hx => by
  have := num_small (h.nu.symm ▸ hx)
  have := h.hi
  omega
theorem gm_len {c d : List Int} (h : gmOf c = gmOf d) : c.length = d.length := by
  have := congrArg List.length h
  simpa [gmOf] using this
theorem metM_len {c d : List Int} (h : c.length = d.length) : (metM c d).length = c.length := by
  unfold metM
  rw [List.length_zipWith]
  omega
section
variable {P : Program} {w : World} {K : PySem.W.Frag} {mg : Str → Option Value} {base : Heap} {f C : Addr} {fd : FuncData} {t1 : Tok}
abbrev s_pair : Stmt := topS 16
abbrev N_pair : List Str := ["one", "other"]
theorem sc_pair : FnScope N_pair ["one", "other"] (defScope s_pair) := ⟨rfl, rfl, rfl, by decide +kernel, rfl, by decide +kernel, by decide +kernel⟩
theorem ok_pair (F : Fun K "_check_pair" "_check_pair" s_pair f fd) (B : Blt mg) (T : PCf K mg C) (TI : PCi K C) (c_gm : OwnK P w K mg base "_gone_marks" 1 ["classes"] (spGM K)) (m_cls : OwnP P w K mg base C "classes" 1 (getSp C "_classes")) :
    FnOk P w K mg base CX0 3 f fd ["one", "other"] (spPair C) := by
  refine F.ok sc_pair (fun vs H Q E h => ?_) (fun cdv A outer s H vs Q E hr h => ?_)
  · obtain ⟨p, q, c, d, rfl, _⟩ := h
    rfl
  · obtain ⟨p, q, c, d, rfl, hp, hq, hg, k⟩ := h
    have hu := hr.units
    obtain ⟨⟨dx, t, a1, a2⟩, lo, hi, nu⟩ := hp
    obtain ⟨⟨dy, u, b1, b2⟩, lo2, hi2, nu2⟩ := hq
    refine ⟨_, (pss_cons (ps_if (pt_not (pt_val (pe_callB call_isi rfl B.isinstance bo_isinstance (pa_cons (pv 1) (pa_cons (pe_glob (v := .ref C) rfl T.mc rfl) pa_nil))))) (pss_one ps_never) pss_nil)
      (pss_one (ps_if (pt_cmpR (op_neD hu) (pe_ownk c_gm hr (by decide) (pa_cons (pe_opr (pv 0) T.cl m_cls hr (by decide)) pa_nil)) (pe_ownk c_gm hr (by decide) (pa_cons (pe_opr (pv 1) T.cl m_cls hr (by decide)) pa_nil)) (nomark _)) (pss_one ps_never) pss_nil))), ?_⟩
    refine ⟨.ref q, rfl, .ref q, .ref C, _, _, true, rfl, .own C, TI.ty _ _ _ _ b1, TI.ii, true, rfl, iteF ?_⟩
    refine ⟨.ref p, rfl, p, dx, _, rfl, a1, p, dx, _, .ref t, rfl, a1, rfl, t, c, rfl, .inl (.inl a2), by omega, fun g1 H2 s2 _ h2 => ?_⟩
    refine ⟨.ref q, rfl, q, dy, _, rfl, s2 _ _ b1, q, dy, _, .ref u, rfl, s2 _ _ b1, rfl, u, d, rfl, .inl (.inl (s2 _ _ b2)), by omega, fun g2 H3 s3 _ h3 => ?_⟩
    rw [← hg] at h3
    refine ⟨dB (gmOf c), dB (gmOf c), dp_bools (s3 _ _ h2), dp_bools h3, shaped_bools _, shaped_bools _, _, rfl, ?_⟩
    rw [eqv_bools]
    exact iteF (k H3 (s2.trans s3))
abbrev s_and : Stmt := inClass (topS 13) 10
abbrev N_and : List Str := ["self", "other"]
theorem sc_and : FnScope N_and ["self", "other"] (defScope s_and) := ⟨rfl, rfl, rfl, by decide +kernel, rfl, by decide +kernel, by decide +kernel⟩
theorem ok_and (F : Fun K "__and__" "Partition.__and__" s_and f fd) (T : PCf K mg C) (c_pair : OwnK P w K mg base "_check_pair" 3 ["one", "other"] (spPair C)) (c_met : OwnK P w K mg base "_met" 1 ["one", "other"] (spMet K)) (c_numberedD : OwnK P w K mg base "numbered" 1 ["marks"] (spNumD K))
    (M : OwnI P w K mg base C 3 (spInit K C)) : FnOk P w K mg base CX0 5 f fd ["self", "other"] (spAnd C) := by
  refine F.ok sc_and (fun vs H Q E h => ?_) (fun cdv A outer s H vs Q E hr h => ?_)
  · obtain ⟨p, q, c, d, rfl, _⟩ := h
    rfl
  · obtain ⟨p, q, c, d, rfl, hp, hq, hg, k⟩ := h
    have sc := hp.small
    have sd := hq.small
    have hl := gm_len hg
    have hp0 := hp
    have hq0 := hq
    obtain ⟨⟨dx, t, a1, a2⟩, lo, hi, nu⟩ := hp
    obtain ⟨⟨dy, u, b1, b2⟩, lo2, hi2, nu2⟩ := hq
    refine ⟨_, (pss_cons (ps_expr (pe_ownk c_pair hr (by decide) (pa_cons (pv 0) (pa_cons (pv 1) pa_nil)))) (pss_one (ps_ret (pe_oi M hr (by decide) T.mc (pa_cons (pe_ownk c_numberedD hr (by decide) (pa_cons (pe_ownk c_met hr (by decide) (pa_cons (pe_fld (pv 0) rfl) (pa_cons (pe_fld (pv 1) rfl) pa_nil))) pa_nil)) pa_nil))))), ?_⟩
    refine ⟨.ref p, rfl, .ref q, rfl, p, q, c, d, rfl, hp0, hq0, hg, fun H2 s2 => ?_⟩
    refine ⟨.ref p, rfl, p, C, dx, _, .ref t, rfl, s2 _ _ a1, T.cl, T.na, rfl, .ref q, rfl, q, C, dy, _, .ref u, rfl, s2 _ _ b1, T.cl, T.na, rfl, ?_⟩
    refine ⟨t, u, c, d, rfl, .inl (.inl (s2 _ _ a2)), .inl (.inl (s2 _ _ b2)), hl, by omega, sc, sd, fun m ys H3 s3 _ h3 hd3 => ?_⟩
    refine ⟨m, ys, metM c d, datM, rfl, .inl (.inl h3), hd3, marks_met sc sd, by rw [metM_len hl]; omega, fun r H4 s4 _ h4 => ?_⟩
    exact mk_of h4 (by rw [num_len, metM_len hl]; omega) (by rw [num_len, metM_len hl]; omega) (num_num _) fun y H5 s5 _ hy => k y H5 (s2.trans (s3.trans (s4.trans s5))) hy
end
end Jc
namespace Jc
open PySem PySem.Spec L2
open PyProof.Rows hiding St
/-! ### _joined, | -/
theorem at_int2 {ns : List Int} {k : Int} {i : Nat} {m : Int} (h : k = (i : Int)) (e : ns[i]? = some m) : atI (ns.map V.int) k = some (.int m) := by
  subst h
  exact at_ints e
def boundM (d ms : List Int) (n : Int) : List Int := (members d n).map fun h => ms.getD h.toNat 0
def stepM (d ms : List Int) (n : Int) : List Int := ms.map fun m => if m ∈ boundM d ms n then (boundM d ms n).headD 0 else m
def joinM (c d : List Int) : Nat → List Int
  | 0 => c
  | n + 1 => stepM d (joinM c d n) (n : Int)
theorem joinM_len (c d : List Int) : ∀ n, (joinM c d n).length = c.length
  | 0 => rfl
  | n + 1 => by
    show (stepM d (joinM c d n) (n : Int)).length = c.length
    unfold stepM
    rw [List.length_map, joinM_len c d n]
theorem members_lt {d : List Int} {n h : Int} (hh : h ∈ members d n) : 0 ≤ h ∧ h < d.length := by
  unfold members at hh
  obtain ⟨i, hi, e⟩ := List.mem_filterMap.mp hh
  rw [List.mem_range] at hi
  split at e
  · cases e
    omega
  · cases e
def spJoin (K : PySem.W.Frag) : Sp := fun vs H Q _ => ∃ (a b : Addr) (c d : List Int), vs = [.ref a, .ref b] ∧ SqT K H a (c.map V.int) ∧ SqT K H b (d.map V.int) ∧ c.length = d.length ∧ 1 ≤ d.length ∧ d.length ≤ 1000 ∧ (∀ x ∈ d, -1 ≤ x ∧ x < 50) ∧
  ∀ (q : Addr) (H2 : Hp) (M : Int), Same H H2 → H q = none → M ∈ d → (∀ y ∈ d, y ≤ M) → H2 q = some (.lst ((joinM c d (M + 1).toNat).map V.int)) → Q (.ref q) H2
def spOr (C : Addr) : Sp := fun vs H Q _ => ∃ (p q : Addr) (c d : List Int), vs = [.ref p, .ref q] ∧ PartAt C H p c ∧ PartAt C H q d ∧ gmOf c = gmOf d ∧
  ∀ (r : Addr) (H2 : Hp) (M : Int), Same H H2 → M ∈ d → (∀ y ∈ d, y ≤ M) → PartAt C H2 r (num (joinM c d (M + 1).toNat)) → Q (.ref r) H2
section
variable {P : Program} {w : World} {K : PySem.W.Frag} {mg : Str → Option Value} {base : Heap} {f C : Addr} {fd : FuncData} {t1 : Tok}
abbrev s_joined : Stmt := topS 24
abbrev N_joined : List Str := ["one", "other", "marks", "number", "bound", "holder", "mark"]
theorem sc_joined : FnScope N_joined ["one", "other"] (defScope s_joined) := ⟨rfl, rfl, rfl, by decide +kernel, rfl, by decide +kernel, by decide +kernel⟩
theorem ok_joined (F : Fun K "_joined" "_joined" s_joined f fd) (B : Blt mg) (c_members : OwnK P w K mg base "_members" 1 ["classes", "number"] (spMem K)) : FnOk P w K mg base CX0 2 f fd ["one", "other"] (spJoin K) := by
  refine F.ok sc_joined (fun vs H Q E h => ?_) (fun cdv A outer s H vs Q E hr h => ?_)
  · obtain ⟨a, b, c, d, rfl, _⟩ := h
    rfl
  · obtain ⟨a, b, c, d, rfl, ha, hb, hl, lo, hi, hd, q⟩ := h
    refine ⟨_, (pss_cons (ps_set (i := 2) sc_joined.nd rfl (.inr rfl) (pe_callTy call_list_of rfl B.list bo_list (pa_cons (pv 0) pa_nil)))
      (pss_cons (ps_for PassesOwn.never rfl (pi_range1 rfl B.range (pa_cons (pe_op op_add (pe_callB (cr_maxT rfl) rfl B.max bo_max (pa_cons (pv 1) pa_nil)) pe_int) pa_nil)) (pg_name (i := 3) sc_joined.nd rfl (.inl rfl))
        (pss_cons (ps_set (i := 4) sc_joined.nd rfl (.inr rfl) (pe_lc (own := [("holder", 5)]) (g := gName 5) rfl sc_joined.nd (pi_list (pe_ownk c_members hr (by decide) (pa_cons (pv 1) (pa_cons (pv 3) pa_nil)))) (blkOk_by (own := [("holder", 5)]) (N := N_joined) (sc := defScope s_joined) (by decide +kernel)) (fun _ _ _ _ _ => pg_name (i := 5) sc_joined.nd rfl (.inl rfl)) (fun _ _ _ _ _ => pts_nil) (fun _ _ _ _ _ => (pe_ix (ixl_K (K := K) rfl) (pv 2) (pv 5) (fun _ _ => rfl)))))
        (pss_one (ps_set (i := 2) sc_joined.nd rfl (.inr rfl) (pe_lc (own := [("mark", 6)]) (g := gName 6) rfl sc_joined.nd (pi_list (pv 2)) (blkOk_by (own := [("mark", 6)]) (N := N_joined) (sc := defScope s_joined) (by decide +kernel)) (fun _ _ _ _ _ => pg_name (i := 6) sc_joined.nd rfl (.inl rfl)) (fun _ _ _ _ _ => pts_nil) (fun _ _ _ _ _ => (pe_ifExp (pt_cmpR (in_K (K := K) rfl) (pv 6) (pv 4) rfl) (pe_ix (ixl_K (K := K) rfl) (pv 4) pe_int (fun _ _ => rfl)) (pv 6))))))))
      (pss_one (ps_ret (pv 2))))), ?_⟩
    refine ⟨.ref a, rfl, a, _, rfl, .inr ha, fun L nL => ?_⟩
    have s0 : Same H (upd H L (.lst (c.map V.int))) := same_new nL
    refine ⟨.ref b, rfl, b, d, rfl, seqT s0 hb, by omega, fun M hM hmax => ?_⟩
    have hMb := hd M hM
    refine ⟨M, 1, rfl, rfl, M + 1, rfl, by omega, by omega, for_it walk_range (fun i σ H2 => ∃ l y3 y4 y5 y6, σ = [some (.ref a), some (.ref b), some (.ref l), y3, y4, y5, y6] ∧ Same H H2 ∧ H l = none ∧ H2 l = some (.lst ((joinM c d i).map V.int))) ⟨L, _, _, _, _, rfl, s0, nL, upd_same⟩ (fun _ _ _ _ _ => trivial) ?_ ?_⟩
    · rintro i x σ H1 H2 hi2 ⟨l, y3, y4, y5, y6, rfl, s1, nl, hl2⟩ ⟨rfl, hx⟩
      obtain rfl : x = .int (i : Int) := hx.trans (congrArg V.int (by omega))
      have hjl := joinM_len c d i
      refine ⟨.ref b, rfl, .int (i : Int), rfl, b, d, (i : Int), rfl, seqT s1 hb, hi, fun m H3 s3 nm hm => ?_⟩
      have s13 := s1.trans s3
      refine ⟨m, rfl, ⟨_, .inl (.inl hm)⟩, fun D hD => ?_⟩
      have bl : (boundM d (joinM c d i) (i : Int)).length = (members d (i : Int)).length := by unfold boundM; rw [List.length_map]
      have ml : (members d (i : Int)).length ≤ d.length := by
        unfold members
        have := List.length_filterMap_le (fun j : Nat => if d[j]? = some (i : Int) then some (j : Int) else none) (List.range d.length)
        rwa [List.length_range] at this
      refine lc_sel walk_list (fun j => ((boundM d (joinM c d i) (i : Int)).map V.int)[j]?) (by rw [List.length_map]; omega) hD (fun H4 z => .inl (.inl (z _ _ hm))) ?_ ?_
      · rintro j x H4 H5 k kn hj z ⟨rfl, hx2⟩ ky kk
        obtain ⟨h, hh, rfl⟩ := get_ints hx2
        obtain ⟨h0, h1⟩ := members_lt (List.mem_of_getElem? hh)
        have hg : (joinM c d i)[h.toNat]? = some ((joinM c d i).getD h.toNat 0) := by
          rw [List.getD_eq_getElem?_getD, List.getElem?_eq_getElem (show h.toNat < (joinM c d i).length by omega)]
          rfl
        refine ⟨rfl, ?_⟩
        refine iteT (B := kn H5) ⟨.ref l, rfl, .int h, rfl, l, _, h, _, rfl, rfl, .inl (.inl (z _ _ (s3 _ _ hl2))), at_int2 (i := h.toNat) (by omega) hg, ky _ _ ?_ (Same.refl _)⟩
        rw [List.getElem?_map, boundM, List.getElem?_map, hh]
        rfl
      · intro H4 z hD2
        have e : ((members d (i : Int)).map V.int).length = ((boundM d (joinM c d i) (i : Int)).map V.int).length := by rw [List.length_map, List.length_map, bl]
        rw [e, range_get] at hD2
        have s14 := s13.trans z
        have hl4 := z _ _ (s3 _ _ hl2)
        refine ⟨.ref l, rfl, l, rfl, ⟨_, .inl (.inl hl4)⟩, fun E nE => ?_⟩
        refine lc_sel walk_list (fun j => ((stepM d (joinM c d i) (i : Int)).map V.int)[j]?) (by rw [List.length_map]; omega) nE (fun H5 z => .inl (.inl (z _ _ hl4))) ?_ ?_
        · rintro j x H5 H6 k kn hj z5 ⟨rfl, hx2⟩ ky kk
          obtain ⟨m2, hm2, rfl⟩ := get_ints hx2
          have hD5 := z5 _ _ hD2
          have ef : ((stepM d (joinM c d i) (i : Int)).map V.int)[j]? = some (.int (if m2 ∈ boundM d (joinM c d i) (i : Int) then (boundM d (joinM c d i) (i : Int)).headD 0 else m2)) := by
            rw [List.getElem?_map, stepM, List.getElem?_map, hm2]
            rfl
          refine ⟨rfl, ?_⟩
          refine iteT (B := kn H6) ⟨.int m2, rfl, .ref D, rfl, ⟨D, _, rfl, .inl (.inl (.inl hD5)), rfl, flat_ints _, _, rfl, ?_⟩⟩
          rw [if_neg (show ¬ (false = true) from Bool.false_ne_true), inV_ints]
          by_cases cm : m2 ∈ boundM d (joinM c d i) (i : Int)
          · have h0 : (boundM d (joinM c d i) (i : Int))[0]? = some ((boundM d (joinM c d i) (i : Int)).headD 0) := by
              cases eb : boundM d (joinM c d i) (i : Int) with
              | nil => rw [eb] at cm; cases cm
              | cons p r => rfl
            refine iteDT cm ⟨.ref D, rfl, D, _, 0, _, rfl, rfl, .inl (.inl hD5), at_ints (i := 0) h0, ky _ _ ?_ (Same.refl _)⟩
            rw [ef, if_pos cm]
          · refine iteDF cm ⟨.int m2, rfl, ky _ _ ?_ (Same.refl _)⟩
            rw [ef, if_neg cm]
        · intro H5 z5 hE
          have e5 : ((joinM c d i).map V.int).length = ((stepM d (joinM c d i) (i : Int)).map V.int).length := by unfold stepM; simp
          rw [e5, range_get] at hE
          exact ⟨E, _, _, _, _, rfl, s14.trans z5, s14.free nE, hE⟩
    · rintro σ H2 ⟨l, y3, y4, y5, y6, rfl, s2, nl, hl2⟩
      exact ⟨.ref l, rfl, q l H2 M s2 nl hM hmax hl2⟩
abbrev s_or : Stmt := inClass (topS 13) 12
abbrev N_or : List Str := ["self", "other"]
theorem sc_or : FnScope N_or ["self", "other"] (defScope s_or) := ⟨rfl, rfl, rfl, by decide +kernel, rfl, by decide +kernel, by decide +kernel⟩
theorem ok_or (F : Fun K "__or__" "Partition.__or__" s_or f fd) (T : PCf K mg C) (c_pair : OwnK P w K mg base "_check_pair" 3 ["one", "other"] (spPair C)) (c_joined : OwnK P w K mg base "_joined" 2 ["one", "other"] (spJoin K)) (c_numbered : OwnK P w K mg base "numbered" 1 ["marks"] (spNum K))
    (M : OwnI P w K mg base C 3 (spInit K C)) : FnOk P w K mg base CX0 5 f fd ["self", "other"] (spOr C) := by
  refine F.ok sc_or (fun vs H Q E h => ?_) (fun cdv A outer s H vs Q E hr h => ?_)
  · obtain ⟨p, q, c, d, rfl, _⟩ := h
    rfl
  · obtain ⟨p, q, c, d, rfl, hp, hq, hg, k⟩ := h
    have sd := hq.small
    have hl := gm_len hg
    have hp0 := hp
    have hq0 := hq
    obtain ⟨⟨dx, t, a1, a2⟩, lo, hi, nu⟩ := hp
    obtain ⟨⟨dy, u, b1, b2⟩, lo2, hi2, nu2⟩ := hq
    refine ⟨_, (pss_cons (ps_expr (pe_ownk c_pair hr (by decide) (pa_cons (pv 0) (pa_cons (pv 1) pa_nil)))) (pss_one (ps_ret (pe_oi M hr (by decide) T.mc (pa_cons (pe_ownk c_numbered hr (by decide) (pa_cons (pe_ownk c_joined hr (by decide) (pa_cons (pe_fld (pv 0) rfl) (pa_cons (pe_fld (pv 1) rfl) pa_nil))) pa_nil)) pa_nil))))), ?_⟩
    refine ⟨.ref p, rfl, .ref q, rfl, p, q, c, d, rfl, hp0, hq0, hg, fun H2 s2 => ?_⟩
    refine ⟨.ref p, rfl, p, C, dx, _, .ref t, rfl, s2 _ _ a1, T.cl, T.na, rfl, .ref q, rfl, q, C, dy, _, .ref u, rfl, s2 _ _ b1, T.cl, T.na, rfl, ?_⟩
    refine ⟨t, u, c, d, rfl, .inl (.inl (s2 _ _ a2)), .inl (.inl (s2 _ _ b2)), hl, lo2, by omega, sd, fun m H3 Mx s3 _ hM hmax h3 => ?_⟩
    refine ⟨m, _, rfl, .inl (.inl h3), by rw [joinM_len]; omega, fun r H4 s4 _ h4 => ?_⟩
    exact mk_of h4 (by rw [num_len, joinM_len]; omega) (by rw [num_len, joinM_len]; omega) (num_num _) fun y H5 s5 _ hy => k y H5 Mx (s2.trans (s3.trans (s4.trans s5))) hM hmax hy
end
end Jc
namespace Jc
open PySem PySem.Spec L2
open PyProof.Rows hiding St
/-! ### a == b of two instances of one own class, by its own def, whatever it answers -/
section
variable {P : Program} {w : World} {A : Around} {E : Value → Shared → Prop} {s : Shared} {K : PySem.W.Frag} {x C f : Addr} {ox : Obj} {od : Option Obj}
theorem cmp_raw {op : CmpOp} {b : Value} {Q : Value → Shared → Prop} (hu : A.units < cLine) (KX : K.In s.heap) (J : PySem.W.InstAt s.heap x ox C od) (hb : PySem.W.Looks (model P w) s.heap (typeOf b) (.ref C))
    (hs : PySem.W.findIn K (.ref C) (cmpInfo op).2.1 = some (some (.ref f))) (hf : PySem.W.isFn K (.ref f) = true) (h : wpAny (model P w) A (call (.ref f) [.ref x, b]) (PySem.W.CmpBack Q) E s) : wpAny (model P w) A (richCompare op (.ref x) b) Q E s := by
  have once : wpAny (model P w) A (tryCompare (.ref x) (cmpInfo op).2.1 b) (fun r t => ∃ v, r = some v ∧ Q v t) E s := by
    unfold tryCompare
    refine wpAny_bind (PySem.W.ifBound_K KX J hs hf (wpAny_mono h (fun v t z => ?_) fun _ _ z => z))
    cases v
    all_goals first | exact z.elim | (refine wpAny_pure ⟨_, rfl, ?_⟩; exact z)
  unfold richCompare
  simp only [oneThing_ref]
  refine wpAny_holding (wpAny_bind (wpAny_cRoomFor hu (wpAny_bind (J.type.here (wpAny_bind (hb.here ?_))))))
  rw [if_neg (by simp)]
  refine wpAny_bind (wpAny_pure ?_)
  simp only [Bool.false_eq_true, if_false]
  refine wpAny_bind (wpAny_mono once (fun r t z => ?_) fun _ _ z => z)
  obtain ⟨v, rfl, q⟩ := z
  exact wpAny_pure q
end
/-- the def's promise at the two of them; its answer is a truth -/
def rEqOwn (C : Addr) (sp : Sp) : R2 := fun x y H Q => ∃ a b dx dy fs gs, x = .ref a ∧ y = .ref b ∧ H a = some (.ins C dx fs) ∧ H b = some (.ins C dy gs) ∧ sp [.ref a, .ref b] H (fun v H2 => (∃ r, v = .bl r) ∧ Q v H2) E0
theorem op_eqOwn {X : Cx} {C f : Addr} {k : Nat} {sp : Sp} (hs : PySem.W.findIn X.K (.ref C) "__eq__" = some (some (.ref f))) (hf : PySem.W.isFn X.K (.ref f) = true) (F : FnR X.prog X.w X.K X.mg X.base CX0 k f sp) (hr : Room k X.A) : OpR X (compareOp .Eq) (rEqOwn C sp) := by
  intro pins s σ H x y v u Q I rx ry h
  obtain ⟨a, b, dx, dy, fs, gs, rfl, rfl, ea, eb, q⟩ := h
  obtain rfl : v = Value.ref a := rx
  obtain rfl : u = Value.ref b := ry
  obtain ⟨mA, O, _, _, _, _⟩ := ins_get I.hok ea
  obtain ⟨od, J, _⟩ := O.look
  obtain ⟨mB, OB, _, _, _, _⟩ := ins_get I.hok eb
  obtain ⟨od2, J2, _⟩ := OB.look
  have hu : X.A.units < cLine := by have := hr.un; omega
  refine cmp_raw (op := .Eq) hu I.kIn J J2.type hs hf (wpAny_call (codeAny_mono (F X.A X.stack s H [.ref a, .ref b] [.ref a, .ref b] _ E0 hr I.env0 (.cons rfl (.cons rfl .nil)) q) fun rs s2 z => ?_))
  match rs, z with
  | .ok .next, z => exact z.elim
  | .ok .brk, z => exact z.elim
  | .ok .cont, z => exact z.elim
  | .error _, z => exact z.elim
  | .ok (.ret r), z =>
    obtain ⟨v2, H2, I2, rv, ⟨r2, e2⟩, q2⟩ := I.after z
    subst e2
    obtain rfl : r = Value.bool r2 := rv
    exact ⟨.bl r2, H2, I2, rfl, q2⟩
end Jc
namespace Jc
open PySem PySem.Spec L2
open PyProof.Rows hiding St
abbrev dT (ns : List Int) : PyData := .tuple (ns.map PyData.int)
theorem dp_tup {K : PySem.W.Frag} {H : Hp} {a : Addr} {ns : List Int} (h : SqT K H a (ns.map V.int)) : Dp K H (.ref a) (dT ns) := .tup h (dpAll_ints ns)
theorem eqv_tup (ns ms : List Int) : PyData.eqv (dT ns) (dT ms) = decide (ns = ms) := PySem.W.ked_eqvAll ns ms
theorem shaped_tup (ns : List Int) : SeqAt.shaped (dT ns) = true := by
  have h1 := PySem.W.depthAll_ints ns
  have e : PyData.depth (dT ns) ≤ 64 := by
    simp only [dT, PyData.depth]
    omega
  show (PyData.canLay0 (dT ns) && decide (PyData.depth (dT ns) ≤ 64)) = true
  rw [decide_eq_true e]
  simp only [dT, PyData.canLay0, PySem.W.canLayAll0_ints, Bool.and_true]
def spEqP (C : Addr) : Sp := fun vs H Q _ => ∃ (p q : Addr) (c d : List Int), vs = [.ref p, .ref q] ∧ PartAt C H p c ∧ PartAt C H q d ∧ Q (.bl (decide (c = d))) H
def spLenP (C : Addr) : Sp := fun vs H Q _ => ∃ (p : Addr) (c : List Int), vs = [.ref p] ∧ PartAt C H p c ∧ Q (.int (c.length : Int)) H
section
variable {P : Program} {w : World} {K : PySem.W.Frag} {mg : Str → Option Value} {base : Heap} {f C : Addr} {fd : FuncData} {t1 : Tok}
abbrev s_eq : Stmt := inClass (topS 13) 8
abbrev N_eq : List Str := ["self", "other"]
theorem sc_eq : FnScope N_eq ["self", "other"] (defScope s_eq) := ⟨rfl, rfl, rfl, by decide +kernel, rfl, by decide +kernel, by decide +kernel⟩
theorem ok_eq (F : Fun K "__eq__" "Partition.__eq__" s_eq f fd) (B : Blt mg) (T : PCf K mg C) (TI : PCi K C) : FnOk P w K mg base CX0 1 f fd ["self", "other"] (spEqP C) := by
  refine F.ok sc_eq (fun vs H Q E h => ?_) (fun cdv A outer s H vs Q E hr h => ?_)
  · obtain ⟨p, q, c, d, rfl, _⟩ := h
    rfl
  · obtain ⟨p, q, c, d, rfl, hp, hq, k⟩ := h
    have hu := hr.units
    obtain ⟨⟨dx, t, a1, a2⟩, lo, hi, nu⟩ := hp
    obtain ⟨⟨dy, u, b1, b2⟩, lo2, hi2, nu2⟩ := hq
    refine ⟨_, (pss_one (ps_ret (pe_and (pe_callB call_isi rfl B.isinstance bo_isinstance (pa_cons (pv 1) (pa_cons (pe_glob (v := .ref C) rfl T.mc rfl) pa_nil))) (pe_one (pe_cmpR (op_eqD hu) (pe_fld (pv 0) rfl) (pe_fld (pv 1) rfl) (nomark _)))))), ?_⟩
    refine ⟨.ref q, rfl, .ref q, .ref C, _, _, true, rfl, .own C, TI.ty _ _ _ _ b1, TI.ii, true, rfl, ?_⟩
    refine iteT ⟨.ref p, rfl, p, C, dx, _, .ref t, rfl, a1, T.cl, T.na, rfl, .ref q, rfl, q, C, dy, _, .ref u, rfl, b1, T.cl, T.na, rfl, dT c, dT d, dp_tup (.inl (.inl a2)), dp_tup (.inl (.inl b2)), shaped_tup _, shaped_tup _, ?_⟩
    rw [eqv_tup]
    exact k
abbrev s_len : Stmt := inClass (topS 13) 5
abbrev N_len : List Str := ["self"]
theorem sc_len : FnScope N_len ["self"] (defScope s_len) := ⟨rfl, rfl, rfl, by decide +kernel, rfl, by decide +kernel, by decide +kernel⟩
theorem ok_len (F : Fun K "__len__" "Partition.__len__" s_len f fd) (B : Blt mg) (T : PCf K mg C) : FnOk P w K mg base CX0 1 f fd ["self"] (spLenP C) := by
  refine F.ok sc_len (fun vs H Q E h => ?_) (fun cdv A outer s H vs Q E hr h => ?_)
  · obtain ⟨p, c, rfl, _⟩ := h
    rfl
  · obtain ⟨p, c, rfl, hp, k⟩ := h
    obtain ⟨⟨dx, t, a1, a2⟩, lo, hi, nu⟩ := hp
    refine ⟨_, (pss_one (ps_ret (pe_callB call_len_seq rfl B.len bo_len (pa_cons (pe_fld (pv 0) rfl) pa_nil)))), ?_⟩
    refine ⟨.ref p, rfl, p, C, dx, _, .ref t, rfl, a1, T.cl, T.na, rfl, t, _, rfl, .inr (.inl (.inl a2)), ?_⟩
    rw [List.length_map]
    exact k
end
end Jc
namespace Jc
open PySem PySem.Spec L2
open PyProof.Rows hiding St
/-! ### _is_order, renamed -/
def upto (n : Nat) : List Int := (List.range n).map fun i : Nat => (i : Int)
theorem upto_lt (n : Nat) : (upto n).Pairwise (· < ·) := by
  unfold upto
  rw [List.pairwise_map]
  exact List.pairwise_lt_range.imp fun h => by omega
theorem rgV_upto (n : Nat) : rgV 0 (n : Int) = (upto n).map V.int := by
  unfold rgV upto
  rw [List.map_map, show ((n : Int) - 0).toNat = n by omega]
  refine List.map_congr_left fun i _ => ?_
  show V.int (0 + (i : Int)) = V.int (i : Int)
  rw [Int.zero_add]
theorem lt_ext : ∀ {xs ys : List Int}, xs.Pairwise (· < ·) → ys.Pairwise (· < ·) → (∀ k, k ∈ xs ↔ k ∈ ys) → xs = ys
  | [], [], _, _, _ => rfl
  | [], y :: ys, _, _, h => by have := (h y).mpr List.mem_cons_self; cases this
  | x :: xs, [], _, _, h => by have := (h x).mp List.mem_cons_self; cases this
  | x :: xs, y :: ys, h1, h2, h => by
    obtain ⟨a1, b1⟩ := List.pairwise_cons.mp h1
    obtain ⟨a2, b2⟩ := List.pairwise_cons.mp h2
    have e : x = y := by
      rcases List.mem_cons.mp ((h x).mp List.mem_cons_self) with z | z
      · exact z
      · have p := a2 x z
        rcases List.mem_cons.mp ((h y).mpr List.mem_cons_self) with w | w
        · exact w.symm
        · have := a1 y w
          omega
    subst e
    rw [lt_ext b1 b2 fun k => ?_]
    constructor
    · intro hk
      have p := a1 k hk
      rcases List.mem_cons.mp ((h k).mp (List.mem_cons_of_mem _ hk)) with z | z
      · omega
      · exact z
    · intro hk
      have p := a2 k hk
      rcases List.mem_cons.mp ((h k).mpr (List.mem_cons_of_mem _ hk)) with z | z
      · omega
      · exact z
theorem sorted_upto {ns : List Int} {n : Nat} (hp : ns.Perm (upto n)) (hs : ns.Pairwise (· ≤ ·)) : ns = upto n := by
  have nd : ns.Nodup := hp.nodup_iff.mpr ((upto_lt n).imp fun h => by omega)
  refine lt_ext ?_ (upto_lt n) fun k => hp.mem_iff
  have h2 := List.pairwise_and_iff.mpr ⟨hs, nd⟩
  exact h2.imp fun h => by
    have := h.1
    have := h.2
    omega
def spOrder : Sp := fun vs H Q _ => ∃ (a : Addr) (n : Nat) (os : List Int), vs = [.ref a, .int (n : Int)] ∧ H a = some (.lst (os.map V.int)) ∧ n ≤ 8 ∧ os.Perm (upto n) ∧ ∀ H2, Same H H2 → Q (.bl true) H2
def spRen (C : Addr) : Sp := fun vs H Q _ => ∃ (p o : Addr) (c os : List Int), vs = [.ref p, .ref o] ∧ PartAt C H p c ∧ H o = some (.lst (os.map V.int)) ∧ os.Perm (upto c.length) ∧ ∀ (q : Addr) (H2 : Hp), Same H H2 → PartAt C H2 q (num (pick c os)) → Q (.ref q) H2
section
variable {P : Program} {w : World} {K : PySem.W.Frag} {mg : Str → Option Value} {base : Heap} {f C : Addr} {fd : FuncData} {t1 : Tok}
abbrev s_order : Stmt := topS 19
abbrev N_order : List Str := ["value", "many", "holder"]
theorem sc_order : FnScope N_order ["value", "many"] (defScope s_order) := ⟨rfl, rfl, rfl, by decide +kernel, rfl, by decide +kernel, by decide +kernel⟩
theorem ok_order (F : Fun K "_is_order" "_is_order" s_order f fd) (B : Blt mg) (c_is_integer : OwnK P w K mg base "is_integer" 1 ["value"] spInt) : FnOk P w K mg base CX0 2 f fd ["value", "many"] spOrder := by
  refine F.ok sc_order (fun vs H Q E h => ?_) (fun cdv A outer s H vs Q E hr h => ?_)
  · obtain ⟨a, n, os, rfl, _⟩ := h
    rfl
  · obtain ⟨a, n, os, rfl, ha, hn, hp, q⟩ := h
    have hu := hr.units
    have hol : os.length = n := by
      have := hp.length_eq
      rwa [upto, List.length_map, List.length_range] at this
    refine ⟨_, (pss_cons (ps_if (PW.pt (pw_or (pt_not (pt_val (pe_callB call_isiT rfl B.isinstance bo_isinstance (pa_cons (pv 0) (pa_cons (pe_tup (pa_cons (pe_bltn (v := .ty "list") rfl B.list bo_list rfl) (pa_cons (pe_bltn (v := .ty "tuple") rfl B.tuple bo_tuple rfl) pa_nil))) pa_nil))))) (pw_or1 (pt_not (pt_val (pe_callB (cr_all rfl) rfl B.all bo_all (pa_cons (pe_lc (own := [("holder", 2)]) (g := gName 2) rfl sc_order.nd (pi_list (pv 0)) (blkOk_by (own := [("holder", 2)]) (N := N_order) (sc := defScope s_order) (by decide +kernel)) (fun _ _ _ _ _ => pg_name (i := 2) sc_order.nd rfl (.inl rfl)) (fun _ _ _ _ _ => pts_nil) (fun _ _ _ _ _ => (pe_ownk c_is_integer hr (by decide) (pa_cons (pv 2) pa_nil)))) pa_nil))))))) (pss_one (ps_ret pe_bl)) pss_nil)
      (pss_one (ps_ret (pe_cmpR (op_eqD hu) (pe_callB cr_sorted rfl B.sorted bo_sorted (pa_cons (pv 0) pa_nil)) (pe_listRg rfl rfl B.list (prg_1 rfl B.range (pv 1))) (nomark _))))), ?_⟩
    refine ⟨.ref a, rfl, two_le, fun tp ntp => ?_⟩
    have s1 : Same H (upd H tp (.tup [.ty "list", .ty "tuple"])) := same_new ntp
    refine ⟨.ref a, tp, _, .type "list", [.type "list", .type "tuple"], true, rfl, upd_same, .cons (.ty "list") (.cons (.ty "tuple") .nil), .base (.lst (s1 _ _ ha)), kitAny_cons (b := true) (kit_ty (by decide +kernel)) (fun z => nomatch z) (fun _ => rfl), ?_⟩
    refine ⟨true, rfl, ?_⟩
    generalize upd H tp (.tup [.ty "list", .ty "tuple"]) = H1 at s1
    refine iteF ?_
    refine ⟨.ref a, rfl, a, rfl, ⟨_, .inl (.inl (s1 _ _ ha))⟩, fun D hD => ?_⟩
    refine lc_sel walk_list (fun i => ((List.replicate os.length true).map V.bl)[i]?) (by rw [List.length_map]; omega) hD (fun H3 z => .inl (.inl (z _ _ (s1 _ _ ha)))) ?_ ?_
    · rintro i x H3 H4 k kn hi z ⟨rfl, hx⟩ ky kk
      obtain ⟨m, hm, rfl⟩ := get_ints hx
      refine ⟨rfl, ?_⟩
      refine iteT (B := kn H4) ⟨.int m, rfl, m, rfl, ky _ _ ?_ (Same.refl _)⟩
      rw [List.map_replicate, List.getElem?_replicate, if_pos (by rw [List.length_map] at hi; exact hi)]
    · intro H3 z hD2
      have e : (os.map V.int).length = ((List.replicate os.length true).map V.bl).length := by simp
      rw [e, range_get] at hD2
      refine ⟨D, _, rfl, .inl (.inl hD2), ?_⟩
      have e2 : (List.replicate os.length true).all id = true := by
        rw [List.all_eq_true]
        intro x hx
        exact (List.mem_replicate.mp hx).2
      rw [e2]
      refine ⟨true, rfl, iteF ?_⟩
      have s3 : Same H H3 := s1.trans z
      refine ⟨.ref a, rfl, a, os, rfl, .inl (.inl (s3 _ _ ha)), by omega, fun ns r hpn hs nr => ?_⟩
      have en := sorted_upto (hpn.trans hp) hs
      subst en
      refine ⟨.int n, rfl, n, rfl, RgOk.of_le (by omega) (by omega) (by omega) (by omega), fun l nl => ?_⟩
      rw [rgV_upto]
      refine ⟨dI (upto n), dI (upto n), dp_ints ((same_new nl) _ _ upd_same), dp_ints upd_same, PySem.W.shaped_ints _, PySem.W.shaped_ints _, ?_⟩
      rw [eqv_ints, decide_eq_true rfl]
      exact q _ (s3.trans ((same_new nr).trans (same_new nl)))
abbrev s_ren : Stmt := inClass (topS 13) 21
abbrev N_ren : List Str := ["self", "order", "holder"]
theorem sc_ren : FnScope N_ren ["self", "order"] (defScope s_ren) := ⟨rfl, rfl, rfl, by decide +kernel, rfl, by decide +kernel, by decide +kernel⟩
theorem ok_ren (F : Fun K "renamed" "Partition.renamed" s_ren f fd) (B : Blt mg) (T : PCf K mg C) (c_order : OwnK P w K mg base "_is_order" 2 ["value", "many"] spOrder) (c_numbered : OwnK P w K mg base "numbered" 1 ["marks"] (spNum K)) (M : OwnI P w K mg base C 3 (spInit K C)) :
    FnOk P w K mg base CX0 5 f fd ["self", "order"] (spRen C) := by
  refine F.ok sc_ren (fun vs H Q E h => ?_) (fun cdv A outer s H vs Q E hr h => ?_)
  · obtain ⟨p, o, c, os, rfl, _⟩ := h
    rfl
  · obtain ⟨p, o, c, os, rfl, hp, ho, hpm, k⟩ := h
    obtain ⟨⟨dx, t, a1, a2⟩, lo, hi, nu⟩ := hp
    have hol : os.length = c.length := by
      have := hpm.length_eq
      rwa [upto, List.length_map, List.length_range] at this
    have hin : ∀ h ∈ os, 0 ≤ h ∧ h < (c.length : Int) := fun h hh => by
      have := hpm.mem_iff.mp hh
      unfold upto at this
      obtain ⟨i, hi, rfl⟩ := List.mem_map.mp this
      rw [List.mem_range] at hi
      omega
    have hpl : (pick c os).length = c.length := by unfold pick; rw [List.length_map, hol]
    refine ⟨_, (pss_cons (ps_if (pt_not (pt_val (pe_ownk c_order hr (by decide) (pa_cons (pv 1) (pa_cons (pe_callB call_len_seq rfl B.len bo_len (pa_cons (pe_fld (pv 0) rfl) pa_nil)) pa_nil))))) (pss_one ps_never) pss_nil)
      (pss_one (ps_ret (pe_oi M hr (by decide) T.mc (pa_cons (pe_ownk c_numbered hr (by decide) (pa_cons (pe_lc (own := [("holder", 2)]) (g := gName 2) rfl sc_ren.nd (pi_list (pv 1)) (blkOk_by (own := [("holder", 2)]) (N := N_ren) (sc := defScope s_ren) (by decide +kernel)) (fun _ _ _ _ _ => pg_name (i := 2) sc_ren.nd rfl (.inl rfl)) (fun _ _ _ _ _ => pts_nil) (fun _ _ _ _ _ => (pe_ix (ixt_K (K := K) rfl) (pe_fldK (K := K) rfl (pv 0)) (pv 2) (fun _ _ => rfl)))) pa_nil)) pa_nil))))), ?_⟩
    refine ⟨.ref o, rfl, .ref p, rfl, p, C, dx, _, .ref t, rfl, a1, T.cl, T.na, rfl, t, _, rfl, .inr (.inl (.inl a2)), ?_⟩
    rw [List.length_map]
    refine ⟨o, c.length, os, rfl, ho, hi, hpm, fun H2 s2 => ⟨true, rfl, iteF ?_⟩⟩
    refine ⟨.ref o, rfl, o, rfl, ⟨_, .inl (.inl (s2 _ _ ho))⟩, fun D hD => ?_⟩
    refine lc_sel walk_list (fun i => ((pick c os).map V.int)[i]?) (by rw [List.length_map]; omega) hD (fun H3 z => .inl (.inl (z _ _ (s2 _ _ ho)))) ?_ ?_
    · rintro i x H3 H4 kf kn hi' z ⟨rfl, hx⟩ ky kk
      obtain ⟨h, hh, rfl⟩ := get_ints hx
      obtain ⟨g0, g1⟩ := hin h (List.mem_of_getElem? hh)
      have s3 := s2.trans z
      have hc : c[h.toNat]? = some (c.getD h.toNat 0) := by
        rw [List.getD_eq_getElem?_getD, List.getElem?_eq_getElem (show h.toNat < c.length by omega)]
        rfl
      refine ⟨rfl, ?_⟩
      refine iteT (B := kn H4) ⟨.ref p, rfl, p, C, dx, _, .ref t, rfl, s3 _ _ a1, T.cl, T.na, rfl, .int h, rfl, t, _, h, _, rfl, rfl, .inl (.inl (s3 _ _ a2)), at_int2 (i := h.toNat) (by omega) hc, ky _ _ ?_ (Same.refl _)⟩
      rw [List.getElem?_map, pick, List.getElem?_map, hh]
      rfl
    · intro H3 z hD2
      have e : (os.map V.int).length = ((pick c os).map V.int).length := by rw [List.length_map, List.length_map, hpl, hol]
      rw [e, range_get] at hD2
      have s3 := s2.trans z
      refine ⟨D, _, rfl, .inl (.inl hD2), by omega, fun r H4 s4 _ h4 => ?_⟩
      exact mk_of h4 (by rw [num_len]; omega) (by rw [num_len]; omega) (num_num _) fun y H5 s5 _ hy => k y H5 (s3.trans (s4.trans s5)) hy
end
end Jc
namespace Jc
/-! ### what marks tell: who is alike -/
def gv (c : List Int) (i : Nat) : Int := c.getD i (-1)
def Al (c : List Int) (i j : Nat) : Prop := gv c i = gv c j ∧ gv c i ≠ -1
theorem gv_some {c : List Int} {i : Nat} {x : Int} (h : c[i]? = some x) : gv c i = x := by
  unfold gv
  rw [List.getD_eq_getElem?_getD, h]
  rfl
theorem gv_out {c : List Int} {i : Nat} (h : c.length ≤ i) : gv c i = -1 := by
  unfold gv
  rw [List.getD_eq_getElem?_getD, List.getElem?_eq_none h]
  rfl
theorem gv_in {c : List Int} {i : Nat} (h : i < c.length) : c[i]? = some (gv c i) := by
  rw [List.getElem?_eq_getElem h]
  congr 1
  exact (gv_some (List.getElem?_eq_getElem h)).symm
theorem gv_lt {c : List Int} {i : Nat} (h : gv c i ≠ -1) : i < c.length := by
  by_cases z : i < c.length
  · exact z
  · exact absurd (gv_out (Nat.le_of_not_lt z)) h
theorem gv_mem {c : List Int} {i : Nat} (h : i < c.length) : gv c i ∈ c := List.mem_of_getElem? (gv_in h)
theorem Al.left {c : List Int} {i j : Nat} (h : Al c i j) : i < c.length := gv_lt h.2
theorem Al.right {c : List Int} {i j : Nat} (h : Al c i j) : j < c.length := gv_lt (h.1 ▸ h.2)
theorem Al.self {c : List Int} {i j : Nat} (h : Al c i j) : Al c i i ∧ Al c j j := ⟨⟨rfl, h.2⟩, ⟨rfl, h.1 ▸ h.2⟩⟩
theorem al_self {c : List Int} {i : Nat} : Al c i i ↔ gv c i ≠ -1 := ⟨fun h => h.2, fun h => ⟨rfl, h⟩⟩
theorem can_ext {c d : List Int} (hc : num c = c) (hd : num d = d) (hl : c.length = d.length) (h : ∀ i j, Al c i j ↔ Al d i j) : c = d := by
  rw [← hc, ← hd]
  have gone : ∀ i, gv c i = -1 ↔ gv d i = -1 := fun i => by
    have := h i i
    rw [al_self, al_self] at this
    constructor
    · intro z
      by_cases w : gv d i = -1
      · exact w
      · exact absurd z (this.mpr w)
    · intro z
      by_cases w : gv c i = -1
      · exact w
      · exact absurd z (this.mp w)
  refine num_cong hl fun i j a b x y h1 h2 h3 h4 => ?_
  have e1 := gv_some h1
  have e2 := gv_some h2
  have e3 := gv_some h3
  have e4 := gv_some h4
  have gi := gone i
  have gj := gone j
  rw [e1, e2] at gi
  rw [e3, e4] at gj
  refine ⟨?_, gi⟩
  by_cases z : a = -1
  · constructor
    · intro w
      rw [gi.mp z, gj.mp (w ▸ z)]
    · intro w
      rw [z, gj.mpr (w ▸ gi.mp z)]
  · have := h i j
    unfold Al at this
    rw [e1, e2, e3, e4] at this
    constructor
    · intro w
      exact (this.mp ⟨w, z⟩).1
    · intro w
      exact (this.mpr ⟨w, fun q => z (gi.mpr q)⟩).1
theorem gv_num (ms : List Int) (i : Nat) : gv (num ms) i = numOf (told ms) (gv ms i) := by
  by_cases z : i < ms.length
  · exact gv_some (num_at (gv_in z))
  · rw [gv_out (by rw [num_len]; omega), gv_out (Nat.le_of_not_lt z)]
    rfl
theorem al_num {ms : List Int} {i j : Nat} : Al (num ms) i j ↔ Al ms i j := by
  unfold Al
  rw [gv_num, gv_num]
  have gn : ∀ x, numOf (told ms) x ≠ -1 ↔ x ≠ -1 := fun x => not_congr numOf_gone
  rw [gn]
  constructor
  · rintro ⟨h1, h2⟩
    have h3 : gv ms j ≠ -1 := (gn _).mp (h1 ▸ (gn _).mpr h2)
    exact ⟨(numOf_inj (gv_mem (gv_lt h2)) (gv_mem (gv_lt h3))).mp h1, h2⟩
  · rintro ⟨h1, h2⟩
    exact ⟨by rw [h1], h2⟩
/-! ### the same ones gone -/
theorem gv_gm {c d : List Int} (h : gmOf c = gmOf d) (i : Nat) : gv c i = -1 ↔ gv d i = -1 := by
  have hl := gm_len h
  by_cases z : i < c.length
  · have e1 : (gmOf c)[i]? = some (decide (gv c i = -1)) := by rw [gmOf, List.getElem?_map, gv_in z]; rfl
    have e2 : (gmOf d)[i]? = some (decide (gv d i = -1)) := by rw [gmOf, List.getElem?_map, gv_in (hl ▸ z)]; rfl
    rw [h, e2] at e1
    have := decide_eq_decide.mp (Option.some.inj e1)
    exact this.symm
  · rw [gv_out (Nat.le_of_not_lt z), gv_out (by omega)]
theorem al_gm {c d : List Int} (h : gmOf c = gmOf d) (i : Nat) : Al c i i ↔ Al d i i := by
  rw [al_self, al_self]
  exact not_congr (gv_gm h i)
theorem gm_of {c d : List Int} (hl : c.length = d.length) (h : ∀ i, Al c i i ↔ Al d i i) : gmOf c = gmOf d := by
  refine List.ext_getElem? fun i => ?_
  by_cases z : i < c.length
  · rw [gmOf, gmOf, List.getElem?_map, List.getElem?_map, gv_in z, gv_in (hl ▸ z)]
    have := h i
    rw [al_self, al_self] at this
    have t : gv c i = -1 ↔ gv d i = -1 := by
      constructor
      · intro w
        by_cases q : gv d i = -1
        · exact q
        · exact absurd w (this.mpr q)
      · intro w
        by_cases q : gv c i = -1
        · exact q
        · exact absurd w (this.mp q)
    show some (decide (gv c i = -1)) = some (decide (gv d i = -1))
    rw [decide_eq_decide.mpr t]
  · rw [List.getElem?_eq_none (by rw [gmOf, List.length_map]; omega), List.getElem?_eq_none (by rw [gmOf, List.length_map]; omega)]
/-! ### the meet -/
theorem gv_met {c d : List Int} (hl : c.length = d.length) (i : Nat) : gv (metM c d) i = codeM (gv c i) (gv d i) := by
  by_cases z : i < c.length
  · refine gv_some ?_
    rw [metM, List.getElem?_zipWith, gv_in z, gv_in (hl ▸ z)]
  · rw [gv_out (by rw [metM_len hl]; omega), gv_out (Nat.le_of_not_lt z)]
    rfl
theorem gv_range {c : List Int} (h : ∀ x ∈ c, -1 ≤ x ∧ x < 50) (i : Nat) : -1 ≤ gv c i ∧ gv c i < 50 := by
  by_cases z : i < c.length
  · exact h _ (gv_mem z)
  · rw [gv_out (Nat.le_of_not_lt z)]
    omega
theorem al_met {c d : List Int} (hl : c.length = d.length) (hg : gmOf c = gmOf d) (hc : ∀ x ∈ c, -1 ≤ x ∧ x < 50) (hd : ∀ x ∈ d, -1 ≤ x ∧ x < 50) {i j : Nat} : Al (metM c d) i j ↔ Al c i j ∧ Al d i j := by
  unfold Al
  rw [gv_met hl, gv_met hl]
  have gi := gv_gm hg i
  have gj := gv_gm hg j
  have c1 := gv_range hc i
  have c2 := gv_range hc j
  have d1 := gv_range hd i
  have d2 := gv_range hd j
  unfold codeM
  split <;> split <;> omega
theorem met_num {c d : List Int} (cc : num c = c) (hl : c.length = d.length) (hg : gmOf c = gmOf d) (hc : ∀ x ∈ c, -1 ≤ x ∧ x < 50) (hd : ∀ x ∈ d, -1 ≤ x ∧ x < 50) : num (metM c d) = c ↔ ∀ i j, Al c i j → Al d i j := by
  constructor
  · intro h i j a
    rw [← h, al_num, al_met hl hg hc hd] at a
    exact a.2
  · intro h
    refine can_ext (num_num _) cc (by rw [num_len, metM_len hl]) fun i j => ?_
    rw [al_num, al_met hl hg hc hd]
    exact ⟨fun z => z.1, fun z => ⟨z, h i j z⟩⟩
/-! ### the join -/
theorem mem_bound {d ms : List Int} {n m : Int} : m ∈ boundM d ms n ↔ ∃ i : Nat, d[i]? = some n ∧ ms.getD i 0 = m := by
  unfold boundM members
  rw [List.mem_map]
  constructor
  · rintro ⟨h, hh, e⟩
    obtain ⟨i, _, e2⟩ := List.mem_filterMap.mp hh
    split at e2
    · rename_i hd
      cases e2
      exact ⟨i, hd, by rw [← e]; rfl⟩
    · cases e2
  · rintro ⟨i, hd, e⟩
    refine ⟨(i : Int), List.mem_filterMap.mpr ⟨i, List.mem_range.mpr (List.getElem?_eq_some_iff.mp hd).1, by rw [if_pos hd]⟩, by rw [← e]; rfl⟩
structure JoinI (c d ms : List Int) (n : Nat) : Prop where
  len : ms.length = c.length
  gone : ∀ i, gv ms i = -1 ↔ gv c i = -1
  one : ∀ i j, Al c i j → Al ms i j
  two : ∀ i j, Al d i j → gv d i < n → Al ms i j
  least : ∀ e : List Int, (∀ i j, Al c i j → Al e i j) → (∀ i j, Al d i j → Al e i j) → ∀ i j, Al ms i j → Al e i j
theorem join_step {c d ms : List Int} {n : Nat} (hl : c.length = d.length) (hg : gmOf c = gmOf d) (I : JoinI c d ms n) : JoinI c d (stepM d ms (n : Int)) (n + 1) := by
  have hb : ∀ m, m ∈ boundM d ms (n : Int) ↔ ∃ i, gv d i = (n : Int) ∧ gv ms i = m := fun m => by
    rw [mem_bound]
    constructor
    · rintro ⟨i, h1, h2⟩
      have li := (List.getElem?_eq_some_iff.mp h1).1
      have e : ms.getD i 0 = gv ms i := by
        have := gv_in (c := ms) (i := i) (by rw [I.len]; omega)
        rw [List.getD_eq_getElem?_getD, this]
        rfl
      exact ⟨i, gv_some h1, e ▸ h2⟩
    · rintro ⟨i, h1, h2⟩
      have li : i < d.length := gv_lt (by omega)
      have e : ms.getD i 0 = gv ms i := by
        have := gv_in (c := ms) (i := i) (by rw [I.len]; omega)
        rw [List.getD_eq_getElem?_getD, this]
        rfl
      exact ⟨i, h1 ▸ gv_in li, e ▸ h2⟩
  have hm : ∀ m, m ∈ boundM d ms (n : Int) → m ≠ -1 := fun m h => by
    obtain ⟨i, h1, h2⟩ := (hb m).mp h
    intro z
    have := (gv_gm hg i).mp ((I.gone i).mp (h2.trans z))
    omega
  obtain ⟨bd, hbd⟩ : ∃ bd, boundM d ms (n : Int) = bd := ⟨_, rfl⟩
  rw [hbd] at hb hm
  let f : Int → Int := fun m => if m ∈ bd then bd.headD 0 else m
  have hd0 : ∀ m, m ∈ bd → bd.headD 0 ∈ bd := fun m h => by
    cases bd with
    | nil => cases h
    | cons x r => exact List.mem_cons_self
  have fin : ∀ m, m ∈ bd → f m = bd.headD 0 := fun m h => if_pos h
  have fout : ∀ m, m ∉ bd → f m = m := fun m h => if_neg h
  have f1 : f (-1) = -1 := fout _ fun h => hm _ h rfl
  have fg : ∀ m, f m = -1 ↔ m = -1 := fun m => by
    by_cases h : m ∈ bd
    · rw [fin m h]
      exact ⟨fun z => absurd z (hm _ (hd0 m h)), fun z => absurd z (hm m h)⟩
    · rw [fout m h]
  have gs : ∀ i, gv (stepM d ms (n : Int)) i = f (gv ms i) := fun i => by
    by_cases z : i < ms.length
    · refine gv_some ?_
      unfold stepM
      rw [hbd, List.getElem?_map, gv_in z]
      rfl
    · rw [gv_out (by unfold stepM; rw [List.length_map]; omega), gv_out (Nat.le_of_not_lt z), f1]
  have up : ∀ i j, Al ms i j → Al (stepM d ms (n : Int)) i j := fun i j h => by
    refine ⟨by rw [gs, gs, h.1], ?_⟩
    rw [gs]
    exact fun z => h.2 ((fg _).mp z)
  refine ⟨by unfold stepM; rw [List.length_map, I.len], fun i => by rw [gs, fg, I.gone], fun i j h => up i j (I.one i j h), fun i j h hn => ?_, fun e h1 h2 i j h => ?_⟩
  · by_cases z : gv d i < n
    · exact up i j (I.two i j h z)
    · have e1 : gv d i = (n : Int) := by omega
      have b1 : gv ms i ∈ bd := (hb _).mpr ⟨i, e1, rfl⟩
      have b2 : gv ms j ∈ bd := (hb _).mpr ⟨j, h.1 ▸ e1, rfl⟩
      refine ⟨by rw [gs, gs, fin _ b1, fin _ b2], ?_⟩
      rw [gs, fin _ b1]
      exact hm _ (hd0 _ b1)
  · have hi : gv ms i ≠ -1 := fun z => h.2 (by rw [gs, fg]; exact z)
    have hj : gv ms j ≠ -1 := fun z => h.2 (by rw [h.1, gs, fg]; exact z)
    have hf : f (gv ms i) = f (gv ms j) := by rw [← gs, ← gs]; exact h.1
    by_cases b1 : gv ms i ∈ bd
    · by_cases b2 : gv ms j ∈ bd
      · obtain ⟨i', p1, p2⟩ := (hb _).mp b1
        obtain ⟨j', q1, q2⟩ := (hb _).mp b2
        have a1 := I.least e h1 h2 i i' ⟨p2.symm, hi⟩
        have a2 := I.least e h1 h2 j j' ⟨q2.symm, hj⟩
        have a3 := h2 i' j' ⟨p1.trans q1.symm, by omega⟩
        exact ⟨a1.1.trans (a3.1.trans a2.1.symm), a1.2⟩
      · rw [fin _ b1, fout _ b2] at hf
        exact absurd (hf ▸ hd0 _ b1) b2
    · by_cases b2 : gv ms j ∈ bd
      · rw [fout _ b1, fin _ b2] at hf
        exact absurd (hf ▸ hd0 _ b2) b1
      · rw [fout _ b1, fout _ b2] at hf
        exact I.least e h1 h2 i j ⟨hf, hi⟩
theorem join_all {c d : List Int} (hl : c.length = d.length) (hg : gmOf c = gmOf d) (hd : ∀ x ∈ d, -1 ≤ x) : ∀ n, JoinI c d (joinM c d n) n
  | 0 => ⟨rfl, fun _ => Iff.rfl, fun _ _ h => h, fun i j h hn => by
    have h2 := h.2
    have h3 := hd _ (gv_mem h.left)
    omega, fun _ h _ i j z => h i j z⟩
  | n + 1 => join_step hl hg (join_all hl hg hd n)
/-- what the join is -/
structure IsJoin (c d J : List Int) : Prop where
  len : J.length = c.length
  gone : ∀ i, Al J i i ↔ Al c i i
  one : ∀ i j, Al c i j → Al J i j
  two : ∀ i j, Al d i j → Al J i j
  least : ∀ e : List Int, (∀ i j, Al c i j → Al e i j) → (∀ i j, Al d i j → Al e i j) → ∀ i j, Al J i j → Al e i j
theorem join_is {c d : List Int} (hl : c.length = d.length) (hg : gmOf c = gmOf d) (hd : ∀ x ∈ d, -1 ≤ x) {M : Int} (hM : ∀ y ∈ d, y ≤ M) : IsJoin c d (num (joinM c d (M + 1).toNat)) := by
  have I := join_all hl hg hd (M + 1).toNat
  refine ⟨by rw [num_len, I.len], fun i => ?_, fun i j h => al_num.mpr (I.one i j h), fun i j h => al_num.mpr (I.two i j h ?_), fun e h1 h2 i j h => I.least e h1 h2 i j (al_num.mp h)⟩
  · rw [al_num, al_self, al_self]
    exact not_congr (I.gone i)
  · have h1 := h.2
    have h2 := hd _ (gv_mem h.left)
    have h3 := hM _ (gv_mem h.left)
    omega
/-! ### deeds -/
/-- a deed on lists of so many: some are new together, some keep what another one had -/
def Does (n : Nat) (f : List Int → List Int) : Prop := ∃ (nw kp : Nat → Prop) (sg : Nat → Nat), (∀ i, nw i → ¬ kp i) ∧ ∀ c, c.length = n → (∀ x ∈ c, -1 ≤ x ∧ x < (n : Int)) → (f c).length = n ∧ ∀ i j, Al (f c) i j ↔ (nw i ∧ nw j) ∨ (kp i ∧ kp j ∧ Al c (sg i) (sg j))
theorem gv_marked (c ts : List Int) (m : Int) (i : Nat) : gv (marked c ts m) i = if i < c.length ∧ (i : Int) ∈ ts then m else gv c i := by
  by_cases z : i < c.length
  · refine gv_some ?_
    unfold marked
    rw [List.getElem?_mapIdx, gv_in z]
    show some (if (i : Int) ∈ ts then m else gv c i) = _
    by_cases h : (i : Int) ∈ ts
    · rw [if_pos h, if_pos ⟨z, h⟩]
    · rw [if_neg h, if_neg (fun q => h q.2)]
  · rw [if_neg (fun q => z q.1), gv_out (by rw [marked_len]; omega), gv_out (Nat.le_of_not_lt z)]
theorem does_copied {n t s : Nat} (ht : t < n) (hs : s < n) : Does n fun c => marked c [(t : Int)] (gv c s) := by
  refine ⟨fun _ => False, fun _ => True, fun i => if i = t then s else i, fun _ h => h.elim, fun c hl _ => ⟨by rw [marked_len, hl], fun i j => ?_⟩⟩
  have e : ∀ i, gv (marked c [(t : Int)] (gv c s)) i = gv c (if i = t then s else i) := fun i => by
    rw [gv_marked]
    by_cases h : i = t
    · subst h
      rw [if_pos ⟨by omega, by simp⟩, if_pos rfl]
    · rw [if_neg (fun q => h (by have := List.mem_singleton.mp q.2; omega)), if_neg h]
  unfold Al
  rw [e, e]
  simp
theorem does_without {n t : Nat} : Does n fun c => marked c [(t : Int)] (-1) := by
  refine ⟨fun _ => False, fun i => i ≠ t, fun i => i, fun _ h => h.elim, fun c hl _ => ⟨by rw [marked_len, hl], fun i j => ?_⟩⟩
  have e : ∀ i, gv (marked c [(t : Int)] (-1)) i = if i = t then -1 else gv c i := fun i => by
    rw [gv_marked]
    by_cases h : i = t
    · subst h
      rw [if_pos rfl]
      by_cases z : i < c.length
      · rw [if_pos ⟨z, by simp⟩]
      · rw [if_neg (fun q => z q.1), gv_out (Nat.le_of_not_lt z)]
    · rw [if_neg (fun q => h (by have := List.mem_singleton.mp q.2; omega)), if_neg h]
  unfold Al
  rw [e, e]
  by_cases h1 : i = t
  · rw [if_pos h1]
    simp [h1]
  · by_cases h2 : j = t
    · rw [if_neg h1, if_pos h2]
      simp [h1, h2]
    · rw [if_neg h1, if_neg h2]
      simp [h1, h2]
theorem does_fresh {n : Nat} {ts : List Int} (hn : 0 < n) : Does n fun c => marked c ts (c.length : Int) := by
  refine ⟨fun i => i < n ∧ (i : Int) ∈ ts, fun i => (i : Int) ∉ ts, fun i => i, fun i h h2 => h2 h.2, fun c hl hc => ⟨by rw [marked_len, hl], fun i j => ?_⟩⟩
  have r : ∀ i, gv c i ≠ (c.length : Int) := fun i z => by
    by_cases q : i < c.length
    · have := (hc _ (gv_mem q)).2
      omega
    · rw [gv_out (Nat.le_of_not_lt q)] at z
      omega
  unfold Al
  rw [gv_marked, gv_marked, hl]
  rw [hl] at r
  have o : ∀ i, ¬ i < n → gv c i = -1 := fun i h => gv_out (by omega)
  by_cases a1 : (i : Int) ∈ ts
  · by_cases a2 : (j : Int) ∈ ts
    · by_cases b1 : i < n
      · by_cases b2 : j < n
        · rw [if_pos ⟨b1, a1⟩, if_pos ⟨b2, a2⟩]
          simp [a1, a2, b1, b2]
        · rw [if_pos ⟨b1, a1⟩, if_neg (fun q => b2 q.1), o j b2]
          simp [a1, a2, b1, b2]
      · rw [if_neg (fun q => b1 q.1), o i b1]
        simp [a1, a2, b1]
    · by_cases b1 : i < n
      · rw [if_pos ⟨b1, a1⟩, if_neg (fun q => a2 q.2)]
        simp [a1, a2, b1]
        intro q
        exact absurd q.symm (r j)
      · rw [if_neg (fun q => b1 q.1), o i b1]
        simp [a1, a2, b1]
  · by_cases a2 : (j : Int) ∈ ts
    · by_cases b2 : j < n
      · rw [if_neg (fun q => a1 q.2), if_pos ⟨b2, a2⟩]
        simp [a1, a2]
        intro q
        exact absurd q (r i)
      · rw [if_neg (fun q => a1 q.2), if_neg (fun q => b2 q.1), o j b2]
        simp [a1, a2]
    · rw [if_neg (fun q => a1 q.2), if_neg (fun q => a2 q.2)]
      simp [a1, a2]
/-- the holder that stands at a place of an order -/
def at_ (os : List Int) (i : Nat) : Nat := (os.getD i 0).toNat
theorem gv_pick {c os : List Int} (hl : os.length = c.length) (ho : ∀ h ∈ os, 0 ≤ h ∧ h < (c.length : Int)) (i : Nat) : gv (pick c os) i = if i < c.length then gv c (at_ os i) else -1 := by
  by_cases z : i < c.length
  · rw [if_pos z]
    refine gv_some ?_
    obtain ⟨h, hh⟩ : ∃ h, os[i]? = some h := ⟨_, List.getElem?_eq_getElem (by omega)⟩
    have hr := ho h (List.mem_of_getElem? hh)
    have e : at_ os i = h.toNat := by unfold at_; rw [List.getD_eq_getElem?_getD, hh]; rfl
    rw [pick, List.getElem?_map, hh, e]
    show some (c.getD h.toNat 0) = _
    rw [List.getD_eq_getElem?_getD, gv_in (show h.toNat < c.length by omega)]
    rfl
  · rw [if_neg z, gv_out (by unfold pick; rw [List.length_map]; omega)]
theorem al_pick {c os : List Int} (hl : os.length = c.length) (ho : ∀ h ∈ os, 0 ≤ h ∧ h < (c.length : Int)) (i j : Nat) : Al (pick c os) i j ↔ i < c.length ∧ j < c.length ∧ Al c (at_ os i) (at_ os j) := by
  unfold Al
  rw [gv_pick hl ho, gv_pick hl ho]
  by_cases a : i < c.length
  · by_cases b : j < c.length
    · rw [if_pos a, if_pos b]
      simp [a, b]
    · rw [if_pos a, if_neg b]
      simp [b]
  · rw [if_neg a]
    simp [a]
theorem does_renamed {n : Nat} {os : List Int} (hl : os.length = n) (ho : ∀ h ∈ os, 0 ≤ h ∧ h < (n : Int)) : Does n fun c => pick c os := by
  refine ⟨fun _ => False, fun i => i < n, at_ os, fun _ h => h.elim, fun c hc _ => ⟨by unfold pick; rw [List.length_map, hl], fun i j => ?_⟩⟩
  rw [al_pick (by omega) (by rw [hc]; exact ho), hc]
  simp
/-! ### what a deed keeps -/
/-- canonical ones of so many -/
structure Can (n : Nat) (c : List Int) : Prop where
  len : c.length = n
  nu : num c = c
theorem Can.small {n : Nat} {c : List Int} (h : Can n c) : ∀ x ∈ c, -1 ≤ x ∧ x < (n : Int) := fun x hx => by
  have := num_small (h.nu.symm ▸ hx)
  rw [h.len] at this
  exact this
theorem Can.small50 {n : Nat} {c : List Int} (h : Can n c) (hn : n ≤ 8) : ∀ x ∈ c, -1 ≤ x ∧ x < 50 := fun x hx => by
  have := h.small x hx
  omega
theorem can_num {n : Nat} {c : List Int} (h : c.length = n) : Can n (num c) := ⟨by rw [num_len, h], num_num c⟩
section
variable {n : Nat} {f : List Int → List Int} {c d : List Int}
theorem Does.can (D : Does n f) (hc : Can n c) : Can n (num (f c)) := by
  obtain ⟨nw, kp, sg, dis, h⟩ := D
  exact can_num (h c hc.len hc.small).1
theorem Does.mono (D : Does n f) (hc : Can n c) (hd : Can n d) (h : ∀ i j, Al c i j → Al d i j) (i j : Nat) : Al (num (f c)) i j → Al (num (f d)) i j := by
  obtain ⟨nw, kp, sg, dis, hf⟩ := D
  rw [al_num, al_num, (hf c hc.len hc.small).2, (hf d hd.len hd.small).2]
  rintro (z | ⟨a, b, z⟩)
  · exact .inl z
  · exact .inr ⟨a, b, h _ _ z⟩
theorem Does.gm (D : Does n f) (hc : Can n c) (hd : Can n d) (hg : gmOf c = gmOf d) : gmOf (num (f c)) = gmOf (num (f d)) := by
  refine gm_of (by rw [(D.can hc).len, (D.can hd).len]) fun i => ?_
  obtain ⟨nw, kp, sg, dis, hf⟩ := D
  rw [al_num, al_num, (hf c hc.len hc.small).2, (hf d hd.len hd.small).2, al_gm hg]
theorem can_met (hc : Can n c) (hd : Can n d) : Can n (num (metM c d)) := can_num (by rw [metM_len (by rw [hc.len, hd.len]), hc.len])
theorem Does.met (D : Does n f) (hn : n ≤ 8) (hc : Can n c) (hd : Can n d) (hg : gmOf c = gmOf d) : num (metM (num (f c)) (num (f d))) = num (f (num (metM c d))) := by
  have c1 := D.can hc
  have d1 := D.can hd
  have m := can_met hc hd
  have g1 := D.gm hc hd hg
  have fm := D.can m
  refine can_ext (num_num _) (num_num _) (by rw [(can_met c1 d1).len, fm.len]) fun i j => ?_
  rw [al_num, al_met (by rw [c1.len, d1.len]) g1 (c1.small50 hn) (d1.small50 hn)]
  obtain ⟨nw, kp, sg, dis, hf⟩ := D
  rw [al_num, al_num, al_num, (hf c hc.len hc.small).2, (hf d hd.len hd.small).2, (hf _ m.len m.small).2, al_num, al_met (by rw [hc.len, hd.len]) hg (hc.small50 hn) (hd.small50 hn)]
  constructor
  · rintro ⟨a | ⟨a1, a2, a3⟩, b | ⟨b1, b2, b3⟩⟩
    · exact .inl a
    · exact absurd b1 (dis _ a.1)
    · exact absurd a1 (dis _ b.1)
    · exact .inr ⟨a1, a2, a3, b3⟩
  · rintro (a | ⟨a1, a2, a3, a4⟩)
    · exact ⟨.inl a, .inl a⟩
    · exact ⟨.inr ⟨a1, a2, a3⟩, .inr ⟨a1, a2, a4⟩⟩
end
end Jc
namespace Jc
section
variable {n : Nat} {f : List Int → List Int} {c d : List Int}
theorem IsJoin.can {J : List Int} (hc : Can n c) (h : IsJoin c d J) (hn : num J = J) : Can n J := ⟨by rw [h.len, hc.len], hn⟩
theorem IsJoin.gm {J : List Int} (h : IsJoin c d J) : gmOf c = gmOf J := gm_of h.len.symm fun i => (h.gone i).symm
/-- the join behind a deed is finer than the deed of the join -/
theorem Does.below (D : Does n f) {J N : List Int} (hc : Can n c) (hd : Can n d) (hJ : IsJoin c d J) (cJ : Can n J) (hN : IsJoin (num (f c)) (num (f d)) N) : ∀ i j, Al N i j → Al (num (f J)) i j :=
  hN.least _ (D.mono hc cJ hJ.one) (D.mono hd cJ hJ.two)
theorem Does.gmJ (D : Does n f) {J N : List Int} (hc : Can n c) (hJ : IsJoin c d J) (cJ : Can n J) (hN : IsJoin (num (f c)) (num (f d)) N) : gmOf N = gmOf (num (f J)) := by
  rw [← hN.gm, D.gm hc cJ hJ.gm]
/-! orders -/
theorem upto_at {n i : Nat} (h : i < n) : (upto n)[i]? = some (i : Int) := by
  unfold upto
  rw [List.getElem?_map, List.getElem?_range h]
  rfl
theorem upto_len (n : Nat) : (upto n).length = n := by unfold upto; rw [List.length_map, List.length_range]
theorem upto_mem {n : Nat} {k : Int} : k ∈ upto n ↔ 0 ≤ k ∧ k < n := by
  unfold upto
  rw [List.mem_map]
  constructor
  · rintro ⟨i, hi, rfl⟩
    have := List.mem_range.mp hi
    omega
  · intro h
    exact ⟨k.toNat, List.mem_range.mpr (by omega), by omega⟩
theorem upto_nd (n : Nat) : (upto n).Nodup := (upto_lt n).imp fun h => by omega
structure Ord (n : Nat) (os : List Int) : Prop where
  perm : os.Perm (upto n)
section
variable {os ts : List Int}
theorem Ord.len (h : Ord n os) : os.length = n := by rw [h.perm.length_eq, upto_len]
theorem Ord.nd (h : Ord n os) : os.Nodup := h.perm.nodup_iff.mpr (upto_nd n)
theorem Ord.range (h : Ord n os) : ∀ k ∈ os, 0 ≤ k ∧ k < (n : Int) := fun k hk => upto_mem.mp (h.perm.mem_iff.mp hk)
theorem at_get {i : Nat} {k : Int} (h : os[i]? = some k) : at_ os i = k.toNat := by
  unfold at_
  rw [List.getD_eq_getElem?_getD, h]
  rfl
theorem Ord.get (h : Ord n os) {i : Nat} (hi : i < n) : os[i]? = some (at_ os i : Int) := by
  obtain ⟨k, hk⟩ : ∃ k, os[i]? = some k := ⟨_, List.getElem?_eq_getElem (by rw [h.len]; exact hi)⟩
  have r := h.range k (List.mem_of_getElem? hk)
  rw [hk, at_get hk]
  congr 1
  omega
theorem Ord.lt (h : Ord n os) {i : Nat} (hi : i < n) : at_ os i < n := by
  have := h.range _ (List.mem_of_getElem? (h.get hi))
  omega
theorem idx_nd {os : List Int} (nd : os.Nodup) {i : Nat} {k : Int} (h : os[i]? = some k) : os.idxOf k = i := by
  obtain ⟨l1, x1⟩ := List.getElem?_eq_some_iff.mp h
  have l2 := List.idxOf_lt_length_of_mem (List.mem_of_getElem? h)
  have x2 := List.getElem_idxOf l2
  rcases Nat.lt_trichotomy (os.idxOf k) i with z | z | z
  · exact absurd (x2.trans x1.symm) (List.pairwise_iff_getElem.mp nd _ i l2 l1 z)
  · exact z
  · exact absurd (x1.trans x2.symm) (List.pairwise_iff_getElem.mp nd i _ l1 l2 z)
def backM (os : List Int) : List Int := (upto os.length).map fun k => (os.idxOf k : Int)
theorem Ord.back (h : Ord n os) : Ord n (backM os) := by
  refine ⟨?_⟩
  unfold backM
  rw [h.len]
  have e : os.map (fun k => (os.idxOf k : Int)) = upto n := by
    refine List.ext_getElem? fun i => ?_
    by_cases hi : i < n
    · rw [List.getElem?_map, h.get hi, upto_at hi]
      show some ((os.idxOf (at_ os i : Int) : Nat) : Int) = _
      rw [idx_nd h.nd (h.get hi)]
    · rw [List.getElem?_eq_none (by rw [List.length_map, h.len]; omega), List.getElem?_eq_none (by rw [upto_len]; omega)]
  exact ((h.perm.map fun k => (os.idxOf k : Int)).symm).trans (.of_eq e)
theorem Ord.at_back (h : Ord n os) {i : Nat} (hi : i < n) : at_ os (at_ (backM os) i) = i := by
  have m : (i : Int) ∈ os := h.perm.mem_iff.mpr (upto_mem.mpr ⟨by omega, by omega⟩)
  have e : at_ (backM os) i = os.idxOf (i : Int) := by
    refine (at_get (k := (os.idxOf (i : Int) : Int)) ?_).trans (by omega)
    unfold backM
    rw [List.getElem?_map, h.len, upto_at hi]
    rfl
  have l := List.idxOf_lt_length_of_mem m
  rw [e, at_get (k := (i : Int)) (by rw [List.getElem?_eq_getElem l, List.getElem_idxOf l])]
  omega
theorem Ord.back_at (h : Ord n os) {i : Nat} (hi : i < n) : at_ (backM os) (at_ os i) = i := by
  have e : at_ (backM os) (at_ os i) = os.idxOf (at_ os i : Int) := by
    refine (at_get (k := (os.idxOf (at_ os i : Int) : Int)) ?_).trans (by omega)
    unfold backM
    rw [List.getElem?_map, h.len, upto_at (h.lt hi)]
    rfl
  rw [e, idx_nd h.nd (h.get hi)]
theorem Ord.comp (h : Ord n os) (g : Ord n ts) : Ord n (pick os ts) := by
  refine ⟨?_⟩
  have e : (upto n).map (fun k => os.getD k.toNat 0) = os := by
    refine List.ext_getElem? fun i => ?_
    by_cases hi : i < n
    · rw [List.getElem?_map, upto_at hi, h.get hi]
      show some (os.getD ((i : Int).toNat) 0) = _
      rw [show ((i : Int)).toNat = i by omega, List.getD_eq_getElem?_getD, h.get hi]
      rfl
    · rw [List.getElem?_eq_none (by rw [List.length_map, upto_len]; omega), List.getElem?_eq_none (by rw [h.len]; omega)]
  exact ((g.perm.map fun k => os.getD k.toNat 0).trans (.of_eq e)).trans h.perm
theorem Ord.at_comp (h : Ord n os) (g : Ord n ts) {i : Nat} (hi : i < n) : at_ (pick os ts) i = at_ os (at_ ts i) := by
  refine (at_get (k := (at_ os (at_ ts i) : Int)) ?_).trans (by omega)
  unfold pick
  rw [List.getElem?_map, g.get hi]
  show some (os.getD ((at_ ts i : Int).toNat) 0) = _
  rw [show ((at_ ts i : Int)).toNat = at_ ts i by omega, List.getD_eq_getElem?_getD, h.get (g.lt hi)]
  rfl
theorem Ord.does (h : Ord n os) : Does n fun c => pick c os := does_renamed h.len h.range
theorem Ord.al (h : Ord n os) {c : List Int} (hc : c.length = n) (i j : Nat) : Al (pick c os) i j ↔ i < n ∧ j < n ∧ Al c (at_ os i) (at_ os j) := by
  rw [al_pick (by rw [h.len, hc]) (by rw [hc]; exact h.range), hc]
/-- an order and its way back -/
theorem Ord.there (h : Ord n os) (hc : Can n c) : num (pick (num (pick c os)) (backM os)) = c := by
  have c1 := h.does.can hc
  have c2 := h.back.does.can c1
  refine can_ext c2.nu hc.nu (by rw [c2.len, hc.len]) fun i j => ?_
  rw [al_num, h.back.al c1.len, al_num, h.al hc.len]
  constructor
  · rintro ⟨a, b, a2, b2, z⟩
    rwa [h.at_back a, h.at_back b] at z
  · intro z
    have a : i < n := hc.len ▸ z.left
    have b : j < n := hc.len ▸ z.right
    exact ⟨a, b, h.back.lt a, h.back.lt b, by rw [h.at_back a, h.at_back b]; exact z⟩
/-- two orders are one -/
theorem Ord.both (h : Ord n os) (g : Ord n ts) (hc : Can n c) : num (pick (num (pick c os)) ts) = num (pick c (pick os ts)) := by
  have c1 := h.does.can hc
  have c2 := g.does.can c1
  have c3 := (h.comp g).does.can hc
  refine can_ext c2.nu c3.nu (by rw [c2.len, c3.len]) fun i j => ?_
  rw [al_num, g.al c1.len, al_num, h.al hc.len, al_num, (h.comp g).al hc.len]
  constructor
  · rintro ⟨a, b, _, _, z⟩
    exact ⟨a, b, by rw [h.at_comp g a, h.at_comp g b]; exact z⟩
  · rintro ⟨a, b, z⟩
    rw [h.at_comp g a, h.at_comp g b] at z
    exact ⟨a, b, g.lt a, g.lt b, z⟩
/-- the join behind another order is that of the join -/
theorem Ord.join (h : Ord n os) {J N : List Int} (hc : Can n c) (hd : Can n d) (hJ : IsJoin c d J) (cJ : Can n J) (hN : IsJoin (num (pick c os)) (num (pick d os)) N) (cN : Can n N) : num (pick J os) = N := by
  have c1 := h.does.can cJ
  have e1 := h.back.does.can cN
  refine can_ext c1.nu cN.nu (by rw [c1.len, cN.len]) fun i j => ⟨fun z => ?_, fun z => h.does.below hc hd hJ cJ hN i j z⟩
  rw [al_num, h.al cJ.len] at z
  obtain ⟨a, b, z⟩ := z
  have up : ∀ x y : Nat, x < n → y < n → Al N (at_ (backM os) x) (at_ (backM os) y) → Al (num (pick N (backM os))) x y := fun x y hx hy q => by
    rw [al_num, h.back.al cN.len]
    exact ⟨hx, hy, q⟩
  have w := hJ.least (num (pick N (backM os))) (fun x y q => ?_) (fun x y q => ?_) _ _ z
  · rw [al_num, h.back.al cN.len, h.back_at a, h.back_at b] at w
    exact w.2.2
  · have hx : x < n := hc.len ▸ q.left
    have hy : y < n := hc.len ▸ q.right
    refine up x y hx hy (hN.one _ _ ?_)
    rw [al_num, h.al hc.len, h.at_back hx, h.at_back hy]
    exact ⟨h.back.lt hx, h.back.lt hy, q⟩
  · have hx : x < n := hd.len ▸ q.left
    have hy : y < n := hd.len ▸ q.right
    refine up x y hx hy (hN.two _ _ ?_)
    rw [al_num, h.al hd.len, h.at_back hx, h.at_back hy]
    exact ⟨h.back.lt hx, h.back.lt hy, q⟩
end
end
end Jc
namespace Jc
open PySem PySem.Spec L2
open PyProof.Rows hiding St
/-! ### a != b of two instances of one own class: object.__ne__ asks the own __eq__ -/
section
variable {P : Program} {w : World} {A : Around} {E : Value → Shared → Prop} {s : Shared} {K : PySem.W.Frag} {x C f : Addr} {ox : Obj} {od : Option Obj}
theorem bound_blt {M : Model} {self : Value} {name : PySem.Str} {id : String} {args : List Value} {Q : Option Value → Shared → Prop} (sp : PySem.W.Looks M s.heap (specialOf self name) (some (.builtin id))) (hb : bindSpecial (.builtin id) self = pure (.builtin id, [self]))
    (h : wpAny M A (call (.builtin id) (self :: args)) (fun v => Q (some v)) E s) : wpAny M A (callSpecialIfBound? self name args) Q E s := by
  simp only [callSpecialIfBound?, bindSpecialIfBound?]
  refine wpAny_holding (wpAny_bind (wpAny_bind (sp.here ?_)))
  simp only [hb]
  have fin : wpAny M A (call (.builtin id) ([self] ++ args) >>= fun v => pure (some v)) Q E s := wpAny_bind (wpAny_mono h (fun v t z => wpAny_pure z) fun _ _ z => z)
  refine wpAny_bind (wpAny_askSetting (wpAny_ite ?_))
  split
  · exact wpAny_bind (wpAny_pure (wpAny_pure (by exact fin)))
  · exact wpAny_tryCatch (wpAny_bind (wpAny_pure (wpAny_pure (by exact fin))))
theorem ne_entry {b : Value} {Q : Fin → Shared → Prop} (hu : A.units < cLine) (KX : K.In s.heap) (J : PySem.W.InstAt s.heap x ox C od) (hs : PySem.W.findIn K (.ref C) "__eq__" = some (some (.ref f))) (hf : PySem.W.isFn K (.ref f) = true)
    (h : wpAny (model P w) A (call (.ref f) [.ref x, b]) (fun v t => ∃ r, v = .bool r ∧ Q (.done (.ret (.bool (!r)))) t) E s) : wpAny (model P w) A (Builtin.«object.__ne__» ⟨[.ref x, b], []⟩) Q E s := by
  unfold Builtin.«object.__ne__»
  refine wpAny_bind (m := slotArgs "__ne__" 1 _) (wpAny_pure ?_)
  refine wpAny_bind (wpAny_cRoomFor hu ?_)
  refine wpAny_bind (PySem.W.ifBound_K KX J hs hf (wpAny_mono h (fun v t z => ?_) fun _ _ z => z))
  obtain ⟨r, rfl, q⟩ := z
  exact wpAny_bind (wpAny_truthy_bool (wpAny_pure q))
theorem ne_raw {b : Value} {Q : Value → Shared → Prop} (hu : A.units + 1 < cLine) (KX : K.In s.heap) (J : PySem.W.InstAt s.heap x ox C od) (hb : PySem.W.Looks (model P w) s.heap (typeOf b) (.ref C))
    (hn : PySem.W.findIn K (.ref C) "__ne__" = some (some (.builtin "object.__ne__"))) (sub : PySem.W.mroIn K C (.type "object") = some true) (hs : PySem.W.findIn K (.ref C) "__eq__" = some (some (.ref f))) (hf : PySem.W.isFn K (.ref f) = true)
    (h : wpAny (model P w) A.in1 (call (.ref f) [.ref x, b]) (fun v t => ∃ r, v = .bool r ∧ Q (.bool (!r)) t) E s) : wpAny (model P w) A (richCompare .NotEq (.ref x) b) Q E s := by
  have inst : PySem.W.Looks (model P w) s.heap (isInstance (.ref x) (.type "object")) true := J.type.andThen (PySem.W.looks_mroIn KX sub)
  have sp : PySem.W.Looks (model P w) s.heap (specialOf (.ref x) "__ne__") (some (.builtin "object.__ne__")) := J.type.andThen (PySem.W.looks_findIn KX hn)
  have once : wpAny (model P w) A (tryCompare (.ref x) "__ne__" b) (fun r t => ∃ v, r = some v ∧ Q v t) E s := by
    unfold tryCompare
    refine wpAny_bind (bound_blt sp ((F.cmp_object).ne.bind _) (wpAny_call (codeAny_call_builtin (F.cmp_object).ne.plain F.cmpEntry_ne (@PySem.W.check_slot (model P w) _ _ _ "object.__ne__" "object" "__ne__" (.ref x) [b] [] _ F.cmpKind_ne F.cmpSplit_ne inst (F.cmpArgs_ne _ _) ?_))))
    refine ne_entry (A := A.in1) hu KX J hs hf (wpAny_mono h (fun v t z => ?_) fun _ _ z => z)
    obtain ⟨r, rfl, q⟩ := z
    exact ⟨r, rfl, wpAny_pure ⟨_, rfl, q⟩⟩
  unfold richCompare
  simp only [oneThing_ref]
  refine wpAny_holding (wpAny_bind (wpAny_cRoomFor (by omega) (wpAny_bind (J.type.here (wpAny_bind (hb.here ?_))))))
  rw [if_neg (by simp)]
  refine wpAny_bind (wpAny_pure ?_)
  simp only [Bool.false_eq_true, if_false]
  refine wpAny_bind (wpAny_mono once (fun r t z => ?_) fun _ _ z => z)
  obtain ⟨v, rfl, q⟩ := z
  exact wpAny_pure q
end
def rNeOwn (C : Addr) (sp : Sp) : R2 := fun x y H Q => ∃ a b dx dy fs gs, x = .ref a ∧ y = .ref b ∧ H a = some (.ins C dx fs) ∧ H b = some (.ins C dy gs) ∧ sp [.ref a, .ref b] H (fun v H2 => ∃ r, v = .bl r ∧ Q (.bl (!r)) H2) E0
/-- what k_is tells of != -/
structure NeK (K : PySem.W.Frag) (C : Addr) : Prop where
  ne : PySem.W.findIn K (.ref C) "__ne__" = some (some (.builtin "object.__ne__"))
  sub : PySem.W.mroIn K C (.type "object") = some true
theorem op_neOwn {X : Cx} {C f : Addr} {k : Nat} {sp : Sp} (N : NeK X.K C) (hs : PySem.W.findIn X.K (.ref C) "__eq__" = some (some (.ref f))) (hf : PySem.W.isFn X.K (.ref f) = true) (F : FnR X.prog X.w X.K X.mg X.base CX0 k f sp) (hr : Room (k + 1) X.A) : OpR X (compareOp .NotEq) (rNeOwn C sp) := by
  intro pins s σ H x y v u Q I rx ry h
  obtain ⟨a, b, dx, dy, fs, gs, rfl, rfl, ea, eb, q⟩ := h
  obtain rfl : v = Value.ref a := rx
  obtain rfl : u = Value.ref b := ry
  obtain ⟨mA, O, _, _, _, _⟩ := ins_get I.hok ea
  obtain ⟨od, J, _⟩ := O.look
  obtain ⟨mB, OB, _, _, _, _⟩ := ins_get I.hok eb
  obtain ⟨od2, J2, _⟩ := OB.look
  have hu : X.A.units + 1 < cLine := by have := hr.un; omega
  refine ne_raw hu I.kIn J J2.type N.ne N.sub hs hf (wpAny_call (codeAny_mono (F X.A.in1 X.stack s H [.ref a, .ref b] [.ref a, .ref b] _ E0 hr.in1 I.env0.in1 (.cons rfl (.cons rfl .nil)) q) fun rs s2 z => ?_))
  match rs, z with
  | .ok .next, z => exact z.elim
  | .ok .brk, z => exact z.elim
  | .ok .cont, z => exact z.elim
  | .error _, z => exact z.elim
  | .ok (.ret r), z =>
    obtain ⟨v2, H2, I2, rv, r2, e2, q2⟩ := I.after z
    subst e2
    obtain rfl : r = Value.bool r2 := rv
    exact ⟨r2, rfl, .bl (!r2), H2, I2, rfl, q2⟩
end Jc
namespace Jc
open PySem PySem.Spec L2
open PyProof.Rows hiding St
/-! ### {t!r}, t a tuple of small ints, while other texts are made -/
def shInts (c : List Int) : Str := tupleText (c.map fun i => toString i)
theorem repr_ints {P : Program} {w : World} {h : Heap} : ∀ (its : List Value) (c : List Int), Vals (c.map V.int) its → (∀ i ∈ c, i.natAbs.log2 < 1920) → ReprAllK P w [] h 0 its (c.map fun i => toString i)
  | _, [], r, _ => by cases r; exact .nil
  | _, i :: c, r, hi => by
    cases r with
    | cons a b =>
      obtain ⟨t, rfl⟩ := a
      exact .cons (fun base hb A g E s Q _ _ _ _ hQ => ReprIs.int t (hi i List.mem_cons_self) base hb A E s Q fun tk => hQ s.heap tk fun _ _ e => e) (repr_ints _ c b fun j hj => hi j (List.mem_cons_of_mem _ hj))
def tFmtRI (K : PySem.W.Frag) (g : List Code) (te : TE) : TE := fun σ H Q => te σ H fun x H1 => ∃ (a : Addr) (c : List Int), x = .ref a ∧ SqT K H1 a (c.map V.int) ∧ Clear g a ∧ (∀ i ∈ c, i.natAbs.log2 < 1920) ∧ (shInts c).length ≤ sizeLine ∧ Q (.str (shInts c)) H1
theorem pe_fmtRI {X : Cx} {k : Nat} {g : List Code} {e : Expr} {te : TE} {pos : Pos} (hr : Room k X.A) (hg : X.A.guards = some g) (he : PE X e te) : PE X (.FormattedValue e 114 none pos) (tFmtRI X.K g te) := by
  refine ⟨fun pins s σ H Q I h => ?_⟩
  refine wpAny_FormattedValue_repr (thn (he.run pins s σ H _ I h) fun v s1 hv => ?_)
  obtain ⟨x, H1, I1, r1, a, c, rfl, ht, hcl, hi, hz, q⟩ := hv
  cases r1
  obtain ⟨its, rv, ⟨o, ho, hcls, n, hd⟩, _⟩ := I1.tuple ht
  have hT : ReprAllK X.prog X.w [] s1.heap 0 its (c.map fun i => toString i) := repr_ints its c rv hi
  have hu := hr.units
  refine wpAny_pyReprObj_tupleK (g := g) (as := []) (h₀ := s1.heap) (d := 0) ho hcls hd (by simp) (by simpa using hT) hg (fun b hb => by rw [List.mem_singleton.mp hb]; exact hcl) (by omega) (fun _ _ e => e) (fun h' u tk hk => ?_) hz
  have I2 := I1.kept (h' := h') (t' := tk) hk
  exact wpAny_formatField_str ⟨.str (shInts c), H1, I2.tok _, ⟨_, rfl⟩, q⟩ ⟨.str (shInts c), H1, I2.tok _, ⟨_, rfl⟩, q⟩ hz
end Jc
namespace Jc
open PySem PySem.Spec L2
open PyProof.Rows hiding St
/-! ### repr of a list whose items have an own __repr__ -/
section
variable {P : Program} {w : World} {A : Around} {E : Value → Shared → Prop} {s : Shared} {K : PySem.W.Frag} {x C f : Addr} {ox : Obj} {od : Option Obj}
theorem by_own {M : Model} {last : Value → List Value → Sem Value} {name : Str} {Q : Option Value → Shared → Prop} (KX : K.In s.heap) (J : PySem.W.InstAt s.heap x ox C od) (hs : PySem.W.findIn K (.ref C) name = some (some (.ref f))) (hf : PySem.W.isFn K (.ref f) = true)
    (hl : last (.ref f) [.ref x] = call (.ref f) [.ref x]) (h : wpAny M A (call (.ref f) [.ref x]) (fun v => Q (some v)) E s) : wpAny M A (callSpecialIfBoundBy? last (.ref x) name) Q E s := by
  simp only [callSpecialIfBoundBy?, bindSpecialIfBound?]
  refine wpAny_holding (wpAny_bind (wpAny_bind (wpAny_bind (J.type.here ((PySem.W.looks_findIn KX hs).here ?_)))))
  refine wpAny_bind (wpAny_askSetting (wpAny_ite ?_))
  have fin : wpAny M A (last (.ref f) [.ref x] >>= fun v => pure (some v)) Q E s := by
    rw [hl]
    exact wpAny_bind (wpAny_mono h (fun v t z => wpAny_pure z) fun _ _ z => z)
  split
  · exact wpAny_bind ((PySem.W.bind_fn KX _ (beq_iff_eq.mp hf)).here (wpAny_pure (by exact fin)))
  · exact wpAny_tryCatch (wpAny_bind ((PySem.W.bind_fn KX _ (beq_iff_eq.mp hf)).here (wpAny_pure (by exact fin))))
theorem under_own {b : Nat} {Q : Str → Shared → Prop} (hb : b ≤ sizeLine) (hu : A.units < cLine) (KX : K.In s.heap) (J : PySem.W.InstAt s.heap x ox C od) (hs : PySem.W.findIn K (.ref C) "__repr__" = some (some (.ref f))) (hf : PySem.W.isFn K (.ref f) = true)
    (h : wpAny (model P w) A (call (.ref f) [.ref x]) (fun v t => ∃ y u, v = .str y u ∧ Q y t) E s) : wpAny (model P w) A (pyReprUnder b (.ref x)) Q E s := by
  refine wpAny_pyReprUnder_ref hb ?_
  unfold pyReprObjUnder pyReprObjBy
  refine wpAny_bind (wpAny_cRoomFor hu ?_)
  refine wpAny_bind (wpAny_bind (J.type.here ((PySem.W.looks_findIn KX hs).here ?_)))
  show wpAny _ _ (if (some (Value.ref f)).isNone = true then _ else _) _ _ _
  rw [if_neg (by simp)]
  refine wpAny_bind (m := callSpecialIfBoundBy? _ (.ref x) _) (by_own KX J hs hf rfl (wpAny_mono h (fun v t z => ?_) fun _ _ z => z))
  obtain ⟨y, u, rfl, q⟩ := z
  refine wpAny_bind (wpAny_isInstance (typeIs_str _ _ _) isSubtype_str_str ?_)
  first
    | exact wpAny_pure ⟨y, u, rfl, q⟩
    | (rw [if_pos rfl]; exact wpAny_pure ⟨y, u, rfl, q⟩)
end
end Jc
namespace Jc
open PySem PySem.Spec L2
open PyProof.Rows hiding St
/-! ### a def that is called while some texts are made -/
structure FnQ (P : Program) (w : World) (K : PySem.W.Frag) (mg : Str → Option Value) (base : Heap) (k : Nat) (f : Addr) (fd : FuncData) (ps : List Str) (Ok : Around → Hp → Prop) (sp : Sp) : Prop where
  lenQ : ∀ vs H Q E, sp vs H Q E → vs.length = ps.length
  runQ : ∀ (A : Around) (outer : List Env) (s : Shared) (H : Hp) (args : Args) (us : List Value) (vs : List V) (Q : VK), Room k A → Ok A H →
    Env0 P w K mg base A outer s H → BindsTo s fd args (ps.zip us) → Vals vs us → sp vs H Q E0 → codeAny (model P w) A (.call (.ref f) args) (CR CX0 outer P w H s Q E0) s
theorem fnQ_of {P : Program} {w : World} {K : PySem.W.Frag} {mg : Str → Option Value} {base : Heap} {x qual : Str} {st : Stmt} {f : Addr} {fd : FuncData} {N ps : List Str} {k : Nat} {sp : Sp} {Ok : Around → Hp → Prop} (F : Fun K x qual st f fd) (S : FnScope N ps (defScope st)) (len : ∀ vs H Q E, sp vs H Q E → vs.length = ps.length)
    (hkind : ∀ us : List Value, us.length = ps.length → ((ps.zip us).all fun y => (defScope st).names.lookup y.1 == some .local || (defScope st).names.lookup y.1 == some .cell) = true)
    (body : ∀ (cdv : Value) (A : Around) (outer : List Env) (s : Shared) (H : Hp) (vs : List V) (Q : VK), Room k (A.deeper (envOfC qual (defScope st) s.heap.objs.size f cdv)) → Ok A H → sp vs H Q E0 →
      ∃ t, PSs (cxOf CX0 P w K mg base N qual (defScope st) f cdv A outer s H E0).nox (defBody st) t ∧ t { nx := fun _ H' => Q .non H', rt := Q } (start N vs) H) :
    FnQ P w K mg base (k + 1) f fd ps Ok sp := by
  obtain ⟨oc, od, kV, doc, pm, an, cdv, ct, osl, rfl, lk, hcd⟩ := F.ex
  refine ⟨len, fun A outer s H args us vs Q hr hok e0 hb r h => ?_⟩
  have hlu : us.length = ps.length := r.length.symm.trans (len _ _ _ _ h)
  obtain ⟨t, ht, q⟩ := body cdv A outer s H vs Q (hr.deeper _) hok h
  refine Att.call_fn (e0.mod.kin.keeps fun b o e => (e0.bs b o e).1) (e0.mod.nolimit.keeps fun b o e => (e0.bs b o e).1) lk hcd hr.depth hb (hkind us hlu) (fun s1 ic => ?_) S.co S.gen S.kind
  have I : Inv (cxOf CX0 P w K mg base N qual (defScope st) f cdv A outer s H E0) [] (start N vs) H s1 := inv_start S hr.hd e0 (len _ _ _ _ h) r ic
  refine wpAny_mono (ht.nox.run [] s1 (start N vs) H _ I q) (fun fl s2 z => ?_) fun _ _ z => z
  match fl, z with
  | .ret u, ⟨v, σ2, H2, J, rv, q2⟩ => exact ⟨v, H2, J.os, J.bare, J.base, J.hok, rv, q2⟩
  | .next, ⟨σ2, H2, J, q2⟩ => exact ⟨.non, H2, J.os, J.bare, J.base, J.hok, rfl, q2⟩
  | .brk, ⟨_, _, _, q2⟩ => exact q2.elim
  | .cont, ⟨_, _, _, q2⟩ => exact q2.elim
/-- no text of a tuple is under way -/
def TupFree (A : Around) (H : Hp) : Prop := ∃ g, A.guards = some g ∧ ∀ a xs, H a = some (.tup xs) → Clear g a
def txP (c : List Int) : Str := ((Str.empty ++ ("Partition(" : Str)) ++ shInts c) ++ (")" : Str)
theorem small_text : ∀ k : Fin 60, (Str.ofString (toString ((k.val : Int) - 1))).length ≤ 8 := by decide +kernel
theorem ints_text {c : List Int} (h : ∀ x ∈ c, -1 ≤ x ∧ x < 50) : (shInts c).length ≤ 10 * c.length + 3 := by
  have h1 := tupleText_len_le (c.map fun i => (toString i : Str))
  have h2 : ((c.map fun i => (toString i : Str)).map (·.length)).sum ≤ 8 * c.length := by
    clear h1
    induction c with
    | nil => simp
    | cons x r ih =>
      have i1 := ih fun y hy => h y (List.mem_cons_of_mem _ hy)
      obtain ⟨a, b⟩ := h x List.mem_cons_self
      have i2 := small_text ⟨(x + 1).toNat, by omega⟩
      rw [show (((⟨(x + 1).toNat, by omega⟩ : Fin 60).val : Nat) : Int) - 1 = x by show (((x + 1).toNat : Nat) : Int) - 1 = x; omega] at i2
      simp only [List.map_cons, List.sum_cons, List.length_cons]
      have i3 : (toString x : Str).length ≤ 8 := i2
      omega
  rw [List.length_map] at h1
  unfold shInts
  omega
theorem tx_len {c : List Int} (h : ∀ x ∈ c, -1 ≤ x ∧ x < 50) (hl : c.length ≤ 8) : (txP c).length ≤ 100 ∧ ((Str.empty ++ ("Partition(" : Str)) ++ shInts c).length ≤ 100 ∧ (Str.empty ++ ("Partition(" : Str)).length ≤ 100 := by
  have := ints_text h
  unfold txP
  simp only [strLen_append]
  have e1 : (Str.empty).length = 0 := rfl
  have e2 : ("Partition(" : Str).length = 10 := by decide +kernel
  have e3 : (")" : Str).length = 1 := by decide +kernel
  omega
theorem log_small {i : Int} (h : -1 ≤ i ∧ i < 50) : i.natAbs.log2 < 1920 := by
  have h1 : i.natAbs < 2 ^ 6 := by omega
  have h2 : i.natAbs.log2 < 6 := by
    by_cases h0 : i.natAbs = 0
    · rw [h0]; decide
    · exact (Nat.log2_lt h0).mpr h1
  omega
def spRepr (C : Addr) : Sp := fun vs H Q _ => ∃ (p : Addr) (c : List Int), vs = [.ref p] ∧ PartAt C H p c ∧ Q (.str (txP c)) H
section
variable {P : Program} {w : World} {K : PySem.W.Frag} {mg : Str → Option Value} {base : Heap} {f C : Addr} {fd : FuncData} {t1 : Tok}
abbrev s_repr : Stmt := inClass (topS 13) 9
abbrev N_repr : List Str := ["self"]
theorem sc_repr : FnScope N_repr ["self"] (defScope s_repr) := ⟨rfl, rfl, rfl, by decide +kernel, rfl, by decide +kernel, by decide +kernel⟩
theorem ok_repr (F : Fun K "__repr__" "Partition.__repr__" s_repr f fd) (T : PCf K mg C) : FnQ P w K mg base 1 f fd ["self"] TupFree (spRepr C) := by
  refine fnQ_of F sc_repr (fun vs H Q E h => ?_) (fun us hl => ?_) (fun cdv A outer s H vs Q hr hq h => ?_)
  · obtain ⟨p, c, rfl, _⟩ := h
    rfl
  · match us, hl with
    | [_], _ => rfl
  · obtain ⟨p, c, rfl, hp, q⟩ := h
    obtain ⟨g, hg, cl⟩ := hq
    have sm := hp.small
    obtain ⟨t1, t2, t3⟩ := tx_len sm hp.hi
    have t0 := ints_text sm
    have t4 := hp.hi
    obtain ⟨⟨dx, t, a1, a2⟩, lo, hi, nu⟩ := hp
    refine ⟨_, (pss_one (ps_ret (pe_joined (.cons pe_str (.cons (pe_fmtRI (g := g) hr hg (pe_fld (pv 0) rfl)) (.cons pe_str .nil)))))), ?_⟩
    refine ⟨_, rfl, le_line (by omega), ?_⟩
    refine ⟨.ref p, rfl, p, C, dx, _, .ref t, rfl, a1, T.cl, T.na, rfl, t, c, rfl, .inl (.inl a2), cl t _ a2, fun i hi => log_small (sm i hi), le_line (by omega), _, rfl, le_line (by omega), ?_⟩
    exact ⟨_, rfl, le_line (by show (txP c).length ≤ _; omega), q⟩
end
end Jc
namespace Jc
open PySem PySem.Spec L2
open PyProof.Rows hiding St
/-! ### repr of a list of partitions -/
theorem vals_strs : ∀ {ts : List Str} {its : List Value}, Vals (ts.map V.str) its → ∃ done : List (Str × Tok), its = strValues done ∧ done.map (·.1) = ts
  | [], _, r => by cases r; exact ⟨[], rfl, rfl⟩
  | z :: ts, _, r => by
    cases r with
    | cons a b =>
      obtain ⟨t, rfl⟩ := a
      obtain ⟨d, rfl, e⟩ := vals_strs b
      exact ⟨(z, t) :: d, rfl, by simp [e]⟩
theorem vals_refs : ∀ {ps : List Addr} {its : List Value}, Vals (ps.map V.ref) its → its = ps.map Value.ref
  | [], _, r => by cases r; rfl
  | z :: ts, _, r => by
    cases r with
    | cons a b =>
      cases a
      rw [vals_refs b]
      rfl
theorem depth_loop (A : Around) (args : Args) : (A.under (.builtin "list.__repr__.loop" args)).depth ≤ A.depth + 1 := by
  simp [Around.under, Code.weight, Code.isCreation, Code.isGuard, Code.isCaller, Code.frames, Code.isFrame, guardIds]
theorem frames_loop {A : Around} {o : List Env} (args : Args) (h : A.frames = some o) : (A.under (.builtin "list.__repr__.loop" args)).frames = some o := by
  first | exact h | (simpa [Around.under, Code.envs, Code.isFrame, pushEnvs] using h)
theorem list_text_len : ∀ ts : List Str, (listText ts).length ≤ piled ts + 2
  | [] => by decide +kernel
  | t :: r => by
    have h := textFrom_length_pos r 1 (("[" : Str) ++ (if (0 : Nat) > 0 then ", " else "" : String) ++ t) (Nat.succ_pos 0)
    have e : ((("[" : Str) ++ (if (0 : Nat) > 0 then ", " else "" : String) ++ t)).length = 1 + t.length := by
      rw [strLen_append, strLen_append]; rfl
    have hX : (listText (t :: r)).length = (textFrom 0 "[" (t :: r)).length + 1 := by
      show (textFrom 0 "[" (t :: r) ++ "]").length = _
      rw [strLen_append]; rfl
    have hY : (textFrom 0 "[" (t :: r)).length = (textFrom 1 (("[" : Str) ++ (if (0 : Nat) > 0 then ", " else "" : String) ++ t) r).length := rfl
    rw [hX, hY, h, e, piled_cons]; omega
theorem room_loop {k : Nat} {A : Around} (r : Room (k + 1) A) (args : Args) : Room k (A.under (.builtin "list.__repr__.loop" args)) :=
  ⟨r.hd, by have := r.dp; have := depth_loop A args; omega, by rw [units_under_list_loop]; have := r.un; omega⟩
theorem pile_le : ∀ l : List Str, (∀ t ∈ l, t.length ≤ 100) → piled l ≤ 102 * l.length
  | [], _ => Nat.le_refl _
  | x :: r, h => by
    have i1 := pile_le r fun t ht => h t (List.mem_cons_of_mem _ ht)
    have i2 := h x List.mem_cons_self
    rw [piled_cons, List.length_cons]
    omega
theorem loop_own {X : Cx} {C f a Pa : Addr} {fd : FuncData} (G : FnQ X.prog X.w X.K X.mg X.base 1 f fd ["self"] TupFree (spRepr C)) (hs : PySem.W.findIn X.K (.ref C) "__repr__" = some (some (.ref f))) (hf : PySem.W.isFn X.K (.ref f) = true)
    (hb : ∀ (s : Shared) (u : Value), BindsTo s fd ⟨[u], []⟩ ((["self"] : List Str).zip [u])) {A : Around} (hg : A.guards = some []) (hr : Room 2 A) {pins : List (Addr × Obj)} {σ : St} {H0 : Hp} {ps : List (Addr × List Int)}
    (ha : H0 a = some (.lst ((ps.map (·.1)).map V.ref))) (hp : ∀ p ∈ ps, PartAt C H0 p.1 p.2) (n0 : H0 Pa = none) (hfr : A.frames = some X.stack) (hl : ps.length ≤ 8) {R : Result → Shared → Prop}
    (hR : ∀ H2 s2 u, Inv X pins σ H2 s2 → Same H0 H2 → R (.ok (.ret (.str (listText (ps.map fun p => txP p.2)) u))) s2) :
    ∀ (k i : Nat) (s : Shared) (H : Hp), ps.length - i = k → i ≤ ps.length → Inv X pins σ H s → Same H0 H → H Pa = some (.lst (((ps.map fun p => txP p.2).take i).map V.str)) →
    codeAny (model X.prog X.w) A (.builtin "list.__repr__.loop" ⟨[.ref a, rawInt i, .ref Pa, rawInt ((piled ((ps.map fun p => txP p.2).take i) : Nat) : Int)], []⟩) R s := by
  have hne : a ≠ Pa := fun e => by rw [e, n0] at ha; cases ha
  have hbig : ∀ t ∈ (ps.map fun p => txP p.2), t.length ≤ 100 := fun t ht => by
    obtain ⟨p, h1, rfl⟩ := List.mem_map.mp ht
    have P := hp p h1
    exact (tx_len P.small P.hi).1
  have hlen : (ps.map fun p => txP p.2).length = ps.length := List.length_map ..
  generalize htx : (ps.map fun p => txP p.2) = txs at hbig hR hlen ⊢
  have hpl := pile_le _ hbig
  have hlt0 := list_text_len txs
  have hln : (2000 : Nat) ≤ sizeLine := le_line (by omega)
  intro k
  induction k with
  | zero =>
    intro i s H hk hi I sm hPa
    have hin : i = ps.length := by omega
    obtain ⟨its, n, rv, ea, _⟩ := I.lst (sm _ _ ha)
    obtain ⟨itp, np, rvp, ep, _⟩ := I.lst hPa
    have hits := vals_refs rv
    obtain ⟨done, hd1, hd2⟩ := vals_strs rvp
    refine codeAny_builtin F.entry_list_repr_loop ?_
    show wpAny _ _ (Builtin.«list.__repr__.loop» ⟨[.ref a, .int i 0, .ref Pa, .int ((piled (txs.take i) : Nat) : Int) 0], []⟩) _ _ s
    rw [repr_loop_tree]
    refine wpAny_bind (wpAny_listItems ea rfl ?_)
    have hnone : its.toArray[(i : Int).toNat]? = none := by simp [hin, hits]
    simp only [hnone]
    unfold reprEnd
    refine wpAny_bind (wpAny_listItems ep rfl ?_)
    have e0 : itp.toArray.toList = strValues done := by rw [hd1]
    rw [e0, repr_fold]
    refine wpAny_bind (wpAny_pure ?_)
    have hall : done.map (·.1) = txs := by rw [hd2, hin, ← hlen, List.take_length]
    rw [hall]
    refine wpAny_bind (wpAny_mkStr (wpAny_pure ?_) (show (listText txs).length ≤ sizeLine by omega))
    exact hR H _ _ (I.tok _) sm
  | succ k ih =>
    intro i s H hk hi I sm hPa
    have hlt : i < ps.length := by omega
    obtain ⟨its, n, rv, ea, _⟩ := I.lst (sm _ _ ha)
    have hits := vals_refs rv
    have ht : txs[i]? = some (txP ps[i].2) := by rw [← htx]; simp [hlt]
    have hp1 := piled_take_succ ht
    have hp2 := piled_take_le txs (i + 1)
    have hb1 := hbig _ (List.mem_of_getElem? ht)
    have PI := hp _ (List.getElem_mem hlt)
    refine codeAny_builtin F.entry_list_repr_loop ?_
    show wpAny _ _ (Builtin.«list.__repr__.loop» ⟨[.ref a, .int i 0, .ref Pa, .int ((piled (txs.take i) : Nat) : Int) 0], []⟩) _ _ s
    rw [repr_loop_tree]
    refine wpAny_bind (wpAny_listItems ea rfl ?_)
    have hsome : its.toArray[(i : Int).toNat]? = some (.ref ps[i].1) := by simp [hits, hlt]
    simp only [hsome]
    rw [Int.toNat_natCast]
    obtain ⟨dx, t, a1, a2⟩ := (PI.same sm).ex
    obtain ⟨mA, O, _, _, _, _⟩ := ins_get I.hok a1
    obtain ⟨od, J, _⟩ := O.look
    refine wpAny_bind (wpAny_holding (under_own (A := A.under _) (by omega) (room_loop hr _).units0 I.kIn J hs hf (wpAny_call (codeAny_mono (G.runQ (A.under _) X.stack s H ⟨[.ref ps[i].1], []⟩ [.ref ps[i].1] [.ref ps[i].1] (fun v H' => v = .str (txP ps[i].2) ∧ H' = H) (room_loop hr _) ?_ ⟨frames_loop _ hfr, I.env0.mod, I.env0.bs, I.env0.bsz, I.env0.funs, I.env0.frf, I.env0.hok, I.env0.bare⟩ (hb s _) (.cons rfl .nil) ⟨_, _, rfl, PI.same sm, rfl, rfl⟩) fun rs s2 z => ?_))))
    · refine ⟨[.builtin "list.__repr__.loop" _], guards_under_guard (isGuard_list_loop _) hg, fun b xs hb => (Clear.nil b).cons fun e => ?_⟩
      rw [← e, sm _ _ ha] at hb
      cases hb
    match rs, z with
    | .ok .next, z => exact z.elim
    | .ok .brk, z => exact z.elim
    | .ok .cont, z => exact z.elim
    | .error _, z => exact z.elim
    | .ok (.ret u), z =>
      obtain ⟨v2, H2, I2, rv2, e2, e3⟩ := I.after (Q := fun v H' => v = .str (txP ps[i].2) ∧ H' = H) z
      subst e2 e3
      obtain ⟨t2, rfl⟩ := rv2
      refine ⟨_, _, rfl, ?_⟩
      refine wpAny_bind (wpAny_mkStr ?_ (le_line (by omega)))
      refine wpAny_bind ?_
      show wpAny _ _ (updateSeq Pa _) _ _ _
      obtain ⟨itp, np, rvp, ep, _⟩ := I2.lst hPa
      have hsz : itp.toArray.size ≤ sizeLine := by
        have l1 := rvp.length
        rw [List.length_map, List.length_take] at l1
        rw [List.size_toArray]
        omega
      refine wpAny_updateSeq ep rfl (wpAny_pure ⟨F.quiet_list_repr_loop _, ?_⟩) hsz
      have e1 : ((i : Int) + 1) = ((i + 1 : Nat) : Int) := by omega
      have e2 : piled (txs.take i) + ((txP ps[i].2).length + 2) = piled (txs.take (i + 1)) := by omega
      rw [e1, e2]
      have e3 : (txs.take (i + 1)).map V.str = (txs.take i).map V.str ++ [V.str (txP ps[i].2)] := by
        rw [List.take_add_one, ht]; simp
      refine ih (i + 1) _ (upd H2 Pa (.lst ((txs.take (i + 1)).map V.str))) (by omega) hlt (I2.lset (its' := itp ++ [.str (txP ps[i].2) _]) hPa ep (List.push_toArray ..) (by rw [e3]; exact Vals.append rvp (.cons ⟨_, rfl⟩ .nil)) (by rw [List.length_map, List.length_take]; omega)) ?_ upd_same
      intro b o hbo
      by_cases hb : b = Pa
      · rw [hb, n0] at hbo; cases hbo
      · exact (upd_ne hb).trans (sm _ _ hbo)
end Jc
namespace Jc
open PySem PySem.Spec L2
open PyProof.Rows hiding St
def rReprO (C : Addr) : List V → Hp → VK → Prop := fun xs H Q => ∃ (a : Addr) (p : Addr × List Int) (ps : List (Addr × List Int)), xs = [.ref a] ∧ H a = some (.lst (((p :: ps).map (·.1)).map V.ref)) ∧ (∀ q ∈ p :: ps, PartAt C H q.1 q.2) ∧ (p :: ps).length ≤ 8 ∧
  ∀ H2, Same H H2 → Q (.str (listText ((p :: ps).map fun q => txP q.2))) H2
theorem call_reprO {X : Cx} {C f : Addr} {fd : FuncData} (G : FnQ X.prog X.w X.K X.mg X.base 1 f fd ["self"] TupFree (spRepr C)) (hs : PySem.W.findIn X.K (.ref C) "__repr__" = some (some (.ref f))) (hf : PySem.W.isFn X.K (.ref f) = true)
    (hb : ∀ (s : Shared) (u : Value), BindsTo s fd ⟨[u], []⟩ ((["self"] : List Str).zip [u])) (hg : X.A.guards = some []) (hr : Room 4 X.A) : CallR X (.builtin "repr") (rReprO C) := by
  intro pins s σ H xs us Q I r h
  obtain ⟨a, p, ps, rfl, ha, hp, hl, q⟩ := h
  rw [Vals.ref1 r]
  obtain ⟨its, n, rv, ea, _⟩ := I.lst ha
  have hits := vals_refs rv
  have hTy : s.TypeIs (.ref a) "list" := ⟨_, ea, rfl⟩
  have hun := hr.units
  have hd : ({ cls := .type "list", data := .seq its.toArray n } : Obj).data = .seq (Value.ref p.1 :: (ps.map (·.1)).map Value.ref).toArray n := by rw [hits]; rfl
  have hr1 : Room 3 X.A.in1 := Room.in1 hr
  have hr2 : Room 2 X.A.in1.in1 := Room.in1 hr1
  refine call_repr_slot (by omega) hTy F.slot_list_repr.toG (wpAny_call (codeAny_call_builtin F.slot_list_repr.plain F.entry_list_repr (F.slot_list_repr.check _ _ _ _ _ _ _ _ hTy (F.args_list_repr_1 _) ?_)))
  refine wpAny_list_repr_head (b := 0) (g := []) (A := X.A.in1.in1) hg (fun _ _ _ hm => nomatch hm) ea hd ?_
  refine wpAny_bind (m := newList []) (wpAny_newObj_type ?_)
  refine wpAny_pure ⟨F.quiet_list_repr_loop _, ?_⟩
  have n0 : H s.heap.objs.size = none := I.fresh
  have I1 := I.lnew (ys := []) (its := []) (t' := s.toks) .nil (Nat.zero_le _)
  refine loop_own G hs hf hb (A := X.A.in1) hg (hr1.mono (by omega)) (pins := pins) (σ := σ) (H0 := H) (ps := p :: ps) (Pa := s.heap.objs.size) ha hp n0 (by exact I.env0.frames) hl (fun H2 s2 u I2 sm => ?_) _ 0 _ (upd H s.heap.objs.size (.lst [])) rfl (Nat.zero_le _) I1 (same_new n0) upd_same
  exact ⟨_, _, rfl, .str _, H2, I2, ⟨_, rfl⟩, q H2 sm⟩
end Jc
namespace Jc
open PySem PySem.Spec L2
open PyProof.Rows hiding St
theorem toldF_pre : ∀ (ms acc : List Int), ∃ r, ms.foldl toldF acc = acc ++ r
  | [], acc => ⟨[], by simp⟩
  | m :: ms, acc => by
    obtain ⟨r, h⟩ := toldF_pre ms (toldF acc m)
    show ∃ r, ms.foldl toldF (toldF acc m) = acc ++ r
    rw [h]
    unfold toldF
    split
    · exact ⟨[m] ++ r, by simp⟩
    · exact ⟨r, rfl⟩
/-- the place in what is told so far is that in the whole -/
theorem told_idx (ms : List Int) (i : Nat) {m : Int} (h : m ∈ (ms.take i).foldl toldF []) : ((ms.take i).foldl toldF []).idxOf m = (told ms).idxOf m := by
  have e : told ms = (ms.drop i).foldl toldF ((ms.take i).foldl toldF []) := by
    unfold told
    rw [← List.foldl_append, List.take_append_drop]
  obtain ⟨r, e2⟩ := toldF_pre (ms.drop i) ((ms.take i).foldl toldF [])
  rw [e, e2, List.idxOf_append, if_pos h]
/-- a mark: None for -1 -/
def mV (m : Int) : V := if m = -1 then .non else .int m
theorem mV_no : mV (-1) = .non := rfl
theorem mV_int {m : Int} (h : m ≠ -1) : mV m = .int m := if_neg h
theorem get_marks {ts : List Int} {i : Nat} {x : V} (h : (ts.map mV)[i]? = some x) : ∃ k : Int, ts[i]? = some k ∧ x = mV k := by
  rw [List.getElem?_map] at h
  cases e : ts[i]? with
  | none => rw [e] at h; cases h
  | some k => rw [e] at h; exact ⟨k, rfl, (Option.some.inj h).symm⟩
def spNumbers : Sp := fun vs H Q _ => ∃ (a : Addr) (bs : List Int), vs = [.ref a] ∧ H a = some (.lst (bs.map mV)) ∧ bs.length ≤ 1000 ∧ ∀ (q : Addr) (H2 : Hp), Same H H2 → H2 q = some (.lst ((num bs).map V.int)) → Q (.ref q) H2
section
variable {P : Program} {w : World} {K : PySem.W.Frag} {mg : Str → Option Value} {base : Heap} {f C : Addr} {fd : FuncData} {t1 : Tok}
abbrev s_pick : Stmt := topS 28
abbrev N_pick : List Str := ["_law_pot_here", "_law_some"]
theorem sc_pick : FnScope N_pick ["_law_pot_here", "_law_some"] (defScope s_pick) := ⟨rfl, rfl, rfl, by decide +kernel, rfl, by decide +kernel, by decide +kernel⟩
theorem ok_pick (F : Fun K "_law_pick" "_law_pick" s_pick f fd) (B : Blt mg) (c_draw : Own P w K mg base "_law_draw" 1 ["_law_pot_here", "_law_lot"] spDraw) : FnG P w K mg base 2 f fd ["_law_pot_here", "_law_some"] (spPick K) := by
  refine fnG_of F sc_pick (fun vs H Q E h => ?_) (fun us hl => ?_) (fun cdv A outer s H vs Q hr hq h => ?_)
  · obtain ⟨p, l, xs, rfl, _⟩ := h
    rfl
  · match us, hl with
    | [_, _], _ => rfl
  · obtain ⟨p, l, xs, rfl, hp, hl, h0, h1, q⟩ := h
    refine ⟨_, (pss_one (ps_ret (pe_ix ix_list (pv 1) (pe_own c_draw hr hq (by decide) (pa_cons (pv 0) (pa_cons (pe_callB call_len_seq rfl B.len bo_len (pa_cons (pv 1) pa_nil)) pa_nil))) (fun _ _ => rfl)))), ?_⟩
    refine ⟨.ref l, rfl, .ref p, rfl, .ref l, rfl, l, xs, rfl, .inl hl, p, _, rfl, hp, by omega, by omega, fun d H2 d0 d1 s2 => ?_⟩
    have hlt : d.toNat < xs.length := by omega
    have g : xs[d.toNat]? = some xs[d.toNat] := List.getElem?_eq_getElem hlt
    refine ⟨l, xs, d, _, rfl, rfl, s2.seq hl, at_of (j := d.toNat) (by omega) g, ?_⟩
    exact q d.toNat _ H2 g s2
abbrev s_numbers : Stmt := topS 29
abbrev N_numbers : List Str := ["_law_marks_here", "_law_known", "_law_found", "_law_mark"]
theorem sc_numbers : FnScope N_numbers ["_law_marks_here"] (defScope s_numbers) := ⟨rfl, rfl, rfl, by decide +kernel, rfl, by decide +kernel, by decide +kernel⟩
theorem ok_numbers (F : Fun K "_law_numbers" "_law_numbers" s_numbers f fd) (B : Blt mg) : FnG P w K mg base 1 f fd ["_law_marks_here"] spNumbers := by
  refine fnG_of F sc_numbers (fun vs H Q E h => ?_) (fun us hl => ?_) (fun cdv A outer s H vs Q hr hq h => ?_)
  · obtain ⟨a, bs, rfl, _⟩ := h
    rfl
  · match us, hl with
    | [_], _ => rfl
  · obtain ⟨a, bs, rfl, ha, hl, q⟩ := h
    refine ⟨_, (pss_cons (ps_par (i := 1) (j := 2) rfl sc_numbers.nd rfl rfl (by decide) rfl rfl (pa_cons (pe_lst pa_nil) (pa_cons (pe_lst pa_nil) pa_nil)) rfl)
      (pss_cons (ps_for PassesOwn.never rfl (pi_list (pv 0)) (pg_name (i := 3) sc_numbers.nd rfl (.inl rfl)) (Evl.pss_cut (ps_if (PW.pt (pw_and (pt_cmpR op_notN (pv 3) pe_non (nomark _)) (pw_and1 (pt_cmpR op_notIn_seq (pv 3) (pv 1) rfl)))) (pss_one (ps_expr (pe_bm PySem.F.plainAttrs_list PySem.F.slot_list_append PySem.F.type_list_append mt_append (pv 1) (pa_cons (pv 3) pa_nil)))) pss_nil)
      (pss_one (ps_expr (pe_bm PySem.F.plainAttrs_list PySem.F.slot_list_append PySem.F.type_list_append mt_append (pv 2) (pa_cons (pe_ifExp (pt_cmpR op_isN (pv 3) pe_non (nomark _)) (pe_un un_neg pe_int) (pe_bm PySem.F.plainAttrs_list PySem.F.slot_list_index PySem.F.type_list_index mt_index (pv 1) (pa_cons (pv 3) pa_nil))) pa_nil))))))
      (pss_one (ps_ret (pv 2))))), ?_⟩
    refine ⟨le_line (by decide), fun L1 n1 => ⟨le_line (by decide), fun L2 n2 => ⟨_, _, rfl, ?_⟩⟩⟩
    have n12 : L1 ≠ L2 := fun e => by
      rw [e, ← e, upd_same] at n2
      cases n2
    have n2' : H L2 = none := by rwa [upd_ne (Ne.symm n12)] at n2
    have s0 : Same H (upd (upd H L1 (.lst [])) L2 (.lst [])) := same_mut (same_new n1) n2'
    refine ⟨_, rfl, a, rfl, ⟨_, .inl (.inl (s0 _ _ ha))⟩, for_it walk_list (fun i σ H2 => ∃ y, σ = [some (.ref a), some (.ref L1), some (.ref L2), y] ∧ Same H H2 ∧ H2 L1 = some (.lst (((bs.take i).foldl toldF []).map V.int)) ∧ H2 L2 = some (.lst (((num bs).take i).map V.int)))
      ⟨_, rfl, s0, by rw [upd_ne n12]; exact upd_same, upd_same⟩ (fun _ _ _ _ z => by obtain ⟨_, _, s2, _⟩ := z; exact .inl (.inl (s2 _ _ ha))) ?_ ?_⟩
    · rintro i x σ H1 H2 hi ⟨y, rfl, s1, h1, h2⟩ ⟨rfl, hx⟩
      obtain ⟨m, hm, rfl⟩ := get_marks hx
      have e : (bs.take (i + 1)).foldl toldF [] = toldF ((bs.take i).foldl toldF []) m := told_take bs i hm
      have e2 : (num bs).take (i + 1) = (num bs).take i ++ [numOf (told bs) m] := by rw [List.take_add_one, num_at hm]; rfl
      have hz := told_short bs i
      have hz2 : ((num bs).take i).length ≤ bs.length := by rw [List.length_take, num_len]; omega
      refine ⟨fun σ H3 => σ = [some (.ref a), some (.ref L1), some (.ref L2), some (mV m)] ∧ Same H H3 ∧ H3 L1 = some (.lst (((bs.take (i + 1)).foldl toldF []).map V.int)) ∧ H3 L2 = some (.lst (((num bs).take i).map V.int)), ?_, ?_⟩
      · by_cases hm1 : m = -1
        · subst hm1
          refine ⟨.non, rfl, rfl, _, rfl, ?_⟩
          have en : eqV V.non V.non = true := rfl
          refine iteNS (rfl : V.non = V.non) ⟨rfl, s1, ?_, h2⟩
          rw [e, toldF, if_neg (fun z => z.1 rfl)]
          exact h1
        · refine ⟨mV m, rfl, rfl, _, rfl, iteNT (fun z => by rw [mV_int hm1] at z; cases z) ⟨mV m, rfl, .ref L1, rfl, L1, _, rfl, .inl (.inl (.inl h1)), by rw [mV_int hm1]; rfl, flat_ints _, _, rfl, ?_⟩⟩
          rw [if_pos (rfl : true = true), mV_int hm1, inV_ints]
          by_cases c2 : m ∈ (bs.take i).foldl toldF []
          · refine iteNS c2 ⟨rfl, s1, ?_, h2⟩
            rw [e, toldF, if_neg (fun z => z.2 c2)]
            exact h1
          · refine iteNT c2 ⟨.ref L1, rfl, .inl ⟨rfl, _, .inl (.inl h1)⟩, .int m, rfl, L1, _, _, rfl, rfl, h1, ?_, ?_⟩
            · rw [List.length_map]
              exact Nat.lt_of_lt_of_le (show _ < 1000000 by omega) (by rw [sizeLine_eq]; decide)
            · refine ⟨rfl, same_mut s1 n1, ?_, by rw [upd_ne (Ne.symm n12)]; exact h2⟩
              rw [upd_same, e, toldF, if_pos ⟨hm1, c2⟩, List.map_append]
              rfl
      · rintro σ H3 ⟨rfl, s3, h3, h4⟩
        by_cases hm1 : m = -1
        · subst hm1
          refine ⟨.ref L2, rfl, .inl ⟨rfl, _, .inl (.inl h4)⟩, .non, rfl, rfl, _, rfl, iteDT (rfl : V.non = V.non) ?_⟩
          refine ⟨1, rfl, L2, _, _, rfl, rfl, h4, ?_, ?_⟩
          · rw [List.length_map]
            exact Nat.lt_of_lt_of_le (show _ < 1000000 by omega) (by rw [sizeLine_eq]; decide)
          · refine ⟨_, rfl, same_mut s3 n2', by rw [upd_ne n12]; exact h3, ?_⟩
            rw [upd_same, e2, List.map_append]
            rfl
        · have hmem : m ∈ (bs.take (i + 1)).foldl toldF [] := by
            rw [told_has]
            refine .inr ⟨?_, hm1⟩
            rw [List.take_add_one, hm]
            simp
          have hidx := told_idx bs (i + 1) hmem
          obtain ⟨i1, i2⟩ := idx_ints hmem
          rw [mV_int hm1]
          refine ⟨.ref L2, rfl, .inl ⟨rfl, _, .inl (.inl h4)⟩, .int m, rfl, rfl, _, rfl, iteDF (fun z => nomatch z) ?_⟩
          refine ⟨.ref L1, rfl, .inl ⟨rfl, _, .inl (.inl h3)⟩, .int m, rfl, L1, _, .int m, _, .int m, rfl, rfl, .inl (.inl h3), rfl, flat_ints _, i1, (by show (m == m) = true; exact beq_self_eq_true m), i2, ?_⟩
          refine ⟨L2, _, _, rfl, rfl, h4, ?_, ?_⟩
          · rw [List.length_map]
            exact Nat.lt_of_lt_of_le (show _ < 1000000 by omega) (by rw [sizeLine_eq]; decide)
          · refine ⟨_, rfl, same_mut s3 n2', by rw [upd_ne n12]; exact h3, ?_⟩
            rw [upd_same, e2, List.map_append, hidx]
            have e5 : numOf (told bs) m = ((told bs).idxOf m : Int) := by rw [numOf, if_neg hm1]
            rw [e5]
            rfl
    · rintro σ H2 ⟨y, rfl, s2, h1, h2⟩
      rw [List.length_map, ← num_len bs, List.take_length] at h2
      exact ⟨.ref L2, rfl, q L2 H2 s2 h2⟩
end
end Jc
namespace Jc
open PySem PySem.Spec L2
open PyProof.Rows hiding St
def spMarks : Sp := fun vs H Q _ => ∃ (a : Addr) (lot : Nat) (g : Bool), vs = [.ref a, .int (lot : Int), .bl g] ∧ Pot H a ∧ 1 ≤ lot ∧ lot ≤ 8 ∧
  ∀ (q : Addr) (H2 : Hp) (ms : List Int), Same H H2 → H2 q = some (.lst (ms.map mV)) → ms.length = lot → (∀ m ∈ ms, (-1 ≤ m ∧ m < 100) ∧ (g = false → m ≠ -1)) → Q (.ref q) H2
section
variable {P : Program} {w : World} {K : PySem.W.Frag} {mg : Str → Option Value} {base : Heap} {f C : Addr} {fd : FuncData} {t1 : Tok}
abbrev s_marks : Stmt := topS 30
abbrev N_marks : List Str := ["_law_pot_here", "_law_lot", "_law_with_gone", "_law_found", "_law_k", "_law_mark"]
theorem sc_marks : FnScope N_marks ["_law_pot_here", "_law_lot", "_law_with_gone"] (defScope s_marks) := ⟨rfl, rfl, rfl, by decide +kernel, rfl, by decide +kernel, by decide +kernel⟩
theorem ok_marks (F : Fun K "_law_marks" "_law_marks" s_marks f fd) (B : Blt mg) (c_draw : Own P w K mg base "_law_draw" 1 ["_law_pot_here", "_law_lot"] spDraw) (c_pick : Own P w K mg base "_law_pick" 2 ["_law_pot_here", "_law_some"] (spPick K)) : FnG P w K mg base 3 f fd ["_law_pot_here", "_law_lot", "_law_with_gone"] spMarks := by
  refine fnG_of F sc_marks (fun vs H Q E h => ?_) (fun us hl => ?_) (fun cdv A outer s H vs Q hr hq h => ?_)
  · obtain ⟨a, lot, g, rfl, _⟩ := h
    rfl
  · match us, hl with
    | [_, _, _], _ => rfl
  · obtain ⟨a, lot, g, rfl, ha, l1, l8, q⟩ := h
    refine ⟨_, (pss_cons (ps_set (i := 3) sc_marks.nd rfl (.inl rfl) (pe_lst pa_nil))
      (pss_cons (ps_for PassesOwn.never rfl (pi_range1 rfl B.range (pa_cons (pv 1) pa_nil)) (pg_name (i := 4) sc_marks.nd rfl (.inl rfl)) (pss_cons (ps_set (i := 5) sc_marks.nd rfl (.inl rfl) (pe_own c_draw hr hq (by decide) (pa_cons (pv 0) (pa_cons (pe_own c_pick hr hq (by decide) (pa_cons (pv 0) (pa_cons (pe_lst (pa_cons (pv 1) (pa_cons pe_int (pa_cons pe_int pa_nil)))) pa_nil))) pa_nil))))
      (pss_one (ps_expr (pe_bm PySem.F.plainAttrs_list PySem.F.slot_list_append PySem.F.type_list_append mt_append (pv 3) (pa_cons (pe_ifExp (PW.pt (pw_and (pt_val (pv 2)) (pw_and1 (pt_cmpR op_eq (pe_own c_draw hr hq (by decide) (pa_cons (pv 0) (pa_cons pe_int pa_nil))) pe_int (nomark _))))) pe_non (pv 5)) pa_nil))))))
      (pss_one (ps_ret (pv 3))))), ?_⟩
    refine ⟨le_line (by decide), fun L nL => ?_⟩
    refine ⟨.int lot, rfl, lot, rfl, by omega, by omega, for_it walk_range (fun i σ H2 => ∃ y4 y5 ms, σ = [some (.ref a), some (.int lot), some (.bl g), some (.ref L), y4, y5] ∧ Same H H2 ∧ H2 L = some (.lst (ms.map mV)) ∧ ms.length = i ∧ ∀ m ∈ ms, (-1 ≤ m ∧ m < 100) ∧ (g = false → m ≠ -1))
      ⟨_, _, [], rfl, same_new nL, upd_same, rfl, fun _ z => nomatch z⟩ (fun _ _ _ _ _ => trivial) ?_ ?_⟩
    · rintro i x σ H2 H3 hi ⟨y4, y5, ms, rfl, s2, h2, hl, hm⟩ ⟨rfl, hx⟩
      refine ⟨.ref a, rfl, .ref a, rfl, .int lot, rfl, le_line (by show (3 : Nat) ≤ 1000000; decide), fun l nl => ?_⟩
      have s3 := s2.trans (same_new (o := .lst [.int lot, .int 2, .int 3]) nl)
      refine ⟨a, l, _, rfl, s3 _ _ ha, .inl (.inl upd_same), by show (0 : Nat) < 3; decide, by show (3 : Nat) ≤ 1000; decide, fun j v H4 hv s4 => ?_⟩
      obtain ⟨n, rfl, n1, n8⟩ : ∃ n : Int, v = .int n ∧ 1 ≤ n ∧ n ≤ 8 := by
        match j, hv with
        | 0, hv => exact ⟨lot, (Option.some.inj hv).symm, by omega, by omega⟩
        | 1, hv => exact ⟨2, (Option.some.inj hv).symm, by omega, by omega⟩
        | 2, hv => exact ⟨3, (Option.some.inj hv).symm, by omega, by omega⟩
      have s4' := s3.trans s4
      refine ⟨a, n, rfl, s4' _ _ ha, by omega, by omega, fun d H5 d0 d1 s5 => ?_⟩
      have s5' := s4'.trans s5
      have h5 : H5 L = some (.lst (ms.map mV)) := s5 _ _ (s4 _ _ (same_new nl _ _ h2))
      refine ⟨.ref L, rfl, .inl ⟨rfl, _, .inl (.inl h5)⟩, ?_⟩
      have fin : ∀ (m : Int) (H6 : Hp), Same H5 H6 → ((-1 ≤ m ∧ m < 100) ∧ (g = false → m ≠ -1)) → ∃ (y4 y5 : Option V) (ns : List Int), ([some (.ref a), some (.int (lot : Int)), some (.bl g), some (.ref L), some x, some (.int d)] : L2.St) = [some (.ref a), some (.int lot), some (.bl g), some (.ref L), y4, y5] ∧ Same H (upd H6 L (.lst (ms.map mV ++ [mV m]))) ∧ (upd H6 L (.lst (ms.map mV ++ [mV m]))) L = some (.lst (ns.map mV)) ∧ ns.length = i + 1 ∧ ∀ m ∈ ns, (-1 ≤ m ∧ m < 100) ∧ (g = false → m ≠ -1) := by
        intro m H6 s6 h6
        refine ⟨_, _, ms ++ [m], rfl, same_mut (s5'.trans s6) nL, by rw [upd_same, List.map_append]; rfl, by rw [List.length_append, hl]; rfl, fun k hk => ?_⟩
        rcases List.mem_append.mp hk with z | z
        · exact hm k z
        · rw [List.mem_singleton.mp z]; exact h6
      have hlen : (ms.map mV).length < sizeLine := by
        rw [List.length_map]
        exact Nat.lt_of_lt_of_le (show _ < 1000000 by omega) (by rw [sizeLine_eq]; decide)
      cases g with
      | false =>
        refine ⟨.bl false, rfl, false, rfl, iteF (iteF ⟨.int d, rfl, L, _, _, rfl, rfl, h5, hlen, ?_⟩)⟩
        have z := fin d H5 (Same.refl _) ⟨⟨by omega, by omega⟩, fun _ => by omega⟩
        rw [mV_int (show d ≠ -1 by omega)] at z
        exact z
      | true =>
        refine ⟨.bl true, rfl, true, rfl, iteT ⟨.ref a, rfl, a, 4, rfl, s5' _ _ ha, by decide, by decide, fun e H6 e0 e1 s6 => ⟨rfl, _, rfl, ?_⟩⟩⟩
        have h6 := s6 _ _ h5
        by_cases he : e = 0
        · refine iteDT (congrArg V.int he) ⟨L, _, _, rfl, rfl, h6, hlen, ?_⟩
          exact fin (-1) H6 s6 ⟨⟨by omega, by omega⟩, fun z => nomatch z⟩
        · refine iteDF (fun z => he (V.int.inj z)) ⟨.int d, rfl, L, _, _, rfl, rfl, h6, hlen, ?_⟩
          have z := fin d H6 s6 ⟨⟨by omega, by omega⟩, fun z => nomatch z⟩
          rw [mV_int (show d ≠ -1 by omega)] at z
          exact z
    · rintro σ H2 ⟨y4, y5, ms, rfl, s2, h2, hl, hm⟩
      exact ⟨.ref L, rfl, q L H2 ms s2 h2 hl hm⟩
end
end Jc
namespace Jc
open PySem PySem.Spec L2
open PyProof.Rows hiding St
def rLenK (K : PySem.W.Frag) : List V → Hp → VK → Prop := fun xs H Q => ∃ p ys, xs = [.ref p] ∧ (SqL K H p ys ∨ SqT K H p ys) ∧ Q (.int ys.length) H
theorem len_K {X : Cx} {K : PySem.W.Frag} (h : X.K = K) : CallR X (.builtin "len") (rLenK K) := by subst h; exact call_len_seq
theorem erase_map : ∀ (l : List Int) (k : Nat), (l.map V.int).eraseIdx k = (l.eraseIdx k).map V.int
  | [], _ => rfl
  | _ :: _, 0 => rfl
  | a :: l, k + 1 => by
    show V.int a :: (l.map V.int).eraseIdx k = V.int a :: (l.eraseIdx k).map V.int
    rw [erase_map l k]
theorem erase_perm : ∀ (l : List Int) (k : Nat) (h : k < l.length), (l[k] :: l.eraseIdx k).Perm l
  | a :: l, 0, _ => .refl _
  | a :: l, k + 1, h => by
    have h2 : k < l.length := by simpa using h
    show (l[k] :: a :: l.eraseIdx k).Perm (a :: l)
    exact (List.Perm.swap a l[k] _).trans (.cons a (erase_perm l k h2))
def spRow : Sp := fun vs H Q _ => ∃ (a : Addr) (lot : Nat), vs = [.ref a, .int (lot : Int)] ∧ Pot H a ∧ 1 ≤ lot ∧ lot ≤ 8 ∧
  ∀ (q : Addr) (H2 : Hp) (os : List Int), Same H H2 → H q = none → H2 q = some (.lst (os.map V.int)) → Ord lot os → Q (.ref q) H2
section
variable {P : Program} {w : World} {K : PySem.W.Frag} {mg : Str → Option Value} {base : Heap} {f C : Addr} {fd : FuncData} {t1 : Tok}
abbrev s_row : Stmt := topS 31
abbrev N_row : List Str := ["_law_pot_here", "_law_lot", "_law_left", "_law_turn"]
theorem sc_row : FnScope N_row ["_law_pot_here", "_law_lot"] (defScope s_row) := ⟨rfl, rfl, rfl, by decide +kernel, rfl, by decide +kernel, by decide +kernel⟩
theorem ok_row (F : Fun K "_law_row" "_law_row" s_row f fd) (B : Blt mg) (c_draw : Own P w K mg base "_law_draw" 1 ["_law_pot_here", "_law_lot"] spDraw) : FnG P w K mg base 2 f fd ["_law_pot_here", "_law_lot"] spRow := by
  refine fnG_of F sc_row (fun vs H Q E h => ?_) (fun us hl => ?_) (fun cdv A outer s H vs Q hr hq h => ?_)
  · obtain ⟨a, lot, rfl, _⟩ := h
    rfl
  · match us, hl with
    | [_, _], _ => rfl
  · obtain ⟨a, lot, rfl, ha, l1, l8, q⟩ := h
    refine ⟨_, (pss_cons (ps_set (i := 2) sc_row.nd rfl (.inr rfl) (pe_listRg rfl rfl B.list (prg_1 rfl B.range (pv 1))))
      (pss_one (ps_ret (pe_lc (own := [("_law_turn", 3)]) (g := gName 3) rfl sc_row.nd (pi_range1 rfl B.range (pa_cons (pv 1) pa_nil)) (blkOk_by (own := [("_law_turn", 3)]) (N := N_row) (sc := defScope s_row) (by decide +kernel)) (fun _ _ _ _ _ => pg_name (i := 3) sc_row.nd rfl (.inl rfl)) (fun _ _ _ _ _ => pts_nil) (fun _ _ _ _ _ => (pe_bmK (K := K) rfl PySem.F.plainAttrs_list PySem.F.slot_list_pop PySem.F.type_list_pop mt_popAt (pv 2) (pa_cons (pe_own c_draw hr hq (by decide) (pa_cons (pv 0) (pa_cons (pe_callB (len_K (K := K) rfl) rfl B.len bo_len (pa_cons (pv 2) pa_nil)) pa_nil))) pa_nil))))))), ?_⟩
    refine ⟨.int lot, rfl, lot, rfl, RgOk.of_le (by omega) (by omega) (by omega) (by omega), fun r nr => ?_⟩
    rw [rgV_upto]
    refine ⟨.int lot, rfl, lot, rfl, by omega, by omega, fun D hD => ?_⟩
    have nDr : D ≠ r := fun e => by rw [e, upd_same] at hD; cases hD
    have nD : H D = none := by rwa [upd_ne nDr] at hD
    refine lc_it walk_range (fun i H2 => Same H H2 ∧ ∃ os l : List Int, H2 D = some (.lst (os.map V.int)) ∧ H2 r = some (.lst (l.map V.int)) ∧ os.length = i ∧ l.length = lot - i ∧ (os ++ l).Perm (upto lot))
      ⟨same_mut (same_new nr) nD, [], upto lot, upd_same, by rw [upd_ne (Ne.symm nDr)]; exact upd_same, rfl, by rw [upto_len]; rfl, .refl _⟩ (fun _ _ _ _ => trivial) ?_ ?_
    · rintro i x H2 H3 hi ⟨s2, os, l, h1, h2, e1, e2, pm⟩ ⟨rfl, hx⟩
      refine ⟨rfl, ?_⟩
      unfold tYes; dsimp only
      rw [if_pos rfl]
      have hlt : i < lot := by
        have : i < ((lot : Int)).toNat := hi
        omega
      have hll : (l.map V.int).length = l.length := List.length_map ..
      refine ⟨.ref r, rfl, .inl ⟨rfl, _, .inl (.inl h2)⟩, .ref a, rfl, .ref r, rfl, r, _, rfl, .inl (.inl (.inl h2)), a, _, rfl, s2 _ _ ha, by rw [hll]; omega, by rw [hll]; omega, fun d H4 d0 d1 s4 => ?_⟩
      rw [hll] at d1
      have hd : d.toNat < l.length := by omega
      have hg : (l.map V.int)[d.toNat]? = some (.int l[d.toNat]) := by rw [List.getElem?_map, List.getElem?_eq_getElem hd]; rfl
      refine ⟨r, _, d, d.toNat, _, rfl, rfl, s4 _ _ h2, by omega, by omega, seqIndex_of d0 (by rw [hll]; exact d1), hg, ?_⟩
      have h1' := s4 _ _ h1
      refine ⟨os.map V.int, by rw [upd_ne nDr]; exact h1', Nat.lt_of_lt_of_le (show _ < 1000000 by rw [List.length_map]; omega) (by rw [sizeLine_eq]; decide), same_mut (same_mut (s2.trans s4) nr) nD, os ++ [l[d.toNat]], l.eraseIdx d.toNat, by rw [upd_same, List.map_append]; rfl, ?_, by rw [List.length_append, e1]; rfl, by rw [List.length_eraseIdx_of_lt hd]; omega, ?_⟩
      · rw [upd_ne (Ne.symm nDr), upd_same, erase_map]
      · rw [List.append_assoc]
        exact (List.Perm.append_left os (erase_perm l _ hd)).trans pm
    · rintro H2 ⟨s2, os, l, h1, h2, e1, e2, pm⟩
      have : l = [] := List.eq_nil_of_length_eq_zero (by omega)
      subst this
      rw [List.append_nil] at pm
      exact q D H2 os s2 nD h1 ⟨pm⟩
end
end Jc
namespace Jc
open PySem PySem.Spec L2
open PyProof.Rows hiding St
/-! ### len of an instance by its own def -/
section
variable {P : Program} {w : World} {A : Around} {E : Value → Shared → Prop} {s : Shared} {K : PySem.W.Frag} {x C f : Addr} {ox : Obj} {od : Option Obj}
theorem len_raw {Q : Value → Shared → Prop} (KX : K.In s.heap) (J : PySem.W.InstAt s.heap x ox C od) (hs : PySem.W.findIn K (.ref C) "__len__" = some (some (.ref f))) (hf : PySem.W.isFn K (.ref f) = true)
    (h : wpAny (model P w) A.in1 (call (.ref f) [.ref x]) (fun v t => ∃ (n : Nat) (u : Tok), v = .int n u ∧ n ≤ 1000000 ∧ ∀ u', Q (.int n u') { t with toks := t.toks + 1 }) E s) : wpAny (model P w) A (call (.builtin "len") [.ref x]) Q E s := by
  refine Calls.call_function_entry kind_len plain_len entry_len (args_len1 _) (?_ : wpAny _ _ (Builtin.«len» _) _ _ _)
  unfold Builtin.«len»
  refine wpAny_bind (m := oneArg "len" _) (wpAny_pure ?_)
  refine wpAny_bind (m := callSpecial? (.ref x) (Str.ofString "__len__")) (PySem.W.special_fn KX J hs (beq_iff_eq.mp hf) (wpAny_mono h (fun v t z => ?_) fun _ _ z => z))
  obtain ⟨n, u, rfl, hn, q⟩ := z
  refine wpAny_bind (wpAny_holding (wpAny_pure ?_))
  refine wpAny_bind (wpAny_letGo ?_)
  show wpAny _ _ (if (n : Int) < 0 then _ else _) _ _ _
  rw [if_neg (Int.not_lt.mpr (Int.natCast_nonneg n))]
  show wpAny _ _ (if (n : Int) ≥ 2 ^ 63 then _ else _) _ _ _
  rw [if_neg (by omega)]
  exact wpAny_bind (wpAny_mkInt (wpAny_pure ⟨_, rfl, q _⟩))
end
def rLenOwn (C : Addr) (sp : Sp) : List V → Hp → VK → Prop := fun xs H Q => ∃ a dx fs, xs = [.ref a] ∧ H a = some (.ins C dx fs) ∧ sp [.ref a] H (fun v H2 => ∃ n : Nat, v = .int n ∧ n ≤ 1000000 ∧ Q v H2) E0
theorem call_lenO {X : Cx} {C f : Addr} {k : Nat} {sp : Sp} (hs : PySem.W.findIn X.K (.ref C) "__len__" = some (some (.ref f))) (hf : PySem.W.isFn X.K (.ref f) = true) (F : FnR X.prog X.w X.K X.mg X.base CX0 k f sp) (hr : Room (k + 1) X.A) : CallR X (.builtin "len") (rLenOwn C sp) := by
  intro pins s σ H xs us Q I r h
  obtain ⟨a, dx, fs, rfl, ea, q⟩ := h
  rw [Vals.ref1 r]
  obtain ⟨mA, O, _, _, _, _⟩ := ins_get I.hok ea
  obtain ⟨od, J, _⟩ := O.look
  refine len_raw I.kIn J hs hf (wpAny_call (codeAny_mono (F X.A.in1 X.stack s H [.ref a] [.ref a] _ E0 hr.in1 I.env0.in1 (.cons rfl .nil) q) fun rs s2 z => ?_))
  match rs, z with
  | .ok .next, z => exact z.elim
  | .ok .brk, z => exact z.elim
  | .ok .cont, z => exact z.elim
  | .error _, z => exact z.elim
  | .ok (.ret u), z =>
    obtain ⟨v2, H2, I2, rv, ⟨n, e2, hn, q2⟩⟩ := I.after z
    subst e2
    obtain ⟨t, rfl⟩ := rv
    exact ⟨n, t, rfl, hn, fun u' => ⟨.int n, H2, I2.tok _, ⟨_, rfl⟩, q2⟩⟩
/-! ### o.m(a = e, ..): all parameters by their names, told from the last to the first -/
structure OwnMK (P : Program) (w : World) (K : PySem.W.Frag) (mg : Str → Option Value) (base : Heap) (C : Addr) (m : Str) (k : Nat) (ks ps : List Str) (sp : Sp) : Prop where
  ex : ∃ (f : Addr) (fd : FuncData), Meth K C m f ∧ FnOk P w K mg base CX0 k f fd ps sp ∧ ∀ (s : Shared) (u : Value) (us : List Value), us.length = ks.length → BindsTo s fd ⟨[u], ks.zip us⟩ (ps.zip (u :: us.reverse))
def tMethK (C : Addr) (m : Str) (n : Nat) (sp : Sp) (ta : TE) (tk : TA) : TE := fun σ H Q => ta σ H fun x H1 => ∃ a dx fs, x = .ref a ∧ H1 a = some (.ins C dx fs) ∧ fs.lookup m = none ∧ tk σ H1 fun zs H2 => zs.length = n ∧ sp (x :: zs.reverse) H2 Q E0
theorem vals_app {xs ys : List V} : ∀ {us ws : List Value}, Vals xs us → Vals ys ws → Vals (xs ++ ys) (us ++ ws) := by
  induction xs with
  | nil => intro us ws r1 r2; cases r1; exact r2
  | cons x xs ih =>
    intro us ws r1 r2
    cases r1 with
    | cons a b => exact .cons a (ih b r2)
theorem vals_rev : ∀ {xs : List V} {us : List Value}, Vals xs us → Vals xs.reverse us.reverse
  | [], _, r => by cases r; exact .nil
  | x :: xs, _, r => by
    cases r with
    | cons a b =>
      rw [List.reverse_cons, List.reverse_cons]
      exact vals_app (vals_rev b) (.cons a .nil)
section
variable {X : Cx} {k j : Nat} {C : Addr} {m : Str} {ks ps : List Str} {sp : Sp} {pos apos : Pos} {o : Expr} {kws : List Keyword} {ta : TE} {tk : TA}
theorem pe_omK {pl : Sem Bool} (he : PE X o ta) (c : Cls X.K C) (h : OwnMK X.prog X.w X.K X.mg X.base C m k ks ps sp) (hr : Room j X.A) (hj : k ≤ j) (hkw : PK X kws tk)
    (hall : (backToKw pos (keywordEach kws X.env)).all (·.1.isSome) = true := by rfl) (hks : (backToKw pos (keywordEach kws X.env)).filterMap (·.1) = ks := by rfl)
    (hpl : ((backTo pos (starEach [] X.env)).any (·.1) || (backToKw pos (keywordEach kws X.env)).any (·.1.isNone)) = false := by rfl)
    (ht : eval (.Call (.Attribute o m apos) [] kws pos) X.env = (eval o X.env >>= fun ov => standAt apos.atName >>= fun _ => holding [ov] (getMethod ov m pl) >>= fun r => callWith pos r.1 r.2 (backTo pos (starEach [] X.env)) (backToKw pos (keywordEach kws X.env))) := by rfl) :
    PE X (.Call (.Attribute o m apos) [] kws pos) (tMethK C m ks.length sp ta tk) := by
  obtain ⟨f, fd, hm, F, hb⟩ := h.ex
  refine ⟨fun pins s σ H Q I h => ?_⟩
  refine PySem.W.methodCall_KW (pl := pl) (thn (he.run pins s σ H _ I h) fun u s1 z => ?_) ht
  obtain ⟨x, H1, I1, rx, a, dx, fs, ex, ea, l, q⟩ := z
  subst ex
  cases rx
  refine getmeth_ok I1 ea c hm l (PySem.W.callWith_KW0 (first := [.ref a]) (h₀ := X.base) I1.ok.mod.kin hm.kp hall (thn (hkw.run pos pins s1 σ H1 _ I1 q) fun ws s2 z => ?_) hpl)
  obtain ⟨zs, H2, I2, r, l2, q2⟩ := z
  refine ⟨I2.kIn, ?_⟩
  rw [hks]
  refine wpAny_call (codeAny_mono (F.run X.A X.stack s2 H2 ⟨[.ref a], ks.zip ws⟩ (.ref a :: ws.reverse) (.ref a :: zs.reverse) Q E0 (hr.mono hj) I2.env0 (hb s2 (.ref a) ws (r.length.symm.trans l2)) (.cons rfl (vals_rev r)) q2) fun rs s3 z => ?_)
  match rs, z with
  | .ok (.ret u), z => exact I2.after z
  | .ok .next, z => exact z.elim
  | .ok .brk, z => exact z.elim
  | .ok .cont, z => exact z.elim
  | .error _, z => exact z.elim
end
/-! ### C(a = e) -/
structure OwnIK (P : Program) (w : World) (K : PySem.W.Frag) (mg : Str → Option Value) (base : Heap) (C : Addr) (k : Nat) (a : Str) (sp : Sp) : Prop where
  ex : ∃ (f : Addr) (fd : FuncData), Mk K C f ∧ FnOk P w K mg base CX0 k f fd ["self", a] sp ∧ ∀ (s : Shared) (u v : Value), BindsTo s fd ⟨[u], [(a, v)]⟩ [("self", u), (a, v)]
end Jc
namespace Jc
open PySem PySem.Spec L2
open PyProof.Rows hiding St
/-! ### o.m() of a method with a star parameter -/
section
variable {X : Cx} {k j : Nat} {C : Addr} {m : Str} {sp : Sp} {pos apos : Pos} {o : Expr} {ta : TE}
theorem pe_omS {pl : Sem Bool} (he : PE X o ta) (c : Cls X.K C) (h : OwnM X.prog X.w X.K X.mg X.base C m k sp) (hr : Room j X.A) (hj : k ≤ j)
    (ht : eval (.Call (.Attribute o m apos) [] [] pos) X.env = (eval o X.env >>= fun ov => standAt apos.atName >>= fun _ => holding [ov] (getMethod ov m pl) >>= fun r => callWith pos r.1 r.2 (backTo pos (starEach [] X.env)) (backToKw pos (keywordEach [] X.env))) := by rfl) :
    PE X (.Call (.Attribute o m apos) [] [] pos) (tMethR C m sp E0 ta tNil) := by
  obtain ⟨f, hm, G⟩ := h.ex
  refine ⟨fun pins s σ H Q I q => ?_⟩
  refine PySem.W.methodCall_KW (pl := pl) (thn (he.run pins s σ H _ I q) fun u s1 z => ?_) ht
  obtain ⟨x, H1, I1, rx, a, dx, fs, ex, ea, l, q1⟩ := z
  subst ex
  cases rx
  refine getmeth_ok I1 ea c hm l ?_
  exact PySem.W.callWith_K0 (first := [.ref a]) I1.kIn hm.kp (wpAny_call (run_fnR (us := [.ref a]) (vs := [.ref a]) G (hr.mono hj) pass0 I1 (.cons rfl .nil) q1))
end
/-! ### repr of a partition by itself -/
section
variable {P : Program} {w : World} {A : Around} {E : Value → Shared → Prop} {s : Shared} {K : PySem.W.Frag} {x C f : Addr} {ox : Obj} {od : Option Obj}
theorem bound_own {M : Model} {name : Str} {Q : Option Value → Shared → Prop} (KX : K.In s.heap) (J : PySem.W.InstAt s.heap x ox C od) (hs : PySem.W.findIn K (.ref C) name = some (some (.ref f))) (hf : PySem.W.isFn K (.ref f) = true)
    (h : wpAny M A (call (.ref f) [.ref x]) (fun v => Q (some v)) E s) : wpAny M A (callSpecialIfBound? (.ref x) name []) Q E s :=
  PySem.W.ifBound_K KX J hs hf h
theorem repr_raw {Q : Value → Shared → Prop} (hu : A.units + 1 < cLine) (KX : K.In s.heap) (J : PySem.W.InstAt s.heap x ox C od) (hs : PySem.W.findIn K (.ref C) "__repr__" = some (some (.ref f))) (hf : PySem.W.isFn K (.ref f) = true)
    (h : wpAny (model P w) A.in1 (call (.ref f) [.ref x]) (fun v t => ∃ y u, v = .str y u ∧ Q v t) E s) : wpAny (model P w) A (call (.builtin "repr") [.ref x]) Q E s := by
  refine Calls.call_function_entry F.kind_repr F.plain_repr F.entry_repr (F.args_repr1 _) (?_ : wpAny _ _ (Builtin.«repr» _) _ _ _)
  unfold Builtin.«repr»
  refine wpAny_bind (m := oneArg "repr" _) (wpAny_pure ?_)
  refine wpAny_bind (m := cRoomFor _ _) (wpAny_cRoomFor (by show A.units + 1 < cLine; exact hu) ?_)
  have sp : PySem.W.Looks (model P w) s.heap (specialOf (.ref x) "__repr__") (some (.ref f)) := J.type.andThen (PySem.W.looks_findIn KX hs)
  refine wpAny_bind (sp.here ?_)
  simp only [Option.isNone_some, Bool.false_eq_true, if_false]
  refine wpAny_bind (m := callSpecialIfBound? _ _) (bound_own KX J hs hf (wpAny_mono h (fun v t z => ?_) fun _ _ z => z))
  obtain ⟨y, u, rfl, q⟩ := z
  refine wpAny_bind (wpAny_isInstance (T := "str") (b := true) rfl isSubtype_str_str ?_)
  exact wpAny_pure ⟨_, rfl, q⟩
end
def rReprP (C : Addr) : List V → Hp → VK → Prop := fun xs H Q => ∃ (p : Addr) (c : List Int), xs = [.ref p] ∧ PartAt C H p c ∧ Q (.str (txP c)) H
theorem call_reprP {X : Cx} {C f : Addr} {fd : FuncData} (G : FnQ X.prog X.w X.K X.mg X.base 1 f fd ["self"] TupFree (spRepr C)) (hs : PySem.W.findIn X.K (.ref C) "__repr__" = some (some (.ref f))) (hf : PySem.W.isFn X.K (.ref f) = true)
    (hb : ∀ (s : Shared) (u : Value), BindsTo s fd ⟨[u], []⟩ ((["self"] : List Str).zip [u])) (hg : X.A.guards = some []) (hr : Room 2 X.A) : CallR X (.builtin "repr") (rReprP C) := by
  intro pins s σ H xs us Q I r h
  obtain ⟨p, c, rfl, hp, q⟩ := h
  rw [Vals.ref1 r]
  obtain ⟨dx, t, a1, a2⟩ := hp.ex
  obtain ⟨mA, O, _, _, _, _⟩ := ins_get I.hok a1
  obtain ⟨od, J, _⟩ := O.look
  have hu : X.A.units + 1 < cLine := by have := hr.un; omega
  refine repr_raw hu I.kIn J hs hf (wpAny_call (codeAny_mono (G.runQ X.A.in1 X.stack s H ⟨[.ref p], []⟩ [.ref p] [.ref p] (fun v H' => v = .str (txP c) ∧ H' = H) hr.in1 ⟨[], hg, fun _ _ _ => Clear.nil _⟩ I.env0.in1 (hb s _) (.cons rfl .nil) ⟨_, _, rfl, hp, rfl, rfl⟩) fun rs s2 z => ?_))
  match rs, z with
  | .ok .next, z => exact z.elim
  | .ok .brk, z => exact z.elim
  | .ok .cont, z => exact z.elim
  | .error _, z => exact z.elim
  | .ok (.ret u), z =>
    obtain ⟨v2, H2, I2, rv, e2, e3⟩ := I.after (Q := fun v H' => v = .str (txP c) ∧ H' = H) z
    subst e2 e3
    obtain ⟨t2, rfl⟩ := rv
    exact ⟨_, _, rfl, .str _, _, I2, ⟨_, rfl⟩, q⟩
/-! ### made[k] by an own def -/
section
variable {P : Program} {w : World} {A : Around} {E : Value → Shared → Prop} {s : Shared} {K : PySem.W.Frag} {x C f : Addr} {ox : Obj} {od : Option Obj}
theorem item_raw {value slice : Expr} {i : Value} {Q : Value → Shared → Prop} (KX : K.In s.heap) (J : PySem.W.InstAt s.heap x ox C od) (hs : PySem.W.findIn K (.ref C) "__getitem__" = some (some (.ref f))) (hk : PySem.W.fnIn K f = true) (hf : PySem.W.isFn K (.ref f) = true)
    (h : wpAny (model P w) A.in1 (call (.ref f) [.ref x, i]) Q E s) (hsl : subscripted slice true (.ref x) i = runValue (.builtin "lifetime.subscript" ⟨[.ref x, i], []⟩)) :
    wpAny (model P w) A (subscriptTail value slice (.ref x) i) Q E s := by
  unfold PySem.W.fnIn at hk
  split at hk
  · rename_i hkk
    unfold subscriptTail getitemInPython
    refine wpAny_bind (wpAny_bind (wpAny_bind (J.type.here ((PySem.W.looks_findIn KX hs).here ?_))))
    dsimp only
    refine wpAny_bind (wpAny_load (KX _ _ hkk) (wpAny_pure ?_))
    dsimp only
    rw [hsl]
    refine wpAny_bind (wpAny_runValue (codeAny_builtin PySem.W.entry_sub ?_))
    unfold Builtin.«lifetime.subscript»
    refine wpAny_bind (PySem.W.special_fn KX J hs (beq_iff_eq.mp hf) (wpAny_mono h (fun v t z => ?_) fun _ _ z => z))
    refine wpAny_pure ?_
    show wpAny (model P w) A (letTemporaryGo value (.ref x) v >>= fun _ => pure v) Q E t
    exact wpAny_bind (wpAny_letTemporaryGo (wpAny_pure z))
  · cases hk
end
def tItem (C : Addr) (sp : Sp) (ta tb : TE) : TE := fun σ H Q => ta σ H fun x H1 => tb σ H1 fun y H2 => ∃ a dx fs, x = .ref a ∧ H2 a = some (.ins C dx fs) ∧ sp [.ref a, y] H2 Q E0
/-- e[i] where e is an instance with an own def -/
theorem pe_item {X : Cx} {C f : Addr} {k : Nat} {sp : Sp} {a b : Expr} {ta tb : TE} {pos : Pos} (hs : PySem.W.findIn X.K (.ref C) "__getitem__" = some (some (.ref f))) (hk : PySem.W.fnIn X.K f = true) (hf : PySem.W.isFn X.K (.ref f) = true)
    (G : FnR X.prog X.w X.K X.mg X.base CX0 k f sp) (hr : Room (k + 1) X.A) (ha : PE X a ta) (hb : PE X b tb)
    (hsl : ∀ (x : Addr) (i : Value), subscripted b true (.ref x) i = runValue (.builtin "lifetime.subscript" ⟨[.ref x, i], []⟩)) : PE X (.Subscript a b pos) (tItem C sp ta tb) := by
  refine ⟨fun pins s σ H Q I h => ?_⟩
  refine Subscript_ (binT (R := fun x y H2 => ∃ a dx fs, x = .ref a ∧ H2 a = some (.ins C dx fs) ∧ sp [.ref a, y] H2 Q E0) ha hb I h fun v u s2 x y H2 I2 rx ry q => ?_)
  obtain ⟨p, dx, fs, rfl, ea, q⟩ := q
  obtain rfl : v = Value.ref p := rx
  obtain ⟨mA, O, _, _, _, _⟩ := ins_get I2.hok ea
  obtain ⟨od, J, _⟩ := O.look
  refine item_raw I2.kIn J hs hk hf (wpAny_call (codeAny_mono (G X.A.in1 X.stack s2 H2 [.ref p, u] [.ref p, y] _ E0 hr.in1 I2.env0.in1 (.cons rfl (.cons ry .nil)) q) fun rs s3 z => ?_)) (hsl p u)
  match rs, z with
  | .ok (.ret u), z => exact I2.after z
  | .ok .next, z => exact z.elim
  | .ok .brk, z => exact z.elim
  | .ok .cont, z => exact z.elim
  | .error _, z => exact z.elim
/-! ### xs[::k], k at least 1: items of xs -/
def tStep (K : PySem.W.Frag) (te : TE) : TE := fun σ H Q => te σ H fun x H1 => ∃ a xs, x = .ref a ∧ SqL K H1 a xs ∧ ∀ p zs, H1 p = none → zs.length ≤ xs.length → (∀ z ∈ zs, z ∈ xs) → Q (.ref p) (upd H1 p (.lst zs))
theorem vals_pick : ∀ (ix : List Nat) {xs : List V} {us : List Value}, Vals xs us → Vals (ix.filterMap (xs[·]?)) (ix.filterMap (us[·]?))
  | [], _, _, _ => .nil
  | i :: r, xs, us, h => by
    have ih := vals_pick r h
    have hl := h.length
    by_cases hi : i < xs.length
    · obtain ⟨u, hu, ru⟩ := h.get (List.getElem?_eq_getElem hi)
      rw [List.filterMap_cons_some (List.getElem?_eq_getElem hi), List.filterMap_cons_some hu]
      exact .cons ru ih
    · rw [List.filterMap_cons_none (List.getElem?_eq_none (by omega)), List.filterMap_cons_none (List.getElem?_eq_none (by omega))]
      exact ih
theorem pick_arr (its : List Value) (lo hi st : Option Int) : slicePick its.toArray lo hi st = (((sliceRange (sliceBounds lo hi st its.length).1 (sliceBounds lo hi st its.length).2.1 (sliceBounds lo hi st its.length).2.2).filterMap (its[·]?))).toArray := by
  unfold slicePick
  rw [List.size_toArray]
  congr 1
  refine congrArg (fun g => List.filterMap g _) (funext fun i => ?_)
  exact List.getElem?_toArray
theorem pe_step5 {X : Cx} {e : Expr} {te : TE} {k : Nat} {p1 p3 pos : Pos} (he : PE X e te) : PE X (.Subscript e (.Slice none none (some (.Constant (.int 5) k p1)) p3) pos) (tStep X.K te) := by
  refine ⟨fun pins s σ H Q I h => ?_⟩
  refine Subscript_ (thn (he.run pins s σ H _ I h) fun v s1 z => ?_)
  obtain ⟨x, H1, I1, r1, a, xs, ex, hx, q⟩ := z
  subst ex
  cases r1
  have hst : PO X (some (.Constant (.int 5) k p1)) (tPart (tC (.int 5))) := po_some pe_int
  refine wpAny_Slice (thn (po_none.run pins s1 σ H1 (fun o H2 => o = none ∧ H2 = H1) I1 ⟨rfl, rfl⟩) fun vl s2 z => ?_)
  obtain ⟨l, H2, I2, pl, el, e2⟩ := z
  subst el e2
  refine thn (po_none.run pins s2 σ H2 (fun o H3 => o = none ∧ H3 = H2) I2 ⟨rfl, rfl⟩) fun vu s3 z => ?_
  obtain ⟨u, H3, I3, pu, eu, e3⟩ := z
  subst eu e3
  refine thn (hst.run pins s3 σ H3 (fun o H4 => o = some 5 ∧ H4 = H3) I3 ⟨5, rfl, rfl, rfl⟩) fun vs s4 z => ?_
  obtain ⟨o, H4, I4, ps, eo, e4⟩ := z
  subst eo e4
  have I5 : Inv X pins σ H4 { s4 with heap := s4.heap.push { cls := .type "slice", data := .fields #[vl, vu, vs] } } := I4.kept (t' := s4.toks) fun b ob q => Heap.get?_push_of_some _ q
  obtain ⟨its, r, ht, hz⟩ := I5.list hx
  have hlen := r.length
  show wpAny (model X.prog X.w) X.A (subscriptTail e (.Slice none none (some (.Constant (.int 5) k p1)) p3) (.ref a) (.ref s4.heap.objs.size)) (EP X pins σ Q) X.xe { s4 with heap := s4.heap.push { cls := .type "slice", data := .fields #[vl, vu, vs] } }
  refine tail_any (ops := [.ref a, .ref s4.heap.objs.size]) ht.isList.typeIs (PySem.slot_list_getitem.lookup) ?_ (by with_unfolding_all rfl)
  refine wpAny_getItem_list_slice ht.isList (Heap.IsSliceOf.new _ vl vu vs) pl pu ps (by decide) ?_ (by rw [List.size_toArray]; omega)
  rw [pick_arr, ← hlen]
  generalize hix : sliceRange (sliceBounds none none (some 5) xs.length).1 (sliceBounds none none (some 5) xs.length).2.1 (sliceBounds none none (some 5) xs.length).2.2 = ix
  have hil : ix.length ≤ xs.length := by
    subst hix
    refine sliceRange_length_le _ _ _ _ (fun _ => ?_) (fun hn => ?_)
    · simp [sliceBounds]
    · exact absurd (show (sliceBounds none none (some 5) xs.length).2.2 > 0 by simp [sliceBounds]) hn
  have hzl : (ix.filterMap (xs[·]?)).length ≤ xs.length := Nat.le_trans (List.length_filterMap_le _ _) hil
  refine ⟨.ref _, _, I5.laid (t' := s4.toks) (o := .lst (ix.filterMap (xs[·]?))) (fun b ob q => Heap.get?_push_of_some _ q) (Nat.le_refl _) ?_, rfl, q _ _ (I5.hok.fresh (Nat.le_refl _)) hzl fun z hz => ?_⟩
  · exact ⟨Nat.le_trans hzl hz, _, 0, vals_pick ix r, Heap.get?_push_size _ rfl⟩
  · obtain ⟨i, _, e⟩ := List.mem_filterMap.mp hz
    exact List.mem_of_getElem? e
/-! ### a == b where b is of another kind -/
section
variable {P : Program} {w : World} {A : Around} {E : Value → Shared → Prop} {s : Shared} {K : PySem.W.Frag} {x C f : Addr} {ox : Obj} {od : Option Obj}
theorem cmp_other {b t : Value} {Q : Value → Shared → Prop} (hu : A.units < cLine) (KX : K.In s.heap) (J : PySem.W.InstAt s.heap x ox C od) (hb : PySem.W.Looks (model P w) s.heap (typeOf b) t) (hne : (Value.ref C != t) = true)
    (hsub : PySem.W.Looks (model P w) s.heap (isSubtype t (.ref C)) false) (hs : PySem.W.findIn K (.ref C) "__eq__" = some (some (.ref f))) (hf : PySem.W.isFn K (.ref f) = true) (h : wpAny (model P w) A (call (.ref f) [.ref x, b]) (PySem.W.CmpBack Q) E s) : wpAny (model P w) A (richCompare .Eq (.ref x) b) Q E s := by
  have once : wpAny (model P w) A (tryCompare (.ref x) "__eq__" b) (fun r t => ∃ v, r = some v ∧ Q v t) E s := by
    unfold tryCompare
    refine wpAny_bind (PySem.W.ifBound_K KX J hs hf (wpAny_mono h (fun v t z => ?_) fun _ _ z => z))
    cases v
    all_goals first | exact z.elim | (refine wpAny_pure ⟨_, rfl, ?_⟩; exact z)
  unfold richCompare
  simp only [oneThing_ref]
  refine wpAny_holding (wpAny_bind (wpAny_cRoomFor hu (wpAny_bind (J.type.here (wpAny_bind (hb.here ?_))))))
  rw [if_pos hne]
  refine wpAny_bind (hsub.here ?_)
  simp only [Bool.false_eq_true, if_false]
  refine wpAny_bind (wpAny_mono once (fun r t z => ?_) fun _ _ z => z)
  obtain ⟨v, rfl, q⟩ := z
  exact wpAny_pure q
end
end Jc
namespace Jc
open PySem PySem.Spec L2
open PyProof.Rows hiding St
/-! ### lists of truths and partitions: repr, != -/
abbrev MI := Bool ⊕ (Addr × List Int)
def miV : MI → V
  | .inl b => .bl b
  | .inr p => .ref p.1
def miT : MI → Str
  | .inl b => if b then "True" else "False"
  | .inr p => txP p.2
def miOk (C : Addr) (H : Hp) : MI → Prop
  | .inl _ => True
  | .inr p => PartAt C H p.1 p.2
def miEq : MI → MI → Prop
  | .inl a, .inl b => a = b
  | .inr p, .inr q => p.2 = q.2
  | _, _ => False
theorem miT_eq {m n : MI} (h : miEq m n) : miT m = miT n := by
  cases m <;> cases n <;> simp only [miEq] at h
  · rw [miT, miT, h]
  · rw [miT, miT, h]
theorem miOk.same {C : Addr} {H H2 : Hp} (s : Same H H2) : ∀ {m : MI}, miOk C H m → miOk C H2 m
  | .inl _, _ => trivial
  | .inr _, h => PartAt.same s h
theorem miT_len {C : Addr} {H : Hp} : ∀ {m : MI}, miOk C H m → (miT m).length ≤ 100
  | .inl true, _ => by decide +kernel
  | .inl false, _ => by decide +kernel
  | .inr p, h => (tx_len (PartAt.small h) (PartAt.hi h)).1
section
variable {X : Cx} {C f : Addr} {fd : FuncData} {A : Around} {pins : List (Addr × Obj)} {σ : L2.St} {H : Hp} {s : Shared} {E : Value → Shared → Prop}
theorem env_at (I : Inv X pins σ H s) (hfr : A.frames = some X.stack) : Env0 X.prog X.w X.K X.mg X.base A X.stack s H := ⟨hfr, I.env0.mod, I.env0.bs, I.env0.bsz, I.env0.funs, I.env0.frf, I.env0.hok, I.env0.bare⟩
theorem item_repr (G : FnQ X.prog X.w X.K X.mg X.base 1 f fd ["self"] TupFree (spRepr C)) (hs : PySem.W.findIn X.K (.ref C) "__repr__" = some (some (.ref f))) (hf : PySem.W.isFn X.K (.ref f) = true)
    (hb : ∀ (s : Shared) (u : Value), BindsTo s fd ⟨[u], []⟩ ((["self"] : List Str).zip [u])) (hr : Room 1 A) (hfr : A.frames = some X.stack) (tf : TupFree A H) (I : Inv X pins σ H s) {m : MI} {v : Value} (rv : RelV (miV m) v) (ok : miOk C H m) {n : Nat} (hn : n + 200 ≤ sizeLine)
    {Q : Str → Shared → Prop} (h : ∀ s2, Inv X pins σ H s2 → Q (miT m) s2) : wpAny (model X.prog X.w) A (pyReprUnder n v) Q E s := by
  cases m with
  | inl b =>
    obtain rfl : v = Value.bool b := rv
    have h1 := miT_len (C := C) (H := H) (m := .inl b) trivial
    exact ReprIs.bool b n (by show n + (miT (.inl b)).length ≤ sizeLine; omega) A E s Q fun tk => h _ (I.tok tk)
  | inr p =>
    obtain rfl : v = Value.ref p.1 := rv
    have PI : PartAt C H p.1 p.2 := ok
    obtain ⟨dx, t, a1, a2⟩ := PI.ex
    obtain ⟨mA, O, _, _, _, _⟩ := ins_get I.hok a1
    obtain ⟨od, J, _⟩ := O.look
    refine under_own (by omega) hr.units0 I.kIn J hs hf (wpAny_call (codeAny_mono (G.runQ A X.stack s H ⟨[.ref p.1], []⟩ [.ref p.1] [.ref p.1] (fun v H' => v = .str (txP p.2) ∧ H' = H) hr tf (env_at I hfr) (hb s _) (.cons rfl .nil) ⟨_, _, rfl, PI, rfl, rfl⟩) fun rs s2 z => ?_))
    match rs, z with
    | .ok .next, z => exact z.elim
    | .ok .brk, z => exact z.elim
    | .ok .cont, z => exact z.elim
    | .error _, z => exact z.elim
    | .ok (.ret u), z =>
      obtain ⟨v2, H2, I2, rv2, e2, e3⟩ := I.after (Q := fun v H' => v = .str (txP p.2) ∧ H' = H) z
      subst e2 e3
      obtain ⟨t2, rfl⟩ := rv2
      exact ⟨_, _, rfl, h _ I2⟩
theorem loop_mix (G : FnQ X.prog X.w X.K X.mg X.base 1 f fd ["self"] TupFree (spRepr C)) (hs : PySem.W.findIn X.K (.ref C) "__repr__" = some (some (.ref f))) (hf : PySem.W.isFn X.K (.ref f) = true)
    (hb : ∀ (s : Shared) (u : Value), BindsTo s fd ⟨[u], []⟩ ((["self"] : List Str).zip [u])) {a Pa : Addr} (hg : A.guards = some []) (hr : Room 2 A) {H0 : Hp} {ms : List MI}
    (ha : H0 a = some (.lst (ms.map miV))) (hp : ∀ m ∈ ms, miOk C H0 m) (n0 : H0 Pa = none) (hfr : A.frames = some X.stack) (hl : ms.length ≤ 8) {R : Result → Shared → Prop}
    (hR : ∀ H2 s2 u, Inv X pins σ H2 s2 → Same H0 H2 → R (.ok (.ret (.str (listText (ms.map miT)) u))) s2) :
    ∀ (k i : Nat) (s : Shared) (H : Hp), ms.length - i = k → i ≤ ms.length → Inv X pins σ H s → Same H0 H → H Pa = some (.lst (((ms.map miT).take i).map V.str)) →
    codeAny (model X.prog X.w) A (.builtin "list.__repr__.loop" ⟨[.ref a, rawInt i, .ref Pa, rawInt ((piled ((ms.map miT).take i) : Nat) : Int)], []⟩) R s := by
  have hne : a ≠ Pa := fun e => by rw [e, n0] at ha; cases ha
  have hbig : ∀ t ∈ (ms.map miT), t.length ≤ 100 := fun t ht => by
    obtain ⟨m, h1, rfl⟩ := List.mem_map.mp ht
    exact miT_len (hp m h1)
  have hlen : (ms.map miT).length = ms.length := List.length_map ..
  generalize htx : (ms.map miT) = txs at hbig hR hlen ⊢
  have hpl := pile_le _ hbig
  have hlt0 := list_text_len txs
  have hln : (2000 : Nat) ≤ sizeLine := le_line (by omega)
  intro k
  induction k with
  | zero =>
    intro i s H hk hi I sm hPa
    have hin : i = ms.length := by omega
    obtain ⟨its, n, rv, ea, _⟩ := I.lst (sm _ _ ha)
    obtain ⟨itp, np, rvp, ep, _⟩ := I.lst hPa
    have hil := rv.length
    rw [List.length_map] at hil
    obtain ⟨done, hd1, hd2⟩ := vals_strs rvp
    refine codeAny_builtin F.entry_list_repr_loop ?_
    show wpAny _ _ (Builtin.«list.__repr__.loop» ⟨[.ref a, .int i 0, .ref Pa, .int ((piled (txs.take i) : Nat) : Int) 0], []⟩) _ _ s
    rw [repr_loop_tree]
    refine wpAny_bind (wpAny_listItems ea rfl ?_)
    have hnone : its.toArray[(i : Int).toNat]? = none := by simp; omega
    simp only [hnone]
    unfold reprEnd
    refine wpAny_bind (wpAny_listItems ep rfl ?_)
    have e0 : itp.toArray.toList = strValues done := by rw [hd1]
    rw [e0, repr_fold]
    refine wpAny_bind (wpAny_pure ?_)
    have hall : done.map (·.1) = txs := by rw [hd2, hin, ← hlen, List.take_length]
    rw [hall]
    refine wpAny_bind (wpAny_mkStr (wpAny_pure ?_) (show (listText txs).length ≤ sizeLine by omega))
    exact hR H _ _ (I.tok _) sm
  | succ k ih =>
    intro i s H hk hi I sm hPa
    have hlt : i < ms.length := by omega
    obtain ⟨its, n, rv, ea, _⟩ := I.lst (sm _ _ ha)
    obtain ⟨v, hv, rvi⟩ := rv.get (i := i) (x := miV ms[i]) (by rw [List.getElem?_map, List.getElem?_eq_getElem hlt]; rfl)
    have ht : txs[i]? = some (miT ms[i]) := by rw [← htx]; simp [hlt]
    have hp1 := piled_take_succ ht
    have hp2 := piled_take_le txs (i + 1)
    have hb1 := hbig _ (List.mem_of_getElem? ht)
    have ok := hp _ (List.getElem_mem hlt)
    refine codeAny_builtin F.entry_list_repr_loop ?_
    show wpAny _ _ (Builtin.«list.__repr__.loop» ⟨[.ref a, .int i 0, .ref Pa, .int ((piled (txs.take i) : Nat) : Int) 0], []⟩) _ _ s
    rw [repr_loop_tree]
    refine wpAny_bind (wpAny_listItems ea rfl ?_)
    have hsome : its.toArray[(i : Int).toNat]? = some v := by simp; exact hv
    simp only [hsome]
    rw [Int.toNat_natCast]
    have tf : TupFree (A.under (.builtin "list.__repr__.loop" ⟨[.ref a, .int i 0, .ref Pa, .int ((piled (txs.take i) : Nat) : Int) 0], []⟩)) H := by
      refine ⟨[.builtin "list.__repr__.loop" _], guards_under_guard (isGuard_list_loop _) hg, fun b xs hb => (Clear.nil b).cons fun e => ?_⟩
      rw [← e, sm _ _ ha] at hb
      cases hb
    refine wpAny_bind (wpAny_holding (item_repr G hs hf hb (A := A.under _) (room_loop hr _) (frames_loop _ hfr) tf I rvi (ok.same sm) (by omega) fun s2 I2 => ?_))
    refine wpAny_bind (wpAny_mkStr ?_ (le_line (by omega)))
    refine wpAny_bind ?_
    show wpAny _ _ (updateSeq Pa _) _ _ _
    obtain ⟨itp, np, rvp, ep, _⟩ := I2.lst hPa
    have hsz : itp.toArray.size ≤ sizeLine := by
      have l1 := rvp.length
      rw [List.length_map, List.length_take] at l1
      rw [List.size_toArray]
      omega
    refine wpAny_updateSeq ep rfl (wpAny_pure ⟨F.quiet_list_repr_loop _, ?_⟩) hsz
    have e1 : ((i : Int) + 1) = ((i + 1 : Nat) : Int) := by omega
    have e2 : piled (txs.take i) + ((miT ms[i]).length + 2) = piled (txs.take (i + 1)) := by omega
    rw [e1, e2]
    have e3 : (txs.take (i + 1)).map V.str = (txs.take i).map V.str ++ [V.str (miT ms[i])] := by
      rw [List.take_add_one, ht]; simp
    refine ih (i + 1) _ (upd H Pa (.lst ((txs.take (i + 1)).map V.str))) (by omega) hlt (I2.lset (its' := itp ++ [.str (miT ms[i]) _]) hPa ep (List.push_toArray ..) (by rw [e3]; exact Vals.append rvp (.cons ⟨_, rfl⟩ .nil)) (by rw [List.length_map, List.length_take]; omega)) ?_ upd_same
    intro b o hbo
    by_cases hb : b = Pa
    · rw [hb, n0] at hbo; cases hbo
    · exact (upd_ne hb).trans (sm _ _ hbo)
end
def rReprM (C : Addr) : List V → Hp → VK → Prop := fun xs H Q => ∃ (a : Addr) (m : MI) (ms : List MI), xs = [.ref a] ∧ H a = some (.lst ((m :: ms).map miV)) ∧ (∀ q ∈ m :: ms, miOk C H q) ∧ (m :: ms).length ≤ 8 ∧
  ∀ H2, Same H H2 → Q (.str (listText ((m :: ms).map miT))) H2
theorem call_reprM {X : Cx} {C f : Addr} {fd : FuncData} (G : FnQ X.prog X.w X.K X.mg X.base 1 f fd ["self"] TupFree (spRepr C)) (hs : PySem.W.findIn X.K (.ref C) "__repr__" = some (some (.ref f))) (hf : PySem.W.isFn X.K (.ref f) = true)
    (hb : ∀ (s : Shared) (u : Value), BindsTo s fd ⟨[u], []⟩ ((["self"] : List Str).zip [u])) (hg : X.A.guards = some []) (hr : Room 4 X.A) : CallR X (.builtin "repr") (rReprM C) := by
  intro pins s σ H xs us Q I r h
  obtain ⟨a, m, ms, rfl, ha, hp, hl, q⟩ := h
  rw [Vals.ref1 r]
  obtain ⟨its, n, rv, ea, _⟩ := I.lst ha
  obtain ⟨v, its', hits⟩ : ∃ v its', its = v :: its' := by
    cases rv with
    | cons a b => exact ⟨_, _, rfl⟩
  have hTy : s.TypeIs (.ref a) "list" := ⟨_, ea, rfl⟩
  have hun := hr.units
  have hd : ({ cls := .type "list", data := .seq its.toArray n } : Obj).data = .seq (v :: its').toArray n := by rw [hits]
  have hr1 : Room 3 X.A.in1 := Room.in1 hr
  refine call_repr_slot (by omega) hTy F.slot_list_repr.toG (wpAny_call (codeAny_call_builtin F.slot_list_repr.plain F.entry_list_repr (F.slot_list_repr.check _ _ _ _ _ _ _ _ hTy (F.args_list_repr_1 _) ?_)))
  refine wpAny_list_repr_head (b := 0) (g := []) (A := X.A.in1.in1) hg (fun _ _ _ hm => nomatch hm) ea hd ?_
  refine wpAny_bind (m := newList []) (wpAny_newObj_type ?_)
  refine wpAny_pure ⟨F.quiet_list_repr_loop _, ?_⟩
  have n0 : H s.heap.objs.size = none := I.fresh
  have I1 := I.lnew (ys := []) (its := []) (t' := s.toks) .nil (Nat.zero_le _)
  refine loop_mix G hs hf hb (A := X.A.in1) hg (hr1.mono (by omega)) (pins := pins) (σ := σ) (H0 := H) (ms := m :: ms) (Pa := s.heap.objs.size) ha hp n0 (by exact I.env0.frames) hl (fun H2 s2 u I2 sm => ?_) _ 0 _ (upd H s.heap.objs.size (.lst [])) rfl (Nat.zero_le _) I1 (same_new n0) upd_same
  exact ⟨_, _, rfl, .str _, H2, I2, ⟨_, rfl⟩, q H2 sm⟩
end Jc
namespace Jc
open PySem PySem.Spec L2
open PyProof.Rows hiding St
section
open AutoSeq1 MeetsSeq MeetsSeq2 MeetsSeq3 SeqRoads2
variable {X : Cx} {C f : Addr} {k : Nat} {sp : Sp} {A : Around} {pins : List (Addr × Obj)} {σ : L2.St} {H : Hp} {s : Shared} {E : Value → Shared → Prop}
theorem item_eq (hs : PySem.W.findIn X.K (.ref C) "__eq__" = some (some (.ref f))) (hf : PySem.W.isFn X.K (.ref f) = true) (G : FnR X.prog X.w X.K X.mg X.base CX0 k f (spEqP C)) (hr : Room k A) (hfr : A.frames = some X.stack) (I : Inv X pins σ H s)
    {m n : MI} {v u : Value} (rv : RelV (miV m) v) (ru : RelV (miV n) u) (om : miOk C H m) (on : miOk C H n) (e : miEq m n) {Q : Bool → Shared → Prop} (h : ∀ s2, Inv X pins σ H s2 → Q true s2) : wpAny (model X.prog X.w) A (eqBool v u) Q E s := by
  have same : ∀ a : Value, wpAny (model X.prog X.w) A (eqBool a a) Q E s := fun a => by
    unfold eqBool
    refine wpAny_holding ?_
    rw [if_pos (by simp)]
    have q := h s I
    obtain ⟨hp, g, d, tk, os⟩ := s
    wp_walk
    exact q
  match m, n, e with
  | .inl a, .inl b, e =>
    obtain rfl : v = Value.bool a := rv
    obtain rfl : u = Value.bool b := ru
    have e2 : a = b := e
    subst e2
    exact same _
  | .inr p, .inr q, e =>
    obtain rfl : v = Value.ref p.1 := rv
    obtain rfl : u = Value.ref q.1 := ru
    by_cases hpq : p.1 = q.1
    · rw [hpq]
      exact same _
    · have PI : PartAt C H p.1 p.2 := om
      have QI : PartAt C H q.1 q.2 := on
      obtain ⟨dx, t, a1, a2⟩ := PI.ex
      obtain ⟨dy, t2, b1, b2⟩ := QI.ex
      obtain ⟨mA, O, _, _, _, _⟩ := ins_get I.hok a1
      obtain ⟨od, J, _⟩ := O.look
      obtain ⟨mB, OB, _, _, _, _⟩ := ins_get I.hok b1
      obtain ⟨od2, J2, _⟩ := OB.look
      have e2 : p.2 = q.2 := e
      have hu : A.units < cLine := by have := hr.un; omega
      unfold eqBool
      refine wpAny_holding ?_
      refine wpAny_ite_split (fun hab => absurd (by have := eq_of_beq hab; injection this) hpq) (fun _ => ?_)
      refine wpAny_bind (cmp_raw (op := .Eq) hu I.kIn J J2.type hs hf (wpAny_call (codeAny_mono (G A X.stack s H [.ref p.1, .ref q.1] [.ref p.1, .ref q.1] (fun v H' => v = .bl true ∧ H' = H) E0 hr (env_at I hfr) (.cons rfl (.cons rfl .nil)) ⟨_, _, _, _, rfl, PI, QI, by rw [decide_eq_true e2], rfl⟩) fun rs s2 z => ?_)))
      match rs, z with
      | .ok .next, z => exact z.elim
      | .ok .brk, z => exact z.elim
      | .ok .cont, z => exact z.elim
      | .error _, z => exact z.elim
      | .ok (.ret r), z =>
        obtain ⟨v2, H2, I2, rv2, e3, e4⟩ := I.after (Q := fun v H' => v = .bl true ∧ H' = H) z
        subst e3 e4
        obtain rfl : r = Value.bool true := rv2
        exact wpAny_truthy_bool (h _ I2)
theorem ne_loop_mix (hs : PySem.W.findIn X.K (.ref C) "__eq__" = some (some (.ref f))) (hf : PySem.W.isFn X.K (.ref f) = true) (G : FnR X.prog X.w X.K X.mg X.base CX0 k f (spEqP C)) {a b : Addr} {ms ns : List MI} (hl : ms.length = ns.length) (hr : Room k A.in1) (hfr : A.frames = some X.stack)
    (ha : H a = some (.lst (ms.map miV))) (hb : H b = some (.lst (ns.map miV))) (om : ∀ m ∈ ms, miOk C H m) (on : ∀ n ∈ ns, miOk C H n) (he : ∀ (i : Nat) m n, ms[i]? = some m → ns[i]? = some n → miEq m n) {R : Result → Shared → Prop}
    (hR : ∀ s2, Inv X pins σ H s2 → R (.ok (.ret (.bool false))) s2) : ∀ (d i : Nat) (s : Shared), ms.length - i = d → i ≤ ms.length → Inv X pins σ H s → codeAny (model X.prog X.w) A (.builtin "list.__eq__.loop" ⟨[.ref a, .ref b, rawInt i, rawInt 3], []⟩) R s := by
  intro d
  induction d with
  | zero =>
    intro i s hd hi I
    obtain ⟨its, n, rv, ea, _⟩ := I.lst ha
    obtain ⟨itb, n2, rvb, eb, _⟩ := I.lst hb
    have l1 := rv.length
    have l2 := rvb.length
    rw [List.length_map] at l1 l2
    refine codeAny_builtin entry_eq_loop ?_
    rw [Around.under_plainId plain_eq_loop _]
    obtain ⟨hp, g, d, tk, os⟩ := s
    wp_walk using wpAny_loadPart' ea, wpAny_loadPart' eb
    have hi1 : its.toArray[((i : Nat) : Int).toNat]? = none := by simp; omega
    have hi2 : itb.toArray[((i : Nat) : Int).toNat]? = none := by simp; omega
    rw [hi1, hi2]
    wp_walk using wpAny_loadPart' ea, wpAny_loadPart' eb
    show R (.ok (.ret (.bool (its.toArray.size != itb.toArray.size)))) _
    have e : (its.toArray.size != itb.toArray.size) = false := by simp; omega
    rw [e]
    exact hR _ I
  | succ d ih =>
    intro i s hd hi I
    have hlt : i < ms.length := by omega
    obtain ⟨its, n, rv, ea, _⟩ := I.lst ha
    obtain ⟨itb, n2, rvb, eb, _⟩ := I.lst hb
    have m1 : ms[i]? = some ms[i] := List.getElem?_eq_getElem hlt
    have m2 : ns[i]? = some (ns[i]'(hl ▸ hlt)) := List.getElem?_eq_getElem (hl ▸ hlt)
    obtain ⟨v, hv, rvi⟩ := rv.get (i := i) (x := miV ms[i]) (by rw [List.getElem?_map, m1]; rfl)
    obtain ⟨u, hu, rui⟩ := rvb.get (i := i) (x := miV (ns[i]'(hl ▸ hlt))) (by rw [List.getElem?_map, m2]; rfl)
    refine codeAny_builtin entry_eq_loop ?_
    rw [Around.under_plainId plain_eq_loop _]
    obtain ⟨hp, g, d, tk, os⟩ := s
    wp_walk using wpAny_loadPart' ea, wpAny_loadPart' eb
    have hi1 : its.toArray[((i : Nat) : Int).toNat]? = some v := by simp; exact hv
    have hi2 : itb.toArray[((i : Nat) : Int).toNat]? = some u := by simp; exact hu
    rw [hi1, hi2]
    refine wpAny_bind (item_eq hs hf G hr hfr I rvi rui (om _ (List.mem_of_getElem? m1)) (on _ (List.mem_of_getElem? m2)) (he i _ _ m1 m2) fun s2 I2 => ?_)
    obtain ⟨hp2, g2, d2, tk2, os2⟩ := s2
    wp_walk
    have hc : ((i : Int) + 1) = ((i + 1 : Nat) : Int) := by omega
    rw [hc]
    exact ⟨plainId_quiet plain_eq_loop _, ih (i + 1) _ (by omega) hlt I2⟩
end
def rNeM (C : Addr) : R2 := fun x y H Q => ∃ (a b : Addr) (ms ns : List MI), x = .ref a ∧ y = .ref b ∧ H a = some (.lst (ms.map miV)) ∧ H b = some (.lst (ns.map miV)) ∧ ms.length = ns.length ∧ (∀ m ∈ ms, miOk C H m) ∧ (∀ n ∈ ns, miOk C H n) ∧
  (∀ (i : Nat) m n, ms[i]? = some m → ns[i]? = some n → miEq m n) ∧ Q (.bl false) H
open AutoSeq1 MeetsSeq MeetsSeq2 MeetsSeq3 SeqRoads2 in
theorem op_neM {X : Cx} {C f : Addr} {k : Nat} (hs : PySem.W.findIn X.K (.ref C) "__eq__" = some (some (.ref f))) (hf : PySem.W.isFn X.K (.ref f) = true) (G : FnR X.prog X.w X.K X.mg X.base CX0 k f (spEqP C)) (hr : Room (k + 2) X.A) : OpR X (compareOp .NotEq) (rNeM C) := by
  intro pins s σ H x y v u Q I rx ry h
  obtain ⟨a, b, ms, ns, rfl, rfl, ha, hb, hl, om, on, he, q⟩ := h
  obtain rfl : v = Value.ref a := rx
  obtain rfl : u = Value.ref b := ry
  obtain ⟨its, n, rv, ea, _⟩ := I.lst ha
  obtain ⟨itb, n2, rvb, eb, _⟩ := I.lst hb
  have l1 := rv.length
  have l2 := rvb.length
  rw [List.length_map] at l1 l2
  have ta : s.TypeIs (.ref a) "list" := ⟨_, ea, rfl⟩
  have tb : s.TypeIs (.ref b) "list" := ⟨_, eb, rfl⟩
  have hun := hr.units
  refine wpAny_richCompare_same_room (op := .NotEq) ta tb F.slot_list_ne ?_ (by omega)
  refine wpAny_call (codeAny_call_builtin F.slot_list_ne.plain F.entry_list_ne (F.slot_list_ne.check _ _ _ _ _ _ _ _ ta (F.args_list_ne_2 _ _) ?_))
  have f3 := AutoSeq1.sub_list_list
  have hne : ¬ (its.toArray.size != itb.toArray.size) = true := by simp; omega
  have hR : Room (k + 1) X.A.in1 := Room.in1 hr
  obtain ⟨hp, g, d, tk, os⟩ := s
  wp_walk using wpAny_loadPart' ea, wpAny_loadPart' eb
  rw [if_neg hne]
  refine wpAny_pure ⟨plainId_quiet plain_eq_loop _, ?_⟩
  refine ne_loop_mix hs hf G hl (hR.mono (by omega)) I.env0.frames ha hb om on he (fun s2 I2 => ?_) _ 0 _ rfl (Nat.zero_le _) I
  exact ⟨(fun z => nomatch z), .bl false, H, I2, rfl, q⟩
end Jc
namespace Jc
open PySem PySem.Spec L2
open PyProof.Rows hiding St
/-! ### sorted(tuple of ints) -/
section
variable {P : Program} {w : World} {A : Around} {E : Value → Shared → Prop} {s : Shared}
theorem sort_tup {a : Addr} {its : List Value} {ns : List Int} {Q : Value → Shared → Prop} (ht : s.heap.IsTuple a its.toArray) (hi : IntsAre its ns) (hz : its.length ≤ sizeLine)
    (h : ∀ (g : Heap) (out : Array Value) (ms : List Int), (∀ b o, s.heap.get? b = some o → g.get? b = some o) → IntsAre out.toList ms → ms.Perm ns → ms.Pairwise (· ≤ ·) →
      Q (.ref g.objs.size) { s with heap := sortedHeap (g.push (seqObj "list" its.toArray 0)) g.objs.size its out }) : wpAny (model P w) A (call (.builtin "sorted") [.ref a]) Q E s := by
  obtain ⟨o, ho, hc, n, hd⟩ := ht
  refine Calls.call_function_entry kind_sorted plain_sorted entry_sorted (args_sorted1 _) (?_ : wpAny _ _ (Builtin.«sorted» _) _ _ _)
  unfold Builtin.«sorted»
  refine wpAny_bind (m := checkCount "sorted" 1 1 _) (wpAny_pure (wpAny_bind (wpAny_collect_seq a (.inr rfl) ho hc hd (fun g k => ?_) (by rw [List.size_toArray]; exact hz))))
  refine wpAny_bind (wpAny_newList ?_)
  have hg : (g.push (seqObj "list" its.toArray 0)).get? g.objs.size = some (seqObj "list" its.toArray 0) := Heap.get?_push_size _ rfl
  refine wpAny_bind (wpAny_holding (wpAny_call_entry slot_list_sort ⟨_, hg, rfl⟩ entry_list_sort (list_sort_treeAny hg hi hz fun out ms b1 b2 b3 => ⟨_, rfl, ?_⟩) (args_list_sort _)))
  exact wpAny_pure ⟨_, rfl, h g out ms k b1 b2 b3⟩
end
def rSortedTu (K : PySem.W.Frag) : List V → Hp → VK → Prop := fun vs H Q => ∃ (a : Addr) (ns : List Int), vs = [V.ref a] ∧ SqT K H a (ns.map V.int) ∧ ∀ (ms : List Int) (p : Addr), ms.Perm ns → ms.Pairwise (· ≤ ·) → H p = none → Q (.ref p) (upd H p (.lst (ms.map V.int)))
theorem cr_sortedTu {X : Cx} : CallR X (.builtin "sorted") (rSortedTu X.K) := by
  intro pins s σ H vs us Q I r h
  obtain ⟨a, ns, rfl, hs, q⟩ := h
  obtain ⟨its, rv, hl, hz⟩ := I.tuple hs
  rw [Vals.ref1 r]
  have hL : its.length ≤ sizeLine := by rw [← rv.length]; exact hz
  refine sort_tup (show s.heap.IsTuple a its.toArray from hl) rv.ints hL fun g out ms k h1 h2 h3 => ?_
  have n0 : s.heap.get? g.objs.size = none := by
    cases e : s.heap.get? g.objs.size with
    | none => rfl
    | some o => exact absurd (Heap.lt_size (k _ _ e)) (Nat.lt_irrefl _)
  have hn : H g.objs.size = none := I.hok.gone n0
  obtain ⟨ep, he⟩ := sortedHeap_at (h := g.push (seqObj "list" its.toArray 0)) (a := g.objs.size) (vs := its) (out := out) (Heap.get?_push_size _ rfl)
  have old : ∀ b o, s.heap.get? b = some o → (sortedHeap (g.push (seqObj "list" its.toArray 0)) g.objs.size its out).get? b = some o := fun b o e => by
    have l := Heap.lt_size (k _ _ e)
    rw [sortedHeap_old (Nat.ne_of_lt l) (by rw [Heap.size_push]; exact Nat.lt_succ_of_lt l)]
    exact Heap.get?_push_of_some _ (k _ _ e)
  have hlen : (ms.map V.int).length ≤ sizeLine := by rw [List.length_map, h2.length_eq]; rw [List.length_map] at hz; exact hz
  exact ⟨.ref _, upd H g.objs.size (.lst (ms.map V.int)), I.laidN (t' := s.toks) old n0 hn ⟨hlen, out.toList, ep, vals_of_ints h1, he⟩, rfl, q ms _ h2 h3 hn⟩
/-! ### groups, with all its lists new -/
structure LLF (H0 H : Hp) (q : Addr) (yss : List (List Int)) : Prop where
  ex : ∃ ys : List V, H q = some (.lst ys) ∧ ys.length = yss.length ∧ ∀ (i : Nat) y l, ys[i]? = some y → yss[i]? = some l → ∃ r, y = .ref r ∧ H r = some (.lst (l.map V.int)) ∧ H0 r = none ∧ r ≠ q
  new : H0 q = none
theorem LLF.ll {H0 H : Hp} {q : Addr} {yss : List (List Int)} (h : LLF H0 H q yss) : LL H q yss := by
  obtain ⟨ys, h1, h2, h3⟩ := h.ex
  exact ⟨ys, h1, h2, fun i y l e1 e2 => by obtain ⟨r, e, e3, _⟩ := h3 i y l e1 e2; exact ⟨r, e, e3⟩⟩
def grp (c : List Int) (M : Int) : List (List Int) := (List.range (M + 1).toNat).map fun i : Nat => members c (i : Int)
def spGroups (C : Addr) : Sp := fun vs H Q _ => ∃ (p : Addr) (c : List Int), vs = [.ref p] ∧ PartAt C H p c ∧ ∀ (q : Addr) (H2 : Hp) (M : Int), Same H H2 → M ∈ c → (∀ y ∈ c, y ≤ M) → LLF H H2 q (grp c M) → Q (.ref q) H2
/-- gone, its list new -/
def spGoneF (C : Addr) : Sp := fun vs H Q _ => ∃ (p : Addr) (c : List Int), vs = [.ref p] ∧ PartAt C H p c ∧ ∀ (q : Addr) (H2 : Hp), Same H H2 → H q = none → H2 q = some (.lst ((members c (-1)).map V.int)) → Q (.ref q) H2
def spGet (C : Addr) : Sp := fun vs H Q _ => ∃ (p : Addr) (c : List Int) (i : Nat) (m : Int), vs = [.ref p, .int (i : Int)] ∧ PartAt C H p c ∧ c[i]? = some m ∧ ∀ H2, Same H H2 → Q (.int m) H2
section
variable {P : Program} {w : World} {K : PySem.W.Frag} {mg : Str → Option Value} {base : Heap} {f C : Addr} {fd : FuncData} {t1 : Tok}
abbrev s_alike : Stmt := inClass (topS 13) 15
abbrev N_alike : List Str := ["self", "holders", "found", "holder", "number"]
theorem sc_alike : FnScope N_alike ["self", "holders"] (defScope s_alike) := ⟨rfl, rfl, rfl, by decide +kernel, rfl, by decide +kernel, by decide +kernel⟩
theorem ok_alike (F : Fun K "is_alike" "Partition.is_alike" s_alike f fd) (B : Blt mg) (T : PCf K mg C) (G : TxP mg t1) (c_chold : OwnK P w K mg base "_check_holders" 3 ["classes", "holders"] (spHold K)) : FnR P w K mg base CX0 4 f (spAlike C) := by
  refine FnR.imp (star_mk (sp := spAlikeT K C) F sc_alike (fun _ _ _ _ _ _ _ => rfl) (fun _ _ _ _ _ _ _ _ _ => rfl) (k := 3) fun cdv A outer s H vs Q E hr h => ?_) fun vs H Q E h => ?_
  · obtain ⟨p, b, c, ts, rfl, hp, hb, hz, hi, q⟩ := h
    obtain ⟨⟨dx, t, h1, h2⟩, lo, h8, nu⟩ := hp
    refine ⟨_, (pss_cons (ps_expr (pe_ownk c_chold hr (by decide) (pa_cons (pe_fld (pv 0) rfl) (pa_cons (pv 1) pa_nil))))
      (pss_cons (ps_set (i := 2) sc_alike.nd rfl (.inr rfl) (pe_lc (own := [("holder", 3)]) (g := gName 3) rfl sc_alike.nd (pi_tup (pv 1)) (blkOk_by (own := [("holder", 3)]) (N := N_alike) (sc := defScope s_alike) (by decide +kernel)) (fun _ _ _ _ _ => pg_name (i := 3) sc_alike.nd rfl (.inl rfl)) (fun _ _ _ _ _ => pts_nil) (fun _ _ _ _ _ => (pe_ix (ixt_K (K := K) rfl) (pe_fldK (K := K) rfl (pv 0)) (pv 3) (fun _ _ => rfl)))))
      (pss_one (ps_ret (pe_and (pe_cmpR op_notIn_seq (pe_glob (v := .int (-1)) rfl G.GONE ⟨_, rfl⟩) (pv 2) rfl) (pe_one (pe_callB (cr_all rfl) rfl B.all bo_all (pa_cons (pe_lc (own := [("number", 4)]) (g := gName 4) rfl sc_alike.nd (pi_list (pv 2)) (blkOk_by (own := [("number", 4)]) (N := N_alike) (sc := defScope s_alike) (by decide +kernel)) (fun _ _ _ _ _ => pg_name (i := 4) sc_alike.nd rfl (.inl rfl)) (fun _ _ _ _ _ => pts_nil) (fun _ _ _ _ _ => (pe_cmpR op_eq (pv 4) (pe_ix (ixl_K (K := K) rfl) (pv 2) pe_int (fun _ _ => rfl)) (nomark _)))) pa_nil)))))))), ?_⟩
    refine ⟨.ref p, rfl, p, C, dx, _, .ref t, rfl, h1, T.cl, T.na, rfl, .ref b, rfl, t, b, c, ts, rfl, .inl (.inl h2), .inr (.inl (.inl hb)), hi, fun H2 s2 => ?_⟩
    refine ⟨.ref b, rfl, b, rfl, ⟨_, .inl (.inl (s2 _ _ hb))⟩, fun D hD => ?_⟩
    have hl : (pick c ts).length = ts.length := by unfold pick; simp
    refine lc_sel walk_tup (fun i => ((pick c ts).map V.int)[i]?) (by rw [List.length_map]; omega) hD (fun H3 z => .inl (.inl (z _ _ (s2 _ _ hb)))) ?_ ?_
    · rintro i x H3 H4 k kn hi' z ⟨rfl, hx⟩ ky kk
      obtain ⟨h, hh, rfl⟩ := get_ints hx
      obtain ⟨g0, g1⟩ := hi h (List.mem_of_getElem? hh)
      have s3 := s2.trans z
      have hc : c[h.toNat]? = some (c.getD h.toNat 0) := by
        rw [List.getD_eq_getElem?_getD, List.getElem?_eq_getElem (show h.toNat < c.length by omega)]
        rfl
      have e := at_ints hc
      rw [Int.toNat_of_nonneg g0] at e
      refine ⟨rfl, ?_⟩
      refine iteT (B := kn H4) ⟨.ref p, rfl, p, C, dx, _, .ref t, rfl, s3 _ _ h1, T.cl, T.na, rfl, .int h, rfl, t, _, h, _, rfl, rfl, .inl (.inl (s3 _ _ h2)), e, ky _ _ ?_ (Same.refl _)⟩
      rw [List.getElem?_map, pick, List.getElem?_map, hh]
      rfl
    · intro H3 z hD2
      have e : (ts.map V.int).length = ((pick c ts).map V.int).length := by rw [List.length_map, List.length_map, hl]
      rw [e, range_get] at hD2
      have s3 := s2.trans z
      refine ⟨.ref D, rfl, D, _, rfl, .inl (.inl (.inl hD2)), rfl, flat_ints _, _, rfl, ?_⟩
      rw [if_pos (rfl : true = true), inV_ints]
      by_cases hg : (-1 : Int) ∈ pick c ts
      · refine iteNS hg ?_
        have q0 := q H3 s3
        unfold alikeB at q0
        rw [decide_eq_true hg] at q0
        exact q0
      · refine iteNT hg ?_
        have q0 := fun H4 (s4 : Same H3 H4) => q H4 (s3.trans s4)
        unfold alikeB at q0
        rw [decide_eq_false hg] at q0
        generalize pick c ts = fs at hD2 hl q0
        refine ⟨.ref D, rfl, D, rfl, ⟨_, .inl (.inl hD2)⟩, fun D2 nD2 => ?_⟩
        refine lc_sel walk_list (fun i => ((fs.map fun n => decide (n = fs.headD 0)).map V.bl)[i]?) (by rw [List.length_map]; omega) nD2 (fun H4 y => .inl (.inl (y _ _ hD2))) ?_ ?_
        · rintro i x H4 H5 k kn hi' y ⟨rfl, hx⟩ ky kk
          obtain ⟨n, hn, rfl⟩ := get_ints hx
          have h0 : fs[0]? = some (fs.headD 0) := by
            cases fs with
            | nil => simp at hn
            | cons a r => rfl
          refine ⟨rfl, ?_⟩
          refine iteT (B := kn H5) ⟨.int n, rfl, .ref D, rfl, D, _, 0, _, rfl, rfl, .inl (.inl (y _ _ hD2)), at_ints (i := 0) h0, rfl, ky _ _ ?_ (Same.refl _)⟩
          rw [List.getElem?_map, List.getElem?_map, hn]
          show some (V.bl (decide (n = fs.headD 0))) = some (V.bl (decide (V.int n = V.int (fs.headD 0))))
          congr 2
          exact decide_eq_decide.mpr ⟨fun z => congrArg V.int z, V.int.inj⟩
        · intro H4 y hD4
          have e2 : (fs.map V.int).length = ((fs.map fun n => decide (n = fs.headD 0)).map V.bl).length := by simp
          rw [e2, range_get] at hD4
          exact ⟨D2, _, rfl, .inl (.inl hD4), q0 H4 y⟩
  · obtain ⟨p, c, ts, rfl, hp, hz, hi, q⟩ := h
    exact ⟨[.ref p], ts.map V.int, rfl, rfl, le_line (by rw [List.length_map]; omega), fun t nt => ⟨p, t, c, ts, rfl, hp.put nt, upd_same, hz, hi, fun H2 s2 => q H2 ((same_new nt).trans s2)⟩⟩
abbrev s_groups : Stmt := inClass (topS 13) 16
abbrev N_groups : List Str := ["self", "number"]
theorem sc_groups : FnScope N_groups ["self"] (defScope s_groups) := ⟨rfl, rfl, rfl, by decide +kernel, rfl, by decide +kernel, by decide +kernel⟩
theorem ok_groups (F : Fun K "groups" "Partition.groups" s_groups f fd) (B : Blt mg) (T : PCf K mg C) (c_members : OwnK P w K mg base "_members" 1 ["classes", "number"] (spMem K)) : FnOk P w K mg base CX0 2 f fd ["self"] (spGroups C) := by
  refine F.ok sc_groups (fun vs H Q E h => ?_) (fun cdv A outer s H vs Q E hr h => ?_)
  · obtain ⟨p, c, rfl, _⟩ := h
    rfl
  · obtain ⟨p, c, rfl, hp, q⟩ := h
    obtain ⟨⟨dx, t, h1, h2⟩, lo, h8, nu⟩ := hp
    refine ⟨_, (pss_one (ps_ret (pe_lc (own := [("number", 1)]) (g := gName 1) rfl sc_groups.nd (pi_range1 rfl B.range (pa_cons (pe_op op_add (pe_callB (cr_maxT rfl) rfl B.max bo_max (pa_cons (pe_fld (pv 0) rfl) pa_nil)) pe_int) pa_nil)) (blkOk_by (own := [("number", 1)]) (N := N_groups) (sc := defScope s_groups) (by decide +kernel)) (fun _ _ _ _ _ => pg_name (i := 1) sc_groups.nd rfl (.inl rfl)) (fun _ _ _ _ _ => pts_nil) (fun _ _ _ _ _ => (pe_ownk c_members hr (by decide) (pa_cons (pe_fldK (K := K) rfl (pv 0)) (pa_cons (pv 1) pa_nil))))))), ?_⟩
    refine ⟨.ref p, rfl, p, C, dx, _, .ref t, rfl, h1, T.cl, T.na, rfl, t, c, rfl, .inl (.inl h2), by omega, fun M hM hmax => ?_⟩
    have hb : -1 ≤ M ∧ M < c.length := num_small (nu.symm ▸ hM)
    refine ⟨M, 1, rfl, rfl, M + 1, rfl, by omega, by omega, fun D hD => ?_⟩
    refine lc_rel walk_range (fun i y H2 => ∃ r, y = .ref r ∧ r ≠ D ∧ H2 r = some (.lst ((members c (i : Int)).map V.int)) ∧ H r = none) (by omega) hD (fun i y H H2 k r => ?_) (fun _ _ => trivial) ?_ ?_
    · obtain ⟨a, e, n, z, y⟩ := r
      exact ⟨a, e, n, k a _ n z, y⟩
    · rintro i x H3 H4 k hi s3 ⟨ys, hy⟩ ⟨rfl, rfl⟩ kk
      refine ⟨rfl, .ref p, rfl, p, C, dx, _, .ref t, rfl, s3 _ _ h1, T.cl, T.na, rfl, .int (0 + (i : Int)), rfl, t, c, 0 + (i : Int), rfl, .inl (.inl (s3 _ _ h2)), by omega, fun r H5 s5 nr h5 => kk _ _ s5 ⟨r, rfl, ?_, ?_, ?_⟩⟩
      · rintro rfl
        rw [hy] at nr
        cases nr
      · rw [Int.zero_add] at h5
        exact h5
      · cases e : H r with
        | none => rfl
        | some o => rw [s3 _ _ e] at nr; cases nr
    · intro ys H3 hl hR s3 hy
      refine q D H3 M s3 hM hmax ⟨⟨ys, hy, by rw [hl, grp, List.length_map, List.length_range], fun i y l e1 e2 => ?_⟩, hD⟩
      obtain ⟨r, e, n, hr3, hr4⟩ := hR i y e1
      refine ⟨r, e, ?_, hr4, n⟩
      rw [grp, List.getElem?_map] at e2
      cases e4 : (List.range (M + 1).toNat)[i]? with
      | none => rw [e4] at e2; cases e2
      | some j =>
        rw [e4] at e2
        have hj : j = i := by
          obtain ⟨h6, h7⟩ := List.getElem?_eq_some_iff.mp e4
          rw [List.getElem_range] at h7
          exact h7.symm
        subst hj
        have e5 := Option.some.inj e2
        rw [← e5]
        exact hr3
theorem ok_goneF (F : Fun K "gone" "Partition.gone" s_gone f fd) (T : PCf K mg C) (G : TxP mg t1) (c_members : OwnK P w K mg base "_members" 1 ["classes", "number"] (spMem K)) : FnOk P w K mg base CX0 2 f fd ["self"] (spGoneF C) := by
  refine F.ok sc_gone (fun vs H Q E h => ?_) (fun cdv A outer s H vs Q E hr h => ?_)
  · obtain ⟨p, c, rfl, _⟩ := h
    rfl
  · obtain ⟨p, c, rfl, hp, q⟩ := h
    obtain ⟨⟨dx, t, h1, h2⟩, lo, hi, nu⟩ := hp
    refine ⟨_, (pss_one (ps_ret (pe_ownk c_members hr (by decide) (pa_cons (pe_fld (pv 0) rfl) (pa_cons (pe_glob (v := .int (-1)) rfl G.GONE ⟨_, rfl⟩) pa_nil))))), ?_⟩
    refine ⟨.ref p, rfl, p, C, dx, _, .ref t, rfl, h1, T.cl, T.na, rfl, ?_⟩
    exact ⟨t, c, -1, rfl, .inl (.inl h2), by omega, fun r H2 s2 nr h3 => q r H2 s2 nr h3⟩
abbrev s_geti : Stmt := inClass (topS 13) 6
abbrev N_geti : List Str := ["self", "holder"]
theorem sc_geti : FnScope N_geti ["self", "holder"] (defScope s_geti) := ⟨rfl, rfl, rfl, by decide +kernel, rfl, by decide +kernel, by decide +kernel⟩
theorem ok_geti (F : Fun K "__getitem__" "Partition.__getitem__" s_geti f fd) (T : PCf K mg C) (c_chold : OwnK P w K mg base "_check_holders" 3 ["classes", "holders"] (spHold K)) : FnOk P w K mg base CX0 4 f fd ["self", "holder"] (spGet C) := by
  refine F.ok sc_geti (fun vs H Q E h => ?_) (fun cdv A outer s H vs Q E hr h => ?_)
  · obtain ⟨p, c, i, m, rfl, _⟩ := h
    rfl
  · obtain ⟨p, c, i, m, rfl, hp, hm, q⟩ := h
    obtain ⟨⟨dx, t, h1, h2⟩, lo, h8, nu⟩ := hp
    have hi : i < c.length := (List.getElem?_eq_some_iff.mp hm).1
    refine ⟨_, (pss_cons (ps_expr (pe_ownk c_chold hr (by decide) (pa_cons (pe_fld (pv 0) rfl) (pa_cons (pe_lst (pa_cons (pv 1) pa_nil)) pa_nil)))) (pss_one (ps_ret (pe_ix ix_tup (pe_fld (pv 0) rfl) (pv 1) (fun _ _ => rfl))))), ?_⟩
    refine ⟨.ref p, rfl, p, C, dx, _, .ref t, rfl, h1, T.cl, T.na, rfl, .int i, rfl, le_line (by show (1 : Nat) ≤ 1000000; decide), fun b nb => ?_⟩
    have s1 : Same H (upd H b (.lst [.int i])) := same_new nb
    refine ⟨t, b, c, [(i : Int)], rfl, .inl (.inl (s1 _ _ h2)), .inl (.inl (.inl upd_same)), fun h hh => by rw [List.mem_singleton.mp hh]; omega, fun H2 s2 => ?_⟩
    have s3 := s1.trans s2
    exact ⟨.ref p, rfl, p, C, dx, _, .ref t, rfl, s3 _ _ h1, T.cl, T.na, rfl, .int i, rfl, t, _, _, .int m, rfl, rfl, .inl (.inl (s3 _ _ h2)), at_ints hm, q H2 s3⟩
end
end Jc
namespace Jc
open PySem PySem.Spec L2
open PyProof.Rows hiding St
/-! ### the same defs where a tuple is handed over; == with values of other kinds -/
def spNumT (K : PySem.W.Frag) : Sp := fun vs H Q _ => ∃ (a : Addr) (ms : List Int), vs = [.ref a] ∧ SqT K H a (ms.map V.int) ∧ ms.length ≤ 1000 ∧ ∀ (p : Addr) (H2 : Hp), Same H H2 → H p = none → H2 p = some (.lst ((num ms).map V.int)) → Q (.ref p) H2
def spAreT (K : PySem.W.Frag) : Sp := fun vs H Q _ => ∃ (a : Addr) (ms : List Int), vs = [.ref a] ∧ H a = some (.tup (ms.map V.int)) ∧ 1 ≤ ms.length ∧ ms.length ≤ 8 ∧ ∀ H2, Same H H2 → Q (.bl (decide (num ms = ms))) H2
def spInitT (C : Addr) : Sp := fun vs H Q _ => ∃ (x dx a : Addr) (c : List Int), vs = [.ref x, .ref a] ∧ H x = some (.ins C dx []) ∧ H a = some (.tup (c.map V.int)) ∧ 1 ≤ c.length ∧ c.length ≤ 8 ∧ num c = c ∧
  ∀ (t : Addr) (H2 : Hp), H2 x = some (.ins C dx [("_classes", .ref t)]) → H2 t = some (.tup (c.map V.int)) → (∀ b o, b ≠ x → H b = some o → H2 b = some o) → Q .non H2
def spOrderT : Sp := fun vs H Q _ => ∃ (a : Addr) (n : Nat) (os : List Int), vs = [.ref a, .int (n : Int)] ∧ H a = some (.tup (os.map V.int)) ∧ n ≤ 8 ∧ os.Perm (upto n) ∧ ∀ H2, Same H H2 → Q (.bl true) H2
def spRenT (C : Addr) : Sp := fun vs H Q _ => ∃ (p o : Addr) (c os : List Int), vs = [.ref p, .ref o] ∧ PartAt C H p c ∧ H o = some (.tup (os.map V.int)) ∧ os.Perm (upto c.length) ∧ ∀ (q : Addr) (H2 : Hp), Same H H2 → PartAt C H2 q (num (pick c os)) → Q (.ref q) H2
/-- what is no partition -/
structure NoP (K : PySem.W.Frag) (C : Addr) (H : Hp) (v : V) : Prop where
  ex : ∃ t, TyX K H v t ∧ PySem.W.kitOne K t (.ref C) = some false ∧ (Value.ref C != t) = true ∧ PySem.W.subIn K t (.ref C) = some false
def spEqO (K : PySem.W.Frag) (C : Addr) : Sp := fun vs H Q _ => ∃ (p : Addr) (v : V) (c : List Int), vs = [.ref p, v] ∧ PartAt C H p c ∧ NoP K C H v ∧ Q (.bl false) H
section
variable {P : Program} {w : World} {K : PySem.W.Frag} {mg : Str → Option Value} {base : Heap} {f C : Addr} {fd : FuncData} {t1 : Tok}
theorem ok_numberedT (F : Fun K "numbered" "numbered" s_numbered f fd) (B : Blt mg) (T : TxP mg t1) : FnOk P w K mg base CX0 1 f fd ["marks"] (spNumT K) := by
  refine F.ok sc_numbered (fun vs H Q E h => ?_) (fun cdv A outer s H vs Q E hr h => ?_)
  · obtain ⟨a, ms, rfl, _⟩ := h
    rfl
  · obtain ⟨a, ms, rfl, ha, hl, q⟩ := h
    refine ⟨_, (pss_cons (ps_set (i := 1) sc_numbered.nd rfl (.inr rfl) (pe_lst pa_nil))
      (pss_cons (ps_for PassesOwn.never rfl (pi_tup (pv 0)) (pg_name (i := 2) sc_numbered.nd rfl (.inl rfl)) (pss_one (ps_if (PW.pt (pw_and (pt_cmpR op_ne (pv 2) (pe_glob (v := .int (-1)) rfl T.GONE ⟨_, rfl⟩) (nomark _)) (pw_and1 (pt_cmpR op_notIn_seq (pv 2) (pv 1) rfl)))) (pss_one (ps_expr (pe_bm PySem.F.plainAttrs_list PySem.F.slot_list_append PySem.F.type_list_append mt_append (pv 1) (pa_cons (pv 2) pa_nil)))) pss_nil)))
      (pss_one (ps_ret (pe_lc (own := [("mark", 2)]) (g := gName 2) rfl sc_numbered.nd (pi_tup (pv 0)) (blkOk_by (own := [("mark", 2)]) (N := N_numbered) (sc := defScope s_numbered) (by decide +kernel)) (fun _ _ _ _ _ => pg_name (i := 2) sc_numbered.nd rfl (.inl rfl)) (fun _ _ _ _ _ => pts_nil) (fun _ _ _ _ _ => (pe_ifExp (pt_cmpR op_eq (pv 2) (pe_glob (v := .int (-1)) rfl T.GONE ⟨_, rfl⟩) (nomark _)) (pe_glob (v := .int (-1)) rfl T.GONE ⟨_, rfl⟩) (pe_bmK (K := K) rfl PySem.F.plainAttrs_list PySem.F.slot_list_index PySem.F.type_list_index (index_K (K := K) rfl) (pv 1) (pa_cons (pv 2) pa_nil))))))))), ?_⟩
    refine ⟨le_line (by decide), fun L nL => ?_⟩
    refine ⟨_, rfl, a, rfl, ⟨_, seqT (same_new nL) ha⟩, for_it walk_tup (fun i σ H2 => ∃ y, σ = [some (.ref a), some (.ref L), y] ∧ Same H H2 ∧ H2 L = some (.lst (((ms.take i).foldl toldF []).map V.int))) ⟨_, rfl, same_new nL, upd_same⟩ (fun _ _ _ _ z => by obtain ⟨_, _, s2, _⟩ := z; exact seqT s2 ha) ?_ ?_⟩
    · rintro i x σ H1 H2 hi ⟨y, rfl, s1, hL⟩ ⟨rfl, hx⟩
      obtain ⟨m, hm, rfl⟩ := get_ints hx
      refine ⟨.int m, rfl, rfl, _, rfl, ?_⟩
      have e : (ms.take (i + 1)).foldl toldF [] = toldF ((ms.take i).foldl toldF []) m := told_take ms i hm
      by_cases c1 : m = -1
      · refine iteNS (congrArg V.int c1) (iteF ⟨_, rfl, s1, ?_⟩)
        rw [e, toldF, if_neg (fun z => z.1 c1)]
        exact hL
      · refine iteNT (fun z => c1 (V.int.inj z)) ⟨.int m, rfl, .ref L, rfl, ⟨L, _, rfl, .inl (.inl (.inl hL)), rfl, flat_ints _, _, rfl, ?_⟩⟩
        rw [if_pos (rfl : true = true), inV_ints]
        by_cases c2 : m ∈ (ms.take i).foldl toldF []
        · refine iteNS c2 ⟨_, rfl, s1, ?_⟩
          rw [e, toldF, if_neg (fun z => z.2 c2)]
          exact hL
        · have hz := told_short ms i
          refine iteNT c2 ⟨.ref L, rfl, .inl ⟨rfl, _, .inl (.inl hL)⟩, .int m, rfl, L, _, _, rfl, rfl, hL, ?_, ?_⟩
          · rw [List.length_map]
            exact Nat.lt_of_lt_of_le (show _ < 1000000 by omega) (by rw [sizeLine_eq]; decide)
          · refine ⟨_, rfl, same_mut s1 nL, ?_⟩
            rw [upd_same, e, toldF, if_pos ⟨c1, c2⟩, List.map_append]
            rfl
    · rintro σ H2 ⟨y, rfl, s2, hL⟩
      rw [List.length_map, List.take_length] at hL
      refine ⟨_, rfl, a, rfl, ⟨_, seqT s2 ha⟩, fun D hD => ?_⟩
      refine lc_sel walk_tup (fun i => ((num ms).map V.int)[i]?) (by rw [List.length_map]; omega) hD (fun H3 z => seqT (s2.trans z) ha) ?_ ?_
      · rintro i x H3 H4 k kn hi z ⟨rfl, hx⟩ ky kk
        obtain ⟨m, hm, rfl⟩ := get_ints hx
        have e : ((num ms).map V.int)[i]? = some (.int (numOf (told ms) m)) := by rw [List.getElem?_map, num_at hm]; rfl
        refine ⟨rfl, ?_⟩
        refine iteT (B := kn H4) ?_
        refine ⟨.int m, rfl, rfl, _, rfl, ?_⟩
        by_cases c1 : m = -1
        · refine iteDT (congrArg V.int c1) (ky _ _ ?_ (Same.refl _))
          rw [e, numOf, if_pos c1]
        · have hmem : m ∈ told ms := told_mem.mpr ⟨List.mem_of_getElem? hm, c1⟩
          obtain ⟨i1, i2⟩ := idx_ints hmem
          refine iteDF (fun z => c1 (V.int.inj z)) ⟨.ref L, rfl, .inl ⟨rfl, _, .inl (.inl (z _ _ hL))⟩, .int m, rfl, L, _, .int m, (told ms).idxOf m, .int m, rfl, rfl, .inl (.inl (z _ _ hL)), rfl, flat_ints _, i1, (by show (m == m) = true; exact beq_self_eq_true m), i2, ?_⟩
          refine ky _ _ ?_ (Same.refl _)
          rw [e, numOf, if_neg c1]
      · intro H3 z hD2
        refine q D H3 (s2.trans z) (s2.free hD) ?_
        rw [hD2]
        have e : (ms.map V.int).length = ((num ms).map V.int).length := by rw [List.length_map, List.length_map, num_len]
        rw [e, range_get]
theorem ok_areclsT (F : Fun K "are_classes" "are_classes" s_arecls f fd) (B : Blt mg) (T : PCf K mg C) (c_is_integer : OwnK P w K mg base "is_integer" 1 ["value"] spInt) (c_numbered : OwnK P w K mg base "numbered" 1 ["marks"] (spNumT K)) :
    FnOk P w K mg base CX0 2 f fd ["value"] (spAreT K) := by
  refine F.ok sc_arecls (fun vs H Q E h => ?_) (fun cdv A outer s H vs Q E hr h => ?_)
  · obtain ⟨a, ms, rfl, _⟩ := h
    rfl
  · obtain ⟨a, ms, rfl, ha, l1, l8, q⟩ := h
    obtain ⟨mm, mu, crd, cvl⟩ := T.rd
    have hu := hr.units
    refine ⟨_, (pss_cons (ps_if (PW.pt (pw_or (pt_not (pt_val (pe_callB call_isiT rfl B.isinstance bo_isinstance (pa_cons (pv 0) (pa_cons (pe_tup (pa_cons (pe_bltn (v := .ty "list") rfl B.list bo_list rfl) (pa_cons (pe_bltn (v := .ty "tuple") rfl B.tuple bo_tuple rfl) pa_nil))) pa_nil))))) (pw_or1 (pt_not (pt_chain op_le op_le pe_int (pe_callB call_len_seq rfl B.len bo_len (pa_cons (pv 0) pa_nil)) (ClX.pe_cval (pe_glob (v := .ref C) rfl T.mc rfl))))))) (pss_one (ps_ret pe_bl)) pss_nil)
      (pss_cons (ps_if (pt_not (pt_val (pe_callB (cr_all rfl) rfl B.all bo_all (pa_cons (pe_lc (own := [("number", 1)]) (g := gName 1) rfl sc_arecls.nd (pi_tup (pv 0)) (blkOk_by (own := [("number", 1)]) (N := N_arecls) (sc := defScope s_arecls) (by decide +kernel)) (fun _ _ _ _ _ => pg_name (i := 1) sc_arecls.nd rfl (.inl rfl)) (fun _ _ _ _ _ => pts_nil) (fun _ _ _ _ _ => (pe_ownk c_is_integer hr (by decide) (pa_cons (pv 1) pa_nil)))) pa_nil)))) (pss_one (ps_ret pe_bl)) pss_nil)
      (pss_one (ps_ret (pe_cmpR (op_eqD hu) (pe_ownk c_numbered hr (by decide) (pa_cons (pv 0) pa_nil)) (pe_callTy call_list_of rfl B.list bo_list (pa_cons (pv 0) pa_nil)) (nomark _)))))), ?_⟩
    refine ⟨.ref a, rfl, two_le, fun tp ntp => ?_⟩
    have s1 : Same H (upd H tp (.tup [.ty "list", .ty "tuple"])) := same_new ntp
    refine ⟨.ref a, tp, _, (.type "tuple"), [.type "list", .type "tuple"], true, rfl, upd_same, .cons (.ty "list") (.cons (.ty "tuple") .nil), .base (.tup (s1 _ _ ha)), kitAny_cons (b := false) (kit_ty (by decide +kernel)) (fun _ => kitAny_cons (b := true) (kit_ty (by decide +kernel)) (fun z => nomatch z) (fun _ => rfl)) (fun z => nomatch z), ?_⟩
    refine ⟨true, rfl, ?_⟩
    generalize upd H tp (.tup [.ty "list", .ty "tuple"]) = H1 at s1
    refine iteF ?_
    refine ⟨.ref a, rfl, a, _, rfl, .inr (.inl (.inl (s1 _ _ ha))), _, _, rfl, rfl, _, rfl, ?_⟩
    have hlen : (ms.map V.int).length = ms.length := List.length_map ..
    rw [hlen]
    refine iteDT (by omega) ⟨C, mm, _, mu, rfl, crd, cvl, ⟨_, _, rfl, rfl, _, rfl, iteNS (by omega) ?_⟩⟩
    refine ⟨.ref a, rfl, a, rfl, ⟨_, .inl (.inl (s1 _ _ ha))⟩, fun D hD => ?_⟩
    refine lc_sel walk_tup (fun i => ((List.replicate ms.length true).map V.bl)[i]?) (by rw [hlen]; omega) hD (fun H3 z => .inl (.inl (z _ _ (s1 _ _ ha)))) ?_ ?_
    · rintro i x H3 H4 k kn hi z ⟨rfl, hx⟩ ky kk
      obtain ⟨m, hm, rfl⟩ := get_ints hx
      refine ⟨rfl, ?_⟩
      refine iteT (B := kn H4) ⟨.int m, rfl, m, rfl, ky _ _ ?_ (Same.refl _)⟩
      rw [List.map_replicate, List.getElem?_replicate, if_pos (by rw [hlen] at hi; exact hi)]
    · intro H3 z hD2
      have e : (ms.map V.int).length = ((List.replicate ms.length true).map V.bl).length := by simp
      rw [e, range_get] at hD2
      refine ⟨D, _, rfl, .inl (.inl hD2), ?_⟩
      have e2 : (List.replicate ms.length true).all id = true := by
        rw [List.all_eq_true]
        intro x hx
        exact (List.mem_replicate.mp hx).2
      rw [e2]
      refine ⟨true, rfl, iteF ?_⟩
      have s3 : Same H H3 := s1.trans z
      refine ⟨.ref a, rfl, a, ms, rfl, .inl (.inl (s3 _ _ ha)), by omega, fun p H4 s4 np h4 => ?_⟩
      refine ⟨.ref a, rfl, a, _, rfl, .inr (.inl (.inl (s4 _ _ (s3 _ _ ha)))), fun l nl => ?_⟩
      refine ⟨dI (num ms), dI ms, dp_ints ((same_new nl) _ _ h4), dp_ints upd_same, PySem.W.shaped_ints _, PySem.W.shaped_ints _, ?_⟩
      rw [eqv_ints]
      exact q _ (s3.trans (s4.trans (same_new nl)))
theorem ok_initT (F : Fun K "__init__" "Partition.__init__" s_init f fd) (B : Blt mg) (T : PCf K mg C) (c_arecls : OwnK P w K mg base "are_classes" 2 ["value"] (spAreT K)) : FnOk P w K mg base CX0 3 f fd ["self", "classes"] (spInitT C) := by
  refine F.ok sc_init (fun vs H Q E h => ?_) (fun cdv A outer s H vs Q E hr h => ?_)
  · obtain ⟨x, dx, a, c, rfl, _⟩ := h
    rfl
  · obtain ⟨x, dx, a, c, rfl, hx, ha, l1, l8, hn, q⟩ := h
    refine ⟨_, (pss_cons (ps_if (pt_not (pt_val (pe_ownk c_arecls hr (by decide) (pa_cons (pv 1) pa_nil)))) (pss_one ps_never) pss_nil) (pss_one (ps_fld (pv 0) (pe_callTy call_tuple_of rfl B.tuple bo_tuple (pa_cons (pv 1) pa_nil)) rfl))), ?_⟩
    refine ⟨.ref a, rfl, a, c, rfl, ha, l1, l8, fun H2 s2 => ⟨_, rfl, iteNS hn ?_⟩⟩
    refine ⟨.ref a, rfl, a, _, rfl, .inr ⟨.inl (.inl (s2 _ _ ha)), ⟨.ref x, rfl, x, C, dx, [], rfl, s2 _ _ hx, T.cl, T.na, by decide, ?_⟩⟩⟩
    have hxa : a ≠ x := fun e => by
      rw [e, hx] at ha
      cases ha
    refine q a _ upd_same ?_ (fun b o hb e => ?_)
    · rw [upd_ne hxa]
      exact s2 _ _ ha
    · rw [upd_ne hb]
      exact s2 _ _ e

theorem ok_orderT (F : Fun K "_is_order" "_is_order" s_order f fd) (B : Blt mg) (c_is_integer : OwnK P w K mg base "is_integer" 1 ["value"] spInt) : FnOk P w K mg base CX0 2 f fd ["value", "many"] spOrderT := by
  refine F.ok sc_order (fun vs H Q E h => ?_) (fun cdv A outer s H vs Q E hr h => ?_)
  · obtain ⟨a, n, os, rfl, _⟩ := h
    rfl
  · obtain ⟨a, n, os, rfl, ha, hn, hp, q⟩ := h
    have hu := hr.units
    have hol : os.length = n := by
      have := hp.length_eq
      rwa [upto, List.length_map, List.length_range] at this
    refine ⟨_, (pss_cons (ps_if (PW.pt (pw_or (pt_not (pt_val (pe_callB call_isiT rfl B.isinstance bo_isinstance (pa_cons (pv 0) (pa_cons (pe_tup (pa_cons (pe_bltn (v := .ty "list") rfl B.list bo_list rfl) (pa_cons (pe_bltn (v := .ty "tuple") rfl B.tuple bo_tuple rfl) pa_nil))) pa_nil))))) (pw_or1 (pt_not (pt_val (pe_callB (cr_all rfl) rfl B.all bo_all (pa_cons (pe_lc (own := [("holder", 2)]) (g := gName 2) rfl sc_order.nd (pi_tup (pv 0)) (blkOk_by (own := [("holder", 2)]) (N := N_order) (sc := defScope s_order) (by decide +kernel)) (fun _ _ _ _ _ => pg_name (i := 2) sc_order.nd rfl (.inl rfl)) (fun _ _ _ _ _ => pts_nil) (fun _ _ _ _ _ => (pe_ownk c_is_integer hr (by decide) (pa_cons (pv 2) pa_nil)))) pa_nil))))))) (pss_one (ps_ret pe_bl)) pss_nil)
      (pss_one (ps_ret (pe_cmpR (op_eqD hu) (pe_callB cr_sortedTu rfl B.sorted bo_sorted (pa_cons (pv 0) pa_nil)) (pe_listRg rfl rfl B.list (prg_1 rfl B.range (pv 1))) (nomark _))))), ?_⟩
    refine ⟨.ref a, rfl, two_le, fun tp ntp => ?_⟩
    have s1 : Same H (upd H tp (.tup [.ty "list", .ty "tuple"])) := same_new ntp
    refine ⟨.ref a, tp, _, (.type "tuple"), [.type "list", .type "tuple"], true, rfl, upd_same, .cons (.ty "list") (.cons (.ty "tuple") .nil), .base (.tup (s1 _ _ ha)), kitAny_cons (b := false) (kit_ty (by decide +kernel)) (fun _ => kitAny_cons (b := true) (kit_ty (by decide +kernel)) (fun z => nomatch z) (fun _ => rfl)) (fun z => nomatch z), ?_⟩
    refine ⟨true, rfl, ?_⟩
    generalize upd H tp (.tup [.ty "list", .ty "tuple"]) = H1 at s1
    refine iteF ?_
    refine ⟨.ref a, rfl, a, rfl, ⟨_, .inl (.inl (s1 _ _ ha))⟩, fun D hD => ?_⟩
    refine lc_sel walk_tup (fun i => ((List.replicate os.length true).map V.bl)[i]?) (by rw [List.length_map]; omega) hD (fun H3 z => .inl (.inl (z _ _ (s1 _ _ ha)))) ?_ ?_
    · rintro i x H3 H4 k kn hi z ⟨rfl, hx⟩ ky kk
      obtain ⟨m, hm, rfl⟩ := get_ints hx
      refine ⟨rfl, ?_⟩
      refine iteT (B := kn H4) ⟨.int m, rfl, m, rfl, ky _ _ ?_ (Same.refl _)⟩
      rw [List.map_replicate, List.getElem?_replicate, if_pos (by rw [List.length_map] at hi; exact hi)]
    · intro H3 z hD2
      have e : (os.map V.int).length = ((List.replicate os.length true).map V.bl).length := by simp
      rw [e, range_get] at hD2
      refine ⟨D, _, rfl, .inl (.inl hD2), ?_⟩
      have e2 : (List.replicate os.length true).all id = true := by
        rw [List.all_eq_true]
        intro x hx
        exact (List.mem_replicate.mp hx).2
      rw [e2]
      refine ⟨true, rfl, iteF ?_⟩
      have s3 : Same H H3 := s1.trans z
      refine ⟨.ref a, rfl, a, os, rfl, .inl (.inl (s3 _ _ ha)), fun ns r hpn hs nr => ?_⟩
      have en := sorted_upto (hpn.trans hp) hs
      subst en
      refine ⟨.int n, rfl, n, rfl, RgOk.of_le (by omega) (by omega) (by omega) (by omega), fun l nl => ?_⟩
      rw [rgV_upto]
      refine ⟨dI (upto n), dI (upto n), dp_ints ((same_new nl) _ _ upd_same), dp_ints upd_same, PySem.W.shaped_ints _, PySem.W.shaped_ints _, ?_⟩
      rw [eqv_ints, decide_eq_true rfl]
      exact q _ (s3.trans ((same_new nr).trans (same_new nl)))

theorem ok_renT (F : Fun K "renamed" "Partition.renamed" s_ren f fd) (B : Blt mg) (T : PCf K mg C) (c_order : OwnK P w K mg base "_is_order" 2 ["value", "many"] spOrderT) (c_numbered : OwnK P w K mg base "numbered" 1 ["marks"] (spNum K)) (M : OwnI P w K mg base C 3 (spInit K C)) :
    FnOk P w K mg base CX0 5 f fd ["self", "order"] (spRenT C) := by
  refine F.ok sc_ren (fun vs H Q E h => ?_) (fun cdv A outer s H vs Q E hr h => ?_)
  · obtain ⟨p, o, c, os, rfl, _⟩ := h
    rfl
  · obtain ⟨p, o, c, os, rfl, hp, ho, hpm, k⟩ := h
    obtain ⟨⟨dx, t, a1, a2⟩, lo, hi, nu⟩ := hp
    have hol : os.length = c.length := by
      have := hpm.length_eq
      rwa [upto, List.length_map, List.length_range] at this
    have hin : ∀ h ∈ os, 0 ≤ h ∧ h < (c.length : Int) := fun h hh => by
      have := hpm.mem_iff.mp hh
      unfold upto at this
      obtain ⟨i, hi, rfl⟩ := List.mem_map.mp this
      rw [List.mem_range] at hi
      omega
    have hpl : (pick c os).length = c.length := by unfold pick; rw [List.length_map, hol]
    refine ⟨_, (pss_cons (ps_if (pt_not (pt_val (pe_ownk c_order hr (by decide) (pa_cons (pv 1) (pa_cons (pe_callB call_len_seq rfl B.len bo_len (pa_cons (pe_fld (pv 0) rfl) pa_nil)) pa_nil))))) (pss_one ps_never) pss_nil)
      (pss_one (ps_ret (pe_oi M hr (by decide) T.mc (pa_cons (pe_ownk c_numbered hr (by decide) (pa_cons (pe_lc (own := [("holder", 2)]) (g := gName 2) rfl sc_ren.nd (pi_tup (pv 1)) (blkOk_by (own := [("holder", 2)]) (N := N_ren) (sc := defScope s_ren) (by decide +kernel)) (fun _ _ _ _ _ => pg_name (i := 2) sc_ren.nd rfl (.inl rfl)) (fun _ _ _ _ _ => pts_nil) (fun _ _ _ _ _ => (pe_ix (ixt_K (K := K) rfl) (pe_fldK (K := K) rfl (pv 0)) (pv 2) (fun _ _ => rfl)))) pa_nil)) pa_nil))))), ?_⟩
    refine ⟨.ref o, rfl, .ref p, rfl, p, C, dx, _, .ref t, rfl, a1, T.cl, T.na, rfl, t, _, rfl, .inr (.inl (.inl a2)), ?_⟩
    rw [List.length_map]
    refine ⟨o, c.length, os, rfl, ho, hi, hpm, fun H2 s2 => ⟨true, rfl, iteF ?_⟩⟩
    refine ⟨.ref o, rfl, o, rfl, ⟨_, .inl (.inl (s2 _ _ ho))⟩, fun D hD => ?_⟩
    refine lc_sel walk_tup (fun i => ((pick c os).map V.int)[i]?) (by rw [List.length_map]; omega) hD (fun H3 z => .inl (.inl (z _ _ (s2 _ _ ho)))) ?_ ?_
    · rintro i x H3 H4 kf kn hi' z ⟨rfl, hx⟩ ky kk
      obtain ⟨h, hh, rfl⟩ := get_ints hx
      obtain ⟨g0, g1⟩ := hin h (List.mem_of_getElem? hh)
      have s3 := s2.trans z
      have hc : c[h.toNat]? = some (c.getD h.toNat 0) := by
        rw [List.getD_eq_getElem?_getD, List.getElem?_eq_getElem (show h.toNat < c.length by omega)]
        rfl
      refine ⟨rfl, ?_⟩
      refine iteT (B := kn H4) ⟨.ref p, rfl, p, C, dx, _, .ref t, rfl, s3 _ _ a1, T.cl, T.na, rfl, .int h, rfl, t, _, h, _, rfl, rfl, .inl (.inl (s3 _ _ a2)), at_int2 (i := h.toNat) (by omega) hc, ky _ _ ?_ (Same.refl _)⟩
      rw [List.getElem?_map, pick, List.getElem?_map, hh]
      rfl
    · intro H3 z hD2
      have e : (os.map V.int).length = ((pick c os).map V.int).length := by rw [List.length_map, List.length_map, hpl, hol]
      rw [e, range_get] at hD2
      have s3 := s2.trans z
      refine ⟨D, _, rfl, .inl (.inl hD2), by omega, fun r H4 s4 _ h4 => ?_⟩
      exact mk_of h4 (by rw [num_len]; omega) (by rw [num_len]; omega) (num_num _) fun y H5 s5 _ hy => k y H5 (s3.trans (s4.trans s5)) hy
theorem ok_eqO (F : Fun K "__eq__" "Partition.__eq__" s_eq f fd) (B : Blt mg) (T : PCf K mg C) : FnOk P w K mg base CX0 1 f fd ["self", "other"] (spEqO K C) := by
  refine F.ok sc_eq (fun vs H Q E h => ?_) (fun cdv A outer s H vs Q E hr h => ?_)
  · obtain ⟨p, v, c, rfl, _⟩ := h
    rfl
  · obtain ⟨p, v, c, rfl, hp, hv, k⟩ := h
    have hu := hr.units
    obtain ⟨t, ty, kt, _, _⟩ := hv.ex
    refine ⟨_, (pss_one (ps_ret (pe_and (pe_callB call_isi rfl B.isinstance bo_isinstance (pa_cons (pv 1) (pa_cons (pe_glob (v := .ref C) rfl T.mc rfl) pa_nil))) (pe_one (pe_cmpR (op_eqD hu) (pe_fld (pv 0) rfl) (pe_fld (pv 1) rfl) (nomark _)))))), ?_⟩
    exact ⟨v, rfl, v, .ref C, t, _, false, rfl, .own C, ty, kt, false, rfl, iteF k⟩
end
/-- a == v where v is no partition -/
def rEqO (K : PySem.W.Frag) (C : Addr) : R2 := fun x y H Q => ∃ (a : Addr) (c : List Int), x = .ref a ∧ PartAt C H a c ∧ NoP K C H y ∧ Q (.bl false) H
theorem op_eqO {X : Cx} {C f : Addr} {k : Nat} (hs : PySem.W.findIn X.K (.ref C) "__eq__" = some (some (.ref f))) (hf : PySem.W.isFn X.K (.ref f) = true) (G : FnR X.prog X.w X.K X.mg X.base CX0 k f (spEqO X.K C)) (hr : Room k X.A) : OpR X (compareOp .Eq) (rEqO X.K C) := by
  intro pins s σ H x y v u Q I rx ry h
  obtain ⟨a, c, rfl, hp, hy, q⟩ := h
  obtain rfl : v = Value.ref a := rx
  obtain ⟨t, ty, kt, ne, su⟩ := hy.ex
  obtain ⟨dx, t0, a1, a2⟩ := hp.ex
  obtain ⟨mA, O, _, _, _, _⟩ := ins_get I.hok a1
  obtain ⟨od, J, _⟩ := O.look
  obtain ⟨Ph, Z, hPh, _⟩ := kit_of I ry ty
  have hu : X.A.units < cLine := by have := hr.un; omega
  refine cmp_other hu I.kIn J (Z.ty _ _ I.kIn hPh) ne (PySem.W.looks_subIn I.kIn su) hs hf (wpAny_call (codeAny_mono (G X.A X.stack s H [.ref a, u] [.ref a, y] (fun v H' => v = .bl false ∧ H' = H) E0 hr I.env0 (.cons rfl (.cons ry .nil)) ⟨_, _, _, rfl, hp, hy, rfl, rfl⟩) fun rs s2 z => ?_))
  match rs, z with
  | .ok .next, z => exact z.elim
  | .ok .brk, z => exact z.elim
  | .ok .cont, z => exact z.elim
  | .error _, z => exact z.elim
  | .ok (.ret r), z =>
    obtain ⟨v2, H2, I2, rv, e1, e2⟩ := I.after (Q := fun v H' => v = .bl false ∧ H' = H) z
    subst e1 e2
    obtain rfl : r = Value.bool false := rv
    exact ⟨.bl false, _, I2, rfl, q⟩
end Jc
namespace Jc
open PySem PySem.Spec L2
open PyProof.Rows hiding St
/-! ### deeds -/
inductive Deed where
  | copied (a b : Nat)
  | fresh (ts : List Int)
  | without (ts : List Int)
  | renamed (os : List Int)
def In (n : Nat) (ts : List Int) : Prop := ∀ h ∈ ts, 0 ≤ h ∧ h < (n : Int)
def RowAt (H : Hp) (t : Addr) (wd : Str) (ts : List Int) : Prop := ∃ r, H t = some (.tup [.str wd, .ref r]) ∧ H r = some (.lst (ts.map V.int))
def DeedAt (H : Hp) (t : Addr) (n : Nat) : Deed → Prop
  | .copied a b => H t = some (.tup [.str "copied", .int (a : Int), .int (b : Int)]) ∧ a < n ∧ b < n
  | .fresh ts => RowAt H t "fresh" ts ∧ In n ts ∧ ts.length ≤ 1000
  | .without ts => RowAt H t "without" ts ∧ In n ts ∧ ts.length ≤ 1000
  | .renamed os => RowAt H t "renamed" os ∧ Ord n os
def Few : Deed → Prop
  | .fresh ts => ts.length ≤ 3
  | .without ts => ts.length ≤ 3
  | _ => True
theorem RowAt.same {H H2 : Hp} {t : Addr} {wd : Str} {ts : List Int} (s : Same H H2) (h : RowAt H t wd ts) : RowAt H2 t wd ts := by
  obtain ⟨r, a, b⟩ := h
  exact ⟨r, s _ _ a, s _ _ b⟩
theorem DeedAt.same {H H2 : Hp} {t : Addr} {n : Nat} (s : Same H H2) : ∀ {d : Deed}, DeedAt H t n d → DeedAt H2 t n d
  | .copied _ _, h => ⟨s _ _ h.1, h.2⟩
  | .fresh _, h => ⟨h.1.same s, h.2⟩
  | .without _, h => ⟨h.1.same s, h.2⟩
  | .renamed _, h => ⟨h.1.same s, h.2⟩
def marksF (bs : List Int) (m : Int) : Deed → List Int
  | .copied a b => marked bs [(a : Int)] (gv bs b)
  | .fresh ts => marked bs ts m
  | .without ts => marked bs ts (-1)
  | .renamed os => pick bs os
def classF (c : List Int) : Deed → List Int
  | .copied a b => marked c [(a : Int)] (gv c b)
  | .fresh ts => marked c ts (c.length : Int)
  | .without ts => marked c ts (-1)
  | .renamed os => pick c os
def DeedOk (n : Nat) : Deed → Prop
  | .copied a b => a < n ∧ b < n
  | .fresh ts => In n ts
  | .without ts => In n ts
  | .renamed os => Ord n os
theorem DeedAt.ok {H : Hp} {t : Addr} {n : Nat} : ∀ {d : Deed}, DeedAt H t n d → DeedOk n d
  | .copied _ _, h => h.2
  | .fresh _, h => h.2.1
  | .without _, h => h.2.1
  | .renamed _, h => h.2
theorem marksF_len {bs : List Int} {m : Int} : ∀ {d : Deed}, DeedOk bs.length d → (marksF bs m d).length = bs.length
  | .copied _ _, _ => marked_len _ _ _
  | .fresh _, _ => marked_len _ _ _
  | .without _, _ => marked_len _ _ _
  | .renamed _, h => by
    show (pick _ _).length = _
    rw [pick, List.length_map]
    exact Ord.len h
theorem pick_at {c ts : List Int} {i : Nat} {y : Int} (h : (pick c ts)[i]? = some y) : ∃ k, ts[i]? = some k ∧ y = c.getD k.toNat 0 := by
  unfold pick at h
  rw [List.getElem?_map] at h
  cases e : ts[i]? with
  | none => rw [e] at h; cases h
  | some k => rw [e] at h; exact ⟨k, rfl, (Option.some.inj h).symm⟩
theorem getD_in {c : List Int} {i : Nat} (h : i < c.length) : c[i]? = some (c.getD i 0) := by
  rw [List.getD_eq_getElem?_getD, List.getElem?_eq_getElem h]
  rfl
theorem num_pick {bs os : List Int} (h : In bs.length os) : num (pick (num bs) os) = num (pick bs os) := by
  refine num_cong (by simp [pick]) fun i j a b c d h1 h2 h3 h4 => ?_
  obtain ⟨k, e1, rfl⟩ := pick_at h1
  obtain ⟨k2, e2, rfl⟩ := pick_at h2
  obtain ⟨l, e3, rfl⟩ := pick_at h3
  obtain ⟨l2, e4, rfl⟩ := pick_at h4
  rw [e1] at e2
  rw [e3] at e4
  cases e2
  cases e4
  have r1 := h k (List.mem_of_getElem? e1)
  have r2 := h l (List.mem_of_getElem? e3)
  have g1 := getD_in (c := bs) (i := k.toNat) (by omega)
  have g2 := getD_in (c := bs) (i := l.toNat) (by omega)
  have n1 := num_at g1
  have n2 := num_at g2
  rw [List.getD_eq_getElem?_getD, n1, List.getD_eq_getElem?_getD (l := num bs), n2]
  exact ⟨numOf_inj (List.mem_of_getElem? g1) (List.mem_of_getElem? g2), numOf_gone⟩
/-- the classes behind a deed are those of the marks behind it -/
theorem deed_num {bs : List Int} {m : Int} (hm : m ∉ bs) (hg : m ≠ -1) : ∀ {d : Deed}, DeedOk bs.length d → num (classF (num bs) d) = num (marksF bs m d)
  | .copied a b, h => by
    show num (marked (num bs) [(a : Int)] (gv (num bs) b)) = num (marked bs [(a : Int)] (gv bs b))
    rw [gv_num]
    exact num_copied (k := b) (gv_in h.2)
  | .fresh ts, h => by
    show num (marked (num bs) ts ((num bs).length : Int)) = num (marked bs ts m)
    rw [num_len]
    exact num_fresh hm hg
  | .without ts, h => num_gone
  | .renamed os, h => num_pick (Ord.range h)
theorem marked_mem {bs ts : List Int} {m x : Int} (h : x ∈ marked bs ts m) : x ∈ bs ∨ x = m := by
  obtain ⟨i, hi⟩ := List.getElem?_of_mem h
  obtain ⟨y, e, rfl⟩ := marked_at hi
  split
  · exact .inr rfl
  · exact .inl (List.mem_of_getElem? e)
theorem marksF_mem {bs : List Int} {m x : Int} : ∀ {d : Deed}, DeedOk bs.length d → x ∈ marksF bs m d → x ∈ bs ∨ x = m ∨ x = -1
  | .copied a b, h, hx => by
    rcases marked_mem hx with z | z
    · exact .inl z
    · subst z
      exact .inl (List.mem_of_getElem? (gv_in h.2))
  | .fresh ts, h, hx => by
    rcases marked_mem hx with z | z
    · exact .inl z
    · exact .inr (.inl z)
  | .without ts, h, hx => by
    rcases marked_mem hx with z | z
    · exact .inl z
    · exact .inr (.inr z)
  | .renamed os, h, hx => by
    obtain ⟨i, hi⟩ := List.getElem?_of_mem hx
    obtain ⟨k, e, rfl⟩ := pick_at hi
    have r := Ord.range h k (List.mem_of_getElem? e)
    exact .inl (List.mem_of_getElem? (getD_in (c := bs) (i := k.toNat) (by omega)))
theorem cut_ints (os : List Int) (lo hi : Option Int) : ∃ a b : Nat, cutV (os.map V.int) lo hi = (((os.drop a).take b).map V.int) ∧ b = HT.sIx os.length os.length hi - HT.sIx os.length 0 lo := by
  refine ⟨HT.sIx os.length 0 lo, _, ?_, rfl⟩
  unfold cutV
  rw [List.length_map, List.map_take, List.map_drop]
/-- the row of a deed is new -/
def RowNew (H H2 : Hp) (t : Addr) : Prop := ∀ (x : V) (r : Addr), H2 t = some (.tup [x, .ref r]) → H r = none
def spDeed : Sp := fun vs H Q _ => ∃ (a : Addr) (lot : Nat), vs = [.ref a, .int (lot : Int)] ∧ Pot H a ∧ 1 ≤ lot ∧ lot ≤ 8 ∧ ∀ (t : Addr) (d : Deed) (H2 : Hp), Same H H2 → DeedAt H2 t lot d → Few d → RowNew H H2 t → Q (.ref t) H2
section
variable {P : Program} {w : World} {K : PySem.W.Frag} {mg : Str → Option Value} {base : Heap} {f C : Addr} {fd : FuncData} {t1 : Tok}
abbrev s_deed : Stmt := topS 32
abbrev N_deed : List Str := ["_law_pot_here", "_law_lot", "_law_way", "_law_row_here"]
theorem sc_deed : FnScope N_deed ["_law_pot_here", "_law_lot"] (defScope s_deed) := ⟨rfl, rfl, rfl, by decide +kernel, rfl, by decide +kernel, by decide +kernel⟩
theorem ok_deed (F : Fun K "_law_deed" "_law_deed" s_deed f fd) (B : Blt mg) (c_draw : Own P w K mg base "_law_draw" 1 ["_law_pot_here", "_law_lot"] spDraw) (c_pick : Own P w K mg base "_law_pick" 2 ["_law_pot_here", "_law_some"] (spPick K)) (c_row : Own P w K mg base "_law_row" 2 ["_law_pot_here", "_law_lot"] spRow) : FnG P w K mg base 3 f fd ["_law_pot_here", "_law_lot"] spDeed := by
  refine fnG_of F sc_deed (fun vs H Q E h => ?_) (fun us hl => ?_) (fun cdv A outer s H vs Q hr hq h => ?_)
  · obtain ⟨a, lot, rfl, _⟩ := h
    rfl
  · match us, hl with
    | [_, _], _ => rfl
  · obtain ⟨a, lot, rfl, ha, l1, l8, q⟩ := h
    refine ⟨_, (pss_cons (ps_par (i := 2) (j := 3) rfl sc_deed.nd rfl rfl (by decide) rfl rfl (pa_cons (pe_own c_draw hr hq (by decide) (pa_cons (pv 0) (pa_cons pe_int pa_nil))) (pa_cons (pe_own c_row hr hq (by decide) (pa_cons (pv 0) (pa_cons (pv 1) pa_nil))) pa_nil)) rfl)
      (pss_cons (ps_if (pt_cmpR op_lt (pv 2) pe_int (nomark _)) (pss_one (ps_ret (pe_tup (pa_cons pe_str (pa_cons (pe_ix ix_list (pv 3) pe_int (fun _ _ => rfl)) (pa_cons (pe_ix ix_list (pv 3) (pe_own c_draw hr hq (by decide) (pa_cons (pv 0) (pa_cons (pv 1) pa_nil))) (fun _ _ => rfl)) pa_nil)))))) pss_nil)
      (pss_cons (ps_if (pt_cmpR op_lt (pv 2) pe_int (nomark _)) (pss_one (ps_ret (pe_tup (pa_cons pe_str (pa_cons (pe_slice sl_list (pv 3) po_none (po_some (pe_own c_pick hr hq (by decide) (pa_cons (pv 0) (pa_cons (pe_lst (pa_cons pe_int (pa_cons pe_int (pa_cons pe_int (pa_cons pe_int (pa_cons pe_int (pa_cons pe_int pa_nil))))))) pa_nil))))) pa_nil))))) pss_nil)
      (pss_one (ps_ret (pe_ifExp (pt_cmpR op_eq (pv 2) pe_int (nomark _)) (pe_tup (pa_cons pe_str (pa_cons (pe_slice sl_list (pv 3) po_none (po_some (pe_own c_pick hr hq (by decide) (pa_cons (pv 0) (pa_cons (pe_lst (pa_cons pe_int (pa_cons pe_int (pa_cons pe_int (pa_cons pe_int (pa_cons pe_int pa_nil)))))) pa_nil))))) pa_nil))) (pe_tup (pa_cons pe_str (pa_cons (pv 3) pa_nil))))))))), ?_⟩
    refine ⟨.ref a, rfl, a, 8, rfl, ha, by decide, by decide, fun way H1 w0 w1 s1 => ?_⟩
    refine ⟨.ref a, rfl, .int lot, rfl, a, lot, rfl, s1 _ _ ha, l1, l8, fun r H2 os s2 nr h2 od => ⟨_, _, rfl, ?_⟩⟩
    have s12 := s1.trans s2
    have ha2 := s12 _ _ ha
    have hol := od.len
    have rng := od.range
    have g0 : atI (os.map V.int) 0 = some (.int (at_ os 0 : Int)) := at_ints (i := 0) (od.get (by omega))
    have r0 := od.lt (i := 0) (by omega)
    refine ⟨.int way, rfl, _, _, rfl, rfl, _, rfl, ite2 (fun hc => ?_) (fun hc => ?_)⟩
    · refine ⟨.ref r, rfl, r, _, 0, _, rfl, rfl, .inl (.inl h2), g0, .ref r, rfl, .ref a, rfl, .int lot, rfl, a, lot, rfl, ha2, by omega, by omega, fun d H3 d0 d1 s3 => ?_⟩
      have gd : atI (os.map V.int) d = some (.int (at_ os d.toNat : Int)) := at_int2 (i := d.toNat) (by omega) (od.get (by omega))
      have rd := od.lt (i := d.toNat) (by omega)
      refine ⟨r, _, d, _, rfl, rfl, .inl (.inl (s3 _ _ h2)), gd, le_line (by show (3 : Nat) ≤ 1000000; decide), fun t nt => ?_⟩
      exact q t (.copied (at_ os 0) (at_ os d.toNat)) _ (s12.trans (s3.trans (same_new nt))) ⟨upd_same, r0, rd⟩ trivial (fun x r e => by rw [upd_same] at e; cases e)
    · refine ⟨.int way, rfl, _, _, rfl, rfl, _, rfl, ite2 (fun hc2 => ?_) (fun hc2 => ?_)⟩
      · refine ⟨.ref r, rfl, .ref a, rfl, le_line (by show (6 : Nat) ≤ 1000000; decide), fun l nl => ?_⟩
        have s3 := s12.trans (same_new (o := .lst [.int 0, .int 1, .int 1, .int 2, .int 2, .int 3]) nl)
        refine ⟨a, l, _, rfl, s3 _ _ ha, .inl (.inl upd_same), by show (0 : Nat) < 6; decide, by show (6 : Nat) ≤ 1000; decide, fun j v H4 hv s4 => ?_⟩
        obtain ⟨n, rfl, n3⟩ : ∃ n : Nat, v = .int (n : Int) ∧ n ≤ 3 := by
          match j, hv with
          | 0, hv => exact ⟨0, (Option.some.inj hv).symm, by decide⟩
          | 1, hv => exact ⟨1, (Option.some.inj hv).symm, by decide⟩
          | 2, hv => exact ⟨1, (Option.some.inj hv).symm, by decide⟩
          | 3, hv => exact ⟨2, (Option.some.inj hv).symm, by decide⟩
          | 4, hv => exact ⟨2, (Option.some.inj hv).symm, by decide⟩
          | 5, hv => exact ⟨3, (Option.some.inj hv).symm, by decide⟩
        obtain ⟨x, y, ec, ey⟩ := cut_ints os none (some (n : Int))
        rw [HT.sIx_nat, HT.sIx_none] at ey
        have h4 := s4 _ _ (same_new (o := .lst [.int 0, .int 1, .int 1, .int 2, .int 2, .int 3]) nl _ _ h2)
        refine ⟨_, rfl, r, _, rfl, .inl (.inl h4), fun p np => ?_⟩
        rw [ec]
        refine ⟨two_le, fun t nt => ?_⟩
        refine q t (.fresh ((os.drop x).take y)) _ (s3.trans (s4.trans ((same_new np).trans (same_new nt)))) ⟨⟨p, upd_same, same_new nt _ _ upd_same⟩, fun h hh => rng h (List.mem_of_mem_drop (List.mem_of_mem_take hh)), ?_⟩ ?_ ?_
        · rw [List.length_take]; omega
        · show ((os.drop x).take y).length ≤ 3
          rw [List.length_take]; omega
        · intro z r e
          rw [upd_same] at e
          cases e
          exact (s3.trans s4).free np
      · refine ⟨.int way, rfl, rfl, _, rfl, ?_⟩
        by_cases h6 : way = 6
        · refine iteDT (congrArg V.int h6) ?_
          refine ⟨.ref r, rfl, .ref a, rfl, le_line (by show (5 : Nat) ≤ 1000000; decide), fun l nl => ?_⟩
          have s3 := s12.trans (same_new (o := .lst [.int 0, .int 1, .int 1, .int 2, .int 3]) nl)
          refine ⟨a, l, _, rfl, s3 _ _ ha, .inl (.inl upd_same), by show (0 : Nat) < 5; decide, by show (5 : Nat) ≤ 1000; decide, fun j v H4 hv s4 => ?_⟩
          obtain ⟨n, rfl, n3⟩ : ∃ n : Nat, v = .int (n : Int) ∧ n ≤ 3 := by
            match j, hv with
            | 0, hv => exact ⟨0, (Option.some.inj hv).symm, by decide⟩
            | 1, hv => exact ⟨1, (Option.some.inj hv).symm, by decide⟩
            | 2, hv => exact ⟨1, (Option.some.inj hv).symm, by decide⟩
            | 3, hv => exact ⟨2, (Option.some.inj hv).symm, by decide⟩
            | 4, hv => exact ⟨3, (Option.some.inj hv).symm, by decide⟩
          obtain ⟨x, y, ec, ey⟩ := cut_ints os none (some (n : Int))
          rw [HT.sIx_nat, HT.sIx_none] at ey
          have h4 := s4 _ _ (same_new (o := .lst [.int 0, .int 1, .int 1, .int 2, .int 3]) nl _ _ h2)
          refine ⟨_, rfl, r, _, rfl, .inl (.inl h4), fun p np => ?_⟩
          rw [ec]
          refine ⟨two_le, fun t nt => ?_⟩
          refine q t (.without ((os.drop x).take y)) _ (s3.trans (s4.trans ((same_new np).trans (same_new nt)))) ⟨⟨p, upd_same, same_new nt _ _ upd_same⟩, fun h hh => rng h (List.mem_of_mem_drop (List.mem_of_mem_take hh)), ?_⟩ ?_ ?_
          · rw [List.length_take]; omega
          · show ((os.drop x).take y).length ≤ 3
            rw [List.length_take]; omega
          · intro z r e
            rw [upd_same] at e
            cases e
            exact (s3.trans s4).free np
        · refine iteDF (fun z => h6 (V.int.inj z)) ⟨.ref r, rfl, two_le, fun t nt => ?_⟩
          exact q t (.renamed os) _ (s12.trans (same_new nt)) ⟨⟨r, upd_same, same_new nt _ _ h2⟩, od⟩ trivial (fun z r e => by rw [upd_same] at e; cases e; exact s1.free nr)
end
end Jc
namespace Jc
open PySem PySem.Spec L2
open PyProof.Rows hiding St
theorem marked_none (bs : List Int) (m : Int) : marked bs [] m = bs := by
  refine List.ext_getElem? fun i => ?_
  unfold marked
  rw [List.getElem?_mapIdx]
  cases bs[i]? <;> simp
theorem marked_snoc {bs ts : List Int} {k m : Int} (hk : 0 ≤ k) : (marked bs ts m).set k.toNat m = marked bs (ts ++ [k]) m := by
  refine List.ext_getElem? fun i => ?_
  unfold marked
  rw [List.getElem?_set, List.getElem?_mapIdx, List.getElem?_mapIdx, List.length_mapIdx]
  by_cases h : k.toNat = i
  · have e : (i : Int) = k := by omega
    rw [if_pos h]
    by_cases hl : k.toNat < bs.length
    · rw [if_pos hl, List.getElem?_eq_getElem (show i < bs.length by omega)]
      simp [e]
    · rw [if_neg hl, List.getElem?_eq_none (show bs.length ≤ i by omega)]
      rfl
  · have e : ¬ (i : Int) = k := by omega
    rw [if_neg h]
    cases bs[i]? <;> simp [e]
theorem mV_set (bs : List Int) (j : Nat) (x : Int) : (bs.map mV).set j (mV x) = (bs.set j x).map mV := by rw [List.map_set]
theorem w_fc : ¬ V.str ("fresh" : Str) = V.str "copied" := by decide +kernel
theorem w_fr : ¬ V.str ("fresh" : Str) = V.str "renamed" := by decide +kernel
theorem w_wc : ¬ V.str ("without" : Str) = V.str "copied" := by decide +kernel
theorem w_wr : ¬ V.str ("without" : Str) = V.str "renamed" := by decide +kernel
theorem w_wf : ¬ V.str ("without" : Str) = V.str "fresh" := by decide +kernel
theorem w_rc : ¬ V.str ("renamed" : Str) = V.str "copied" := by decide +kernel
theorem w_rf : ¬ V.str ("renamed" : Str) = V.str "fresh" := by decide +kernel
theorem at0 {x : V} {xs : List V} : atI (x :: xs) 0 = some x := atI_nat (j := 0) rfl
theorem at1 {x y : V} {xs : List V} : atI (x :: y :: xs) 1 = some y := atI_nat (j := 1) rfl
theorem at2 {x y z : V} {xs : List V} : atI (x :: y :: z :: xs) 2 = some z := atI_nat (j := 2) rfl
theorem at_marks {bs : List Int} {i : Nat} {m : Int} (h : bs[i]? = some m) : atI (bs.map mV) (i : Int) = some (mV m) := atI_nat (by rw [List.getElem?_map, h]; rfl)
theorem ixN_int {n : Nat} {k : Int} (h0 : 0 ≤ k) (h : k < n) : ixN n k = some k.toNat := by
  obtain ⟨x, rfl⟩ : ∃ x : Nat, k = (x : Int) := ⟨k.toNat, by omega⟩
  rw [Int.toNat_natCast]
  exact Evl.ixN_nat (by omega)
def spLMarked : Sp := fun vs H Q _ => ∃ (a t : Addr) (bs : List Int) (d : Deed) (m : Int), vs = [.ref a, .ref t, .int m] ∧ H a = some (.lst (bs.map mV)) ∧ DeedAt H t bs.length d ∧ m ≠ -1 ∧ bs.length ≤ 8 ∧ ∀ (q : Addr) (H2 : Hp), Same H H2 → H q = none → H2 q = some (.lst ((marksF bs m d).map mV)) → Q (.ref q) H2
section
variable {P : Program} {w : World} {K : PySem.W.Frag} {mg : Str → Option Value} {base : Heap} {f C : Addr} {fd : FuncData} {t1 : Tok}
abbrev s_lmarked : Stmt := topS 33
abbrev N_lmarked : List Str := ["_law_marks_here", "_law_deed_here", "_law_mark", "_law_found", "_law_k"]
theorem sc_lmarked : FnScope N_lmarked ["_law_marks_here", "_law_deed_here", "_law_mark"] (defScope s_lmarked) := ⟨rfl, rfl, rfl, by decide +kernel, rfl, by decide +kernel, by decide +kernel⟩
theorem ok_lmarked (F : Fun K "_law_marked" "_law_marked" s_lmarked f fd) (B : Blt mg) : FnG P w K mg base 1 f fd ["_law_marks_here", "_law_deed_here", "_law_mark"] spLMarked := by
  refine fnG_of F sc_lmarked (fun vs H Q E h => ?_) (fun us hl => ?_) (fun cdv A outer s H vs Q hr hq h => ?_)
  · obtain ⟨a, t, bs, d, m, rfl, _⟩ := h
    rfl
  · match us, hl with
    | [_, _, _], _ => rfl
  · obtain ⟨a, t, bs, d, m, rfl, ha, hd, hm, h8, q⟩ := h
    refine ⟨_, (pss_cons (ps_set (i := 3) sc_lmarked.nd rfl (.inl rfl) (pe_callTy call_list_of rfl B.list bo_list (pa_cons (pv 0) pa_nil)))
      (Evl.pss_cut (ps_if (pt_cmpR op_eq (pe_ix ix_tup (pv 1) pe_int (fun _ _ => rfl)) pe_str (nomark _)) (pss_one (ps_asg (pe_ix ix_list (pv 0) (pe_ix ix_tup (pv 1) pe_int (fun _ _ => rfl)) (fun _ _ => rfl)) (pg_sub (pv 3) (pe_ix ix_tup (pv 1) pe_int (fun _ _ => rfl)) set_list))) (pss_one (ps_if (pt_cmpR op_eq (pe_ix ix_tup (pv 1) pe_int (fun _ _ => rfl)) pe_str (nomark _)) (pss_one (ps_setLc (i := 3) (own := [("_law_k", 4)]) (g := gName 4) rfl sc_lmarked.nd rfl rfl (sw_true rfl rfl rfl (by decide +kernel)) (pi_list (pe_ix ix_tup (pv 1) pe_int (fun _ _ => rfl))) (blkOk_by (own := [("_law_k", 4)]) (N := N_lmarked) (sc := defScope s_lmarked) (by decide +kernel)) (fun _ _ _ _ _ => pg_name (i := 4) sc_lmarked.nd rfl (.inl rfl)) (fun _ _ _ _ _ => pts_nil) (fun _ _ _ _ _ => (pe_ix (ixl_K (K := K) rfl) (pv 0) (pv 4) (fun _ _ => rfl))))) (pss_one (ps_for PassesOwn.never rfl (pi_list (pe_ix ix_tup (pv 1) pe_int (fun _ _ => rfl))) (pg_name (i := 4) sc_lmarked.nd rfl (.inl rfl)) (pss_one (ps_asg (pe_ifExp (pt_cmpR op_eq (pe_ix ix_tup (pv 1) pe_int (fun _ _ => rfl)) pe_str (nomark _)) (pv 2) pe_non) (pg_sub (pv 3) (pv 4) set_list))))))))
      (pss_one (ps_ret (pv 3))))), ?_⟩
    refine ⟨.ref a, rfl, a, _, rfl, .inl (.inl (.inl ha)), fun L nL => ?_⟩
    have s0 : Same H (upd H L (.lst (bs.map mV))) := same_new nL
    have hL0 : (upd H L (.lst (bs.map mV))) L = some (.lst (bs.map mV)) := upd_same
    generalize upd H L (.lst (bs.map mV)) = H1 at s0 hL0
    have ha1 := s0 _ _ ha
    refine ⟨fun σ H' => ∃ (L2 : Addr) (y : Option V), σ = [some (.ref a), some (.ref t), some (.int m), some (.ref L2), y] ∧ Same H H' ∧ H L2 = none ∧ H' L2 = some (.lst ((marksF bs m d).map mV)), ?_, ?_⟩
    · match d, hd with
      | .copied x y, hd =>
        obtain ⟨ht, hx, hy⟩ := hd
        replace ht := s0 _ _ ht
        refine ⟨.ref t, rfl, t, _, 0, _, rfl, rfl, .inl (.inl ht), at0, rfl, _, rfl, iteDT rfl ?_⟩
        refine ⟨.ref a, rfl, .ref t, rfl, t, _, 2, _, rfl, rfl, .inl (.inl ht), at2, a, _, (y : Int), _, rfl, rfl, .inl (.inl ha1), at_marks (gv_in hy), ?_⟩
        refine ⟨.ref L, rfl, .ref t, rfl, t, _, 1, _, rfl, rfl, .inl (.inl ht), at1, L, _, (x : Int), x, rfl, rfl, hL0, ?_, ?_⟩
        · rw [List.length_map]
          exact Evl.ixN_nat hx
        · refine ⟨L, _, rfl, same_mut s0 nL, nL, ?_⟩
          rw [upd_same, mV_set]
          have e := marked_snoc (bs := bs) (ts := []) (k := (x : Int)) (m := gv bs y) (by omega)
          rw [marked_none, Int.toNat_natCast] at e
          rw [e]
          rfl
      | .renamed os, hd =>
        obtain ⟨⟨r, ht, hrr⟩, od⟩ := hd
        replace ht := s0 _ _ ht
        replace hrr := s0 _ _ hrr
        refine ⟨.ref t, rfl, t, _, 0, _, rfl, rfl, .inl (.inl ht), at0, rfl, _, rfl, iteDF w_rc ?_⟩
        refine ⟨.ref t, rfl, t, _, 0, _, rfl, rfl, .inl (.inl ht), at0, rfl, _, rfl, iteDT rfl ?_⟩
        refine ⟨.ref t, rfl, t, _, 1, _, rfl, rfl, .inl (.inl ht), at1, r, rfl, ⟨_, .inl (.inl hrr)⟩, fun D hD => ?_⟩
        have hol := od.len
        have hpl : (pick bs os).length = bs.length := by unfold pick; rw [List.length_map, hol]
        refine lc_sel walk_list (fun i => ((pick bs os).map mV)[i]?) (by rw [List.length_map]; omega) hD (fun H3 z => .inl (.inl (z _ _ hrr))) ?_ ?_
        · rintro i x H3 H4 kf kn hi' z ⟨rfl, hx⟩ ky kk
          obtain ⟨h, hh, rfl⟩ := get_ints hx
          obtain ⟨g0, g1⟩ := od.range h (List.mem_of_getElem? hh)
          have hc := getD_in (c := bs) (i := h.toNat) (by omega)
          have ec := at_marks hc
          rw [Int.toNat_of_nonneg g0] at ec
          refine ⟨rfl, ?_⟩
          refine iteT (B := kn H4) ⟨.ref a, rfl, .int h, rfl, a, _, h, _, rfl, rfl, .inl (.inl (z _ _ ha1)), ec, ky _ _ ?_ (Same.refl _)⟩
          rw [List.getElem?_map, pick, List.getElem?_map, hh]
          rfl
        · intro H3 z hD2
          have e : (os.map V.int).length = ((pick bs os).map mV).length := by rw [List.length_map, List.length_map, hpl, hol]
          rw [e, range_get] at hD2
          exact ⟨D, _, rfl, s0.trans z, s0.free hD, hD2⟩
      | .fresh ts, hd =>
        obtain ⟨⟨r, ht, hrr⟩, hin, htl⟩ := hd
        have nr : r ≠ L := ne_of_none hrr nL
        have nt : t ≠ L := ne_of_none ht nL
        replace ht := s0 _ _ ht
        replace hrr := s0 _ _ hrr
        refine ⟨.ref t, rfl, t, _, 0, _, rfl, rfl, .inl (.inl ht), at0, rfl, _, rfl, iteDF w_fc ?_⟩
        refine ⟨.ref t, rfl, t, _, 0, _, rfl, rfl, .inl (.inl ht), at0, rfl, _, rfl, iteDF w_fr ?_⟩
        refine ⟨.ref t, rfl, t, _, 1, _, rfl, rfl, .inl (.inl ht), at1, r, rfl, ⟨_, .inl (.inl hrr)⟩, ?_⟩
        refine for_it walk_list (fun i σ H2 => ∃ y, σ = [some (.ref a), some (.ref t), some (.int m), some (.ref L), y] ∧ (∀ b o, b ≠ L → H1 b = some o → H2 b = some o) ∧ H2 L = some (.lst ((marked bs (ts.take i) m).map mV))) ⟨_, rfl, fun _ _ _ e => e, by rw [List.take_zero, marked_none]; exact hL0⟩ (fun _ _ _ _ z => by obtain ⟨_, _, s2, _⟩ := z; exact .inl (.inl (s2 _ _ nr hrr))) ?_ ?_
        · rintro i x σ H2 H3 hi ⟨y, rfl, s2, h2⟩ ⟨rfl, hx⟩
          obtain ⟨k, hk, rfl⟩ := get_ints hx
          obtain ⟨k0, k1⟩ := hin k (List.mem_of_getElem? hk)
          refine ⟨.ref t, rfl, t, _, 0, _, rfl, rfl, .inl (.inl (s2 _ _ nt ht)), at0, rfl, _, rfl, iteDT rfl ?_⟩
          refine ⟨.int m, rfl, .ref L, rfl, .int k, rfl, L, _, k, k.toNat, rfl, rfl, h2, ?_, ?_⟩
          · rw [List.length_map, marked_len]
            exact ixN_int k0 k1
          · refine ⟨_, rfl, fun b o hb e => by rw [upd_ne hb]; exact s2 b o hb e, ?_⟩
            rw [upd_same, ← mV_int hm, mV_set, marked_snoc k0, List.take_add_one, hk]
            rfl
        · rintro σ H2 ⟨y, rfl, s2, h2⟩
          rw [List.length_map, List.take_length] at h2
          exact ⟨L, _, rfl, fun b o e => s2 b o (ne_of_none e nL) (s0 b o e), nL, h2⟩
      | .without ts, hd =>
        obtain ⟨⟨r, ht, hrr⟩, hin, htl⟩ := hd
        have nr : r ≠ L := ne_of_none hrr nL
        have nt : t ≠ L := ne_of_none ht nL
        replace ht := s0 _ _ ht
        replace hrr := s0 _ _ hrr
        refine ⟨.ref t, rfl, t, _, 0, _, rfl, rfl, .inl (.inl ht), at0, rfl, _, rfl, iteDF w_wc ?_⟩
        refine ⟨.ref t, rfl, t, _, 0, _, rfl, rfl, .inl (.inl ht), at0, rfl, _, rfl, iteDF w_wr ?_⟩
        refine ⟨.ref t, rfl, t, _, 1, _, rfl, rfl, .inl (.inl ht), at1, r, rfl, ⟨_, .inl (.inl hrr)⟩, ?_⟩
        refine for_it walk_list (fun i σ H2 => ∃ y, σ = [some (.ref a), some (.ref t), some (.int m), some (.ref L), y] ∧ (∀ b o, b ≠ L → H1 b = some o → H2 b = some o) ∧ H2 L = some (.lst ((marked bs (ts.take i) (-1)).map mV))) ⟨_, rfl, fun _ _ _ e => e, by rw [List.take_zero, marked_none]; exact hL0⟩ (fun _ _ _ _ z => by obtain ⟨_, _, s2, _⟩ := z; exact .inl (.inl (s2 _ _ nr hrr))) ?_ ?_
        · rintro i x σ H2 H3 hi ⟨y, rfl, s2, h2⟩ ⟨rfl, hx⟩
          obtain ⟨k, hk, rfl⟩ := get_ints hx
          obtain ⟨k0, k1⟩ := hin k (List.mem_of_getElem? hk)
          refine ⟨.ref t, rfl, t, _, 0, _, rfl, rfl, .inl (.inl (s2 _ _ nt ht)), at0, rfl, _, rfl, iteDF w_wf ?_⟩
          refine ⟨.ref L, rfl, .int k, rfl, L, _, k, k.toNat, rfl, rfl, h2, ?_, ?_⟩
          · rw [List.length_map, marked_len]
            exact ixN_int k0 k1
          · refine ⟨_, rfl, fun b o hb e => by rw [upd_ne hb]; exact s2 b o hb e, ?_⟩
            rw [upd_same, mV_no.symm, mV_set, marked_snoc k0, List.take_add_one, hk]
            rfl
        · rintro σ H2 ⟨y, rfl, s2, h2⟩
          rw [List.length_map, List.take_length] at h2
          exact ⟨L, _, rfl, fun b o e => s2 b o (ne_of_none e nL) (s0 b o e), nL, h2⟩
    · rintro σ H' ⟨L2, y, rfl, s2, n2, h2⟩
      exact ⟨.ref L2, rfl, q L2 H' s2 n2 h2⟩
end
end Jc
namespace Jc
open PySem PySem.Spec L2
open PyProof.Rows hiding St
theorem PartAt.mut {C : Addr} {H : Hp} {p l : Addr} {c : List Int} {xs ys : List V} (h : PartAt C H p c) (hl : H l = some (.lst xs)) : PartAt C (upd H l (.lst ys)) p c := by
  obtain ⟨⟨dx, t, a1, a2⟩, b, d, e⟩ := h
  have n1 : p ≠ l := fun z => by rw [z, hl] at a1; cases a1
  have n2 : t ≠ l := fun z => by rw [z, hl] at a2; cases a2
  exact ⟨⟨dx, t, by rw [upd_ne n1]; exact a1, by rw [upd_ne n2]; exact a2⟩, b, d, e⟩
theorem PartAt.ins {C : Addr} {H : Hp} {p : Addr} {c : List Int} (h : PartAt C H p c) : ∃ dx t, H p = some (.ins C dx [("_classes", .ref t)]) := let ⟨dx, t, a, _⟩ := h.ex; ⟨dx, t, a⟩
def spFew (C : Addr) (g : List Int → List Int → List Int) : Sp := fun vs H Q _ => ∃ (p r : Addr) (c ts : List Int), vs = [.ref p, .ref r] ∧ PartAt C H p c ∧ H r = some (.lst (ts.map V.int)) ∧ In c.length ts ∧ ts.length ≤ 3 ∧ ∀ (q : Addr) (H2 : Hp), Same H H2 → PartAt C H2 q (num (g c ts)) → Q (.ref q) H2
def spDone (C : Addr) : Sp := fun vs H Q _ => ∃ (p t : Addr) (c : List Int) (d : Deed), vs = [.ref p, .ref t] ∧ PartAt C H p c ∧ DeedAt H t c.length d ∧ Few d ∧ ∀ (q : Addr) (H2 : Hp), Same H H2 → PartAt C H2 q (num (classF c d)) → Q (.ref q) H2
theorem few_ok {H : Hp} {r : Addr} {n : Nat} {ts : List Int} (hr : H r = some (.lst (ts.map V.int))) {i : Nat} {k : Int} (h : ts[i]? = some k) : atI (ts.map V.int) (i : Int) = some (.int k) := at_ints h
section
variable {P : Program} {w : World} {K : PySem.W.Frag} {mg : Str → Option Value} {base : Heap} {f C : Addr} {fd : FuncData} {t1 : Tok}
abbrev s_lfresh : Stmt := topS 34
abbrev N_lfresh : List Str := ["_law_made", "_law_some"]
theorem sc_lfresh : FnScope N_lfresh ["_law_made", "_law_some"] (defScope s_lfresh) := ⟨rfl, rfl, rfl, by decide +kernel, rfl, by decide +kernel, by decide +kernel⟩
theorem ok_lfresh (F : Fun K "_law_fresh" "_law_fresh" s_lfresh f fd) (B : Blt mg) (T : PCf K mg C) (m_fresh : OwnM P w K mg base C "fresh" 5 (spNew C gFresh)) : FnG P w K mg base 6 f fd ["_law_made", "_law_some"] (spFew C gFresh) := by
  refine fnG_of F sc_lfresh (fun vs H Q E h => ?_) (fun us hl => ?_) (fun cdv A outer s H vs Q hr hq h => ?_)
  · obtain ⟨p, r, c, ts, rfl, _⟩ := h
    rfl
  · match us, hl with
    | [_, _], _ => rfl
  · obtain ⟨p, r, c, ts, rfl, hp, hrr, hin, h3, q⟩ := h
    have hu := hr.units
    refine ⟨_, (pss_cons (ps_if (pt_cmpR op_lt (pe_callB call_len_seq rfl B.len bo_len (pa_cons (pv 1) pa_nil)) pe_int (nomark _)) (pss_one (ps_ret (pe_ifExp (pt_cmpR (op_eqD hu) (pv 1) (pe_lst pa_nil) (nomark _)) (pe_omS (pv 0) T.cl m_fresh hr (by decide)) (pe_om (pv 0) T.cl m_fresh hr (by decide) (pa_cons (pe_ix ix_list (pv 1) pe_int (fun _ _ => rfl)) pa_nil))))) pss_nil)
      (pss_one (ps_ret (pe_ifExp (pt_cmpR op_eq (pe_callB call_len_seq rfl B.len bo_len (pa_cons (pv 1) pa_nil)) pe_int (nomark _)) (pe_om (pv 0) T.cl m_fresh hr (by decide) (pa_cons (pe_ix ix_list (pv 1) pe_int (fun _ _ => rfl)) (pa_cons (pe_ix ix_list (pv 1) pe_int (fun _ _ => rfl)) pa_nil))) (pe_om (pv 0) T.cl m_fresh hr (by decide) (pa_cons (pe_ix ix_list (pv 1) pe_int (fun _ _ => rfl)) (pa_cons (pe_ix ix_list (pv 1) pe_int (fun _ _ => rfl)) (pa_cons (pe_ix ix_list (pv 1) pe_int (fun _ _ => rfl)) pa_nil)))))))), ?_⟩
    obtain ⟨dx, tt, a1⟩ := hp.ins
    refine ⟨.ref r, rfl, r, _, rfl, .inl (.inl (.inl hrr)), ?_⟩
    rw [List.length_map]
    refine ⟨_, _, rfl, rfl, _, rfl, ?_⟩
    match ts, hrr, hin, h3, q with
    | [], hrr, hin, h3, q =>
      refine iteDT (by show ((([] : List Int).length : Nat) : Int) < 2; decide) ⟨.ref r, rfl, le_line (by decide), fun l nl => ⟨dI [], dI [], dp_ints (same_new nl _ _ hrr), dp_ints upd_same, PySem.W.shaped_ints _, PySem.W.shaped_ints _, ?_⟩⟩
      rw [eqv_ints]
      have s1 : Same H (upd H l (.lst [])) := same_new nl
      refine ⟨_, rfl, iteDT rfl ⟨.ref p, rfl, p, dx, _, rfl, s1 _ _ a1, rfl, ?_⟩⟩
      exact ⟨p, c, [], rfl, hp.same s1, by decide, (fun h hh => nomatch hh), fun y H2 s2 hy => q y H2 (s1.trans s2) hy⟩
    | [x], hrr, hin, h3, q =>
      refine iteDT (by show (1 : Int) < 2; decide) ⟨.ref r, rfl, le_line (by decide), fun l nl => ⟨dI [x], dI [], dp_ints (same_new nl _ _ hrr), dp_ints upd_same, PySem.W.shaped_ints _, PySem.W.shaped_ints _, ?_⟩⟩
      rw [eqv_ints]
      have s1 : Same H (upd H l (.lst [])) := same_new nl
      refine ⟨_, rfl, iteDF (fun z => nomatch z) ⟨.ref p, rfl, p, dx, _, rfl, s1 _ _ a1, rfl, .ref r, rfl, r, _, 0, _, rfl, rfl, .inl (.inl (s1 _ _ hrr)), at0, ?_⟩⟩
      exact ⟨p, c, [x], rfl, hp.same s1, by show (1 : Nat) ≤ 1000; decide, hin, fun y H2 s2 hy => q y H2 (s1.trans s2) hy⟩
    | [x, x2], hrr, hin, h3, q =>
      refine iteDF (by show ¬ (2 : Int) < 2; decide) ⟨.ref r, rfl, r, _, rfl, .inl (.inl (.inl hrr)), rfl, _, rfl, iteDT rfl ⟨.ref p, rfl, p, dx, _, rfl, a1, rfl, .ref r, rfl, r, _, 0, _, rfl, rfl, .inl (.inl hrr), at0, .ref r, rfl, r, _, 1, _, rfl, rfl, .inl (.inl hrr), at1, ?_⟩⟩
      exact ⟨p, c, [x, x2], rfl, hp, by show (2 : Nat) ≤ 1000; decide, hin, fun y H2 s2 hy => q y H2 s2 hy⟩
    | [x, x2, x3], hrr, hin, h3, q =>
      refine iteDF (by show ¬ (3 : Int) < 2; decide) ⟨.ref r, rfl, r, _, rfl, .inl (.inl (.inl hrr)), rfl, _, rfl, iteDF (fun z => nomatch V.int.inj z) ⟨.ref p, rfl, p, dx, _, rfl, a1, rfl, .ref r, rfl, r, _, 0, _, rfl, rfl, .inl (.inl hrr), at0, .ref r, rfl, r, _, 1, _, rfl, rfl, .inl (.inl hrr), at1, .ref r, rfl, r, _, 2, _, rfl, rfl, .inl (.inl hrr), at2, ?_⟩⟩
      exact ⟨p, c, [x, x2, x3], rfl, hp, by show (3 : Nat) ≤ 1000; decide, hin, fun y H2 s2 hy => q y H2 s2 hy⟩
    | _ :: _ :: _ :: _ :: _, _, _, h3, _ => exact absurd h3 (by simp)
abbrev s_lwithout : Stmt := topS 35
abbrev N_lwithout : List Str := ["_law_made", "_law_some"]
theorem sc_lwithout : FnScope N_lwithout ["_law_made", "_law_some"] (defScope s_lwithout) := ⟨rfl, rfl, rfl, by decide +kernel, rfl, by decide +kernel, by decide +kernel⟩
theorem ok_lwithout (F : Fun K "_law_without" "_law_without" s_lwithout f fd) (B : Blt mg) (T : PCf K mg C) (m_without : OwnM P w K mg base C "without" 5 (spNew C gWithout)) : FnG P w K mg base 6 f fd ["_law_made", "_law_some"] (spFew C gWithout) := by
  refine fnG_of F sc_lwithout (fun vs H Q E h => ?_) (fun us hl => ?_) (fun cdv A outer s H vs Q hr hq h => ?_)
  · obtain ⟨p, r, c, ts, rfl, _⟩ := h
    rfl
  · match us, hl with
    | [_, _], _ => rfl
  · obtain ⟨p, r, c, ts, rfl, hp, hrr, hin, h3, q⟩ := h
    have hu := hr.units
    refine ⟨_, (pss_cons (ps_if (pt_cmpR op_lt (pe_callB call_len_seq rfl B.len bo_len (pa_cons (pv 1) pa_nil)) pe_int (nomark _)) (pss_one (ps_ret (pe_ifExp (pt_cmpR (op_eqD hu) (pv 1) (pe_lst pa_nil) (nomark _)) (pe_omS (pv 0) T.cl m_without hr (by decide)) (pe_om (pv 0) T.cl m_without hr (by decide) (pa_cons (pe_ix ix_list (pv 1) pe_int (fun _ _ => rfl)) pa_nil))))) pss_nil)
      (pss_one (ps_ret (pe_ifExp (pt_cmpR op_eq (pe_callB call_len_seq rfl B.len bo_len (pa_cons (pv 1) pa_nil)) pe_int (nomark _)) (pe_om (pv 0) T.cl m_without hr (by decide) (pa_cons (pe_ix ix_list (pv 1) pe_int (fun _ _ => rfl)) (pa_cons (pe_ix ix_list (pv 1) pe_int (fun _ _ => rfl)) pa_nil))) (pe_om (pv 0) T.cl m_without hr (by decide) (pa_cons (pe_ix ix_list (pv 1) pe_int (fun _ _ => rfl)) (pa_cons (pe_ix ix_list (pv 1) pe_int (fun _ _ => rfl)) (pa_cons (pe_ix ix_list (pv 1) pe_int (fun _ _ => rfl)) pa_nil)))))))), ?_⟩
    obtain ⟨dx, tt, a1⟩ := hp.ins
    refine ⟨.ref r, rfl, r, _, rfl, .inl (.inl (.inl hrr)), ?_⟩
    rw [List.length_map]
    refine ⟨_, _, rfl, rfl, _, rfl, ?_⟩
    match ts, hrr, hin, h3, q with
    | [], hrr, hin, h3, q =>
      refine iteDT (by show ((([] : List Int).length : Nat) : Int) < 2; decide) ⟨.ref r, rfl, le_line (by decide), fun l nl => ⟨dI [], dI [], dp_ints (same_new nl _ _ hrr), dp_ints upd_same, PySem.W.shaped_ints _, PySem.W.shaped_ints _, ?_⟩⟩
      rw [eqv_ints]
      have s1 : Same H (upd H l (.lst [])) := same_new nl
      refine ⟨_, rfl, iteDT rfl ⟨.ref p, rfl, p, dx, _, rfl, s1 _ _ a1, rfl, ?_⟩⟩
      exact ⟨p, c, [], rfl, hp.same s1, by decide, (fun h hh => nomatch hh), fun y H2 s2 hy => q y H2 (s1.trans s2) hy⟩
    | [x], hrr, hin, h3, q =>
      refine iteDT (by show (1 : Int) < 2; decide) ⟨.ref r, rfl, le_line (by decide), fun l nl => ⟨dI [x], dI [], dp_ints (same_new nl _ _ hrr), dp_ints upd_same, PySem.W.shaped_ints _, PySem.W.shaped_ints _, ?_⟩⟩
      rw [eqv_ints]
      have s1 : Same H (upd H l (.lst [])) := same_new nl
      refine ⟨_, rfl, iteDF (fun z => nomatch z) ⟨.ref p, rfl, p, dx, _, rfl, s1 _ _ a1, rfl, .ref r, rfl, r, _, 0, _, rfl, rfl, .inl (.inl (s1 _ _ hrr)), at0, ?_⟩⟩
      exact ⟨p, c, [x], rfl, hp.same s1, by show (1 : Nat) ≤ 1000; decide, hin, fun y H2 s2 hy => q y H2 (s1.trans s2) hy⟩
    | [x, x2], hrr, hin, h3, q =>
      refine iteDF (by show ¬ (2 : Int) < 2; decide) ⟨.ref r, rfl, r, _, rfl, .inl (.inl (.inl hrr)), rfl, _, rfl, iteDT rfl ⟨.ref p, rfl, p, dx, _, rfl, a1, rfl, .ref r, rfl, r, _, 0, _, rfl, rfl, .inl (.inl hrr), at0, .ref r, rfl, r, _, 1, _, rfl, rfl, .inl (.inl hrr), at1, ?_⟩⟩
      exact ⟨p, c, [x, x2], rfl, hp, by show (2 : Nat) ≤ 1000; decide, hin, fun y H2 s2 hy => q y H2 s2 hy⟩
    | [x, x2, x3], hrr, hin, h3, q =>
      refine iteDF (by show ¬ (3 : Int) < 2; decide) ⟨.ref r, rfl, r, _, rfl, .inl (.inl (.inl hrr)), rfl, _, rfl, iteDF (fun z => nomatch V.int.inj z) ⟨.ref p, rfl, p, dx, _, rfl, a1, rfl, .ref r, rfl, r, _, 0, _, rfl, rfl, .inl (.inl hrr), at0, .ref r, rfl, r, _, 1, _, rfl, rfl, .inl (.inl hrr), at1, .ref r, rfl, r, _, 2, _, rfl, rfl, .inl (.inl hrr), at2, ?_⟩⟩
      exact ⟨p, c, [x, x2, x3], rfl, hp, by show (3 : Nat) ≤ 1000; decide, hin, fun y H2 s2 hy => q y H2 s2 hy⟩
    | _ :: _ :: _ :: _ :: _, _, _, h3, _ => exact absurd h3 (by simp)
end
end Jc
namespace Jc
open PySem PySem.Spec L2
open PyProof.Rows hiding St
section
variable {P : Program} {w : World} {K : PySem.W.Frag} {mg : Str → Option Value} {base : Heap} {f C : Addr} {fd : FuncData} {t1 : Tok}
abbrev s_done : Stmt := topS 36
abbrev N_done : List Str := ["_law_made", "_law_deed_here", "_law_handed", "_law_near"]
theorem sc_done : FnScope N_done ["_law_made", "_law_deed_here"] (defScope s_done) := ⟨rfl, rfl, rfl, by decide +kernel, rfl, by decide +kernel, by decide +kernel⟩
theorem ok_done (F : Fun K "_law_done" "_law_done" s_done f fd) (B : Blt mg) (T : PCf K mg C) (m_renamed : OwnM P w K mg base C "renamed" 5 (spRen C)) (m_copied : OwnM P w K mg base C "copied" 5 (spCopied C))
    (c_lfresh : Own P w K mg base "_law_fresh" 6 ["_law_made", "_law_some"] (spFew C gFresh)) (c_lwithout : Own P w K mg base "_law_without" 6 ["_law_made", "_law_some"] (spFew C gWithout)) : FnG P w K mg base 7 f fd ["_law_made", "_law_deed_here"] (spDone C) := by
  refine fnG_of F sc_done (fun vs H Q E h => ?_) (fun us hl => ?_) (fun cdv A outer s H vs Q hr hq h => ?_)
  · obtain ⟨p, t, c, d, rfl, _⟩ := h
    rfl
  · match us, hl with
    | [_, _], _ => rfl
  · obtain ⟨p, t, c, d, rfl, hp, hd, hf, q⟩ := h
    refine ⟨_, (pss_cons (ps_if (pt_cmpR op_eq (pe_ix ix_tup (pv 1) pe_int (fun _ _ => rfl)) pe_str (nomark _)) (pss_one (ps_ret (pe_om (pv 0) T.cl m_copied hr (by decide) (pa_cons (pe_ix ix_tup (pv 1) pe_int (fun _ _ => rfl)) (pa_cons (pe_ix ix_tup (pv 1) pe_int (fun _ _ => rfl)) pa_nil))))) pss_nil)
      (pss_cons (ps_if (pt_cmpR op_eq (pe_ix ix_tup (pv 1) pe_int (fun _ _ => rfl)) pe_str (nomark _)) (pss_cons (ps_set (i := 2) sc_done.nd rfl (.inl rfl) (pe_callTy call_list_of rfl B.list bo_list (pa_cons (pe_ix ix_tup (pv 1) pe_int (fun _ _ => rfl)) pa_nil)))
      (pss_cons (ps_set (i := 3) sc_done.nd rfl (.inl rfl) (pe_om (pv 0) T.cl m_renamed hr (by decide) (pa_cons (pv 2) pa_nil)))
      (pss_cons (ps_expr (pe_bm0 PySem.F.plainAttrs_list PySem.F.slot_list_clear PySem.F.type_list_clear mt_clear (pv 2)))
      (pss_one (ps_ret (pv 3)))))) pss_nil)
      (pss_one (ps_ret (pe_ifExp (pt_cmpR op_eq (pe_ix ix_tup (pv 1) pe_int (fun _ _ => rfl)) pe_str (nomark _)) (pe_own c_lfresh hr hq (by decide) (pa_cons (pv 0) (pa_cons (pe_ix ix_tup (pv 1) pe_int (fun _ _ => rfl)) pa_nil))) (pe_own c_lwithout hr hq (by decide) (pa_cons (pv 0) (pa_cons (pe_ix ix_tup (pv 1) pe_int (fun _ _ => rfl)) pa_nil)))))))), ?_⟩
    obtain ⟨dx, tt, a1⟩ := hp.ins
    match d, hd, hf, q with
    | .copied x y, hd, hf, q =>
      obtain ⟨ht, hx, hy⟩ := hd
      refine ⟨.ref t, rfl, t, _, 0, _, rfl, rfl, .inl (.inl ht), at0, rfl, _, rfl, iteDT rfl ?_⟩
      refine ⟨.ref p, rfl, p, dx, _, rfl, a1, rfl, .ref t, rfl, t, _, 1, _, rfl, rfl, .inl (.inl ht), at1, .ref t, rfl, t, _, 2, _, rfl, rfl, .inl (.inl ht), at2, ?_⟩
      exact ⟨p, c, x, y, _, rfl, hp, hx, gv_in hy, fun y H2 s2 hy => q y H2 s2 hy⟩
    | .renamed os, hd, hf, q =>
      obtain ⟨⟨r, ht, hrr⟩, od⟩ := hd
      refine ⟨.ref t, rfl, t, _, 0, _, rfl, rfl, .inl (.inl ht), at0, rfl, _, rfl, iteDF w_rc ?_⟩
      refine ⟨.ref t, rfl, t, _, 0, _, rfl, rfl, .inl (.inl ht), at0, rfl, _, rfl, iteDT rfl ?_⟩
      refine ⟨.ref t, rfl, t, _, 1, _, rfl, rfl, .inl (.inl ht), at1, r, _, rfl, .inl (.inl (.inl hrr)), fun l nl => ?_⟩
      have s1 : Same H (upd H l (.lst (os.map V.int))) := same_new nl
      refine ⟨.ref p, rfl, p, dx, _, rfl, s1 _ _ a1, rfl, .ref l, rfl, p, l, c, os, rfl, hp.same s1, upd_same, od.perm, fun y H2 s2 hy => ?_⟩
      have hl2 := s2 _ _ (upd_same (H := H) (a := l) (o := .lst (os.map V.int)))
      refine ⟨.ref l, rfl, .inl ⟨rfl, _, .inl (.inl hl2)⟩, l, _, rfl, rfl, hl2, ?_⟩
      exact ⟨.ref y, rfl, q y _ (same_mut (s1.trans s2) nl) (hy.mut hl2)⟩
    | .fresh ts, hd, hf, q =>
      obtain ⟨⟨r, ht, hrr⟩, hin, htl⟩ := hd
      refine ⟨.ref t, rfl, t, _, 0, _, rfl, rfl, .inl (.inl ht), at0, rfl, _, rfl, iteDF w_fc ?_⟩
      refine ⟨.ref t, rfl, t, _, 0, _, rfl, rfl, .inl (.inl ht), at0, rfl, _, rfl, iteDF w_fr ?_⟩
      refine ⟨.ref t, rfl, t, _, 0, _, rfl, rfl, .inl (.inl ht), at0, rfl, _, rfl, iteDT rfl ?_⟩
      refine ⟨.ref p, rfl, .ref t, rfl, t, _, 1, _, rfl, rfl, .inl (.inl ht), at1, ?_⟩
      exact ⟨p, r, c, ts, rfl, hp, hrr, hin, hf, fun y H2 s2 hy => q y H2 s2 hy⟩
    | .without ts, hd, hf, q =>
      obtain ⟨⟨r, ht, hrr⟩, hin, htl⟩ := hd
      refine ⟨.ref t, rfl, t, _, 0, _, rfl, rfl, .inl (.inl ht), at0, rfl, _, rfl, iteDF w_wc ?_⟩
      refine ⟨.ref t, rfl, t, _, 0, _, rfl, rfl, .inl (.inl ht), at0, rfl, _, rfl, iteDF w_wr ?_⟩
      refine ⟨.ref t, rfl, t, _, 0, _, rfl, rfl, .inl (.inl ht), at0, rfl, _, rfl, iteDF w_wf ?_⟩
      refine ⟨.ref p, rfl, .ref t, rfl, t, _, 1, _, rfl, rfl, .inl (.inl ht), at1, ?_⟩
      exact ⟨p, r, c, ts, rfl, hp, hrr, hin, hf, fun y H2 s2 hy => q y H2 s2 hy⟩
abbrev s_named : Stmt := topS 37
abbrev N_named : List Str := ["_law_made", "_law_deed_here"]
theorem sc_named : FnScope N_named ["_law_made", "_law_deed_here"] (defScope s_named) := ⟨rfl, rfl, rfl, by decide +kernel, rfl, by decide +kernel, by decide +kernel⟩
theorem ok_named (F : Fun K "_law_named" "_law_named" s_named f fd) (B : Blt mg) (T : PCf K mg C) (k_renamed : OwnMK P w K mg base C "renamed" 5 ["order"] ["self", "order"] (spRenT C)) (k_copied : OwnMK P w K mg base C "copied" 5 ["source", "target"] ["self", "target", "source"] (spCopied C))
    (c_done : Own P w K mg base "_law_done" 7 ["_law_made", "_law_deed_here"] (spDone C)) : FnG P w K mg base 8 f fd ["_law_made", "_law_deed_here"] (spDone C) := by
  refine fnG_of F sc_named (fun vs H Q E h => ?_) (fun us hl => ?_) (fun cdv A outer s H vs Q hr hq h => ?_)
  · obtain ⟨p, t, c, d, rfl, _⟩ := h
    rfl
  · match us, hl with
    | [_, _], _ => rfl
  · obtain ⟨p, t, c, d, rfl, hp, hd, hf, q⟩ := h
    refine ⟨_, (pss_cons (ps_if (pt_cmpR op_eq (pe_ix ix_tup (pv 1) pe_int (fun _ _ => rfl)) pe_str (nomark _)) (pss_one (ps_ret (pe_omK (pv 0) T.cl k_copied hr (by decide) (pk_cons (pe_ix ix_tup (pv 1) pe_int (fun _ _ => rfl)) (pk_cons (pe_ix ix_tup (pv 1) pe_int (fun _ _ => rfl)) pk_nil))))) pss_nil)
      (pss_one (ps_ret (pe_ifExp (pt_cmpR op_eq (pe_ix ix_tup (pv 1) pe_int (fun _ _ => rfl)) pe_str (nomark _)) (pe_omK (pv 0) T.cl k_renamed hr (by decide) (pk_cons (pe_callTy call_tuple_of rfl B.tuple bo_tuple (pa_cons (pe_ix ix_tup (pv 1) pe_int (fun _ _ => rfl)) pa_nil)) pk_nil)) (pe_own c_done hr hq (by decide) (pa_cons (pv 0) (pa_cons (pv 1) pa_nil))))))), ?_⟩
    obtain ⟨dx, tt, a1⟩ := hp.ins
    match d, hd, hf, q with
    | .copied x y, hd, hf, q =>
      obtain ⟨ht, hx, hy⟩ := hd
      refine ⟨.ref t, rfl, t, _, 0, _, rfl, rfl, .inl (.inl ht), at0, rfl, _, rfl, iteDT rfl ?_⟩
      refine ⟨.ref p, rfl, p, dx, _, rfl, a1, rfl, .ref t, rfl, t, _, 2, _, rfl, rfl, .inl (.inl ht), at2, .ref t, rfl, t, _, 1, _, rfl, rfl, .inl (.inl ht), at1, rfl, ?_⟩
      exact ⟨p, c, x, y, _, rfl, hp, hx, gv_in hy, fun y H2 s2 hy => q y H2 s2 hy⟩
    | .renamed os, hd, hf, q =>
      obtain ⟨⟨r, ht, hrr⟩, od⟩ := hd
      refine ⟨.ref t, rfl, t, _, 0, _, rfl, rfl, .inl (.inl ht), at0, rfl, _, rfl, iteDF w_rc ?_⟩
      refine ⟨.ref t, rfl, t, _, 0, _, rfl, rfl, .inl (.inl ht), at0, rfl, _, rfl, iteDT rfl ?_⟩
      refine ⟨.ref p, rfl, p, dx, _, rfl, a1, rfl, .ref t, rfl, t, _, 1, _, rfl, rfl, .inl (.inl ht), at1, r, _, rfl, .inl ⟨.inl (.inl hrr), fun l nl => ?_⟩⟩
      have s1 : Same H (upd H l (.tup (os.map V.int))) := same_new nl
      exact ⟨rfl, p, l, c, os, rfl, hp.same s1, upd_same, od.perm, fun y H2 s2 hy => q y H2 (s1.trans s2) hy⟩
    | .fresh ts, hd, hf, q =>
      have hd0 := hd
      obtain ⟨⟨r, ht, hrr⟩, hin, htl⟩ := hd
      refine ⟨.ref t, rfl, t, _, 0, _, rfl, rfl, .inl (.inl ht), at0, rfl, _, rfl, iteDF w_fc ?_⟩
      refine ⟨.ref t, rfl, t, _, 0, _, rfl, rfl, .inl (.inl ht), at0, rfl, _, rfl, iteDF w_fr ?_⟩
      exact ⟨.ref p, rfl, .ref t, rfl, p, t, c, .fresh ts, rfl, hp, hd0, hf, fun y H2 s2 hy => q y H2 s2 hy⟩
    | .without ts, hd, hf, q =>
      have hd0 := hd
      obtain ⟨⟨r, ht, hrr⟩, hin, htl⟩ := hd
      refine ⟨.ref t, rfl, t, _, 0, _, rfl, rfl, .inl (.inl ht), at0, rfl, _, rfl, iteDF w_wc ?_⟩
      refine ⟨.ref t, rfl, t, _, 0, _, rfl, rfl, .inl (.inl ht), at0, rfl, _, rfl, iteDF w_wr ?_⟩
      exact ⟨.ref p, rfl, .ref t, rfl, p, t, c, .without ts, rfl, hp, hd0, hf, fun y H2 s2 hy => q y H2 s2 hy⟩
end
end Jc
namespace Jc
open PySem PySem.Spec L2
open PyProof.Rows hiding St
section
variable {X : Cx} {K : PySem.W.Frag}
theorem pi_enumK {e : Expr} {ta : TA} {p pos tpos : Pos} {elts : List Expr} {kk : Nat} (hK : X.K = K) (hg : Gl X "enumerate") (hm : X.mg "enumerate" = none) (ha : PA X [e] ta) (hs : starEach [e] X.env = [(false, eval e X.env)] := by rfl) :
    PI X (.Tuple elts kk tpos) (.Call (.Name "enumerate" p) [e] [] pos) (iEnum K ta) := by
  subst hK
  exact pi_enum hg hm ha hs
end
theorem dbB : ∀ a : Bool, (PyData.bool a).showable = true ∧ (PyData.bool a).hasDict = false ∧ (PyData.bool a).depth ≤ 60 ∧ (PyData.bool a).shown.length ≤ 1000000 := by
  intro a
  cases a <;> decide +kernel
theorem dB2 : ∀ a b : Bool, (dB [a, b]).showable = true ∧ (dB [a, b]).hasDict = false ∧ (dB [a, b]).depth ≤ 60 ∧ (dB [a, b]).shown.length ≤ 1000000 := by
  intro a b
  cases a <;> cases b <;> decide +kernel
theorem sh_eq {a b : Bool} (h : a = b) : V.str (PyData.bool a).shown = V.str (PyData.bool b).shown := by rw [h]
theorem sh_eq2 {a b c d : Bool} (h : a = c) (h2 : b = d) : V.str (dB [a, b]).shown = V.str (dB [c, d]).shown := by rw [h, h2]
theorem scal_mV {m n : Int} : scal (mV m) (mV n) = true := by
  unfold mV
  split <;> split <;> rfl
theorem mV_inj {m n : Int} : mV m = mV n ↔ m = n := by
  unfold mV
  constructor
  · intro h
    split at h <;> split at h
    · omega
    · cases h
    · cases h
    · exact V.int.inj h
  · intro h
    rw [h]
theorem mV_non {m : Int} : mV m = .non ↔ m = -1 := by
  rw [← mV_no]
  exact mV_inj
/-- all alike, by marks -/
def allM (ys : List Int) : Bool := ys.all fun y => decide (y ≠ -1) && decide (y = ys.headD 0)
theorem alike_marks {bs ts : List Int} (h : In bs.length ts) : alikeB (num bs) ts = allM (pick bs ts) := by
  have e : pick (num bs) ts = (pick bs ts).map (numOf (told bs)) := by
    unfold pick
    rw [List.map_map]
    refine List.map_congr_left fun k hk => ?_
    have r := h k hk
    have g := getD_in (c := bs) (i := k.toNat) (by omega)
    have g2 := num_at g
    show (num bs).getD k.toNat 0 = numOf (told bs) (bs.getD k.toNat 0)
    rw [List.getD_eq_getElem?_getD, g2]
    rfl
  have hm : ∀ y ∈ pick bs ts, y ∈ bs := fun y hy => by
    obtain ⟨k, hk, rfl⟩ := List.mem_map.mp hy
    have r := h k hk
    exact List.mem_of_getElem? (getD_in (c := bs) (i := k.toNat) (by omega))
  unfold alikeB allM
  rw [e]
  generalize pick bs ts = ys at hm
  rw [Bool.eq_iff_iff]
  simp only [Bool.and_eq_true, Bool.not_eq_true', decide_eq_false_iff_not, List.all_eq_true, List.mem_map, decide_eq_true_eq, forall_exists_index, and_imp, id]
  constructor
  · rintro ⟨h1, h2⟩ y hy
    refine ⟨fun z => h1 ⟨y, hy, numOf_gone.mpr z⟩, ?_⟩
    cases ys with
    | nil => cases hy
    | cons y0 r =>
      have h3 := h2 _ _ y hy rfl rfl
      have h4 : numOf (told bs) y = numOf (told bs) y0 := by
        have h5 := h3
        simpa using h5
      exact (numOf_inj (hm y hy) (hm y0 List.mem_cons_self)).mp h4
  · intro h1
    refine ⟨fun z => ?_, fun b x y hy e1 e2 => ?_⟩
    · obtain ⟨y, hy, e1⟩ := z
      exact (h1 y hy).1 (numOf_gone.mp e1)
    · subst e1 e2
      cases ys with
      | nil => cases hy
      | cons y0 r =>
        have h3 := (h1 y hy).2
        have h4 : y = y0 := h3
        subst h4
        simp
theorem marked_same {c ts us : List Int} {m : Int} (h : ∀ x, x ∈ ts ↔ x ∈ us) : marked c ts m = marked c us m := by
  unfold marked
  congr 1
  funext i x
  by_cases e : (i : Int) ∈ ts
  · rw [if_pos e, if_pos ((h _).mp e)]
  · rw [if_neg e, if_neg fun z => e ((h _).mpr z)]
theorem pick_1 {bs : List Int} {i : Nat} {m : Int} (h : bs[i]? = some m) : pick bs [(i : Int)] = [m] := by
  unfold pick
  simp [List.getD_eq_getElem?_getD, h]
theorem pick_2 {bs : List Int} {i j : Nat} {m n : Int} (h : bs[i]? = some m) (h2 : bs[j]? = some n) : pick bs [(i : Int), (j : Int)] = [m, n] := by
  unfold pick
  simp [List.getD_eq_getElem?_getD, h, h2]
theorem pick_3 {bs : List Int} {i j k : Nat} {m n o : Int} (h : bs[i]? = some m) (h2 : bs[j]? = some n) (h3 : bs[k]? = some o) : pick bs [(i : Int), (j : Int), (k : Int)] = [m, n, o] := by
  unfold pick
  simp [List.getD_eq_getElem?_getD, h, h2, h3]
theorem in_1 {n i : Nat} (h : i < n) : In n [(i : Int)] := fun x hx => by
  rw [List.mem_singleton.mp hx]; omega
theorem in_2 {n i j : Nat} (h : i < n) (h2 : j < n) : In n [(i : Int), (j : Int)] := fun x hx => by
  simp only [List.mem_cons, List.not_mem_nil, or_false] at hx
  rcases hx with rfl | rfl <;> omega
theorem in_3 {n i j k : Nat} (h : i < n) (h2 : j < n) (h3 : k < n) : In n [(i : Int), (j : Int), (k : Int)] := fun x hx => by
  simp only [List.mem_cons, List.not_mem_nil, or_false] at hx
  rcases hx with rfl | rfl | rfl <;> omega
end Jc
namespace Jc
open PySem PySem.Spec L2
open PyProof.Rows hiding St
/-- an own def that an operator or a builtin goes to -/
structure OpF (P : Program) (w : World) (K : PySem.W.Frag) (mg : Str → Option Value) (base : Heap) (C : Addr) (d : Str) (k : Nat) (sp : Sp) : Prop where
  ex : ∃ f, PySem.W.findIn K (.ref C) d = some (some (.ref f)) ∧ PySem.W.isFn K (.ref f) = true ∧ FnR P w K mg base CX0 k f sp
/-- a partition beside its marks -/
structure Mk11 (C : Addr) (H : Hp) (pot p q : Addr) (bs : List Int) : Prop where
  pot : Pot H pot
  pt : PartAt C H p (num bs)
  ms : H q = some (.lst (bs.map mV))
  lo : 1 ≤ bs.length
  hi : bs.length ≤ 8
theorem Mk11.same {C : Addr} {H H2 : Hp} {pot p q : Addr} {bs : List Int} (s : Same H H2) (h : Mk11 C H pot p q bs) : Mk11 C H2 pot p q bs := ⟨s _ _ h.pot, h.pt.same s, s _ _ h.ms, h.lo, h.hi⟩
def spLaw3 (C : Addr) : Sp := fun vs H Q _ => ∃ (pot p q : Addr) (bs : List Int), vs = [.ref pot, .ref p, .ref q] ∧ Mk11 C H pot p q bs ∧ ∀ H2, Same H H2 → Q (.bl true) H2
section
variable {P : Program} {w : World} {K : PySem.W.Frag} {mg : Str → Option Value} {base : Heap} {f C : Addr} {fd : FuncData} {t1 : Tok}
abbrev s_alikeR : Stmt := topS 38
abbrev N_alikeR : List Str := ["_law_pot_here", "_law_made", "_law_marks_here", "_law_k", "_law_one", "_law_n", "_law_two", "_law_a", "_law_b", "_law_c", "_law_turn", "_law_due"]
theorem sc_alikeR : FnScope N_alikeR ["_law_pot_here", "_law_made", "_law_marks_here"] (defScope s_alikeR) := ⟨rfl, rfl, rfl, by decide +kernel, rfl, by decide +kernel, by decide +kernel⟩
theorem ok_alikeR (F : Fun K "_law_alike_right" "_law_alike_right" s_alikeR f fd) (B : Blt mg) (T : PCf K mg C) (c_draw : Own P w K mg base "_law_draw" 1 ["_law_pot_here", "_law_lot"] spDraw) (m_is_alike : OwnM P w K mg base C "is_alike" 4 (spAlike C))
    (m_fresh : OwnM P w K mg base C "fresh" 5 (spNew C gFresh)) (m_without : OwnM P w K mg base C "without" 5 (spNew C gWithout)) (eE : OpF P w K mg base C "__eq__" 1 (spEqP C)) (N : NeK K C) : FnG P w K mg base 6 f fd ["_law_pot_here", "_law_made", "_law_marks_here"] (spLaw3 C) := by
  refine fnG_of F sc_alikeR (fun vs H Q E h => ?_) (fun us hl => ?_) (fun cdv A outer s H vs Q hr hq h => ?_)
  · obtain ⟨pot, p, q, bs, rfl, _⟩ := h
    rfl
  · match us, hl with
    | [_, _, _], _ => rfl
  · obtain ⟨pot, p, q, bs, rfl, hM, qq⟩ := h
    have hu := hr.units
    obtain ⟨fE, sE, iE, FE⟩ := eE.ex
    refine ⟨_, (pss_cons (ps_for PassesOwn.never rfl (pi_enum rfl B.enumerate (pa_cons (pv 2) pa_nil)) (pg_tup rfl (pgs_cons (pg_name (i := 3) sc_alikeR.nd rfl (.inl rfl)) (pgs_cons (pg_name (i := 4) sc_alikeR.nd rfl (.inl rfl)) pgs_nil))) (pss_cons (ps_if (pt_cmpR op_ne (pe_callB (call_repr hq hu) rfl B.repr bo_repr (pa_cons (pe_om (pv 1) T.cl m_is_alike hr (by decide) (pa_cons (pv 3) pa_nil)) pa_nil)) (pe_callB (call_repr hq hu) rfl B.repr bo_repr (pa_cons (pe_cmpR op_notN (pv 4) pe_non (nomark _)) pa_nil)) (nomark _)) (pss_one (ps_ret pe_bl)) pss_nil)
      (pss_one (ps_for PassesOwn.never rfl (pi_enum rfl B.enumerate (pa_cons (pv 2) pa_nil)) (pg_tup rfl (pgs_cons (pg_name (i := 5) sc_alikeR.nd rfl (.inl rfl)) (pgs_cons (pg_name (i := 6) sc_alikeR.nd rfl (.inl rfl)) pgs_nil))) (pss_one (ps_if (pt_cmpR op_ne (pe_callB (call_repr hq hu) rfl B.repr bo_repr (pa_cons (pe_om (pv 1) T.cl m_is_alike hr (by decide) (pa_cons (pv 3) (pa_cons (pv 5) pa_nil))) pa_nil)) (pe_callB (call_repr hq hu) rfl B.repr bo_repr (pa_cons (pe_and (pe_cmpR op_notN (pv 4) pe_non (nomark _)) (pe_one (pe_cmpR op_eq (pv 4) (pv 6) (nomark _)))) pa_nil)) (nomark _)) (pss_one (ps_ret pe_bl)) pss_nil))))))
      (pss_cons (ps_asg (pe_lc (own := [("_law_turn", 10)]) (g := gName 10) rfl sc_alikeR.nd (pi_range1 rfl B.range (pa_cons pe_int pa_nil)) (blkOk_by (own := [("_law_turn", 10)]) (N := N_alikeR) (sc := defScope s_alikeR) (by decide +kernel)) (fun _ _ _ _ _ => pg_name (i := 10) sc_alikeR.nd rfl (.inl rfl)) (fun _ _ _ _ _ => pts_nil) (fun _ _ _ _ _ => (pe_own c_draw hr hq (by decide) (pa_cons (pv 0) (pa_cons (pe_callB (len_K (K := K) rfl) rfl B.len bo_len (pa_cons (pv 2) pa_nil)) pa_nil))))) (pg_unl rfl (pgs_cons (pg_name (i := 7) sc_alikeR.nd rfl (.inl rfl)) (pgs_cons (pg_name (i := 8) sc_alikeR.nd rfl (.inl rfl)) (pgs_cons (pg_name (i := 9) sc_alikeR.nd rfl (.inl rfl)) pgs_nil)))))
      (pss_cons (ps_if (PW.pt (pw_or (pt_cmpR (op_neOwn N sE iE FE (hr.mono (by decide))) (pe_om (pv 1) T.cl m_fresh hr (by decide) (pa_cons (pv 7) (pa_cons (pv 8) (pa_cons (pv 7) pa_nil)))) (pe_om (pv 1) T.cl m_fresh hr (by decide) (pa_cons (pv 8) (pa_cons (pv 7) pa_nil))) (nomark _)) (pw_or1 (pt_cmpR (op_neOwn N sE iE FE (hr.mono (by decide))) (pe_om (pv 1) T.cl m_without hr (by decide) (pa_cons (pv 9) (pa_cons (pv 9) (pa_cons (pv 8) pa_nil)))) (pe_om (pv 1) T.cl m_without hr (by decide) (pa_cons (pv 8) (pa_cons (pv 9) pa_nil))) (nomark _))))) (pss_one (ps_ret pe_bl)) pss_nil)
      (Evl.pss_cut (ps_set (i := 11) sc_alikeR.nd rfl (.inl rfl) (pe_and (pe_cmpR op_notN (pe_ix ix_list (pv 2) (pv 7) (fun _ _ => rfl)) pe_non (nomark _)) (pe_one (pe_chain op_eq op_eq (pe_ix ix_list (pv 2) (pv 7) (fun _ _ => rfl)) (pe_ix ix_list (pv 2) (pv 8) (fun _ _ => rfl)) (pe_ix ix_list (pv 2) (pv 9) (fun _ _ => rfl))))))
      (pss_one (ps_ret (pe_cmpR op_eq (pe_callB (call_repr hq hu) rfl B.repr bo_repr (pa_cons (pe_lst (pa_cons (pe_om (pv 1) T.cl m_is_alike hr (by decide) (pa_cons (pv 7) (pa_cons (pv 8) (pa_cons (pv 9) pa_nil)))) (pa_cons (pe_omS (pv 1) T.cl m_is_alike hr (by decide)) pa_nil))) pa_nil)) (pe_callB (call_repr hq hu) rfl B.repr bo_repr (pa_cons (pe_lst (pa_cons (pv 11) (pa_cons pe_bl pa_nil))) pa_nil)) (nomark _)))))))), ?_⟩
    have mk := hM.ms
    have lo := hM.lo
    have h8 := hM.hi
    obtain ⟨dx, tt, g1⟩ := hM.pt.ins
    have nl : (num bs).length = bs.length := num_len bs
    refine ⟨.ref q, rfl, q, _, rfl, .inl (.inl mk), for_it walk_enum (fun i σ H2 => ∃ y3 y4 y5 y6, σ = [some (.ref pot), some (.ref p), some (.ref q), y3, y4, y5, y6, none, none, none, none, none] ∧ Same H H2) ⟨_, _, _, _, rfl, Same.refl H⟩ (fun _ _ _ _ z => by obtain ⟨_, _, _, _, _, s2⟩ := z; exact .inl (.inl (s2 _ _ mk))) ?_ ?_⟩
    · rintro i x σ H1 H2 hi ⟨y3, y4, y5, y6, rfl, s1⟩ ⟨U, v1, v2, rfl, nU, rfl, e1, e2⟩
      cases e1
      obtain ⟨m, hm, rfl⟩ := get_marks e2
      have s2 : Same H (upd H1 U (.tup [.int (i : Nat), mV m])) := s1.trans (same_new nU)
      have hU : (upd H1 U (.tup [.int (i : Nat), mV m])) U = some (.tup [.int (i : Nat), mV m]) := upd_same
      have hil : i < bs.length := (List.getElem?_eq_some_iff.mp hm).1
      generalize upd H1 U (.tup [.int (i : Nat), mV m]) = H3 at s2 hU
      refine ⟨U, _, rfl, .inl (.inl hU), rfl, _, _, rfl, _, _, rfl, rfl, ?_⟩
      refine ⟨.ref p, rfl, p, dx, _, rfl, s2 _ _ g1, rfl, .int i, rfl, p, num bs, [(i : Int)], rfl, hM.pt.same s2, by show (1 : Nat) ≤ 1000; decide, by rw [nl]; exact in_1 hil, fun H4 s4 => ?_⟩
      refine ⟨_, .bool _, rfl, .bl _, (dbB _).1, (dbB _).2.1, (dbB _).2.2.1, le_line (dbB _).2.2.2, ?_⟩
      refine ⟨mV m, rfl, rfl, _, .bool _, rfl, .bl _, (dbB _).1, (dbB _).2.1, (dbB _).2.2.1, le_line (dbB _).2.2.2, ?_⟩
      have b1 : alikeB (num bs) [(i : Int)] = (!decide (mV m = .non)) := by
        rw [alike_marks (in_1 hil), pick_1 hm]
        unfold allM
        by_cases c : m = -1
        · subst c; rfl
        · simp [c, mV_non]
      refine ⟨rfl, _, rfl, iteNS (sh_eq b1) ?_⟩
      have s24 := s2.trans s4
      refine ⟨.ref q, rfl, q, _, rfl, .inl (.inl (s24 _ _ mk)), for_it walk_enum (fun j σ H5 => ∃ y5 y6, σ = [some (.ref pot), some (.ref p), some (.ref q), some (.int (i : Nat)), some (mV m), y5, y6, none, none, none, none, none] ∧ Same H H5) ⟨_, _, rfl, s24⟩ (fun _ _ _ _ z => by obtain ⟨_, _, _, s2⟩ := z; exact .inl (.inl (s2 _ _ mk))) ?_ ?_⟩
      · rintro j x σ H5 H6 hj ⟨y5, y6, rfl, s5⟩ ⟨U2, v1, v2, rfl, nU2, rfl, e3, e4⟩
        cases e3
        obtain ⟨n, hn, rfl⟩ := get_marks e4
        have s6 : Same H (upd H5 U2 (.tup [.int (j : Nat), mV n])) := s5.trans (same_new nU2)
        have hU2 : (upd H5 U2 (.tup [.int (j : Nat), mV n])) U2 = some (.tup [.int (j : Nat), mV n]) := upd_same
        have hjl : j < bs.length := (List.getElem?_eq_some_iff.mp hn).1
        generalize upd H5 U2 (.tup [.int (j : Nat), mV n]) = H7 at s6 hU2
        refine ⟨U2, _, rfl, .inl (.inl hU2), rfl, _, _, rfl, _, _, rfl, rfl, ?_⟩
        refine ⟨.ref p, rfl, p, dx, _, rfl, s6 _ _ g1, rfl, .int i, rfl, .int j, rfl, p, num bs, [(i : Int), (j : Int)], rfl, hM.pt.same s6, by show (2 : Nat) ≤ 1000; decide, by rw [nl]; exact in_2 hil hjl, fun H8 s8 => ?_⟩
        refine ⟨_, .bool _, rfl, .bl _, (dbB _).1, (dbB _).2.1, (dbB _).2.2.1, le_line (dbB _).2.2.2, ?_⟩
        have b2 : alikeB (num bs) [(i : Int), (j : Int)] = (decide (m ≠ -1) && decide (m = n)) := by
          rw [alike_marks (in_2 hil hjl), pick_2 hm hn]
          unfold allM
          by_cases c : m = -1
          · subst c; simp
          · by_cases c2 : m = n
            · subst c2; simp [c]
            · have c3 : ¬ n = m := fun z => c2 z.symm
              simp [c, c2, c3]
        refine ⟨mV m, rfl, rfl, _, rfl, ?_⟩
        by_cases c : m = -1
        · refine iteNS (mV_non.mpr c) ⟨_, .bool _, rfl, .bl _, (dbB _).1, (dbB _).2.1, (dbB _).2.2.1, le_line (dbB _).2.2.2, ?_⟩
          refine ⟨rfl, _, rfl, iteNS (sh_eq ?_) ⟨_, _, rfl, s6.trans s8⟩⟩
          rw [b2]
          simp [c, mV_non]
        · refine iteNT (fun z => c (mV_non.mp z)) ⟨mV m, rfl, mV n, rfl, scal_mV, ⟨_, .bool _, rfl, .bl _, (dbB _).1, (dbB _).2.1, (dbB _).2.2.1, le_line (dbB _).2.2.2, ?_⟩⟩
          refine ⟨rfl, _, rfl, iteNS (sh_eq ?_) ⟨_, _, rfl, s6.trans s8⟩⟩
          rw [b2]
          simp [c, mV_inj]
      · rintro σ H5 ⟨y5, y6, rfl, s5⟩
        exact ⟨_, _, _, _, rfl, s5⟩
    · rintro σ H1 ⟨y3, y4, y5, y6, rfl, s1⟩
      refine ⟨3, rfl, by decide, by decide, fun D hD => ?_⟩
      refine lc_flat walk_range (fun i y => ∃ d : Nat, y = .int (d : Int) ∧ d < bs.length) (by decide) hD (fun _ _ => trivial) ?_ ?_
      · rintro i y H2 H3 k hi s2 ⟨rfl, rfl⟩ kk
        have s2' := s1.trans s2
        refine ⟨rfl, .ref pot, rfl, .ref q, rfl, q, _, rfl, .inl (.inl (.inl (s2' _ _ mk))), ?_⟩
        rw [List.length_map]
        refine ⟨pot, bs.length, rfl, s2' _ _ hM.pot, by omega, by omega, fun d H4 d0 d1 s4 => kk _ _ s4 ⟨d.toNat, congrArg V.int (by omega), by omega⟩⟩
      · intro ys H2 hl2 hR s2 hy
        obtain ⟨ya, yb, yc, rfl⟩ : ∃ ya yb yc, ys = [ya, yb, yc] := by
          match ys, hl2 with
          | [ya, yb, yc], _ => exact ⟨_, _, _, rfl⟩
        obtain ⟨a, rfl, ha⟩ := hR 0 _ rfl
        obtain ⟨b, rfl, hb⟩ := hR 1 _ rfl
        obtain ⟨c, rfl, hc⟩ := hR 2 _ rfl
        have s2' := s1.trans s2
        refine ⟨D, _, rfl, .inl (.inl hy), rfl, _, _, rfl, _, _, rfl, _, _, rfl, rfl, ?_⟩
        obtain ⟨ma, hma⟩ : ∃ m, bs[a]? = some m := ⟨_, List.getElem?_eq_getElem ha⟩
        obtain ⟨mb, hmb⟩ : ∃ m, bs[b]? = some m := ⟨_, List.getElem?_eq_getElem hb⟩
        obtain ⟨mc, hmc⟩ : ∃ m, bs[c]? = some m := ⟨_, List.getElem?_eq_getElem hc⟩
        refine ⟨.ref p, rfl, p, dx, _, rfl, s2' _ _ g1, rfl, .int a, rfl, .int b, rfl, .int a, rfl, p, num bs, [(a : Int), (b : Int), (a : Int)], rfl, hM.pt.same s2', by show (3 : Nat) ≤ 1000; decide, by rw [nl]; exact in_3 ha hb ha, fun x1 H3 s3 hx1 => ?_⟩
        have s3' := s2'.trans s3
        refine ⟨.ref p, rfl, p, dx, _, rfl, s3' _ _ g1, rfl, .int b, rfl, .int a, rfl, p, num bs, [(b : Int), (a : Int)], rfl, hM.pt.same s3', by show (2 : Nat) ≤ 1000; decide, by rw [nl]; exact in_2 hb ha, fun x2 H4 s4 hx2 => ?_⟩
        have s4' := s3'.trans s4
        obtain ⟨d1, u1, i1⟩ := (hx1.same s4).ins
        obtain ⟨d2, u2, i2⟩ := hx2.ins
        have e12 : num (gFresh (num bs) [(a : Int), (b : Int), (a : Int)]) = num (gFresh (num bs) [(b : Int), (a : Int)]) := by
          congr 1
          refine marked_same fun x => ?_
          simp only [List.mem_cons, List.not_mem_nil, or_false]
          constructor <;> intro h <;> omega
        refine ⟨x1, x2, d1, d2, _, _, rfl, rfl, i1, i2, x1, x2, _, _, rfl, hx1.same s4, hx2, _, rfl, _, rfl, iteNS e12 ?_⟩
        refine ⟨.ref p, rfl, p, dx, _, rfl, s4' _ _ g1, rfl, .int c, rfl, .int c, rfl, .int b, rfl, p, num bs, [(c : Int), (c : Int), (b : Int)], rfl, hM.pt.same s4', by show (3 : Nat) ≤ 1000; decide, by rw [nl]; exact in_3 hc hc hb, fun x3 H5 s5 hx3 => ?_⟩
        have s5' := s4'.trans s5
        refine ⟨.ref p, rfl, p, dx, _, rfl, s5' _ _ g1, rfl, .int b, rfl, .int c, rfl, p, num bs, [(b : Int), (c : Int)], rfl, hM.pt.same s5', by show (2 : Nat) ≤ 1000; decide, by rw [nl]; exact in_2 hb hc, fun x4 H6 s6 hx4 => ?_⟩
        have s6' := s5'.trans s6
        obtain ⟨d3, u3, i3⟩ := (hx3.same s6).ins
        obtain ⟨d4, u4, i4⟩ := hx4.ins
        have e34 : num (gWithout (num bs) [(c : Int), (c : Int), (b : Int)]) = num (gWithout (num bs) [(b : Int), (c : Int)]) := by
          congr 1
          refine marked_same fun x => ?_
          simp only [List.mem_cons, List.not_mem_nil, or_false]
          constructor <;> intro h <;> omega
        refine ⟨x3, x4, d3, d4, _, _, rfl, rfl, i3, i4, x3, x4, _, _, rfl, hx3.same s6, hx4, _, rfl, _, rfl, iteNS e34 ?_⟩
        have mk6 := s6' _ _ mk
        refine ⟨fun σ H' => H' = H6 ∧ ∃ y3 y4 y5 y6 y10, σ = [some (.ref pot), some (.ref p), some (.ref q), y3, y4, y5, y6, some (.int a), some (.int b), some (.int c), y10, some (.bl (allM [ma, mb, mc]))], ?_, ?_⟩
        · refine ⟨.ref q, rfl, .int a, rfl, q, _, a, _, rfl, rfl, .inl (.inl mk6), at_marks hma, rfl, _, rfl, ?_⟩
          by_cases k1 : ma = -1
          · refine iteNS (mV_non.mpr k1) ⟨rfl, y3, y4, y5, y6, none, ?_⟩
            have e : false = allM [ma, mb, mc] := by
              unfold allM
              simp [k1]
            rw [← e]
            rfl
          · refine iteNT (fun z => k1 (mV_non.mp z)) ?_
            refine ⟨.ref q, rfl, .int a, rfl, q, _, a, _, rfl, rfl, .inl (.inl mk6), at_marks hma, .ref q, rfl, .int b, rfl, q, _, b, _, rfl, rfl, .inl (.inl mk6), at_marks hmb, scal_mV, _, rfl, ?_⟩
            by_cases k2 : ma = mb
            · refine iteDT (mV_inj.mpr k2) ⟨.ref q, rfl, .int c, rfl, q, _, c, _, rfl, rfl, .inl (.inl mk6), at_marks hmc, scal_mV, rfl, y3, y4, y5, y6, none, ?_⟩
              have e : decide (mV mb = mV mc) = allM [ma, mb, mc] := by
                subst k2
                unfold allM
                by_cases k3 : ma = mc
                · subst k3; simp [k1]
                · have k4 : ¬ mc = ma := fun z => k3 z.symm
                  simp [k1, k3, k4, mV_inj]
              rw [← e]
              rfl
            · refine iteDF (fun z => k2 (mV_inj.mp z)) ⟨rfl, y3, y4, y5, y6, none, ?_⟩
              have e : false = allM [ma, mb, mc] := by
                unfold allM
                have k4 : ¬ mb = ma := fun z => k2 z.symm
                simp [k4]
              rw [← e]
              rfl
        · rintro σ H' ⟨rfl, y3, y4, y5, y6, y10, rfl⟩
          refine ⟨.ref p, rfl, p, dx, _, rfl, s6' _ _ g1, rfl, .int a, rfl, .int b, rfl, .int c, rfl, p, num bs, [(a : Int), (b : Int), (c : Int)], rfl, hM.pt.same s6', by show (3 : Nat) ≤ 1000; decide, by rw [nl]; exact in_3 ha hb hc, fun H7 s7 => ?_⟩
          have s7' := s6'.trans s7
          refine ⟨.ref p, rfl, p, dx, _, rfl, s7' _ _ g1, rfl, ?_⟩
          refine ⟨p, num bs, [], rfl, hM.pt.same s7', by decide, (fun h hh => nomatch hh), fun H8 s8 => ?_⟩
          have s8' := s7'.trans s8
          refine ⟨two_le, fun l nl2 => ?_⟩
          have ea : alikeB (num bs) [(a : Int), (b : Int), (c : Int)] = allM [ma, mb, mc] := by rw [alike_marks (in_3 ha hb hc), pick_3 hma hmb hmc]
          have en : alikeB (num bs) [] = true := by simp [alikeB, pick]
          rw [ea, en]
          refine ⟨_, dB [allM [ma, mb, mc], true], rfl, dp_bools (bs := [allM [ma, mb, mc], true]) upd_same, (dB2 _ _).1, (dB2 _ _).2.1, (dB2 _ _).2.2.1, le_line (dB2 _ _).2.2.2, ?_⟩
          refine ⟨.bl (allM [ma, mb, mc]), rfl, two_le, fun l2 nl3 => ?_⟩
          refine ⟨_, dB [allM [ma, mb, mc], true], rfl, dp_bools (bs := [allM [ma, mb, mc], true]) upd_same, (dB2 _ _).1, (dB2 _ _).2.1, (dB2 _ _).2.2.1, le_line (dB2 _ _).2.2.2, rfl, ?_⟩
          rw [decide_eq_true rfl]
          exact qq _ (s8'.trans ((same_new nl2).trans (same_new nl3)))
end
end Jc
namespace Jc
open PySem PySem.Spec L2
open PyProof.Rows hiding St
def WayR (C : Addr) (c ts : List Int) (wy : Int) (v : V) (H : Hp) : Prop := (wy = 0 ∧ v = .bl (alikeB c ts)) ∨ (wy = 1 ∧ ∃ q, v = .ref q ∧ PartAt C H q (num (gFresh c ts))) ∨ (wy ≠ 0 ∧ wy ≠ 1 ∧ ∃ q, v = .ref q ∧ PartAt C H q (num (gWithout c ts)))
def spWay (C : Addr) (n : Nat) : Sp := fun vs H Q _ => ∃ (p r : Addr) (c ts : List Int) (wy : Int), vs = [.ref p, .ref r, .int wy] ∧ PartAt C H p c ∧ H r = some (.lst (ts.map V.int)) ∧ ts.length = n ∧ In c.length ts ∧ ∀ (v : V) (H2 : Hp), Same H H2 → WayR C c ts wy v H2 → Q v H2
section
variable {P : Program} {w : World} {K : PySem.W.Frag} {mg : Str → Option Value} {base : Heap} {f C : Addr} {fd : FuncData} {t1 : Tok}
abbrev s_four : Stmt := topS 39
abbrev N_four : List Str := ["_law_made", "_law_some", "_law_way", "_law_a", "_law_b", "_law_c", "_law_d"]
theorem sc_four : FnScope N_four ["_law_made", "_law_some", "_law_way"] (defScope s_four) := ⟨rfl, rfl, rfl, by decide +kernel, rfl, by decide +kernel, by decide +kernel⟩
theorem ok_four (F : Fun K "_law_four" "_law_four" s_four f fd) (T : PCf K mg C) (m_is_alike : OwnM P w K mg base C "is_alike" 4 (spAlike C)) (m_fresh : OwnM P w K mg base C "fresh" 5 (spNew C gFresh)) (m_without : OwnM P w K mg base C "without" 5 (spNew C gWithout)) :
    FnG P w K mg base 6 f fd ["_law_made", "_law_some", "_law_way"] (spWay C 4) := by
  refine fnG_of F sc_four (fun vs H Q E h => ?_) (fun us hl => ?_) (fun cdv A outer s H vs Q hr hq h => ?_)
  · obtain ⟨p, r, c, ts, wy, rfl, _⟩ := h
    rfl
  · match us, hl with
    | [_, _, _], _ => rfl
  · obtain ⟨p, r, c, ts, wy, rfl, hp, hrr, hl, hin, q⟩ := h
    refine ⟨_, (pss_cons (ps_asg (pv 1) (pg_unl rfl (pgs_cons (pg_name (i := 3) sc_four.nd rfl (.inl rfl)) (pgs_cons (pg_name (i := 4) sc_four.nd rfl (.inl rfl)) (pgs_cons (pg_name (i := 5) sc_four.nd rfl (.inl rfl)) (pgs_cons (pg_name (i := 6) sc_four.nd rfl (.inl rfl)) pgs_nil))))))
      (pss_cons (ps_if (pt_cmpR op_eq (pv 2) pe_int (nomark _)) (pss_one (ps_ret (pe_om (pv 0) T.cl m_is_alike hr (by decide) (pa_cons (pv 3) (pa_cons (pv 4) (pa_cons (pv 5) (pa_cons (pv 6) pa_nil))))))) pss_nil)
      (pss_one (ps_ret (pe_ifExp (pt_cmpR op_eq (pv 2) pe_int (nomark _)) (pe_om (pv 0) T.cl m_fresh hr (by decide) (pa_cons (pv 3) (pa_cons (pv 4) (pa_cons (pv 5) (pa_cons (pv 6) pa_nil))))) (pe_om (pv 0) T.cl m_without hr (by decide) (pa_cons (pv 3) (pa_cons (pv 4) (pa_cons (pv 5) (pa_cons (pv 6) pa_nil)))))))))), ?_⟩
    obtain ⟨dx, tt, g1⟩ := hp.ins
    obtain ⟨x0, x1, x2, x3, rfl⟩ : ∃ x0 x1 x2 x3, ts = [x0, x1, x2, x3] := by
      match ts, hl with
      | [x0, x1, x2, x3], _ => exact ⟨_, _, _, _, rfl⟩
    refine ⟨.ref r, rfl, r, _, rfl, .inl (.inl hrr), rfl, _, _, rfl, _, _, rfl, _, _, rfl, _, _, rfl, rfl, ?_⟩
    refine ⟨.int wy, rfl, rfl, _, rfl, ?_⟩
    by_cases w0 : wy = 0
    · refine iteDT (congrArg V.int w0) ⟨.ref p, rfl, p, dx, _, rfl, g1, rfl, .int x0, rfl, .int x1, rfl, .int x2, rfl, .int x3, rfl, ?_⟩
      refine ⟨p, c, [x0, x1, x2, x3], rfl, hp, by show (4 : Nat) ≤ 1000; decide, hin, fun H2 s2 => q _ H2 s2 ?_⟩
      exact .inl ⟨w0, rfl⟩
    · refine iteDF (fun z => w0 (V.int.inj z)) ⟨.int wy, rfl, rfl, _, rfl, ?_⟩
      by_cases w1 : wy = 1
      · refine iteDT (congrArg V.int w1) ⟨.ref p, rfl, p, dx, _, rfl, g1, rfl, .int x0, rfl, .int x1, rfl, .int x2, rfl, .int x3, rfl, ?_⟩
        refine ⟨p, c, [x0, x1, x2, x3], rfl, hp, by show (4 : Nat) ≤ 1000; decide, hin, fun y H2 s2 hy => q _ H2 s2 ?_⟩
        exact .inr (.inl ⟨w1, y, rfl, hy⟩)
      · refine iteDF (fun z => w1 (V.int.inj z)) ⟨.ref p, rfl, p, dx, _, rfl, g1, rfl, .int x0, rfl, .int x1, rfl, .int x2, rfl, .int x3, rfl, ?_⟩
        refine ⟨p, c, [x0, x1, x2, x3], rfl, hp, by show (4 : Nat) ≤ 1000; decide, hin, fun y H2 s2 hy => q _ H2 s2 ?_⟩
        exact .inr (.inr ⟨w0, w1, y, rfl, hy⟩)

abbrev s_eight : Stmt := topS 40
abbrev N_eight : List Str := ["_law_made", "_law_some", "_law_way", "_law_a", "_law_b", "_law_c", "_law_d", "_law_e", "_law_f", "_law_g", "_law_h"]
theorem sc_eight : FnScope N_eight ["_law_made", "_law_some", "_law_way"] (defScope s_eight) := ⟨rfl, rfl, rfl, by decide +kernel, rfl, by decide +kernel, by decide +kernel⟩
theorem ok_eight (F : Fun K "_law_eight" "_law_eight" s_eight f fd) (T : PCf K mg C) (m_is_alike : OwnM P w K mg base C "is_alike" 4 (spAlike C)) (m_fresh : OwnM P w K mg base C "fresh" 5 (spNew C gFresh)) (m_without : OwnM P w K mg base C "without" 5 (spNew C gWithout)) :
    FnG P w K mg base 6 f fd ["_law_made", "_law_some", "_law_way"] (spWay C 8) := by
  refine fnG_of F sc_eight (fun vs H Q E h => ?_) (fun us hl => ?_) (fun cdv A outer s H vs Q hr hq h => ?_)
  · obtain ⟨p, r, c, ts, wy, rfl, _⟩ := h
    rfl
  · match us, hl with
    | [_, _, _], _ => rfl
  · obtain ⟨p, r, c, ts, wy, rfl, hp, hrr, hl, hin, q⟩ := h
    refine ⟨_, (pss_cons (ps_asg (pv 1) (pg_unl rfl (pgs_cons (pg_name (i := 3) sc_eight.nd rfl (.inl rfl)) (pgs_cons (pg_name (i := 4) sc_eight.nd rfl (.inl rfl)) (pgs_cons (pg_name (i := 5) sc_eight.nd rfl (.inl rfl)) (pgs_cons (pg_name (i := 6) sc_eight.nd rfl (.inl rfl)) (pgs_cons (pg_name (i := 7) sc_eight.nd rfl (.inl rfl)) (pgs_cons (pg_name (i := 8) sc_eight.nd rfl (.inl rfl)) (pgs_cons (pg_name (i := 9) sc_eight.nd rfl (.inl rfl)) (pgs_cons (pg_name (i := 10) sc_eight.nd rfl (.inl rfl)) pgs_nil))))))))))
      (pss_cons (ps_if (pt_cmpR op_eq (pv 2) pe_int (nomark _)) (pss_one (ps_ret (pe_om (pv 0) T.cl m_is_alike hr (by decide) (pa_cons (pv 3) (pa_cons (pv 4) (pa_cons (pv 5) (pa_cons (pv 6) (pa_cons (pv 7) (pa_cons (pv 8) (pa_cons (pv 9) (pa_cons (pv 10) pa_nil))))))))))) pss_nil)
      (pss_one (ps_ret (pe_ifExp (pt_cmpR op_eq (pv 2) pe_int (nomark _)) (pe_om (pv 0) T.cl m_fresh hr (by decide) (pa_cons (pv 3) (pa_cons (pv 4) (pa_cons (pv 5) (pa_cons (pv 6) (pa_cons (pv 7) (pa_cons (pv 8) (pa_cons (pv 9) (pa_cons (pv 10) pa_nil))))))))) (pe_om (pv 0) T.cl m_without hr (by decide) (pa_cons (pv 3) (pa_cons (pv 4) (pa_cons (pv 5) (pa_cons (pv 6) (pa_cons (pv 7) (pa_cons (pv 8) (pa_cons (pv 9) (pa_cons (pv 10) pa_nil)))))))))))))), ?_⟩
    obtain ⟨dx, tt, g1⟩ := hp.ins
    obtain ⟨x0, x1, x2, x3, x4, x5, x6, x7, rfl⟩ : ∃ x0 x1 x2 x3 x4 x5 x6 x7, ts = [x0, x1, x2, x3, x4, x5, x6, x7] := by
      match ts, hl with
      | [x0, x1, x2, x3, x4, x5, x6, x7], _ => exact ⟨_, _, _, _, _, _, _, _, rfl⟩
    refine ⟨.ref r, rfl, r, _, rfl, .inl (.inl hrr), rfl, _, _, rfl, _, _, rfl, _, _, rfl, _, _, rfl, _, _, rfl, _, _, rfl, _, _, rfl, _, _, rfl, rfl, ?_⟩
    refine ⟨.int wy, rfl, rfl, _, rfl, ?_⟩
    by_cases w0 : wy = 0
    · refine iteDT (congrArg V.int w0) ⟨.ref p, rfl, p, dx, _, rfl, g1, rfl, .int x0, rfl, .int x1, rfl, .int x2, rfl, .int x3, rfl, .int x4, rfl, .int x5, rfl, .int x6, rfl, .int x7, rfl, ?_⟩
      refine ⟨p, c, [x0, x1, x2, x3, x4, x5, x6, x7], rfl, hp, by show (8 : Nat) ≤ 1000; decide, hin, fun H2 s2 => q _ H2 s2 ?_⟩
      exact .inl ⟨w0, rfl⟩
    · refine iteDF (fun z => w0 (V.int.inj z)) ⟨.int wy, rfl, rfl, _, rfl, ?_⟩
      by_cases w1 : wy = 1
      · refine iteDT (congrArg V.int w1) ⟨.ref p, rfl, p, dx, _, rfl, g1, rfl, .int x0, rfl, .int x1, rfl, .int x2, rfl, .int x3, rfl, .int x4, rfl, .int x5, rfl, .int x6, rfl, .int x7, rfl, ?_⟩
        refine ⟨p, c, [x0, x1, x2, x3, x4, x5, x6, x7], rfl, hp, by show (8 : Nat) ≤ 1000; decide, hin, fun y H2 s2 hy => q _ H2 s2 ?_⟩
        exact .inr (.inl ⟨w1, y, rfl, hy⟩)
      · refine iteDF (fun z => w1 (V.int.inj z)) ⟨.ref p, rfl, p, dx, _, rfl, g1, rfl, .int x0, rfl, .int x1, rfl, .int x2, rfl, .int x3, rfl, .int x4, rfl, .int x5, rfl, .int x6, rfl, .int x7, rfl, ?_⟩
        refine ⟨p, c, [x0, x1, x2, x3, x4, x5, x6, x7], rfl, hp, by show (8 : Nat) ≤ 1000; decide, hin, fun y H2 s2 hy => q _ H2 s2 ?_⟩
        exact .inr (.inr ⟨w0, w1, y, rfl, hy⟩)
end
end Jc
namespace Jc
open PySem PySem.Spec L2
open PyProof.Rows hiding St
theorem mk_of' {K : PySem.W.Frag} {C : Addr} {H : Hp} {R : Addr → Hp → Prop} {a : Addr} {c : List Int} (ha : H a = some (.lst (c.map V.int))) (l1 : 1 ≤ c.length) (l8 : c.length ≤ 8) (hn : num c = c) (q : ∀ p H2, Same H H2 → H p = none → PartAt C H2 p c → R p H2) :
    ∀ x dx, H x = none → H dx = none → dx ≠ x → spInit K C [.ref x, .ref a] (upd (upd H dx (.own x)) x (.ins C dx [])) (fun v H2 => v = .non ∧ R x H2) E0 := by
  intro x dx nx nd hne
  have s0 : Same H (upd (upd H dx (.own x)) x (.ins C dx [])) := same_mut (same_new nd) nx
  refine ⟨x, dx, a, c, rfl, upd_same, s0 _ _ ha, l1, l8, hn, fun t H2 h1 h2 k => ⟨rfl, q x H2 (fun b o e => k b o (ne_of_none e nx) (s0 _ _ e)) nx ⟨⟨dx, t, h1, h2⟩, l1, l8, hn⟩⟩⟩
/-- repr of a partition, told by repr of a list -/
structure ReF (P : Program) (w : World) (K : PySem.W.Frag) (mg : Str → Option Value) (base : Heap) (C : Addr) : Prop where
  ex : ∃ f fd, FnQ P w K mg base 1 f fd ["self"] TupFree (spRepr C) ∧ PySem.W.findIn K (.ref C) "__repr__" = some (some (.ref f)) ∧ PySem.W.isFn K (.ref f) = true ∧ ∀ (s : Shared) (u : Value), BindsTo s fd ⟨[u], []⟩ ((["self"] : List Str).zip [u])
/-- a partition that stands apart from the list at D -/
structure PartX (C : Addr) (H : Hp) (q : Addr) (c : List Int) (D : Addr) : Prop where
  ex : ∃ dx t, H q = some (.ins C dx [("_classes", .ref t)]) ∧ H t = some (.tup (c.map V.int)) ∧ q ≠ D ∧ t ≠ D
  lo : 1 ≤ c.length
  hi : c.length ≤ 8
  nu : num c = c
theorem PartAt.x {C : Addr} {H : Hp} {q D : Addr} {c : List Int} {xs : List V} (h : PartAt C H q c) (hD : H D = some (.lst xs)) : PartX C H q c D := by
  obtain ⟨⟨dx, t, a1, a2⟩, b, d, e⟩ := h
  exact ⟨⟨dx, t, a1, a2, fun z => (by rw [z, hD] at a1; cases a1), fun z => (by rw [z, hD] at a2; cases a2)⟩, b, d, e⟩
theorem PartX.keep {C : Addr} {H H2 : Hp} {q D : Addr} {c : List Int} (h : PartX C H q c D) (k : ∀ b o, b ≠ D → H b = some o → H2 b = some o) : PartX C H2 q c D := by
  obtain ⟨⟨dx, t, a1, a2, n1, n2⟩, b, d, e⟩ := h
  exact ⟨⟨dx, t, k _ _ n1 a1, k _ _ n2 a2, n1, n2⟩, b, d, e⟩
theorem PartX.at {C : Addr} {H : Hp} {q D : Addr} {c : List Int} (h : PartX C H q c D) : PartAt C H q c := by
  obtain ⟨⟨dx, t, a1, a2, n1, n2⟩, b, d, e⟩ := h
  exact ⟨⟨dx, t, a1, a2⟩, b, d, e⟩
def WayX (C : Addr) (c ts : List Int) (D : Addr) (wy : Nat) (v : V) (H : Hp) : Prop := (wy = 0 ∧ v = .bl (alikeB c ts)) ∨ (wy = 1 ∧ ∃ q, v = .ref q ∧ PartX C H q (num (gFresh c ts)) D) ∨ (wy ≠ 0 ∧ wy ≠ 1 ∧ ∃ q, v = .ref q ∧ PartX C H q (num (gWithout c ts)) D)
/-- what is due at each place -/
def dueM (bs ts : List Int) (i : Nat) : List Int := num (marked bs ts (if i = 0 then 900 else -1))
section
variable {P : Program} {w : World} {K : PySem.W.Frag} {mg : Str → Option Value} {base : Heap} {f C : Addr} {fd : FuncData} {t1 : Tok}
abbrev s_more : Stmt := topS 41
abbrev N_more : List Str := ["_law_pot_here", "_law_made", "_law_marks_here", "_law_size", "_law_some", "_law_turn", "_law_told", "_law_way", "_law_near", "_law_k", "_law_due", "_law_mark", "_law_word", "_law_later"]
theorem sc_more : FnScope N_more ["_law_pot_here", "_law_made", "_law_marks_here"] (defScope s_more) := ⟨rfl, rfl, rfl, by decide +kernel, rfl, by decide +kernel, by decide +kernel⟩
def spMore (C : Addr) : Sp := fun vs H Q _ => ∃ (pot p q : Addr) (bs : List Int), vs = [.ref pot, .ref p, .ref q] ∧ Mk11 C H pot p q bs ∧ (900 : Int) ∉ bs ∧ ∀ H2, Same H H2 → Q (.bl true) H2
theorem ok_more (F : Fun K "_law_more_right" "_law_more_right" s_more f fd) (B : Blt mg) (T : PCf K mg C) (M : OwnI P w K mg base C 3 (spInit K C)) (c_draw : Own P w K mg base "_law_draw" 1 ["_law_pot_here", "_law_lot"] spDraw)
    (c_four : Own P w K mg base "_law_four" 6 ["_law_made", "_law_some", "_law_way"] (spWay C 4)) (c_eight : Own P w K mg base "_law_eight" 6 ["_law_made", "_law_some", "_law_way"] (spWay C 8))
    (c_numbers : Own P w K mg base "_law_numbers" 1 ["_law_marks_here"] spNumbers) (c_lmarked : Own P w K mg base "_law_marked" 1 ["_law_marks_here", "_law_deed_here", "_law_mark"] spLMarked)
    (eE : OpF P w K mg base C "__eq__" 1 (spEqP C)) (eR : ReF P w K mg base C) : FnG P w K mg base 7 f fd ["_law_pot_here", "_law_made", "_law_marks_here"] (spMore C) := by
  refine fnG_of F sc_more (fun vs H Q E h => ?_) (fun us hl => ?_) (fun cdv A outer s H vs Q hr hq h => ?_)
  · obtain ⟨pot, p, q, bs, rfl, _⟩ := h
    rfl
  · match us, hl with
    | [_, _, _], _ => rfl
  · obtain ⟨pot, p, q, bs, rfl, hM, h900, qq⟩ := h
    have hu := hr.units
    obtain ⟨fE, sE, iE, FE⟩ := eE.ex
    obtain ⟨fR, dR, GR, sR, iR, bR⟩ := eR.ex
    refine ⟨_, (pss_cons (ps_for PassesOwn.never rfl (pi_tup (pe_tup (pa_cons pe_int (pa_cons pe_int pa_nil)))) (pg_name (i := 3) sc_more.nd rfl (.inr rfl)) (pss_cons (ps_set (i := 4) sc_more.nd rfl (.inr rfl) (pe_lc (own := [("_law_turn", 5)]) (g := gName 5) rfl sc_more.nd (pi_range1 rfl B.range (pa_cons (pv 3) pa_nil)) (blkOk_by (own := [("_law_turn", 5)]) (N := N_more) (sc := defScope s_more) (by decide +kernel)) (fun _ _ _ _ _ => pg_name (i := 5) sc_more.nd rfl (.inl rfl)) (fun _ _ _ _ _ => pts_nil) (fun _ _ _ _ _ => (pe_own c_draw hr hq (by decide) (pa_cons (pv 0) (pa_cons (pe_callB (len_K (K := K) rfl) rfl B.len bo_len (pa_cons (pv 2) pa_nil)) pa_nil))))))
      (pss_cons (ps_setLc (i := 6) (own := [("_law_way", 7)]) (g := gName 7) rfl sc_more.nd rfl rfl (sw_true rfl rfl rfl (by decide +kernel)) (pi_range1 rfl B.range (pa_cons pe_int pa_nil)) (blkOk_by (own := [("_law_way", 7)]) (N := N_more) (sc := defScope s_more) (by decide +kernel)) (fun _ _ _ _ _ => pg_name (i := 7) sc_more.nd rfl (.inl rfl)) (fun _ _ _ _ _ => pts_nil) (fun _ _ _ _ _ => (pe_ifExp (pt_cmpR op_eq (pv 3) pe_int (nomark _)) (pe_own c_four hr hq (by decide) (pa_cons (pv 1) (pa_cons (pv 4) (pa_cons (pv 7) pa_nil)))) (pe_own c_eight hr hq (by decide) (pa_cons (pv 1) (pa_cons (pv 4) (pa_cons (pv 7) pa_nil)))))))
      (pss_cons (ps_set (i := 8) sc_more.nd rfl (.inr rfl) (pe_lc (own := [("_law_k", 9)]) (g := gName 9) rfl sc_more.nd (pi_list (pv 4)) (blkOk_by (own := [("_law_k", 9)]) (N := N_more) (sc := defScope s_more) (by decide +kernel)) (fun _ _ _ _ _ => pg_name (i := 9) sc_more.nd rfl (.inl rfl)) (fun _ _ _ _ _ => pts_nil) (fun _ _ _ _ _ => (pe_ix (ixl_K (K := K) rfl) (pv 2) (pv 9) (fun _ _ => rfl)))))
      (pss_cons (ps_set (i := 10) sc_more.nd rfl (.inl rfl) (pe_lst (pa_cons (pe_callB (cr_all rfl) rfl B.all bo_all (pa_cons (pe_lc (own := [("_law_mark", 11)]) (g := gName 11) rfl sc_more.nd (pi_list (pv 8)) (blkOk_by (own := [("_law_mark", 11)]) (N := N_more) (sc := defScope s_more) (by decide +kernel)) (fun _ _ _ _ _ => pg_name (i := 11) sc_more.nd rfl (.inl rfl)) (fun _ _ _ _ _ => pts_nil) (fun _ _ _ _ _ => (pe_and (pe_cmpR op_notN (pv 11) pe_non (nomark _)) (pe_one (pe_cmpR op_eq (pv 11) (pe_ix (ixl_K (K := K) rfl) (pv 8) pe_int (fun _ _ => rfl)) (nomark _)))))) pa_nil)) pa_nil)))
      (pss_cons (ps_for PassesOwn.never rfl (pi_tup (pe_tup (pa_cons pe_str (pa_cons pe_str pa_nil)))) (pg_name (i := 12) sc_more.nd rfl (.inl rfl)) (pss_cons (ps_set (i := 13) sc_more.nd rfl (.inl rfl) (pe_oi M hr (by decide) T.mc (pa_cons (pe_own c_numbers hr hq (by decide) (pa_cons (pe_own c_lmarked hr hq (by decide) (pa_cons (pv 2) (pa_cons (pe_tup (pa_cons (pv 12) (pa_cons (pv 4) pa_nil))) (pa_cons pe_int pa_nil)))) pa_nil)) pa_nil)))
      (pss_one (ps_expr (pe_bm PySem.F.plainAttrs_list PySem.F.slot_list_append PySem.F.type_list_append mt_append (pv 10) (pa_cons (pv 13) pa_nil))))))
      (pss_one (ps_if (PW.pt (pw_or (pt_cmpR op_ne (pe_callB (call_reprM GR sR iR bR hq (hr.mono (by decide))) rfl B.repr bo_repr (pa_cons (pv 6) pa_nil)) (pe_callB (call_reprM GR sR iR bR hq (hr.mono (by decide))) rfl B.repr bo_repr (pa_cons (pv 10) pa_nil)) (nomark _)) (pw_or1 (pt_cmpR (op_neM sE iE FE (hr.mono (by decide))) (pv 6) (pv 10) (nomark _))))) (pss_one (ps_ret pe_bl)) pss_nil))))))))
      (pss_one (ps_ret pe_bl))), ?_⟩
    have mk := hM.ms
    have lo := hM.lo
    have h8 := hM.hi
    have nl : (num bs).length = bs.length := num_len bs
    refine ⟨two_le, fun tp ntp => ?_⟩
    have s0 : Same H (upd H tp (.tup [.int 4, .int 8])) := same_new ntp
    have htp : (upd H tp (.tup [.int 4, .int 8])) tp = some (.tup [.int 4, .int 8]) := upd_same
    generalize upd H tp (.tup [.int 4, .int 8]) = H0 at s0 htp
    refine ⟨tp, rfl, ⟨_, .inl (.inl htp)⟩, for_it walk_tup (fun i σ H2 => ∃ y3 y4 y6 y8 y10 y12 y13, σ = [some (.ref pot), some (.ref p), some (.ref q), y3, y4, none, y6, none, y8, none, y10, none, y12, y13] ∧ Same H0 H2) ⟨_, _, _, _, _, _, _, rfl, Same.refl H0⟩ (fun _ _ _ _ z => by obtain ⟨_, _, _, _, _, _, _, _, s2⟩ := z; exact .inl (.inl (s2 _ _ htp))) ?_ ?_⟩
    · rintro i x σ H1 H2 hi ⟨y3, y4, y6, y8, y10, y12, y13, rfl, s1'⟩ ⟨rfl, hx⟩
      obtain ⟨n, hn, rfl⟩ : ∃ n : Nat, (n = 4 ∨ n = 8) ∧ x = .int (n : Int) := by
        match i, hx with
        | 0, hx => exact ⟨4, .inl rfl, (Option.some.inj hx).symm⟩
        | 1, hx => exact ⟨8, .inr rfl, (Option.some.inj hx).symm⟩
      have s1 := s0.trans s1'
      have n8 : n ≤ 8 := by omega
      have n4 : 4 ≤ n := by omega
      -- some
      refine ⟨.int n, rfl, n, rfl, by omega, by omega, fun S nS => ?_⟩
      refine lc_flat walk_range (fun i y => ∃ d : Nat, y = .int (d : Int) ∧ d < bs.length) (by omega) nS (fun _ _ => trivial) ?_ ?_
      · rintro i y H2 H3 k hi s2 ⟨rfl, rfl⟩ kk
        have s2' := s1.trans s2
        refine ⟨rfl, .ref pot, rfl, .ref q, rfl, q, _, rfl, .inl (.inl (.inl (s2' _ _ mk))), ?_⟩
        rw [List.length_map]
        refine ⟨pot, bs.length, rfl, s2' _ _ hM.pot, by omega, by omega, fun d H4 d0 d1 s4 => kk _ _ s4 ⟨d.toNat, congrArg V.int (by omega), by omega⟩⟩
      intro ys H3 hyl hR s3 hS
      obtain ⟨ts, htl, rfl, hin⟩ : ∃ ts : List Int, ts.length = n ∧ ys = ts.map V.int ∧ In bs.length ts := by
        have gen : ∀ ys : List V, (∀ y ∈ ys, ∃ d : Nat, y = .int (d : Int) ∧ d < bs.length) → ∃ ts : List Int, ys = ts.map V.int ∧ In bs.length ts := by
          intro ys
          induction ys with
          | nil => exact fun _ => ⟨[], rfl, fun _ h => nomatch h⟩
          | cons y r ih =>
            intro h
            obtain ⟨d, rfl, hd⟩ := h y List.mem_cons_self
            obtain ⟨ts, rfl, hts⟩ := ih fun y hy => h y (List.mem_cons_of_mem _ hy)
            refine ⟨(d : Int) :: ts, rfl, fun x hx => ?_⟩
            rcases List.mem_cons.mp hx with z | z
            · rw [z]; omega
            · exact hts x z
        obtain ⟨ts, e, hts⟩ := gen ys fun y hy => by
          obtain ⟨i, hi⟩ := List.getElem?_of_mem hy
          exact hR i y hi
        refine ⟨ts, ?_, e, hts⟩
        have := congrArg List.length e
        rw [List.length_map] at this
        rw [← this, hyl]
        omega
      have s3' := s1.trans s3
      -- told
      refine ⟨3, rfl, by decide, by decide, fun D nD => ?_⟩
      refine lc_rel walk_range (fun i y H => WayX C (num bs) ts D i y H) (by decide) nD (fun i y H H2 k r => ?_) (fun _ _ => trivial) ?_ ?_
      · rcases r with r | ⟨r, q, e, z⟩ | ⟨r, r2, q, e, z⟩
        · exact .inl r
        · exact .inr (.inl ⟨r, q, e, z.keep k⟩)
        · exact .inr (.inr ⟨r, r2, q, e, z.keep k⟩)
      · rintro i x H4 H5 k hi s4 ⟨zs, hz⟩ ⟨rfl, rfl⟩ kk
        have s4' := s3'.trans s4
        have hi3 : i < 3 := hi
        have done : ∀ (v : V) (H6 : Hp), Same H5 H6 → WayR C (num bs) ts (0 + (i : Int)) v H6 → k v H6 := fun v H6 s6 r => by
          have hz6 := s6 _ _ hz
          refine kk _ _ s6 ?_
          rcases r with ⟨e, r⟩ | ⟨e, q, r, z⟩ | ⟨e, e2, q, r, z⟩
          · exact .inl ⟨by omega, r⟩
          · exact .inr (.inl ⟨by omega, q, r, z.x hz6⟩)
          · exact .inr (.inr ⟨by omega, by omega, q, r, z.x hz6⟩)
        refine ⟨rfl, .int n, rfl, rfl, _, rfl, ?_⟩
        rcases hn with hn | hn
        · refine iteDT (congrArg V.int (by omega)) ⟨.ref p, rfl, .ref S, rfl, .int (0 + (i : Int)), rfl, p, S, num bs, ts, _, rfl, hM.pt.same s4', s4 _ _ hS, by omega, by rw [nl]; exact hin, fun v H6 s6 r => done v H6 s6 r⟩
        · refine iteDF (fun z => by have := V.int.inj z; omega) ⟨.ref p, rfl, .ref S, rfl, .int (0 + (i : Int)), rfl, p, S, num bs, ts, _, rfl, hM.pt.same s4', s4 _ _ hS, by omega, by rw [nl]; exact hin, fun v H6 s6 r => done v H6 s6 r⟩
      intro ys H4 hyl2 hR2 s4 hD
      have s4' := s3'.trans s4
      obtain ⟨v0, v1, v2, rfl⟩ : ∃ a b c, ys = [a, b, c] := by
        match ys, hyl2 with
        | [a, b, c], _ => exact ⟨_, _, _, rfl⟩
      obtain rfl : v0 = .bl (alikeB (num bs) ts) := by
        rcases hR2 0 _ rfl with ⟨_, r⟩ | ⟨r, _⟩ | ⟨r, _⟩
        · exact r
        · cases r
        · exact absurd rfl r
      obtain ⟨p1, rfl, P1⟩ : ∃ q, v1 = .ref q ∧ PartX C H4 q (num (gFresh (num bs) ts)) D := by
        rcases hR2 1 _ rfl with ⟨r, _⟩ | ⟨_, r⟩ | ⟨_, r, _⟩
        · cases r
        · exact r
        · exact absurd rfl r
      obtain ⟨p2, rfl, P2⟩ : ∃ q, v2 = .ref q ∧ PartX C H4 q (num (gWithout (num bs) ts)) D := by
        rcases hR2 2 _ rfl with ⟨r, _⟩ | ⟨r, _⟩ | ⟨_, _, r⟩
        · cases r
        · cases r
        · exact r
      have hS4 := s4 _ _ hS
      have mk4 := s4' _ _ mk
      -- near
      refine ⟨.ref S, rfl, S, rfl, ⟨_, .inl (.inl hS4)⟩, fun G nG => ?_⟩
      have hpl : (pick bs ts).length = ts.length := by rw [pick, List.length_map]
      refine lc_sel walk_list (fun i => ((pick bs ts).map mV)[i]?) (by rw [List.length_map]; omega) nG (fun H5 z => .inl (.inl (z _ _ hS4))) ?_ ?_
      · rintro i x H5 H6 kf kn hi' z ⟨rfl, hx⟩ ky kk
        obtain ⟨h, hh, rfl⟩ := get_ints hx
        obtain ⟨g0, g1⟩ := hin h (List.mem_of_getElem? hh)
        have hc := getD_in (c := bs) (i := h.toNat) (by omega)
        have ec := at_marks hc
        rw [Int.toNat_of_nonneg g0] at ec
        refine ⟨rfl, ?_⟩
        refine iteT (B := kn H6) ⟨.ref q, rfl, .int h, rfl, q, _, h, _, rfl, rfl, .inl (.inl (z _ _ mk4)), ec, ky _ _ ?_ (Same.refl _)⟩
        rw [List.getElem?_map, pick, List.getElem?_map, hh]
        rfl
      intro H5 s5 hG
      have e0 : (ts.map V.int).length = ((pick bs ts).map mV).length := by rw [List.length_map, List.length_map, hpl]
      rw [e0, range_get] at hG
      have s5' := s4'.trans s5
      generalize hys : pick bs ts = ms at hG hpl
      -- due
      refine ⟨.ref G, rfl, G, rfl, ⟨_, .inl (.inl hG)⟩, fun E nE => ?_⟩
      refine lc_sel walk_list (fun i => ((ms.map fun y => decide (y ≠ -1) && decide (y = ms.headD 0)).map V.bl)[i]?) (by rw [List.length_map]; omega) nE (fun H6 z => .inl (.inl (z _ _ hG))) ?_ ?_
      · rintro i x H6 H7 kf kn hi' z ⟨rfl, hx⟩ ky kk
        obtain ⟨m, hm, rfl⟩ := get_marks hx
        have h0 : ms[0]? = some (ms.headD 0) := by
          cases ms with
          | nil => simp at hm
          | cons a r => rfl
        refine ⟨rfl, ?_⟩
        refine iteT (B := kn H7) ⟨mV m, rfl, rfl, _, rfl, ?_⟩
        by_cases c : m = -1
        · refine iteNS (mV_non.mpr c) (ky _ _ ?_ (Same.refl _))
          rw [List.getElem?_map, List.getElem?_map, hm]
          simp [c]
        · refine iteNT (fun z => c (mV_non.mp z)) ⟨mV m, rfl, .ref G, rfl, G, _, 0, _, rfl, rfl, .inl (.inl (z _ _ hG)), at_marks (i := 0) h0, scal_mV, ky _ _ ?_ (Same.refl _)⟩
          rw [List.getElem?_map, List.getElem?_map, hm]
          simp [c, mV_inj]
      intro H6 s6 hE
      have e1 : (ms.map mV).length = ((ms.map fun y => decide (y ≠ -1) && decide (y = ms.headD 0)).map V.bl).length := by rw [List.length_map, List.length_map, List.length_map]
      rw [e1, range_get] at hE
      refine ⟨E, _, rfl, .inl (.inl hE), le_line (by show (1 : Nat) ≤ 1000000; decide), fun L nL => ?_⟩
      have eb : (ms.map fun y => decide (y ≠ -1) && decide (y = ms.headD 0)).all id = alikeB (num bs) ts := by
        rw [alike_marks hin, hys]
        unfold allM
        rw [List.all_map]
        rfl
      rw [eb]
      have s6' := s5'.trans s6
      have hD6 := s6 _ _ (s5 _ _ hD)
      have P16 : PartAt C H6 p1 _ := (P1.at.same s5).same s6
      have P26 : PartAt C H6 p2 _ := (P2.at.same s5).same s6
      have s7 : Same H6 (upd H6 L (.lst [.bl (alikeB (num bs) ts)])) := same_new nL
      have hL7 : (upd H6 L (.lst [.bl (alikeB (num bs) ts)])) L = some (.lst [.bl (alikeB (num bs) ts)]) := upd_same
      generalize upd H6 L (.lst [.bl (alikeB (num bs) ts)]) = H7 at s7 hL7
      -- both words
      refine ⟨two_le, fun wp nwp => ?_⟩
      have s8 : Same H7 (upd H7 wp (.tup [.str "fresh", .str "without"])) := same_new nwp
      have hwp : (upd H7 wp (.tup [.str "fresh", .str "without"])) wp = some (.tup [.str "fresh", .str "without"]) := upd_same
      generalize upd H7 wp (.tup [.str "fresh", .str "without"]) = H8 at s8 hwp
      have hL8 := s8 _ _ hL7
      have s68 := s7.trans s8
      have wL : wp ≠ L := fun z => by rw [z, hL8] at hwp; cases hwp
      refine ⟨wp, rfl, ⟨_, .inl (.inl hwp)⟩, for_it walk_tup (fun i σ H9 => ∃ y12 y13 qs, σ = [some (.ref pot), some (.ref p), some (.ref q), some (.int n), some (.ref S), none, some (.ref D), none, some (.ref G), none, some (.ref L), none, y12, y13] ∧ Same H6 H9 ∧ H9 wp = some (.tup [.str "fresh", .str "without"]) ∧
          qs.length = i ∧ i ≤ 2 ∧ H9 L = some (.lst (.bl (alikeB (num bs) ts) :: qs.map fun r : Addr × List Int => V.ref r.1)) ∧ ∀ (j : Nat) r, qs[j]? = some r → PartAt C H9 r.1 r.2 ∧ r.2 = dueM bs ts j) ⟨_, _, [], rfl, s68, hwp, rfl, by decide, hL8, fun j r e => by simp at e⟩ (fun _ _ _ _ z => by obtain ⟨_, _, _, _, _, z, _⟩ := z; exact .inl (.inl z)) ?_ ?_⟩
      · rintro j x σ H9 H10 hj ⟨y12, y13, qs, rfl, s9, hw9, hql, hj2, hL9, hQ⟩ ⟨rfl, hx⟩
        obtain ⟨dd, wd, rfl, hdd, ej⟩ : ∃ (d : Deed) (wd : Str), x = .str wd ∧ (∀ (t : Addr) (r : Addr) (H : Hp), H t = some (.tup [.str wd, .ref r]) → H r = some (.lst (ts.map V.int)) → DeedAt H t bs.length d) ∧ num (marksF bs 900 d) = dueM bs ts j := by
          match j, hx with
          | 0, hx => exact ⟨.fresh ts, "fresh", (Option.some.inj hx).symm, fun t r H h1 h2 => ⟨⟨r, h1, h2⟩, hin, by omega⟩, rfl⟩
          | 1, hx => exact ⟨.without ts, "without", (Option.some.inj hx).symm, fun t r H h1 h2 => ⟨⟨r, h1, h2⟩, hin, by omega⟩, rfl⟩
        have s9' := s6'.trans s9
        refine ⟨.ref q, rfl, .str wd, rfl, .ref S, rfl, two_le, fun U nU => ?_⟩
        have s10 : Same H10 (upd H10 U (.tup [.str wd, .ref S])) := same_new nU
        have hU : (upd H10 U (.tup [.str wd, .ref S])) U = some (.tup [.str wd, .ref S]) := upd_same
        generalize upd H10 U (.tup [.str wd, .ref S]) = H11 at s10 hU
        have hS11 : H11 S = some (.lst (ts.map V.int)) := s10 _ _ (s9 _ _ (s6 _ _ (s5 _ _ hS4)))
        refine ⟨q, U, bs, dd, 900, rfl, s10 _ _ (s9' _ _ mk), hdd U S H11 hU hS11, by decide, h8, fun r1 H12 s12 _ h12 => ?_⟩
        have ml : (marksF bs 900 dd).length = bs.length := marksF_len (hdd U S H11 hU hS11).ok
        refine ⟨r1, _, rfl, h12, by omega, fun r2 H13 s13 h13 => ?_⟩
        refine mk_of' (R := fun x H => _) h13 (by rw [num_len]; omega) (by rw [num_len]; omega) (num_num _) fun y H14 s14 ny hy => ?_
        have s1014 := s10.trans (s12.trans (s13.trans s14))
        have hL14 := s1014 _ _ hL9
        refine ⟨.ref L, rfl, .inl ⟨rfl, _, .inl (.inl hL14)⟩, .ref y, rfl, L, _, _, rfl, rfl, hL14, ?_, ?_⟩
        · exact Nat.lt_of_lt_of_le (show _ < 1000000 by rw [List.length_cons, List.length_map]; omega) (by rw [sizeLine_eq]; decide)
        · refine ⟨_, _, qs ++ [(y, dueM bs ts j)], rfl, same_mut (s9.trans s1014) nL, by rw [upd_ne wL]; exact s1014 _ _ hw9, by rw [List.length_append, hql]; rfl, ?_, ?_, ?_⟩
          · have : j < 2 := hj
            omega
          · rw [upd_same, List.map_append]
            rfl
          · intro k r e
            rw [ej] at hy
            by_cases hk : k < qs.length
            · rw [List.getElem?_append_left hk] at e
              obtain ⟨z1, z2⟩ := hQ k r e
              exact ⟨(z1.same s1014).mut hL14, z2⟩
            · have hk2 : k = qs.length := by
                have := (List.getElem?_eq_some_iff.mp e).1
                rw [List.length_append] at this
                simp at this
                omega
              subst hk2
              rw [List.getElem?_append_right (Nat.le_refl _)] at e
              simp at e
              subst e
              rw [hql]
              exact ⟨hy.mut hL14, rfl⟩
      · rintro σ H9 ⟨y12, y13, qs, rfl, s9, hw9, hql, hj2, hL9, hQ⟩
        obtain ⟨r1, r2, rfl⟩ : ∃ r1 r2, qs = [r1, r2] := by
          match qs, hql with
          | [a, b], _ => exact ⟨_, _, rfl⟩
        obtain ⟨R1, E1⟩ := hQ 0 _ rfl
        obtain ⟨R2, E2⟩ := hQ 1 _ rfl
        have P19 := P16.same s9
        have P29 := P26.same s9
        have hD9 := s9 _ _ hD6
        have f1 : num (gFresh (num bs) ts) = r1.2 := by
          rw [E1]
          show num (marked (num bs) ts ((num bs).length : Int)) = num (marked bs ts 900)
          rw [num_len]
          exact num_fresh h900 (by decide)
        have f2 : num (gWithout (num bs) ts) = r2.2 := by
          rw [E2]
          exact num_gone
        rw [f1] at P19
        rw [f2] at P29
        have okD : ∀ m ∈ ([.inl (alikeB (num bs) ts), .inr (p1, r1.2), .inr (p2, r2.2)] : List MI), miOk C H9 m := fun m hm => by
          simp only [List.mem_cons, List.not_mem_nil, or_false] at hm
          rcases hm with rfl | rfl | rfl
          · trivial
          · exact P19
          · exact P29
        have okL : ∀ m ∈ ([.inl (alikeB (num bs) ts), .inr r1, .inr r2] : List MI), miOk C H9 m := fun m hm => by
          simp only [List.mem_cons, List.not_mem_nil, or_false] at hm
          rcases hm with rfl | rfl | rfl
          · trivial
          · exact R1
          · exact R2
        refine ⟨.ref D, rfl, D, .inl (alikeB (num bs) ts), [.inr (p1, r1.2), .inr (p2, r2.2)], rfl, hD9, okD, by show (3 : Nat) ≤ 8; decide, fun H10 s10 => ?_⟩
        refine ⟨.ref L, rfl, L, .inl (alikeB (num bs) ts), [.inr r1, .inr r2], rfl, s10 _ _ hL9, fun m hm => (okL m hm).same s10, by show (3 : Nat) ≤ 8; decide, fun H11 s11 => ?_⟩
        refine ⟨rfl, _, rfl, iteNS rfl ?_⟩
        have s911 := s10.trans s11
        refine ⟨.ref D, rfl, .ref L, rfl, D, L, [.inl (alikeB (num bs) ts), .inr (p1, r1.2), .inr (p2, r2.2)], [.inl (alikeB (num bs) ts), .inr r1, .inr r2], rfl, rfl, s911 _ _ hD9, s911 _ _ hL9, rfl, fun m hm => (okD m hm).same s911, fun m hm => (okL m hm).same s911, fun i m n' e e' => ?_, _, rfl, iteF ?_⟩
        · match i, e, e' with
          | 0, e, e' => cases e; cases e'; exact rfl
          | 1, e, e' => cases e; cases e'; exact rfl
          | 2, e, e' => cases e; cases e'; exact rfl
        · exact ⟨_, _, _, _, _, _, _, rfl, s1'.trans (s3.trans (s4.trans (s5.trans (s6.trans (s9.trans s911)))))⟩
    · rintro σ H2 ⟨y3, y4, y6, y8, y10, y12, y13, rfl, s2⟩
      exact qq H2 (s0.trans s2)
end
end Jc
namespace Jc
open PySem PySem.Spec L2
open PyProof.Rows hiding St
structure OwnMkK (P : Program) (w : World) (K : PySem.W.Frag) (mg : Str → Option Value) (base : Heap) (C : Addr) (k : Nat) (a : Str) (sp : Sp) : Prop where
  ex : ∃ (f : Addr) (fd : FuncData), Mk K C f ∧ FnOk P w K mg base CX0 k f fd ["self", a] sp ∧ KBn K fd ["self", a] 1 [a] (fun us ws => us ++ ws) (fun vs zs => vs ++ zs)
theorem pe_oiK {X : Cx} {k j : Nat} {C : Addr} {x a : Str} {sp : Sp} {p pos : Pos} {kws : List Keyword} {tk : TA} (M : OwnMkK X.prog X.w X.K X.mg X.base C k a sp) (hr : Room j X.A) (hj : k + 1 ≤ j) (hm : X.mg x = some (.ref C)) (hkw : PK X kws tk) (hg : Gl X x := by rfl)
    (hall : (backToKw pos (keywordEach kws X.env)).all (·.1.isSome) = true := by rfl) (hks : (backToKw pos (keywordEach kws X.env)).filterMap (·.1) = [a] := by rfl) (hdb : (x == ("__debug__" : Str)) = false := by decide)
    (hpl : ((backTo pos (starEach [] X.env)).any (·.1) || (backToKw pos (keywordEach kws X.env)).any (·.1.isNone)) = false := by rfl) :
    PE X (.Call (.Name x p) [] kws pos) (tMakeK C 0 [a].length sp (fun vs zs => vs ++ zs) E0 tNil tk) := by
  obtain ⟨f, fd, hM, F, hb⟩ := M.ex
  exact pe_makeK0 hM F (hr.mono hj) hg hm hb pass0 hkw hall hks hdb hpl
theorem mk_ofT {C : Addr} {H : Hp} {R : Addr → Hp → Prop} {a : Addr} {c : List Int} (ha : H a = some (.tup (c.map V.int))) (l1 : 1 ≤ c.length) (l8 : c.length ≤ 8) (hn : num c = c) (q : ∀ p H2, Same H H2 → H p = none → PartAt C H2 p c → R p H2) :
    ∀ x dx, H x = none → H dx = none → dx ≠ x → spInitT C [.ref x, .ref a] (upd (upd H dx (.own x)) x (.ins C dx [])) (fun v H2 => v = .non ∧ R x H2) E0 := by
  intro x dx nx nd hne
  have s0 : Same H (upd (upd H dx (.own x)) x (.ins C dx [])) := same_mut (same_new nd) nx
  refine ⟨x, dx, a, c, rfl, upd_same, s0 _ _ ha, l1, l8, hn, fun t H2 h1 h2 k => ⟨rfl, q x H2 (fun b o e => k b o (ne_of_none e nx) (s0 _ _ e)) nx ⟨⟨dx, t, h1, h2⟩, l1, l8, hn⟩⟩⟩
theorem sh_ints (c : List Int) : (dT c).shown = shInts c := by
  have h : ∀ ns : List Int, PyData.shownAll (ns.map PyData.int) = ns.map fun i => (toString i : Str) := fun ns => by
    induction ns with
    | nil => rfl
    | cons n r ih => rw [List.map_cons, List.map_cons, PyData.shownAll, ih]; rfl
  show tupleText (PyData.shownAll (c.map PyData.int)) = tupleText _
  rw [h]
theorem dT_ok {c : List Int} (h : ∀ x ∈ c, -1 ≤ x ∧ x < 50) (hl : c.length ≤ 8) : (dT c).showable = true ∧ (dT c).hasDict = false ∧ (dT c).depth ≤ 60 ∧ (dT c).shown.length ≤ 1000000 := by
  have h1 := PySem.W.depthAll_ints c
  have a1 : PyData.showableAll (c.map PyData.int) = true := by
    clear h1 hl
    induction c with
    | nil => rfl
    | cons n r ih =>
      rw [List.map_cons, PyData.showableAll, ih fun x hx => h x (List.mem_cons_of_mem _ hx), PyData.showable, decide_eq_true (log_small (h n List.mem_cons_self))]
      rfl
  have a2 : PyData.hasDictAll (c.map PyData.int) = false := by
    clear h1 a1 h hl
    induction c with
    | nil => rfl
    | cons n r ih => rw [List.map_cons, PyData.hasDictAll, ih]; rfl
  refine ⟨a1, a2, ?_, ?_⟩
  · show PyData.depth (.tuple (c.map PyData.int)) ≤ 60
    simp only [PyData.depth]
    omega
  · rw [sh_ints]
    have := ints_text h
    omega
theorem tx_eq (c : List Int) : (("Partition(" : Str) ++ (dT c).shown) ++ (")" : Str) = txP c := by
  rw [sh_ints]
  unfold txP
  have e : (Str.empty ++ ("Partition(" : Str)) = ("Partition(" : Str) := by decide +kernel
  rw [e]
/-- what is told of the kinds that are no partitions -/
structure OthK (K : PySem.W.Frag) (C : Addr) : Prop where
  tu : PySem.W.kitOne K (.type "tuple") (.ref C) = some false ∧ PySem.W.subIn K (.type "tuple") (.ref C) = some false
  li : PySem.W.kitOne K (.type "list") (.ref C) = some false ∧ PySem.W.subIn K (.type "list") (.ref C) = some false
  no : PySem.W.kitOne K (.type "NoneType") (.ref C) = some false ∧ PySem.W.subIn K (.type "NoneType") (.ref C) = some false
theorem memb_map (c : List Int) (m : Int) : (members c m).map V.int = (List.range c.length).filterMap fun n : Nat => if c[n]? = some m then some (V.int (n : Int)) else none := by
  unfold members
  rw [List.map_filterMap]
  congr 1
  funext i
  split <;> rfl
theorem max_one {c : List Int} {M N : Int} (h1 : M ∈ c) (h2 : ∀ y ∈ c, y ≤ M) (h3 : N ∈ c) (h4 : ∀ y ∈ c, y ≤ N) : M = N := by
  have := h2 N h3
  have := h4 M h1
  omega
abbrev sc_kk : Scope := { kind := .function, names := [(".0", .local), ("_law_group", .cell), ("enumerate", .globalImplicit), ("_law_due", .cell)], isGenerator := false, isCoroutine := false }
section
variable {P : Program} {w : World} {K : PySem.W.Frag} {mg : Str → Option Value} {base : Heap} {f C : Addr} {fd : FuncData} {t1 : Tok}
abbrev s_shown : Stmt := topS 42
abbrev N_shown : List Str := ["_law_pot_here", "_law_made", "_law_marks_here", "_law_due", "_law_k", "_law_groups", "_law_number", "_law_group", "_law_left", "_law_turn", "_law_told", "_law_gone", "_law_handed", "_law_twin"]
theorem sc_shown : FnScope N_shown ["_law_pot_here", "_law_made", "_law_marks_here"] (defScope s_shown) := ⟨rfl, rfl, rfl, by decide +kernel, rfl, by decide +kernel, by decide +kernel⟩
theorem ok_shown (F : Fun K "_law_shown_right" "_law_shown_right" s_shown f fd) (B : Blt mg) (T : PCf K mg C) (M : OwnI P w K mg base C 3 (spInit K C)) (MK : OwnMkK P w K mg base C 3 "classes" (spInitT C)) (c_numbers : Own P w K mg base "_law_numbers" 1 ["_law_marks_here"] spNumbers)
    (c_alikeR : Own P w K mg base "_law_alike_right" 6 ["_law_pot_here", "_law_made", "_law_marks_here"] (spLaw3 C)) (m_cls : OwnP P w K mg base C "classes" 1 (getSp C "_classes")) (m_groups : OwnM0 P w K mg base C "groups" 2 (spGroups C)) (m_gone : OwnM0 P w K mg base C "gone" 2 (spGoneF C))
    (eE : OpF P w K mg base C "__eq__" 1 (spEqP C)) (eX : OpF P w K mg base C "__eq__" 1 (spEqO K C)) (eL : OpF P w K mg base C "__len__" 1 (spLenP C)) (eG : OpF P w K mg base C "__getitem__" 4 (spGet C)) (gk : ∀ f, PySem.W.findIn K (.ref C) "__getitem__" = some (some (.ref f)) → PySem.W.fnIn K f = true)
    (N : NeK K C) (O : OthK K C) (eR : ReF P w K mg base C) : FnG P w K mg base 7 f fd ["_law_pot_here", "_law_made", "_law_marks_here"] (spLaw3 C) := by
  refine fnG_of F sc_shown (fun vs H Q E h => ?_) (fun us hl => ?_) (fun cdv A outer s H vs Q hr hq h => ?_)
  · obtain ⟨pot, p, q, bs, rfl, _⟩ := h
    rfl
  · match us, hl with
    | [_, _, _], _ => rfl
  · obtain ⟨pot, p, q, bs, rfl, hM, qq⟩ := h
    have hu := hr.units
    obtain ⟨fE, sE, iE, FE⟩ := eE.ex
    obtain ⟨fX, sX, iX, FX⟩ := eX.ex
    obtain ⟨fL, sL, iL, FL⟩ := eL.ex
    obtain ⟨fG, sG, iG, FG⟩ := eG.ex
    have kG := gk fG sG
    obtain ⟨fR, dR, GR, sR, iR, bR⟩ := eR.ex
    refine ⟨_, (pss_cons (ps_set (i := 3) sc_shown.nd rfl (.inr rfl) (pe_own c_numbers hr hq (by decide) (pa_cons (pv 2) pa_nil)))
      (pss_cons (ps_if (PW.pt (pw_or (pt_cmpR op_ne (pe_callB (call_repr hq hu) rfl B.repr bo_repr (pa_cons (pe_opr (pv 1) T.cl m_cls hr (by decide)) pa_nil)) (pe_callB (call_repr hq hu) rfl B.repr bo_repr (pa_cons (pe_callTy call_tuple_of rfl B.tuple bo_tuple (pa_cons (pv 3) pa_nil)) pa_nil)) (nomark _)) (pw_or1 (pt_cmpR op_ne (pe_callB (call_reprP GR sR iR bR hq (hr.mono (by decide))) rfl B.repr bo_repr (pa_cons (pv 1) pa_nil)) (pe_op op_add_str (pe_op op_add_str pe_str (pe_callB (call_repr hq hu) rfl B.repr bo_repr (pa_cons (pe_callTy call_tuple_of rfl B.tuple bo_tuple (pa_cons (pv 3) pa_nil)) pa_nil))) pe_str) (nomark _))))) (pss_one (ps_ret pe_bl)) pss_nil)
      (pss_cons (ps_if (PW.pt (pw_or (pt_cmpR op_ne (pe_callB (call_lenO sL iL FL (hr.mono (by decide))) rfl B.len bo_len (pa_cons (pv 1) pa_nil)) (pe_callB call_len_seq rfl B.len bo_len (pa_cons (pv 3) pa_nil)) (nomark _)) (pw_or1 (pt_cmpR (op_neD hu) (pe_lc (own := [("_law_k", 4)]) (g := gName 4) rfl sc_shown.nd (pi_range1 rfl B.range (pa_cons (pe_callB call_len_seq rfl B.len bo_len (pa_cons (pv 3) pa_nil)) pa_nil)) (blkOk_by (own := [("_law_k", 4)]) (N := N_shown) (sc := defScope s_shown) (by decide +kernel)) (fun _ _ _ _ _ => pg_name (i := 4) sc_shown.nd rfl (.inl rfl)) (fun _ _ _ _ _ => pts_nil) (fun _ _ _ _ _ => (pe_item sG kG iG FG (hr.mono (by decide)) (pv 1) (pv 4) (fun _ _ => rfl)))) (pv 3) (nomark _))))) (pss_one (ps_ret pe_bl)) pss_nil)
      (pss_cons (ps_setLc (i := 5) (own := [("_law_group", 7)]) (g := gName 7) rfl sc_shown.nd rfl rfl (sw_true rfl rfl rfl (by decide +kernel)) (pi_range1 rfl B.range (pa_cons (pe_op op_add (pe_callB (cr_max rfl) rfl B.max bo_max (pa_cons (pv 3) pa_nil)) pe_int) pa_nil)) (blkOk_by (own := [("_law_group", 7)]) (N := N_shown) (sc := defScope s_shown) (by decide +kernel)) (fun _ _ _ _ _ => pg_name (i := 7) sc_shown.nd rfl (.inr rfl)) (fun _ _ _ _ _ => pts_nil)
          (fun _ _ _ _ _ => (pe_lc (own := [("_law_k", 4), ("_law_number", 6)]) (g := _) rfl sc_shown.nd (pi_enumK (K := K) rfl rfl B.enumerate (pa_cons (pv 3) pa_nil)) (blkOk_by (own := [("_law_k", 4), ("_law_number", 6)]) (N := N_shown) (sc := sc_kk) (by decide +kernel)) (fun _ _ _ _ _ => pg_tupK (K := K) (n := 2) rfl rfl (pgs_cons (pg_name (i := 4) sc_shown.nd rfl (.inl rfl)) (pgs_cons (pg_name (i := 6) sc_shown.nd rfl (.inl rfl)) pgs_nil))) (fun _ _ _ _ _ => pts_one (pt_cmpR op_eq (pv 6) (pv 7) (nomark _))) (fun _ _ _ _ _ => (pv 4)))))
      (pss_cons (ps_setLc (i := 8) (own := [("_law_k", 4), ("_law_number", 6)]) (g := _) rfl sc_shown.nd rfl rfl (sw_true rfl rfl rfl (by decide +kernel)) (pi_enum rfl B.enumerate (pa_cons (pv 3) pa_nil)) (blkOk_by (own := [("_law_k", 4), ("_law_number", 6)]) (N := N_shown) (sc := defScope s_shown) (by decide +kernel)) (fun _ _ _ _ _ => pg_tupK (K := K) (n := 2) rfl rfl (pgs_cons (pg_name (i := 4) sc_shown.nd rfl (.inl rfl)) (pgs_cons (pg_name (i := 6) sc_shown.nd rfl (.inl rfl)) pgs_nil))) (fun _ _ _ _ _ => pts_one (pt_cmpR op_eq (pv 6) (pe_un un_neg pe_int) (nomark _))) (fun _ _ _ _ _ => (pv 4)))
      (pss_cons (ps_for PassesOwn.never rfl (pi_range1 rfl B.range (pa_cons pe_int pa_nil)) (pg_name (i := 9) sc_shown.nd rfl (.inl rfl)) (pss_cons (ps_par (i := 10) (j := 11) rfl sc_shown.nd rfl rfl (by decide) rfl rfl (pa_cons (pe_om0 (pv 1) T.cl m_groups hr (by decide)) (pa_cons (pe_om0 (pv 1) T.cl m_gone hr (by decide)) pa_nil)) rfl)
      (pss_cons (ps_if (PW.pt (pw_or (pt_cmpR (op_neD hu) (pv 10) (pv 5) (nomark _)) (pw_or1 (pt_cmpR (op_neD hu) (pv 11) (pv 8) (nomark _))))) (pss_one (ps_ret pe_bl)) pss_nil)
      (pss_cons (ps_for PassesOwn.never rfl (pi_list (pv 10)) (pg_name (i := 7) sc_shown.nd rfl (.inl rfl)) (pss_one (ps_expr (pe_bm PySem.F.plainAttrs_list PySem.F.slot_list_append PySem.F.type_list_append mt_append (pv 7) (pa_cons pe_int pa_nil)))))
      (pss_cons (ps_expr (pe_bm PySem.F.plainAttrs_list PySem.F.slot_list_append PySem.F.type_list_append mt_append (pv 10) (pa_cons (pe_lst (pa_cons pe_int pa_nil)) pa_nil)))
      (pss_one (ps_expr (pe_bm PySem.F.plainAttrs_list PySem.F.slot_list_append PySem.F.type_list_append mt_append (pv 11) (pa_cons pe_int pa_nil)))))))))
      (pss_cons (ps_set (i := 12) sc_shown.nd rfl (.inl rfl) (pe_callTy call_list_of rfl B.list bo_list (pa_cons (pv 3) pa_nil)))
      (pss_cons (ps_set (i := 13) sc_shown.nd rfl (.inl rfl) (pe_oi M hr (by decide) T.mc (pa_cons (pv 12) pa_nil)))
      (pss_cons (ps_expr (pe_bm PySem.F.plainAttrs_list PySem.F.slot_list_append PySem.F.type_list_append mt_append (pv 12) (pa_cons pe_int pa_nil)))
      (pss_cons (ps_asg pe_int (pg_sub (pv 12) pe_int set_list))
      (pss_cons (ps_if (PW.pt (pw_or (pt_cmpR op_ne (pe_callB (call_reprP GR sR iR bR hq (hr.mono (by decide))) rfl B.repr bo_repr (pa_cons (pv 13) pa_nil)) (pe_callB (call_reprP GR sR iR bR hq (hr.mono (by decide))) rfl B.repr bo_repr (pa_cons (pv 1) pa_nil)) (nomark _)) (pw_or1 (pt_cmpR op_ne (pe_callB (call_lenO sL iL FL (hr.mono (by decide))) rfl B.len bo_len (pa_cons (pv 13) pa_nil)) (pe_callB call_len_seq rfl B.len bo_len (pa_cons (pv 3) pa_nil)) (nomark _))))) (pss_one (ps_ret pe_bl)) pss_nil)
      (pss_cons (ps_if (PW.pt (pw_or (pt_cmpR (op_neOwn N sE iE FE (hr.mono (by decide))) (pv 1) (pv 13) (nomark _)) (pw_or (pt_not (pt_cmpR (op_eqOwn sE iE FE (hr.mono (by decide))) (pv 1) (pe_oiK MK hr (by decide) T.mc (pk_cons (pe_callTy call_tuple_of rfl B.tuple bo_tuple (pa_cons (pv 3) pa_nil)) pk_nil)) (nomark _))) (pw_or (pt_cmpR (op_eqO sX iX FX (hr.mono (by decide))) (pv 1) (pe_callTy call_tuple_of rfl B.tuple bo_tuple (pa_cons (pv 3) pa_nil)) (nomark _)) (pw_or (pt_cmpR (op_eqO sX iX FX (hr.mono (by decide))) (pv 1) (pv 3) (nomark _)) (pw_or1 (pt_cmpR (op_eqO sX iX FX (hr.mono (by decide))) (pv 1) pe_non (nomark _)))))))) (pss_one (ps_ret pe_bl)) pss_nil)
      (pss_one (ps_ret (pe_own c_alikeR hr hq (by decide) (pa_cons (pv 0) (pa_cons (pv 1) (pa_cons (pv 2) pa_nil)))))))))))))))))), ?_⟩
    have mk := hM.ms
    have lo := hM.lo
    have h8 := hM.hi
    have nl : (num bs).length = bs.length := num_len bs
    have hcs := hM.pt.small
    have dok := dT_ok hcs (by omega)
    have nn : num (num bs) = num bs := num_num bs
    have hpt := hM.pt
    obtain ⟨⟨dx, tt, g1, g2⟩, _, _, _⟩ := id hM.pt
    refine ⟨.ref q, rfl, q, bs, rfl, mk, by omega, fun d H1 s1 hd => ?_⟩
    generalize hc : num bs = c at hd nl hcs dok nn hpt g2
    have d1 : ∀ H2, Same H1 H2 → SqL K H2 d (c.map V.int) := fun H2 s => .inl (.inl (s _ _ hd))
    refine ⟨.ref p, rfl, p, dx, _, rfl, s1 _ _ g1, p, dx, _, .ref tt, rfl, s1 _ _ g1, rfl, ?_⟩
    refine ⟨_, dT c, rfl, dp_tup (.inl (.inl (s1 _ _ g2))), dok.1, dok.2.1, dok.2.2.1, le_line dok.2.2.2, ?_⟩
    refine ⟨.ref d, rfl, d, _, rfl, .inl ⟨d1 _ (Same.refl _), fun tu ntu => ?_⟩⟩
    have s2 : Same H1 (upd H1 tu (.tup (c.map V.int))) := same_new ntu
    refine ⟨_, dT c, rfl, dp_tup (.inl (.inl upd_same)), dok.1, dok.2.1, dok.2.2.1, le_line dok.2.2.2, ?_⟩
    refine ⟨rfl, _, rfl, iteNS rfl ?_⟩
    generalize upd H1 tu (.tup (c.map V.int)) = H2 at s2
    have s2' := s1.trans s2
    refine ⟨.ref p, rfl, p, c, rfl, hpt.same s2', ?_⟩
    refine ⟨.ref d, rfl, d, _, rfl, .inl ⟨d1 _ s2, fun tu2 ntu2 => ?_⟩⟩
    have s3 : Same H2 (upd H2 tu2 (.tup (c.map V.int))) := same_new ntu2
    refine ⟨_, dT c, rfl, dp_tup (.inl (.inl upd_same)), dok.1, dok.2.1, dok.2.2.1, le_line dok.2.2.2, ?_⟩
    have lp : ("Partition(" : Str).length = 10 := by decide +kernel
    have lq : (")" : Str).length = 1 := by decide +kernel
    have hsl : (dT c).shown.length ≤ 100 := by
      rw [sh_ints]
      have := ints_text hcs
      omega
    refine ⟨_, _, rfl, rfl, le_line (by omega), _, _, rfl, rfl, le_line (by rw [strLen_append]; omega), rfl, _, rfl, iteNS (congrArg V.str (tx_eq c).symm) ?_⟩
    generalize upd H2 tu2 (.tup (c.map V.int)) = H3 at s3
    have s3' := s2'.trans s3
    have s13 := s2.trans s3
    refine ⟨.ref p, rfl, p, dx, _, rfl, s3' _ _ g1, p, c, rfl, hpt.same s3', c.length, rfl, by omega, ?_⟩
    refine ⟨.ref d, rfl, d, _, rfl, .inl (d1 _ s13), rfl, _, rfl, iteNS (congrArg V.int (by rw [List.length_map])) ?_⟩
    refine ⟨.ref d, rfl, d, _, rfl, .inl (d1 _ s13), ?_⟩
    rw [List.length_map]
    refine ⟨c.length, rfl, by omega, by omega, fun D0 nD0 => ?_⟩
    refine lc_sel walk_range (fun i => (c.map V.int)[i]?) (by omega) nD0 (fun _ _ => trivial) ?_ ?_
    · rintro i x H4 H5 kf kn hi z ⟨rfl, hx⟩ ky kk
      have hi' : i < c.length := by
        have : i < ((c.length : Int)).toNat := hi
        omega
      obtain rfl : x = .int (i : Int) := hx.trans (congrArg V.int (Int.zero_add _))
      have s4 := s3'.trans z
      refine ⟨rfl, ?_⟩
      refine iteT (B := kn H5) ⟨.ref p, rfl, .int i, rfl, p, dx, _, rfl, s4 _ _ g1, p, c, i, _, rfl, hpt.same s4, List.getElem?_eq_getElem hi', fun H6 s6 => ky _ _ ?_ s6⟩
      rw [List.getElem?_map, List.getElem?_eq_getElem hi']
      rfl
    intro H4 s4 hD0
    have e0 : ((c.length : Int)).toNat = (c.map V.int).length := by rw [List.length_map]; omega
    rw [e0, range_get] at hD0
    have s4' := s3'.trans s4
    have s14 := s13.trans s4
    refine ⟨.ref d, rfl, dI c, dI c, dp_ints hD0, dp_ints (s14 _ _ hd), PySem.W.shaped_ints _, PySem.W.shaped_ints _, _, rfl, ?_⟩
    rw [eqv_ints]
    refine iteNS rfl ?_
    -- groups
    refine ⟨.ref d, rfl, d, c, rfl, d1 _ s14, by omega, fun M0 hM0 hmax => ?_⟩
    have hb : -1 ≤ M0 ∧ M0 < c.length := num_small (nn.symm ▸ hM0)
    refine ⟨M0, 1, rfl, rfl, M0 + 1, rfl, by omega, by omega, fun G nG => ?_⟩
    refine lc_rel walk_range (fun i y H => ∃ r, y = .ref r ∧ r ≠ G ∧ H r = some (.lst ((members c (i : Int)).map V.int))) (by omega) nG (fun i y H H2 k r => ?_) (fun _ _ => trivial) ?_ ?_
    · obtain ⟨a, e, n, z⟩ := r
      exact ⟨a, e, n, k a _ n z⟩
    · rintro i x H5 H6 k hi s5 ⟨ys, hy⟩ ⟨rfl, rfl⟩ kq
      have s15 := s14.trans s5
      refine ⟨rfl, .ref d, rfl, d, _, rfl, d1 _ s15, fun E nE => ?_⟩
      have nEG : E ≠ G := fun z => by
        rw [z, hy] at nE
        cases nE
      refine lc_sel walk_enum (fun n => if c[n]? = some (i : Int) then some (V.int (n : Int)) else none) (by rw [List.length_map]; omega) nE (fun H7 z => d1 _ (s15.trans z)) ?_ ?_
      · rintro n x H7 H8 kf kn hn2 z2 ⟨U, v1, v2, rfl, nU, rfl, e1, e2⟩ ky kk2
        cases e1
        obtain ⟨o, ho, rfl⟩ := get_ints e2
        refine ⟨U, _, rfl, .inl (.inl upd_same), rfl, _, _, rfl, _, _, rfl, rfl, rfl, .int o, rfl, .int (0 + (i : Int)), rfl, rfl, _, rfl, ?_⟩
        by_cases c1 : o = (i : Int)
        · refine iteDT (congrArg V.int (by omega)) ⟨_, rfl, ky _ _ ?_ (same_new nU)⟩
          show (if c[n]? = some (i : Int) then _ else _) = _
          rw [ho, if_pos (congrArg some c1)]
        · refine iteDF (fun z => c1 (by have := V.int.inj z; omega)) (kk2 _ ?_ (same_new nU))
          show (if c[n]? = some (i : Int) then _ else _) = _
          rw [ho, if_neg (fun z => c1 (Option.some.inj z))]
      · intro H7 z2 hE
        refine kq _ H7 z2 ⟨E, rfl, nEG, ?_⟩
        rw [hE, memb_map, List.length_map]
    intro ys H5 hyl hR s5 hG
    have hLL : LL H5 G (grp c M0) := by
      refine ⟨ys, hG, by rw [hyl, grp, List.length_map, List.length_range], fun i y l e1 e2 => ?_⟩
      obtain ⟨r, ey, _, er⟩ := hR i y e1
      refine ⟨r, ey, ?_⟩
      rw [grp, List.getElem?_map] at e2
      cases e4 : (List.range (M0 + 1).toNat)[i]? with
      | none => rw [e4] at e2; cases e2
      | some j =>
        rw [e4] at e2
        have hj : j = i := by
          obtain ⟨h6, h7⟩ := List.getElem?_eq_some_iff.mp e4
          rw [List.getElem_range] at h7
          exact h7.symm
        subst hj
        rw [← Option.some.inj e2]
        exact er
    have s5' := s4'.trans s5
    have s15 := s14.trans s5
    -- who is gone
    refine ⟨.ref d, rfl, d, _, rfl, d1 _ s15, fun W nW => ?_⟩
    refine lc_sel walk_enum (fun n => if c[n]? = some (-1) then some (V.int (n : Int)) else none) (by rw [List.length_map]; omega) nW (fun H7 z => d1 _ (s15.trans z)) ?_ ?_
    · rintro n x H7 H8 kf kn hn2 z2 ⟨U, v1, v2, rfl, nU, rfl, e1, e2⟩ ky kk2
      cases e1
      obtain ⟨o, ho, rfl⟩ := get_ints e2
      refine ⟨U, _, rfl, .inl (.inl upd_same), rfl, _, _, rfl, _, _, rfl, rfl, rfl, .int o, rfl, 1, rfl, rfl, _, rfl, ?_⟩
      by_cases c1 : o = -1
      · refine iteDT (congrArg V.int c1) ⟨_, rfl, ky _ _ ?_ (same_new nU)⟩
        show (if c[n]? = some (-1) then _ else _) = _
        rw [ho, if_pos (congrArg some c1)]
      · refine iteDF (fun z => c1 (V.int.inj z)) (kk2 _ ?_ (same_new nU))
        show (if c[n]? = some (-1) then _ else _) = _
        rw [ho, if_neg (fun z => c1 (Option.some.inj z))]
    intro H6 s6 hW
    have hW2 : H6 W = some (.lst ((members c (-1)).map V.int)) := by rw [hW, memb_map, List.length_map]
    have s6' := s5'.trans s6
    have s16 := s15.trans s6
    have hLL6 := hLL.same s6
    -- twice told, changed behind the telling
    have g16 : ∀ H2, Same H6 H2 → H2 p = some (.ins C dx [("_classes", .ref tt)]) := fun H2 s => s _ _ (s6' _ _ g1)
    refine ⟨2, rfl, by decide, by decide, for_it walk_range (fun i σ H7 => ∃ y7 y9 y10 y11, σ = [some (.ref pot), some (.ref p), some (.ref q), some (.ref d), none, some (.ref G), none, y7, some (.ref W), y9, y10, y11, none, none] ∧ Same H6 H7) ⟨_, _, _, _, rfl, Same.refl H6⟩ (fun _ _ _ _ _ => trivial) ?_ ?_⟩
    · rintro i x σ H7 H8 hi ⟨y7, y9, y10, y11, rfl, s7⟩ ⟨rfl, hx⟩
      have hpt8 := hpt.same (s6'.trans s7)
      refine ⟨.ref p, rfl, p, dx, _, rfl, g16 _ s7, rfl, p, c, rfl, hpt8, fun told H9 M1 s9 hM1 hmax1 hLF => ?_⟩
      have e1 := max_one hM1 hmax1 hM0 hmax
      subst e1
      refine ⟨.ref p, rfl, p, dx, _, rfl, g16 _ (s7.trans s9), rfl, p, c, rfl, hpt8.same s9, fun gn H10 s10 ngn hgn => ?_⟩
      have s8' := s9.trans s10
      have s68 := s7.trans s8'
      have hL10 : LL H10 told (grp c M1) := hLF.ll.same s10
      refine ⟨_, _, rfl, .ref told, rfl, .ref G, rfl, dLL _, dLL _, hL10.dp, (hLL6.same s68).dp, shaped_ll _, shaped_ll _, _, rfl, ?_⟩
      have eT : PyData.eqv (dLL (grp c M1)) (dLL (grp c M1)) = true := eqv_ll _
      rw [eT]
      refine iteF ⟨.ref gn, rfl, .ref W, rfl, dI (members c (-1)), dI (members c (-1)), dp_ints hgn, dp_ints (s68 _ _ hW2), PySem.W.shaped_ints _, PySem.W.shaped_ints _, _, rfl, ?_⟩
      rw [eqv_ints]
      refine iteNS rfl ?_
      obtain ⟨zs, hzs, hzl, hz⟩ := hLF.ex
      have ntold : H8 told = none := hLF.new
      have n8gn : H8 gn = none := by
        cases e : H8 gn with
        | none => rfl
        | some o => rw [s9 _ _ e] at ngn; cases ngn
      have tg : told ≠ gn := ne_of_none hzs ngn
      have hzs10 := s10 _ _ hzs
      have zl8 : zs.length ≤ 8 := by
        rw [hzl, grp, List.length_map, List.length_range]
        omega
      have each : ∀ (j : Nat) y, zs[j]? = some y → ∃ r l, y = .ref r ∧ H10 r = some (.lst l) ∧ l.length ≤ 8 ∧ H8 r = none ∧ r ≠ told ∧ r ≠ gn := by
        intro j y ey
        have hj : j < (grp c M1).length := by rw [← hzl]; exact (List.getElem?_eq_some_iff.mp ey).1
        obtain ⟨r, e, hr1, hr2, hr3⟩ := hz j y _ ey (List.getElem?_eq_getElem hj)
        refine ⟨r, _, e, s10 _ _ hr1, ?_, hr2, hr3, ne_of_none hr1 ngn⟩
        rw [List.length_map]
        have : ∀ l ∈ grp c M1, l.length ≤ c.length := fun l hl => by
          unfold grp at hl
          obtain ⟨k, _, rfl⟩ := List.mem_map.mp hl
          unfold members
          refine Nat.le_trans (List.length_filterMap_le _ _) ?_
          rw [List.length_range]
          exact Nat.le_refl _
        have := this _ (List.getElem_mem hj)
        omega
      refine ⟨.ref told, rfl, told, rfl, ⟨_, .inl (.inl hzs10)⟩, for_it walk_list (fun j σ H11 => ∃ y7, σ = [some (.ref pot), some (.ref p), some (.ref q), some (.ref d), none, some (.ref G), none, y7, some (.ref W), some x, some (.ref told), some (.ref gn), none, none] ∧ (∀ b o, H8 b = some o → H11 b = some o) ∧ H11 told = some (.lst zs) ∧ (∃ l, H11 gn = some (.lst l) ∧ l.length ≤ 8) ∧
          ∀ (k : Nat) y, zs[k]? = some y → ∃ r l, y = .ref r ∧ H11 r = some (.lst l) ∧ l.length ≤ 8 + j ∧ H8 r = none ∧ r ≠ told ∧ r ≠ gn) ⟨_, rfl, fun b o e => s8' b o e, hzs10, ⟨_, hgn, ?_⟩, each⟩ (fun _ _ _ _ z => by obtain ⟨_, _, _, z, _⟩ := z; exact .inl (.inl z)) ?_ ?_⟩
      · rw [List.length_map]
        unfold members
        refine Nat.le_trans (List.length_filterMap_le _ _) ?_
        rw [List.length_range]
        omega
      · rintro j x2 σ H11 H12 hj ⟨y7, rfl, k11, h11, ⟨lg, hlg, lgl⟩, each11⟩ ⟨rfl, hx2⟩
        obtain ⟨r, l, rfl, hr1, hr2, hr3, hr4, hr5⟩ := each11 j _ hx2
        refine ⟨.ref r, rfl, .inl ⟨rfl, _, .inl (.inl hr1)⟩, r, _, _, rfl, rfl, hr1, ?_, ?_⟩
        · exact Nat.lt_of_lt_of_le (show _ < 1000000 by omega) (by rw [sizeLine_eq]; decide)
        · refine ⟨_, rfl, fun b o e => ?_, by rw [upd_ne (Ne.symm hr4)]; exact h11, ⟨lg, by rw [upd_ne (Ne.symm hr5)]; exact hlg, lgl⟩, fun k y ey => ?_⟩
          · rw [upd_ne (ne_of_none e hr3)]
            exact k11 b o e
          · obtain ⟨r2, l2, rfl, q1, q2, q3, q4, q5⟩ := each11 k y ey
            by_cases e : r2 = r
            · subst e
              rw [q1] at hr1
              cases hr1
              exact ⟨r2, _, rfl, upd_same, by simp only [List.length_append, List.length_cons, List.length_nil]; omega, q3, q4, q5⟩
            · exact ⟨r2, l2, rfl, by rw [upd_ne e]; exact q1, by omega, q3, q4, q5⟩
      · rintro σ H11 ⟨y7, rfl, k11, h11, ⟨lg, hlg, lgl⟩, each11⟩
        refine ⟨.ref told, rfl, .inl ⟨rfl, _, .inl (.inl h11)⟩, le_line (by show (1 : Nat) ≤ 1000000; decide), fun l9 nl9 => ?_⟩
        have nt : told ≠ l9 := ne_of_none h11 nl9
        have ng : gn ≠ l9 := ne_of_none hlg nl9
        refine ⟨told, _, _, rfl, rfl, by rw [upd_ne nt]; exact h11, Nat.lt_of_lt_of_le (show _ < 1000000 by omega) (by rw [sizeLine_eq]; decide), ?_⟩
        have hlg2 : (upd (upd H11 l9 (.lst [.int 9])) told (.lst (zs ++ [.ref l9]))) gn = some (.lst lg) := by
          rw [upd_ne (Ne.symm tg), upd_ne ng]
          exact hlg
        refine ⟨.ref gn, rfl, .inl ⟨rfl, _, .inl (.inl hlg2)⟩, gn, _, _, rfl, rfl, hlg2, Nat.lt_of_lt_of_le (show _ < 1000000 by omega) (by rw [sizeLine_eq]; decide), ?_⟩
        refine ⟨_, _, _, _, rfl, fun b o e => ?_⟩
        have e8 := s7 _ _ e
        have b1 : b ≠ gn := ne_of_none e8 n8gn
        have b2 : b ≠ told := ne_of_none e8 ntold
        have b3 : b ≠ l9 := ne_of_none (k11 _ _ e8) nl9
        rw [upd_ne b1, upd_ne b2, upd_ne b3]
        exact k11 _ _ e8
    · rintro σ H7 ⟨y7, y9, y10, y11, rfl, s7⟩
      have s17 := s16.trans s7
      have s7' := s6'.trans s7
      -- a twin
      refine ⟨.ref d, rfl, d, _, rfl, .inl (d1 _ s17), fun hl nhl => ?_⟩
      have s8 : Same H7 (upd H7 hl (.lst (c.map V.int))) := same_new nhl
      have hhl : (upd H7 hl (.lst (c.map V.int))) hl = some (.lst (c.map V.int)) := upd_same
      refine ⟨.ref hl, rfl, ?_⟩
      refine mk_of' (R := fun x H => _) hhl (by omega) (by omega) nn fun tw H9 s9 ntw htw => ?_
      have hl9 := s9 _ _ hhl
      have s79 := s8.trans s9
      refine ⟨.ref hl, rfl, .inl ⟨rfl, _, .inl (.inl hl9)⟩, hl, _, _, rfl, rfl, hl9, Nat.lt_of_lt_of_le (show _ < 1000000 by rw [List.length_map]; omega) (by rw [sizeLine_eq]; decide), ?_⟩
      have hl10 : (upd H9 hl (.lst (c.map V.int ++ [V.int 0]))) hl = some (.lst (c.map V.int ++ [V.int 0])) := upd_same
      have s10 : Same H7 (upd H9 hl (.lst (c.map V.int ++ [V.int 0]))) := same_mut s79 nhl
      have htw10 : PartAt C (upd H9 hl (.lst (c.map V.int ++ [V.int 0]))) tw c := htw.mut hl9
      generalize upd H9 hl (.lst (c.map V.int ++ [V.int 0])) = H10 at hl10 s10 htw10
      refine ⟨.ref hl, rfl, hl, _, (0 : Int), 0, rfl, rfl, hl10, ?_, ?_⟩
      · exact Evl.ixN_nat (j := 0) (by rw [List.length_append, List.length_map]; omega)
      have s11 : Same H7 (upd H10 hl (.lst ((c.map V.int ++ [V.int 0]).set 0 (V.int 5)))) := same_mut s10 nhl
      have htw11 : PartAt C (upd H10 hl (.lst ((c.map V.int ++ [V.int 0]).set 0 (V.int 5)))) tw c := htw10.mut hl10
      generalize upd H10 hl (.lst ((c.map V.int ++ [V.int 0]).set 0 (V.int 5))) = H11 at s11 htw11
      have s11' := s7'.trans s11
      have s111 := s17.trans s11
      have hpt11 := hpt.same s11'
      obtain ⟨dw, tw2, w1⟩ := htw11.ins
      refine ⟨.ref tw, rfl, tw, c, rfl, htw11, .ref p, rfl, p, c, rfl, hpt11, rfl, _, rfl, iteNS rfl ?_⟩
      refine ⟨.ref tw, rfl, tw, dw, _, rfl, w1, tw, c, rfl, htw11, c.length, rfl, by omega, ?_⟩
      refine ⟨.ref d, rfl, d, _, rfl, .inl (d1 _ s111), rfl, _, rfl, iteNS (congrArg V.int (by rw [List.length_map])) ?_⟩
      -- equal to its like, to nothing else
      have p11 := s11' _ _ g1
      refine ⟨.ref p, rfl, .ref tw, rfl, p, tw, dx, dw, _, _, rfl, rfl, p11, w1, p, tw, c, c, rfl, hpt11, htw11, _, rfl, _, rfl, iteNS rfl ?_⟩
      refine ⟨.ref p, rfl, .ref d, rfl, d, _, rfl, .inl ⟨d1 _ s111, fun tu3 ntu3 => ⟨rfl, rfl, ?_⟩⟩⟩
      have s12 : Same H11 (upd H11 tu3 (.tup (c.map V.int))) := same_new ntu3
      refine mk_ofT (R := fun x H => _) upd_same (by omega) (by omega) nn fun tx H13 s13 ntx htx => ?_
      have s13' := s12.trans s13
      obtain ⟨dt, tt2, x1⟩ := htx.ins
      refine ⟨p, tx, dx, dt, _, _, rfl, rfl, s13' _ _ p11, x1, p, tx, c, c, rfl, hpt11.same s13', htx, ⟨_, rfl⟩, _, rfl, ?_⟩
      rw [decide_eq_true (rfl : c = c)]
      refine iteF ?_
      have s013 := s11'.trans s13'
      have s113 := s111.trans s13'
      have hpt13 := hpt.same s013
      refine ⟨.ref p, rfl, .ref d, rfl, d, _, rfl, .inl ⟨d1 _ s113, fun tu4 ntu4 => ?_⟩⟩
      have s14 : Same H13 (upd H13 tu4 (.tup (c.map V.int))) := same_new ntu4
      refine ⟨p, c, rfl, hpt13.same s14, ⟨_, .base (.tup upd_same), O.tu.1, rfl, O.tu.2⟩, _, rfl, iteF ?_⟩
      have s114 := s113.trans s14
      have hd14 := s114 _ _ hd
      refine ⟨.ref p, rfl, .ref d, rfl, p, c, rfl, hpt13.same s14, ⟨_, .base (.lst hd14), O.li.1, rfl, O.li.2⟩, _, rfl, iteF ?_⟩
      refine ⟨.ref p, rfl, p, c, rfl, hpt13.same s14, ⟨_, .base .non, O.no.1, rfl, O.no.2⟩, _, rfl, iteF ?_⟩
      refine ⟨.ref pot, rfl, .ref p, rfl, .ref q, rfl, pot, p, q, bs, rfl, hM.same (s013.trans s14), fun H15 s15 => ?_⟩
      exact qq H15 ((s013.trans s14).trans s15)
end
end Jc
namespace Jc
open PySem PySem.Spec L2
open PyProof.Rows hiding St
theorem Mk11.mut {C : Addr} {H : Hp} {pot p q l : Addr} {bs : List Int} {xs ys : List V} (h : Mk11 C H pot p q bs) (hl : H l = some (.lst xs)) (ne : q ≠ l) : Mk11 C (upd H l (.lst ys)) pot p q bs := by
  refine ⟨?_, h.pt.mut hl, by rw [upd_ne ne]; exact h.ms, h.lo, h.hi⟩
  have hp : H pot = some (.ext (potPhi pot)) := h.pot
  have n : pot ≠ l := fun z => by rw [z, hl] at hp; cases hp
  show (upd H l (.lst ys)) pot = _
  rw [upd_ne n]
  exact hp
/-- the elder ones in a list -/
def ElderAt (C : Addr) (H : Hp) (pot El : Addr) (z : V) : Prop := ∃ (t p q : Addr) (bs : List Int), z = .ref t ∧ H t = some (.tup [.ref p, .ref q]) ∧ Mk11 C H pot p q bs ∧ q ≠ El
theorem ElderAt.same {C : Addr} {H H2 : Hp} {pot El : Addr} {z : V} (s : Same H H2) (h : ElderAt C H pot El z) : ElderAt C H2 pot El z := by
  obtain ⟨t, p, q, bs, e, a, b, c⟩ := h
  exact ⟨t, p, q, bs, e, s _ _ a, b.same s, c⟩
theorem ElderAt.mut {C : Addr} {H : Hp} {pot El : Addr} {z : V} {xs ys : List V} (h : ElderAt C H pot El z) (hl : H El = some (.lst xs)) : ElderAt C (upd H El (.lst ys)) pot El z := by
  obtain ⟨t, p, q, bs, e, a, b, c⟩ := h
  have n : t ≠ El := fun y => by rw [y, hl] at a; cases a
  exact ⟨t, p, q, bs, e, by rw [upd_ne n]; exact a, b.mut hl c, c⟩
def spRight : Sp := fun vs H Q _ => ∃ a, vs = [.ref a] ∧ Pot H a ∧ ∀ H2, Same H H2 → Q (.bl true) H2
section
variable {P : Program} {w : World} {K : PySem.W.Frag} {mg : Str → Option Value} {base : Heap} {f C : Addr} {fd : FuncData} {t1 : Tok}
abbrev s_right : Stmt := topS 43
abbrev N_right : List Str := ["_law_pot_here", "_law_lot", "_law_marks_here", "_law_made", "_law_elder", "_law_turn", "_law_deed_here", "_law_later", "_law_near", "_law_some"]
theorem sc_right : FnScope N_right ["_law_pot_here"] (defScope s_right) := ⟨rfl, rfl, rfl, by decide +kernel, rfl, by decide +kernel, by decide +kernel⟩
theorem ok_right (F : Fun K "_law_right" "_law_right" s_right f fd) (B : Blt mg) (T : PCf K mg C) (M : OwnI P w K mg base C 3 (spInit K C))
    (c_draw : Own P w K mg base "_law_draw" 1 ["_law_pot_here", "_law_lot"] spDraw) (c_numbers : Own P w K mg base "_law_numbers" 1 ["_law_marks_here"] spNumbers) (c_marks : Own P w K mg base "_law_marks" 3 ["_law_pot_here", "_law_lot", "_law_with_gone"] spMarks)
    (c_deed : Own P w K mg base "_law_deed" 3 ["_law_pot_here", "_law_lot"] spDeed) (c_lmarked : Own P w K mg base "_law_marked" 1 ["_law_marks_here", "_law_deed_here", "_law_mark"] spLMarked) (c_done : Own P w K mg base "_law_done" 7 ["_law_made", "_law_deed_here"] (spDone C)) (c_named : Own P w K mg base "_law_named" 8 ["_law_made", "_law_deed_here"] (spDone C))
    (c_shown : Own P w K mg base "_law_shown_right" 7 ["_law_pot_here", "_law_made", "_law_marks_here"] (spLaw3 C)) (c_more : Own P w K mg base "_law_more_right" 7 ["_law_pot_here", "_law_made", "_law_marks_here"] (spMore C))
    (eE : OpF P w K mg base C "__eq__" 1 (spEqP C)) (N : NeK K C) : FnG P w K mg base 9 f fd ["_law_pot_here"] spRight := by
  refine fnG_of F sc_right (fun vs H Q E h => ?_) (fun us hl => ?_) (fun cdv A outer s H vs Q hr hq h => ?_)
  · obtain ⟨a, rfl, _⟩ := h
    rfl
  · match us, hl with
    | [_], _ => rfl
  · obtain ⟨a, rfl, ha, qq⟩ := h
    have hu := hr.units
    obtain ⟨fE, sE, iE, FE⟩ := eE.ex
    refine ⟨_, (pss_cons (ps_set (i := 1) sc_right.nd rfl (.inl rfl) (pe_op op_add pe_int (pe_own c_draw hr hq (by decide) (pa_cons (pv 0) (pa_cons pe_int pa_nil)))))
      (pss_cons (ps_set (i := 2) sc_right.nd rfl (.inl rfl) (pe_own c_marks hr hq (by decide) (pa_cons (pv 0) (pa_cons (pv 1) (pa_cons (pe_cmpR op_eq (pe_own c_draw hr hq (by decide) (pa_cons (pv 0) (pa_cons pe_int pa_nil))) pe_int (nomark _)) pa_nil)))))
      (pss_cons (ps_par (i := 3) (j := 4) rfl sc_right.nd rfl rfl (by decide) rfl rfl (pa_cons (pe_oi M hr (by decide) T.mc (pa_cons (pe_own c_numbers hr hq (by decide) (pa_cons (pv 2) pa_nil)) pa_nil)) (pa_cons (pe_lst pa_nil) pa_nil)) rfl)
      (pss_cons (ps_for PassesOwn.never rfl (pi_range1 rfl B.range (pa_cons pe_int pa_nil)) (pg_name (i := 5) sc_right.nd rfl (.inl rfl)) (pss_cons (ps_set (i := 6) sc_right.nd rfl (.inl rfl) (pe_own c_deed hr hq (by decide) (pa_cons (pv 0) (pa_cons (pv 1) pa_nil))))
      (pss_cons (ps_expr (pe_bm PySem.F.plainAttrs_list PySem.F.slot_list_append PySem.F.type_list_append mt_append (pv 4) (pa_cons (pe_tup (pa_cons (pv 3) (pa_cons (pv 2) pa_nil))) pa_nil)))
      (pss_cons (ps_set (i := 7) sc_right.nd rfl (.inl rfl) (pe_own c_lmarked hr hq (by decide) (pa_cons (pv 2) (pa_cons (pv 6) (pa_cons (pe_op op_add pe_int (pv 5)) pa_nil)))))
      (pss_cons (ps_set (i := 8) sc_right.nd rfl (.inl rfl) (pe_own c_done hr hq (by decide) (pa_cons (pv 3) (pa_cons (pv 6) pa_nil))))
      (pss_cons (ps_if (PW.pt (pw_or (pt_cmpR (op_neOwn N sE iE FE (hr.mono (by decide))) (pv 8) (pe_own c_named hr hq (by decide) (pa_cons (pv 3) (pa_cons (pv 6) pa_nil))) (nomark _)) (pw_or1 (pt_cmpR op_ne (pe_cmpR (op_eqOwn sE iE FE (hr.mono (by decide))) (pv 8) (pv 3) (nomark _)) (pe_cmpR (op_eqD hu) (pe_own c_numbers hr hq (by decide) (pa_cons (pv 7) pa_nil)) (pe_own c_numbers hr hq (by decide) (pa_cons (pv 2) pa_nil)) (nomark _)) (nomark _))))) (pss_one (ps_ret pe_bl)) pss_nil)
      (pss_cons (ps_par (i := 3) (j := 2) rfl sc_right.nd rfl rfl (by decide) rfl rfl (pa_cons (pv 8) (pa_cons (pv 7) pa_nil)) rfl)
      (pss_one (ps_if (PW.pt (pw_or (pt_not (pt_val (pe_own c_shown hr hq (by decide) (pa_cons (pv 0) (pa_cons (pv 3) (pa_cons (pv 2) pa_nil)))))) (pw_or1 (pt_not (pt_val (pe_own c_more hr hq (by decide) (pa_cons (pv 0) (pa_cons (pv 3) (pa_cons (pv 2) pa_nil))))))))) (pss_one (ps_ret pe_bl)) pss_nil)))))))))
      (pss_one (ps_ret (pe_callB (cr_all rfl) rfl B.all bo_all (pa_cons (pe_lc (own := [("_law_near", 8), ("_law_some", 9)]) (g := _) rfl sc_right.nd (pi_list (pe_step5 (pv 4))) (blkOk_by (own := [("_law_near", 8), ("_law_some", 9)]) (N := N_right) (sc := defScope s_right) (by decide +kernel)) (fun _ _ _ _ _ => pg_tupK (K := K) (n := 2) rfl rfl (pgs_cons (pg_name (i := 8) sc_right.nd rfl (.inl rfl)) (pgs_cons (pg_name (i := 9) sc_right.nd rfl (.inl rfl)) pgs_nil))) (fun _ _ _ _ _ => pts_nil) (fun _ _ _ _ _ => (pe_own c_shown hr hq (by decide) (pa_cons (pv 0) (pa_cons (pv 8) (pa_cons (pv 9) pa_nil)))))) pa_nil)))))))), ?_⟩
    refine ⟨.ref a, rfl, a, 8, rfl, ha, by decide, by decide, fun d H1 d0 d1 s1 => ⟨_, _, rfl, rfl, ?_⟩⟩
    obtain ⟨lot, el⟩ : ∃ lot : Nat, 1 + d = (lot : Int) := ⟨(1 + d).toNat, by omega⟩
    have eS : (fun i j : Int => V.int (i + j)) 1 d = V.int (lot : Int) := congrArg V.int el
    rw [eS]
    have l1 : 1 ≤ lot := by omega
    have l8 : lot ≤ 8 := by omega
    refine ⟨.ref a, rfl, .int lot, rfl, .ref a, rfl, a, 2, rfl, s1 _ _ ha, by decide, by decide, fun d2 H2 d3 d4 s2 => ⟨rfl, ?_⟩⟩
    have s2' := s1.trans s2
    refine ⟨a, lot, _, rfl, s2' _ _ ha, l1, l8, fun q1 H3 ms s3 h3 hml hm => ?_⟩
    have s3' := s2'.trans s3
    refine ⟨.ref q1, rfl, q1, ms, rfl, h3, by omega, fun r1 H4 s4 h4 => ?_⟩
    refine mk_of' (R := fun x H => _) h4 (by rw [num_len]; omega) (by rw [num_len]; omega) (num_num _) fun p1 H5 s5 np1 hp1 => ?_
    have s5' := s3'.trans (s4.trans s5)
    refine ⟨le_line (by decide), fun El nEl => ⟨_, _, rfl, ?_⟩⟩
    have hm5 : Mk11 C H5 a p1 q1 ms := ⟨s5' _ _ ha, hp1, s5 _ _ (s4 _ _ h3), by omega, by omega⟩
    have q1El : q1 ≠ El := ne_of_none hm5.ms nEl
    have s6 : Same H5 (upd H5 El (.lst [])) := same_new nEl
    have hm6 := hm5.same s6
    have hE6 : (upd H5 El (.lst [])) El = some (.lst []) := upd_same
    generalize upd H5 El (.lst []) = H6 at s6 hm6 hE6
    refine ⟨20, rfl, by decide, by decide, for_it walk_range (fun i σ H7 => ∃ (p q : Addr) (bs : List Int) (es : List V) (y5 y6 y7 y8 : Option V), σ = [some (.ref a), some (.int lot), some (.ref q), some (.ref p), some (.ref El), y5, y6, y7, y8, none] ∧ Same H5 H7 ∧ Mk11 C H7 a p q bs ∧ q ≠ El ∧ bs.length = lot ∧ (∀ m ∈ bs, m < 100 + (i : Int)) ∧ i ≤ 20 ∧
        H7 El = some (.lst es) ∧ es.length = i ∧ ∀ z ∈ es, ElderAt C H7 a El z) ⟨p1, q1, ms, [], _, _, _, _, rfl, s6, hm6, q1El, hml, fun m h => by have := (hm m h).1; omega, by decide, hE6, rfl, fun z h => nomatch h⟩ (fun _ _ _ _ _ => trivial) ?_ ?_⟩
    · rintro i x σ H7 H8 hi ⟨p, q, bs, es, y5, y6, y7, y8, rfl, s7, hM, qEl, hbl, hbm, hi2, hE7, hel, hes⟩ ⟨rfl, hx⟩
      have hi20 : i < 20 := hi
      obtain rfl : x = .int (i : Int) := hx.trans (congrArg V.int (Int.zero_add _))
      refine ⟨.ref a, rfl, .int lot, rfl, a, lot, rfl, hM.pot, l1, l8, fun t dd H9 s9 hdd few rnew => ?_⟩
      have hM9 := hM.same s9
      have hE9 := s9 _ _ hE7
      -- the elder one
      refine ⟨.ref El, rfl, .inl ⟨rfl, _, .inl (.inl hE9)⟩, .ref p, rfl, .ref q, rfl, two_le, fun U nU => ?_⟩
      have s10 : Same H9 (upd H9 U (.tup [.ref p, .ref q])) := same_new nU
      have hU : (upd H9 U (.tup [.ref p, .ref q])) U = some (.tup [.ref p, .ref q]) := upd_same
      generalize upd H9 U (.tup [.ref p, .ref q]) = H10 at s10 hU
      have hE10 := s10 _ _ hE9
      have hM10 := hM9.same s10
      have hel10 : ∀ z ∈ es ++ [V.ref U], ElderAt C (upd H10 El (.lst (es ++ [V.ref U]))) a El z := fun z hz => by
        rcases List.mem_append.mp hz with h | h
        · exact (((hes z h).same s9).same s10).mut hE10
        · rw [List.mem_singleton.mp h]
          exact ElderAt.mut ⟨U, p, q, bs, rfl, hU, hM10, qEl⟩ hE10
      have hM11 : Mk11 C (upd H10 El (.lst (es ++ [V.ref U]))) a p q bs := hM10.mut hE10 qEl
      have hdd11 : DeedAt (upd H10 El (.lst (es ++ [V.ref U]))) t lot dd := by
        have hdd10 := hdd.same s10
        have nT : ∀ {b : Addr} {xs : List V}, H10 b = some (.tup xs) → b ≠ El := fun {b xs} e z => by rw [z, hE10] at e; cases e
        have nR : ∀ (wd : Str) (ts : List Int), RowAt H9 t wd ts → RowAt (upd H10 El (.lst (es ++ [V.ref U]))) t wd ts := by
          rintro wd ts ⟨r, e1, e2⟩
          have n1 := rnew _ _ e1
          have n2 : r ≠ El := fun z => by rw [z, hE7] at n1; cases n1
          exact ⟨r, by rw [upd_ne (nT (s10 _ _ e1))]; exact s10 _ _ e1, by rw [upd_ne n2]; exact s10 _ _ e2⟩
        match dd, hdd, hdd10 with
        | .copied x y, h, h10 => exact ⟨by rw [upd_ne (nT h10.1)]; exact h10.1, h10.2⟩
        | .fresh ts, h, h10 => exact ⟨nR _ _ h.1, h.2⟩
        | .without ts, h, h10 => exact ⟨nR _ _ h.1, h.2⟩
        | .renamed os, h, h10 => exact ⟨nR _ _ h.1, h.2⟩
      have ok := hdd.ok
      have s511 : Same H5 (upd H10 El (.lst (es ++ [V.ref U]))) := same_mut (s7.trans (s9.trans s10)) nEl
      have hE11 : (upd H10 El (.lst (es ++ [V.ref U]))) El = some (.lst (es ++ [V.ref U])) := upd_same
      refine ⟨El, _, _, rfl, rfl, hE10, Nat.lt_of_lt_of_le (show _ < 1000000 by omega) (by rw [sizeLine_eq]; decide), ?_⟩
      generalize upd H10 El (.lst (es ++ [V.ref U])) = H11 at hel10 hM11 hdd11 s511 hE11
      subst hbl
      have m9 : (100 + (i : Int)) ∉ bs := fun z => by have := hbm _ z; omega
      -- later
      refine ⟨.ref q, rfl, .ref t, rfl, .int i, rfl, _, _, rfl, rfl, ?_⟩
      refine ⟨q, t, bs, dd, 100 + (i : Int), rfl, hM11.ms, hdd11, by omega, l8, fun lt H12 s12 nlt hlt => ?_⟩
      have hM12 := hM11.same s12
      have ml : (marksF bs (100 + (i : Int)) dd).length = bs.length := marksF_len ok
      have cl : (num bs).length = bs.length := num_len bs
      have dn := deed_num (m := 100 + (i : Int)) m9 (by omega) ok
      -- near
      refine ⟨.ref p, rfl, .ref t, rfl, p, t, num bs, dd, rfl, hM12.pt, by rw [cl]; exact hdd11.same s12, few, fun nr H13 s13 hnr => ?_⟩
      rw [dn] at hnr
      have hM13 := hM12.same s13
      have s1113 := s12.trans s13
      refine ⟨.ref nr, rfl, .ref p, rfl, .ref t, rfl, p, t, num bs, dd, rfl, hM13.pt, by rw [cl]; exact hdd11.same s1113, few, fun nm H14 s14 hnm => ?_⟩
      rw [dn] at hnm
      have hnr14 := hnr.same s14
      have hM14 := hM13.same s14
      obtain ⟨dxn, ttn, gn⟩ := hnr14.ins
      obtain ⟨dxm, ttm, gm⟩ := hnm.ins
      obtain ⟨dxp, ttp, gp⟩ := hM14.pt.ins
      have hlt14 := s14 _ _ (s13 _ _ hlt)
      refine ⟨nr, nm, dxn, dxm, _, _, rfl, rfl, gn, gm, nr, nm, _, _, rfl, hnr14, hnm, _, rfl, _, rfl, iteNS rfl ?_⟩
      refine ⟨.ref nr, rfl, .ref p, rfl, nr, p, dxn, dxp, _, _, rfl, rfl, gn, gp, nr, p, _, _, rfl, hnr14, hM14.pt, ⟨_, rfl⟩, ?_⟩
      refine ⟨.ref lt, rfl, lt, _, rfl, hlt14, by omega, fun n1 H15 s15 hn1 => ?_⟩
      refine ⟨.ref q, rfl, q, bs, rfl, (hM14.same s15).ms, by omega, fun n2 H16 s16 hn2 => ?_⟩
      have hn1' := s16 _ _ hn1
      refine ⟨dI _, dI _, dp_ints hn1', dp_ints hn2, PySem.W.shaped_ints _, PySem.W.shaped_ints _, rfl, _, rfl, ?_⟩
      rw [eqv_ints]
      refine iteNS rfl ?_
      have s1416 := s15.trans s16
      have s1116 := s1113.trans (s14.trans s1416)
      have hnew : Mk11 C H16 a nr lt (marksF bs (100 + (i : Int)) dd) := ⟨s1116 _ _ hM11.pot, hnr14.same s1416, s1416 _ _ hlt14, by omega, by omega⟩
      refine ⟨.ref nr, rfl, .ref lt, rfl, _, _, rfl, ?_⟩
      refine ⟨.ref a, rfl, .ref nr, rfl, .ref lt, rfl, a, nr, lt, _, rfl, hnew, fun H17 s17 => ⟨_, rfl, iteF ?_⟩⟩
      have bnd : ∀ m ∈ marksF bs (100 + (i : Int)) dd, m < 100 + ((i + 1 : Nat) : Int) := fun m hm => by
        rcases marksF_mem ok hm with z | z | z
        · have := hbm m z; omega
        · omega
        · omega
      refine ⟨.ref a, rfl, .ref nr, rfl, .ref lt, rfl, a, nr, lt, _, rfl, hnew.same s17, fun z => by have := bnd _ z; omega, fun H18 s18 => ⟨_, rfl, iteF ?_⟩⟩
      have s1118 := s1116.trans (s17.trans s18)
      have ltEl : lt ≠ El := fun z => by rw [z, hE11] at nlt; cases nlt
      exact ⟨nr, lt, _, es ++ [V.ref U], _, _, _, _, rfl, s511.trans s1118, (hnew.same s17).same s18, ltEl, ml, bnd, by omega, s1118 _ _ hE11, by rw [List.length_append, hel]; rfl, fun z hz => (hel10 z hz).same s1118⟩
    · rintro σ H7 ⟨p, q, bs, es, y5, y6, y7, y8, rfl, s7, hM, qEl, hbl, hbm, hi2, hE7, hel, hes⟩
      refine ⟨.ref El, rfl, El, es, rfl, .inl (.inl hE7), fun Z zs nZ hzl hzm => ?_⟩
      have s8 : Same H7 (upd H7 Z (.lst zs)) := same_new nZ
      have hZ : (upd H7 Z (.lst zs)) Z = some (.lst zs) := upd_same
      generalize upd H7 Z (.lst zs) = H8 at s8 hZ
      have hel20 : es.length ≤ 20 := by omega
      refine ⟨Z, rfl, ⟨_, .inl (.inl hZ)⟩, fun D hD => ?_⟩
      refine lc_flat walk_list (fun i y => y = .bl true) (by omega) hD (fun H9 z => .inl (.inl (z _ _ hZ))) ?_ ?_
      · rintro i x H9 H10 k hi z ⟨rfl, hx⟩ kk
        obtain ⟨t, p2, q2, bs2, rfl, ht, hM2, _⟩ := hes _ (hzm _ (List.mem_of_getElem? hx))
        have s9 := s8.trans z
        refine ⟨t, _, rfl, .inl (.inl (s9 _ _ ht)), rfl, _, _, rfl, _, _, rfl, rfl, rfl, ?_⟩
        refine ⟨.ref a, rfl, .ref p2, rfl, .ref q2, rfl, a, p2, q2, bs2, rfl, hM2.same s9, fun H11 s11 => kk _ _ s11 rfl⟩
      · intro ys H9 hyl hR z hD9
        have e : ys = (List.replicate zs.length true).map V.bl := by
          refine all_eq (by simp [hyl]) fun i b c e1 e2 => ?_
          rw [hR i b e1]
          simp [List.getElem?_replicate] at e2
          exact e2.2.symm ▸ rfl
        refine ⟨D, _, rfl, .inl (.inl (e ▸ hD9)), ?_⟩
        have e2 : ((List.replicate zs.length true).all id) = true := by
          rw [List.all_eq_true]
          intro x hx
          exact (List.mem_replicate.mp hx).2
        rw [e2]
        exact qq H9 (s5'.trans (s7.trans (s8.trans z)))
abbrev s_law : Stmt := topS 44
abbrev N_law : List Str := ["_law_script", "_law_k"]
theorem sc_law : FnScope N_law ["_law_script"] (defScope s_law) := ⟨rfl, rfl, rfl, by decide +kernel, rfl, by decide +kernel, by decide +kernel⟩
theorem ok_law (F : Fun K "law" "law" s_law f fd) (B : Blt mg) (c_right : Own P w K mg base "_law_right" 9 ["_law_pot_here"] spRight) (c_pot : Own P w K mg base "_law_pot" 1 ["_law_script", "_law_k"] (spPot K)) :
    FnG P w K mg base 10 f fd ["_law_script"] (spLaw K) := by
  refine fnG_of F sc_law (fun vs H Q E h => ?_) (fun us hl => ?_) (fun cdv A outer s H vs Q hr hq h => ?_)
  · obtain ⟨a, ns, rfl, _⟩ := h
    rfl
  · match us, hl with
    | [_], _ => rfl
  · obtain ⟨a, ns, rfl, hS, hl, q⟩ := h
    refine ⟨_, (pss_one (ps_ret (pe_callB (cr_all rfl) rfl B.all bo_all (pa_cons (pe_lc (own := [("_law_k", 1)]) (g := gName 1) rfl sc_law.nd (pi_range1 rfl B.range (pa_cons (pe_callB (call_max2 rfl) rfl B.max bo_max (pa_cons pe_int (pa_cons (pe_callB (call_min2 rfl) rfl B.min bo_min (pa_cons (pe_callB call_len_seq rfl B.len bo_len (pa_cons (pv 0) pa_nil)) (pa_cons pe_int pa_nil))) pa_nil))) pa_nil)) (blkOk_by (own := [("_law_k", 1)]) (N := N_law) (sc := defScope s_law) (by decide +kernel)) (fun _ _ _ _ _ => pg_name (i := 1) sc_law.nd rfl (.inl rfl)) (fun _ _ _ _ _ => pts_nil) (fun _ _ _ _ _ => (pe_own c_right hr hq (by decide) (pa_cons (pe_pot (pe_own c_pot hr hq (by decide) (pa_cons (pv 0) (pa_cons (pv 1) pa_nil)))) pa_nil)))) pa_nil)))), ?_⟩
    refine ⟨.ref a, rfl, a, _, rfl, .inl hS, _, _, rfl, _, _, rfl, ?_⟩

    generalize hm : (if (4 : Int) < ((ns.map V.int).length : Int) then (4 : Int) else ((ns.map V.int).length : Int)) = m
    generalize hn : (if m > 1 then m else 1) = n
    have hn4 : 1 ≤ n ∧ n ≤ 4 := by
      subst hn hm
      split <;> split at * <;> omega
    refine ⟨n, rfl, by omega, by omega, fun D hD => ?_⟩
    refine lc_flat walk_range (fun i y => y = .bl true) (by omega) hD (fun _ _ => trivial) ?_ ?_
    · rintro i y H2 H3 k hi s2 ⟨rfl, rfl⟩ kk
      refine ⟨rfl, .ref a, rfl, .int (0 + (i : Int)), rfl, a, ns, i, by rw [Int.zero_add], s2.seq hS, by omega, fun p x y np x0 y0 y1 => ⟨p, x, y, upd_same, x0, y0, y1, p, rfl, upd_same, fun H4 s4 => ?_⟩⟩
      exact kk _ _ ((same_mut (same_new np) np).trans s4) rfl
    · intro ys H2 hl2 hR s2 hy
      have e : ys = (List.replicate n.toNat true).map V.bl := by
        refine all_eq (by simp [hl2]) fun i a b e1 e2 => ?_
        rw [hR i a e1]
        simp [List.getElem?_replicate] at e2
        exact e2.2.symm ▸ rfl
      refine ⟨D, _, rfl, .inl (.inl (e ▸ hy)), ?_⟩
      have e2 : ((List.replicate n.toNat true).all id) = true := by
        rw [List.all_eq_true]
        intro x hx
        exact (List.mem_replicate.mp hx).2
      rw [e2]
      exact q H2
end
section
variable {P : Program} {w : World} {K : PySem.W.Frag} {mg : Str → Option Value} {base : Heap} {f : Addr} {fd : FuncData} {x : Str} {st : Stmt} {k : Nat} {ps : List Str} {sp : Sp}
theorem own_mk (F : Fun K x x st f fd) (hm : mg x = some (.ref f)) (G : FnG P w K mg base k f fd ps sp)
    (h1 : ∀ (kV doc pm : Value) (an : Option Addr) (cdv ct : Value) (us : List Value), us.length = ps.length → bindArgs (PySem.W.fnOf x x (defArgs st) (defBody st) (defScope st) .none kV doc pm an cdv ct) ⟨us, []⟩ = pure (ps.zip us))
    (h2 : ∀ (kV doc pm : Value) (an : Option Addr) (cdv ct : Value) (u : Value), ps.length = 1 → bindArgs (PySem.W.fnOf x x (defArgs st) (defBody st) (defScope st) .none kV doc pm an cdv ct) ⟨[], ps.zip [u]⟩ = pure (ps.zip [u])) : Own P w K mg base x k ps sp := by
  obtain ⟨oc, od, kV, doc, pm, an, cdv, ct, osl, rfl, lk, hcd⟩ := F.ex
  exact ⟨f, _, G, hm, F.kp, fun s us hl => .of_eq (h1 kV doc pm an cdv ct us hl), fun s u hl => .of_eq (h2 kV doc pm an cdv ct u hl)⟩
end
/-- a def of the top, found by k_is -/
structure At (K : PySem.W.Frag) (x : Str) (st : Stmt) : Prop where
  ex : ∃ (f : Addr) (oc : Value) (od an : Option Addr) (sl : Array (Option Value)) (kV dc pm cd ct : Value), PySem.W.nsIn K mainGlobals x = some (some (.ref f)) ∧
    K.lookup f = some ⟨oc, od, .func (PySem.W.fnOf x x (defArgs st) (defBody st) (defScope st) .none kV dc pm an cd ct), sl⟩ ∧ PySem.W.codeIn K cd x = true ∧ PySem.W.keepIn K (.ref f) = true
theorem at_mk {K : PySem.W.Frag} {x : Str} {st : Stmt} {f : Addr} {oc : Value} {od an : Option Addr} {sl : Array (Option Value)} {kV dc pm cd ct : Value} (a : PySem.W.nsIn K mainGlobals x = some (some (.ref f)))
    (l : K.lookup f = some ⟨oc, od, .func (PySem.W.fnOf x x (defArgs st) (defBody st) (defScope st) .none kV dc pm an cd ct), sl⟩) (c : PySem.W.codeIn K cd x = true) (k : PySem.W.keepIn K (.ref f) = true) : At K x st := ⟨f, oc, od, an, sl, kV, dc, pm, cd, ct, a, l, c, k⟩
theorem At.fn {K : PySem.W.Frag} {h : Heap} {mg : Str → Option Value} {x : Str} {st : Stmt} (A : At K x st) (X : K.In h) (G : h.Ns mainGlobals mg) : ∃ f fd, Fun K x x st f fd ∧ mg x = some (.ref f) := by
  obtain ⟨f, oc, od, an, sl, kV, dc, pm, cd, ct, a, l, c, k⟩ := A.ex
  exact ⟨f, _, fun_mk l c k, PySem.W.mg_of X G a⟩
end Jc
namespace Jc
open PySem PySem.Spec L2
open PyProof.Rows hiding St
/-- a method of the class, found by k_is -/
structure AtM (K : PySem.W.Frag) (C : Addr) (m qual : Str) (st : Stmt) : Prop where
  ex : ∃ (f : Addr) (oc : Value) (od an : Option Addr) (sl : Array (Option Value)) (kV dc pm cd ct : Value), PySem.W.findIn K (.ref C) m = some (some (.ref f)) ∧ PySem.W.isFn K (.ref f) = true ∧
    K.lookup f = some ⟨oc, od, .func (PySem.W.fnOf m qual (defArgs st) (defBody st) (defScope st) .none kV dc pm an cd ct), sl⟩ ∧ PySem.W.codeIn K cd qual = true ∧ PySem.W.keepIn K (.ref f) = true
theorem atm_mk {K : PySem.W.Frag} {C : Addr} {m qual : Str} {st : Stmt} {f : Addr} {oc : Value} {od an : Option Addr} {sl : Array (Option Value)} {kV dc pm cd ct : Value} (a : PySem.W.findIn K (.ref C) m = some (some (.ref f))) (i : PySem.W.isFn K (.ref f) = true)
    (l : K.lookup f = some ⟨oc, od, .func (PySem.W.fnOf m qual (defArgs st) (defBody st) (defScope st) .none kV dc pm an cd ct), sl⟩) (c : PySem.W.codeIn K cd qual = true) (k : PySem.W.keepIn K (.ref f) = true) : AtM K C m qual st := ⟨f, oc, od, an, sl, kV, dc, pm, cd, ct, a, i, l, c, k⟩
theorem AtM.fn {K : PySem.W.Frag} {C : Addr} {m qual : Str} {st : Stmt} (A : AtM K C m qual st) : ∃ f fd, Fun K m qual st f fd ∧ Meth K C m f := by
  obtain ⟨f, oc, od, an, sl, kV, dc, pm, cd, ct, a, i, l, c, k⟩ := A.ex
  exact ⟨f, _, fun_mk l c k, a, i, k⟩
structure AtP (K : PySem.W.Frag) (C : Addr) (m qual : Str) (st : Stmt) : Prop where
  ex : ∃ (p g : Addr) (fd : FuncData), PropOf K C m p g ∧ Fun K m qual st g fd
theorem atp_mk {K : PySem.W.Frag} {C : Addr} {m qual : Str} {st : Stmt} {p g : Addr} {rest : List Value} {oc : Value} {od an : Option Addr} {sl : Array (Option Value)} {kV dc pm cd ct : Value} (a : PySem.W.findIn K (.ref C) m = some (some (.ref p)))
    (s : PySem.W.specialIn K (.ref p) "__get__" = some (some (.builtin "property.__get__"))) (t : PySem.W.takesIn K (.ref p) = some true) (r : PySem.W.recIn K p "property" = some (.ref g :: rest))
    (l : K.lookup g = some ⟨oc, od, .func (PySem.W.fnOf m qual (defArgs st) (defBody st) (defScope st) .none kV dc pm an cd ct), sl⟩) (c : PySem.W.codeIn K cd qual = true) (k : PySem.W.keepIn K (.ref g) = true) : AtP K C m qual st := ⟨p, g, _, ⟨a, s, t, rest, r⟩, fun_mk l c k⟩
theorem raw0 {P : Program} {w : World} {K : PySem.W.Frag} {mg : Str → Option Value} {base : Heap} {k : Nat} {f : Addr} {fd : FuncData} {ps : List Str} {sp : Sp} (F : FnOk P w K mg base CX0 k f fd ps sp) (hb : Binds K fd ps []) : FnR P w K mg base CX0 k f sp :=
  (F.raw hb .nil).imp fun vs H Q E h => by
    rw [List.append_nil]
    exact h
theorem kit_self {K : PySem.W.Frag} {C : Addr} : PySem.W.kitOne K (.ref C) (.ref C) = some true := by
  unfold PySem.W.kitOne
  rw [if_pos]
  first
    | exact beq_self_eq_true _
    | exact (beq_self_eq_true C)
    | simp
theorem bts {K : PySem.W.Frag} {m qual : Str} {st : Stmt} {f : Addr} {fd : FuncData} (F : Fun K m qual st f fd)
    (h : ∀ (kV doc pm : Value) (an : Option Addr) (cdv ct u : Value), bindArgs (PySem.W.fnOf m qual (defArgs st) (defBody st) (defScope st) .none kV doc pm an cdv ct) ⟨[u], []⟩ = pure ((["self"] : List Str).zip [u])) :
    ∀ (s : Shared) (u : Value), BindsTo s fd ⟨[u], []⟩ ((["self"] : List Str).zip [u]) := by
  obtain ⟨oc, od, kV, doc, pm, an, cdv, ct, osl, rfl, lk, hcd⟩ := F.ex
  exact fun s u => .of_eq (h kV doc pm an cdv ct u)
theorem kbn1 {K : PySem.W.Frag} {m qual a : Str} {st : Stmt} {f : Addr} {fd : FuncData} (F : Fun K m qual st f fd)
    (h : ∀ (kV doc pm : Value) (an : Option Addr) (cdv ct u v : Value), bindArgs (PySem.W.fnOf m qual (defArgs st) (defBody st) (defScope st) .none kV doc pm an cdv ct) ⟨[u], [(a, v)]⟩ = pure [(("self" : Str), u), (a, v)]) :
    KBn K fd ["self", a] 1 [a] (fun us ws => us ++ ws) (fun vs zs => vs ++ zs) := by
  obtain ⟨oc, od, kV, doc, pm, an, cdv, ct, osl, rfl, lk, hcd⟩ := F.ex
  refine ⟨fun s us ws _ l1 l2 => ?_, fun r1 r2 => vals_app r1 r2⟩
  match us, l1, ws, l2 with
  | [u], _, [v], _ => exact .of_eq (h kV doc pm an cdv ct u v)
theorem kws_of {K : PySem.W.Frag} {m qual : Str} {st : Stmt} {f : Addr} {fd : FuncData} {ks ps : List Str} (F : Fun K m qual st f fd)
    (h : ∀ (kV doc pm : Value) (an : Option Addr) (cdv ct u : Value) (us : List Value), us.length = ks.length → bindArgs (PySem.W.fnOf m qual (defArgs st) (defBody st) (defScope st) .none kV doc pm an cdv ct) ⟨[u], ks.zip us⟩ = pure (ps.zip (u :: us.reverse))) :
    ∀ (s : Shared) (u : Value) (us : List Value), us.length = ks.length → BindsTo s fd ⟨[u], ks.zip us⟩ (ps.zip (u :: us.reverse)) := by
  obtain ⟨oc, od, kV, doc, pm, an, cdv, ct, osl, rfl, lk, hcd⟩ := F.ex
  exact fun s u us hl => .of_eq (h kV doc pm an cdv ct u us hl)
theorem kit_no {K : PySem.W.Frag} {C : Addr} {T : String} (hI : PySem.W.hasDictIn K C = true) (ti : PySem.W.typeIn K (.ref C) = some (.type "type")) (su : PySem.W.subIn K (.type T) (.ref C) = some false) : PySem.W.kitOne K (.type T) (.ref C) = some false := by
  obtain ⟨cd, hc, _⟩ := PySem.W.any_some hI
  have e : ((PySem.W.clsIn K C).isSome && PySem.W.typeIn K (.ref C) == some (.type "type")) = true := by rw [hc, ti]; rfl
  unfold PySem.W.kitOne
  rw [if_neg (show ¬ (Value.type T == Value.ref C) = true from fun z => nomatch z)]
  show (if ((PySem.W.clsIn K C).isSome && PySem.W.typeIn K (.ref C) == some (.type "type")) = true then PySem.W.subIn K (.type T) (.ref C) else none) = some false
  rw [if_pos e]
  exact su
theorem sub_tu {K : PySem.W.Frag} {C : Addr} : PySem.W.subIn K (.type "tuple") (.ref C) = some false := by first | rfl | kernel_rfl
theorem sub_li {K : PySem.W.Frag} {C : Addr} : PySem.W.subIn K (.type "list") (.ref C) = some false := by first | rfl | kernel_rfl
theorem sub_no {K : PySem.W.Frag} {C : Addr} : PySem.W.subIn K (.type "NoneType") (.ref C) = some false := by first | rfl | kernel_rfl
theorem fn_in {K : PySem.W.Frag} {m qual : Str} {st : Stmt} {f : Addr} {fd : FuncData} (F : Fun K m qual st f fd) : PySem.W.fnIn K f = true := by
  obtain ⟨oc, od, kV, doc, pm, an, cdv, ct, osl, rfl, lk, hcd⟩ := F.ex
  unfold PySem.W.fnIn
  rw [lk]
theorem all_mk {l : PySem.W.OpenLaw} {w : World} {K : PySem.W.Frag} {h : Heap} {mg : Str → Option Value} {fa C : Addr} (X : K.In h) (G : h.Ns mainGlobals mg) (hfa : mg "law" = some (.ref fa))
    (mgC : PySem.W.nsIn K mainGlobals "Partition" = some (some (.ref C))) (pg : PySem.W.plainGet K C Str.empty = true) (hd : PySem.W.hasDictIn K C = true) (po : PySem.W.plainOver K C = true) (sa : PySem.W.findIn K (.ref C) "__setattr__" = some (some (.builtin "object.__setattr__")))
    (na : PySem.W.findIn K (.ref C) "_classes" = some none) (mk : PySem.W.makesIn K C = true) (kc : PySem.W.keepIn K (.ref C) = true) (rd : PySem.W.readsIn K C (.type "type") = true) (ga : PySem.W.specialIn K (.ref C) "__getattribute__" = some (some (.builtin "type.__getattribute__")))
    {t8 : Tok} (cv : PySem.W.findCls K (.ref C) (.type "type") "MOST_HOLDERS" = some (.val (.int 8 t8)))
    (ha : PySem.W.findIn K (.ref C) "__class__" = some (some (.builtin "object.__class__"))) (hn : PySem.W.specialIn K (.builtin "object.__class__") "__get__" = some (some (.builtin "getset_descriptor.__get__"))) (htk : PySem.W.takesIn K (.builtin "object.__class__") = some true)
    (hm : PySem.W.mroIn K C (.type "object") = some true) (ne : PySem.W.findIn K (.ref C) "__ne__" = some (some (.builtin "object.__ne__"))) (ti : PySem.W.typeIn K (.ref C) = some (.type "type"))
    (M_init : AtM K C "__init__" "Partition.__init__" s_init)
    (M_len : AtM K C "__len__" "Partition.__len__" s_len)
    (M_geti : AtM K C "__getitem__" "Partition.__getitem__" s_geti)
    (M_eq : AtM K C "__eq__" "Partition.__eq__" s_eq)
    (M_repr : AtM K C "__repr__" "Partition.__repr__" s_repr)
    (M_alike : AtM K C "is_alike" "Partition.is_alike" s_alike)
    (M_groups : AtM K C "groups" "Partition.groups" s_groups)
    (M_gone : AtM K C "gone" "Partition.gone" s_gone)
    (M_copied : AtM K C "copied" "Partition.copied" s_copied)
    (M_fresh : AtM K C "fresh" "Partition.fresh" s_fresh)
    (M_without : AtM K C "without" "Partition.without" s_without)
    (M_ren : AtM K C "renamed" "Partition.renamed" s_ren)
    (P_classes : AtP K C "classes" "Partition.classes" s_classes)
    (A_is_integer : At K "is_integer" s_is_integer)
    (A_is_count : At K "is_count" s_is_count)
    (A_chold : At K "_check_holders" s_chold)
    (A_arecls : At K "are_classes" s_arecls)
    (A_order : At K "_is_order" s_order)
    (A_numbered : At K "numbered" s_numbered)
    (A_members : At K "_members" s_members)
    (A_marked_ : At K "_marked" s_marked_)
    (A_pot : At K "_law_pot" s_pot)
    (A_draw : At K "_law_draw" s_draw)
    (A_pick : At K "_law_pick" s_pick)
    (A_numbers : At K "_law_numbers" s_numbers)
    (A_marks : At K "_law_marks" s_marks)
    (A_row : At K "_law_row" s_row)
    (A_deed : At K "_law_deed" s_deed)
    (A_lmarked : At K "_law_marked" s_lmarked)
    (A_lfresh : At K "_law_fresh" s_lfresh)
    (A_lwithout : At K "_law_without" s_lwithout)
    (A_done : At K "_law_done" s_done)
    (A_named : At K "_law_named" s_named)
    (A_alikeR : At K "_law_alike_right" s_alikeR)
    (A_four : At K "_law_four" s_four)
    (A_eight : At K "_law_eight" s_eight)
    (A_more : At K "_law_more_right" s_more)
    (A_shown : At K "_law_shown_right" s_shown)
    (A_right : At K "_law_right" s_right)
    (A_law : At K "law" s_law)
    {t_GONE : Tok} (k_GONE : PySem.W.nsIn K mainGlobals "GONE" = some (some (.int (-1) t_GONE)))
    (z_len : PySem.W.nsIn K mainGlobals "len" = some none) (z_abs : PySem.W.nsIn K mainGlobals "abs" = some none) (z_max : PySem.W.nsIn K mainGlobals "max" = some none) (z_min : PySem.W.nsIn K mainGlobals "min" = some none) (z_divmod : PySem.W.nsIn K mainGlobals "divmod" = some none) (z_repr : PySem.W.nsIn K mainGlobals "repr" = some none) (z_isinstance : PySem.W.nsIn K mainGlobals "isinstance" = some none) (z_all : PySem.W.nsIn K mainGlobals "all" = some none) (z_any : PySem.W.nsIn K mainGlobals "any" = some none) (z_sum : PySem.W.nsIn K mainGlobals "sum" = some none) (z_sorted : PySem.W.nsIn K mainGlobals "sorted" = some none) (z_int : PySem.W.nsIn K mainGlobals "int" = some none) (z_str : PySem.W.nsIn K mainGlobals "str" = some none) (z_bool : PySem.W.nsIn K mainGlobals "bool" = some none) (z_list : PySem.W.nsIn K mainGlobals "list" = some none) (z_tuple : PySem.W.nsIn K mainGlobals "tuple" = some none) (z_dict : PySem.W.nsIn K mainGlobals "dict" = some none) (z_set : PySem.W.nsIn K mainGlobals "set" = some none) (z_range : PySem.W.nsIn K mainGlobals "range" = some none) (z_enumerate : PySem.W.nsIn K mainGlobals "enumerate" = some none) (z_zip : PySem.W.nsIn K mainGlobals "zip" = some none) (z_reversed : PySem.W.nsIn K mainGlobals "reversed" = some none) :
    ∃ fd : FuncData, (∀ (s : Shared) (v : Value), BindsTo s fd ⟨[v], []⟩ [("_law_script", v)]) ∧ ∀ base : Heap, K.In base → base.Ns mainGlobals mg → FnG l.prog w K mg base 10 fa fd ["_law_script"] (spLaw K) := by
  have B : Blt mg := ⟨PySem.W.mg_none_of X G z_len, PySem.W.mg_none_of X G z_abs, PySem.W.mg_none_of X G z_max, PySem.W.mg_none_of X G z_min, PySem.W.mg_none_of X G z_divmod, PySem.W.mg_none_of X G z_repr, PySem.W.mg_none_of X G z_isinstance, PySem.W.mg_none_of X G z_all, PySem.W.mg_none_of X G z_any, PySem.W.mg_none_of X G z_sum, PySem.W.mg_none_of X G z_sorted, PySem.W.mg_none_of X G z_int, PySem.W.mg_none_of X G z_str, PySem.W.mg_none_of X G z_bool, PySem.W.mg_none_of X G z_list, PySem.W.mg_none_of X G z_tuple, PySem.W.mg_none_of X G z_dict, PySem.W.mg_none_of X G z_set, PySem.W.mg_none_of X G z_range, PySem.W.mg_none_of X G z_enumerate, PySem.W.mg_none_of X G z_zip, PySem.W.mg_none_of X G z_reversed⟩
  have G1 : TxP mg t_GONE := ⟨PySem.W.mg_of X G k_GONE⟩
  have T : PCf K mg C := ⟨⟨pg, hd, po, sa⟩, na, PySem.W.mg_of X G mgC, ⟨_, _, ⟨rd, ga⟩, ⟨cv, ⟨_, rfl⟩⟩⟩⟩
  have TI : PCi K C := ⟨fun H a dx fs e => .base (TyOf.ins e T.cl ha hn htk hm), kit_self⟩
  have N : NeK K C := ⟨ne, hm⟩
  have O : OthK K C := ⟨⟨kit_no hd ti sub_tu, sub_tu⟩, ⟨kit_no hd ti sub_li, sub_li⟩, ⟨kit_no hd ti sub_no, sub_no⟩⟩
  obtain ⟨f_is_integer, d_is_integer, F_is_integer, m_is_integer⟩ := A_is_integer.fn X G
  obtain ⟨f_is_count, d_is_count, F_is_count, m_is_count⟩ := A_is_count.fn X G
  obtain ⟨f_chold, d_chold, F_chold, m_chold⟩ := A_chold.fn X G
  obtain ⟨f_arecls, d_arecls, F_arecls, m_arecls⟩ := A_arecls.fn X G
  obtain ⟨f_order, d_order, F_order, m_order⟩ := A_order.fn X G
  obtain ⟨f_numbered, d_numbered, F_numbered, m_numbered⟩ := A_numbered.fn X G
  obtain ⟨f_members, d_members, F_members, m_members⟩ := A_members.fn X G
  obtain ⟨f_marked_, d_marked_, F_marked_, m_marked_⟩ := A_marked_.fn X G
  obtain ⟨f_pot, d_pot, F_pot, m_pot⟩ := A_pot.fn X G
  obtain ⟨f_draw, d_draw, F_draw, m_draw⟩ := A_draw.fn X G
  obtain ⟨f_pick, d_pick, F_pick, m_pick⟩ := A_pick.fn X G
  obtain ⟨f_numbers, d_numbers, F_numbers, m_numbers⟩ := A_numbers.fn X G
  obtain ⟨f_marks, d_marks, F_marks, m_marks⟩ := A_marks.fn X G
  obtain ⟨f_row, d_row, F_row, m_row⟩ := A_row.fn X G
  obtain ⟨f_deed, d_deed, F_deed, m_deed⟩ := A_deed.fn X G
  obtain ⟨f_lmarked, d_lmarked, F_lmarked, m_lmarked⟩ := A_lmarked.fn X G
  obtain ⟨f_lfresh, d_lfresh, F_lfresh, m_lfresh⟩ := A_lfresh.fn X G
  obtain ⟨f_lwithout, d_lwithout, F_lwithout, m_lwithout⟩ := A_lwithout.fn X G
  obtain ⟨f_done, d_done, F_done, m_done⟩ := A_done.fn X G
  obtain ⟨f_named, d_named, F_named, m_named⟩ := A_named.fn X G
  obtain ⟨f_alikeR, d_alikeR, F_alikeR, m_alikeR⟩ := A_alikeR.fn X G
  obtain ⟨f_four, d_four, F_four, m_four⟩ := A_four.fn X G
  obtain ⟨f_eight, d_eight, F_eight, m_eight⟩ := A_eight.fn X G
  obtain ⟨f_more, d_more, F_more, m_more⟩ := A_more.fn X G
  obtain ⟨f_shown, d_shown, F_shown, m_shown⟩ := A_shown.fn X G
  obtain ⟨f_right, d_right, F_right, m_right⟩ := A_right.fn X G
  obtain ⟨g_init, e_init, F_init, h_init⟩ := M_init.fn
  obtain ⟨g_len, e_len, F_len, h_len⟩ := M_len.fn
  obtain ⟨g_geti, e_geti, F_geti, h_geti⟩ := M_geti.fn
  obtain ⟨g_eq, e_eq, F_eq, h_eq⟩ := M_eq.fn
  obtain ⟨g_repr, e_repr, F_repr, h_repr⟩ := M_repr.fn
  obtain ⟨g_alike, e_alike, F_alike, h_alike⟩ := M_alike.fn
  obtain ⟨g_groups, e_groups, F_groups, h_groups⟩ := M_groups.fn
  obtain ⟨g_gone, e_gone, F_gone, h_gone⟩ := M_gone.fn
  obtain ⟨g_copied, e_copied, F_copied, h_copied⟩ := M_copied.fn
  obtain ⟨g_fresh, e_fresh, F_fresh, h_fresh⟩ := M_fresh.fn
  obtain ⟨g_without, e_without, F_without, h_without⟩ := M_without.fn
  obtain ⟨g_ren, e_ren, F_ren, h_ren⟩ := M_ren.fn
  obtain ⟨p_cls, g_cls, e_cls, h_cls, F_cls⟩ := P_classes.ex
  obtain ⟨f1, oc, od, an, sl, kV, dc, pm, cd, ct, a1, l1, c1, k1⟩ := A_law.ex
  have e := hfa.symm.trans (PySem.W.mg_of X G a1)
  cases e
  refine ⟨PySem.W.fnOf "law" "law" (defArgs s_law) (defBody s_law) (defScope s_law) .none kV dc pm an cd ct, fun s v => .of_eq rfl, fun base _ _ => ?_⟩
  have c_is_integer : OwnK l.prog w K mg base "is_integer" 1 ["value"] spInt := ⟨f_is_integer, d_is_integer, ok_is_integer F_is_integer B, m_is_integer, F_is_integer.kp, F_is_integer.binds (fun _ _ _ _ _ _ us hl => match us, hl with | [_], _ => rfl)⟩
  have c_is_count : OwnK l.prog w K mg base "is_count" 2 ["value"] spCnt := ⟨f_is_count, d_is_count, ok_is_count F_is_count c_is_integer, m_is_count, F_is_count.kp, F_is_count.binds (fun _ _ _ _ _ _ us hl => match us, hl with | [_], _ => rfl)⟩
  have c_chold : OwnK l.prog w K mg base "_check_holders" 3 ["classes", "holders"] (spHold K) := ⟨f_chold, d_chold, ok_chold F_chold B c_is_count, m_chold, F_chold.kp, F_chold.binds (fun _ _ _ _ _ _ us hl => match us, hl with | [_, _], _ => rfl)⟩
  have c_numbered : OwnK l.prog w K mg base "numbered" 1 ["marks"] (spNum K) := ⟨f_numbered, d_numbered, ok_numbered F_numbered B G1, m_numbered, F_numbered.kp, F_numbered.binds (fun _ _ _ _ _ _ us hl => match us, hl with | [_], _ => rfl)⟩
  have c_numberedT : OwnK l.prog w K mg base "numbered" 1 ["marks"] (spNumT K) := ⟨f_numbered, d_numbered, ok_numberedT F_numbered B G1, m_numbered, F_numbered.kp, F_numbered.binds (fun _ _ _ _ _ _ us hl => match us, hl with | [_], _ => rfl)⟩
  have c_members : OwnK l.prog w K mg base "_members" 1 ["classes", "number"] (spMem K) := ⟨f_members, d_members, ok_members F_members B, m_members, F_members.kp, F_members.binds (fun _ _ _ _ _ _ us hl => match us, hl with | [_, _], _ => rfl)⟩
  have c_marked_ : OwnK l.prog w K mg base "_marked" 1 ["classes", "holders", "mark"] (spMark K) := ⟨f_marked_, d_marked_, ok_marked F_marked_ B, m_marked_, F_marked_.kp, F_marked_.binds (fun _ _ _ _ _ _ us hl => match us, hl with | [_, _, _], _ => rfl)⟩
  have c_arecls : OwnK l.prog w K mg base "are_classes" 2 ["value"] (spAre K) := ⟨f_arecls, d_arecls, ok_arecls F_arecls B T c_is_integer c_numbered, m_arecls, F_arecls.kp, F_arecls.binds (fun _ _ _ _ _ _ us hl => match us, hl with | [_], _ => rfl)⟩
  have c_areclsT : OwnK l.prog w K mg base "are_classes" 2 ["value"] (spAreT K) := ⟨f_arecls, d_arecls, ok_areclsT F_arecls B T c_is_integer c_numberedT, m_arecls, F_arecls.kp, F_arecls.binds (fun _ _ _ _ _ _ us hl => match us, hl with | [_], _ => rfl)⟩
  have c_order : OwnK l.prog w K mg base "_is_order" 2 ["value", "many"] spOrder := ⟨f_order, d_order, ok_order F_order B c_is_integer, m_order, F_order.kp, F_order.binds (fun _ _ _ _ _ _ us hl => match us, hl with | [_, _], _ => rfl)⟩
  have c_orderT : OwnK l.prog w K mg base "_is_order" 2 ["value", "many"] spOrderT := ⟨f_order, d_order, ok_orderT F_order B c_is_integer, m_order, F_order.kp, F_order.binds (fun _ _ _ _ _ _ us hl => match us, hl with | [_, _], _ => rfl)⟩
  have m_cls : OwnP l.prog w K mg base C "classes" 1 (getSp C "_classes") := ⟨p_cls, g_cls, e_cls, h_cls, ok_classes F_cls T, F_cls.binds (fun _ _ _ _ _ _ us hl => match us, hl with | [_], _ => rfl)⟩
  have M : OwnI l.prog w K mg base C 3 (spInit K C) := ⟨g_init, ⟨mk, h_init.at_, h_init.fn, kc⟩, raw0 (ok_init F_init B T c_arecls) (F_init.binds (fun _ _ _ _ _ _ us hl => match us, hl with | [_, _], _ => rfl))⟩
  have MK : OwnMkK l.prog w K mg base C 3 "classes" (spInitT C) := ⟨g_init, _, ⟨mk, h_init.at_, h_init.fn, kc⟩, ok_initT F_init B T c_areclsT, kbn1 F_init (fun _ _ _ _ _ _ _ _ => rfl)⟩
  have m_fresh : OwnM l.prog w K mg base C "fresh" 5 (spNew C gFresh) := ⟨g_fresh, h_fresh, ok_fresh F_fresh B T c_chold c_numbered c_marked_ M⟩
  have m_without : OwnM l.prog w K mg base C "without" 5 (spNew C gWithout) := ⟨g_without, h_without, ok_without F_without B T G1 c_chold c_numbered c_marked_ M⟩
  have m_alike : OwnM l.prog w K mg base C "is_alike" 4 (spAlike C) := ⟨g_alike, h_alike, ok_alike F_alike B T G1 c_chold⟩
  have m_copied : OwnM l.prog w K mg base C "copied" 5 (spCopied C) := ⟨g_copied, h_copied, raw0 (ok_copied F_copied T c_chold c_numbered c_marked_ M) (F_copied.binds (fun _ _ _ _ _ _ us hl => match us, hl with | [_, _, _], _ => rfl))⟩
  have m_renamed : OwnM l.prog w K mg base C "renamed" 5 (spRen C) := ⟨g_ren, h_ren, raw0 (ok_ren F_ren B T c_order c_numbered M) (F_ren.binds (fun _ _ _ _ _ _ us hl => match us, hl with | [_, _], _ => rfl))⟩
  have k_copied : OwnMK l.prog w K mg base C "copied" 5 ["source", "target"] ["self", "target", "source"] (spCopied C) := ⟨g_copied, e_copied, h_copied, ok_copied F_copied T c_chold c_numbered c_marked_ M, kws_of F_copied (fun _ _ _ _ _ _ _ us hl => match us, hl with | [_, _], _ => rfl)⟩
  have k_renamed : OwnMK l.prog w K mg base C "renamed" 5 ["order"] ["self", "order"] (spRenT C) := ⟨g_ren, e_ren, h_ren, ok_renT F_ren B T c_orderT c_numbered M, kws_of F_ren (fun _ _ _ _ _ _ _ us hl => match us, hl with | [_], _ => rfl)⟩
  have m_groups : OwnM0 l.prog w K mg base C "groups" 2 (spGroups C) := ⟨g_groups, e_groups, h_groups, ok_groups F_groups B T c_members, F_groups.binds (fun _ _ _ _ _ _ us hl => match us, hl with | [_], _ => rfl)⟩
  have m_gone : OwnM0 l.prog w K mg base C "gone" 2 (spGoneF C) := ⟨g_gone, e_gone, h_gone, ok_goneF F_gone T G1 c_members, F_gone.binds (fun _ _ _ _ _ _ us hl => match us, hl with | [_], _ => rfl)⟩
  have eE : OpF l.prog w K mg base C "__eq__" 1 (spEqP C) := ⟨g_eq, h_eq.at_, h_eq.fn, raw0 (ok_eq F_eq B T TI) (F_eq.binds (fun _ _ _ _ _ _ us hl => match us, hl with | [_, _], _ => rfl))⟩
  have eX : OpF l.prog w K mg base C "__eq__" 1 (spEqO K C) := ⟨g_eq, h_eq.at_, h_eq.fn, raw0 (ok_eqO F_eq B T) (F_eq.binds (fun _ _ _ _ _ _ us hl => match us, hl with | [_, _], _ => rfl))⟩
  have eL : OpF l.prog w K mg base C "__len__" 1 (spLenP C) := ⟨g_len, h_len.at_, h_len.fn, raw0 (ok_len F_len B T) (F_len.binds (fun _ _ _ _ _ _ us hl => match us, hl with | [_], _ => rfl))⟩
  have eG : OpF l.prog w K mg base C "__getitem__" 4 (spGet C) := ⟨g_geti, h_geti.at_, h_geti.fn, raw0 (ok_geti F_geti T c_chold) (F_geti.binds (fun _ _ _ _ _ _ us hl => match us, hl with | [_, _], _ => rfl))⟩
  have gk : ∀ f, PySem.W.findIn K (.ref C) "__getitem__" = some (some (.ref f)) → PySem.W.fnIn K f = true := fun f hf => by
    have e := hf.symm.trans h_geti.at_
    cases e
    exact fn_in F_geti
  have eR : ReF l.prog w K mg base C := ⟨g_repr, e_repr, ok_repr F_repr T, h_repr.at_, h_repr.fn, bts F_repr (fun _ _ _ _ _ _ _ => rfl)⟩
  have c_pot : Own l.prog w K mg base "_law_pot" 1 ["_law_script", "_law_k"] (spPot K) := own_mk F_pot m_pot (ok_pot F_pot B) (fun _ _ _ _ _ _ us hl => match us, hl with | [_, _], _ => rfl) (fun _ _ _ _ _ _ _ z => nomatch z)
  have c_draw : Own l.prog w K mg base "_law_draw" 1 ["_law_pot_here", "_law_lot"] spDraw := own_mk F_draw m_draw (ok_draw F_draw B) (fun _ _ _ _ _ _ us hl => match us, hl with | [_, _], _ => rfl) (fun _ _ _ _ _ _ _ z => nomatch z)
  have c_pick : Own l.prog w K mg base "_law_pick" 2 ["_law_pot_here", "_law_some"] (spPick K) := own_mk F_pick m_pick (ok_pick F_pick B c_draw) (fun _ _ _ _ _ _ us hl => match us, hl with | [_, _], _ => rfl) (fun _ _ _ _ _ _ _ z => nomatch z)
  have c_numbers : Own l.prog w K mg base "_law_numbers" 1 ["_law_marks_here"] spNumbers := own_mk F_numbers m_numbers (ok_numbers F_numbers B) (fun _ _ _ _ _ _ us hl => match us, hl with | [_], _ => rfl) (fun _ _ _ _ _ _ _ _ => rfl)
  have c_marks : Own l.prog w K mg base "_law_marks" 3 ["_law_pot_here", "_law_lot", "_law_with_gone"] spMarks := own_mk F_marks m_marks (ok_marks F_marks B c_draw c_pick) (fun _ _ _ _ _ _ us hl => match us, hl with | [_, _, _], _ => rfl) (fun _ _ _ _ _ _ _ z => nomatch z)
  have c_row : Own l.prog w K mg base "_law_row" 2 ["_law_pot_here", "_law_lot"] spRow := own_mk F_row m_row (ok_row F_row B c_draw) (fun _ _ _ _ _ _ us hl => match us, hl with | [_, _], _ => rfl) (fun _ _ _ _ _ _ _ z => nomatch z)
  have c_deed : Own l.prog w K mg base "_law_deed" 3 ["_law_pot_here", "_law_lot"] spDeed := own_mk F_deed m_deed (ok_deed F_deed B c_draw c_pick c_row) (fun _ _ _ _ _ _ us hl => match us, hl with | [_, _], _ => rfl) (fun _ _ _ _ _ _ _ z => nomatch z)
  have c_lmarked : Own l.prog w K mg base "_law_marked" 1 ["_law_marks_here", "_law_deed_here", "_law_mark"] spLMarked := own_mk F_lmarked m_lmarked (ok_lmarked F_lmarked B) (fun _ _ _ _ _ _ us hl => match us, hl with | [_, _, _], _ => rfl) (fun _ _ _ _ _ _ _ z => nomatch z)
  have c_lfresh : Own l.prog w K mg base "_law_fresh" 6 ["_law_made", "_law_some"] (spFew C gFresh) := own_mk F_lfresh m_lfresh (ok_lfresh F_lfresh B T m_fresh) (fun _ _ _ _ _ _ us hl => match us, hl with | [_, _], _ => rfl) (fun _ _ _ _ _ _ _ z => nomatch z)
  have c_lwithout : Own l.prog w K mg base "_law_without" 6 ["_law_made", "_law_some"] (spFew C gWithout) := own_mk F_lwithout m_lwithout (ok_lwithout F_lwithout B T m_without) (fun _ _ _ _ _ _ us hl => match us, hl with | [_, _], _ => rfl) (fun _ _ _ _ _ _ _ z => nomatch z)
  have c_done : Own l.prog w K mg base "_law_done" 7 ["_law_made", "_law_deed_here"] (spDone C) := own_mk F_done m_done (ok_done F_done B T m_renamed m_copied c_lfresh c_lwithout) (fun _ _ _ _ _ _ us hl => match us, hl with | [_, _], _ => rfl) (fun _ _ _ _ _ _ _ z => nomatch z)
  have c_named : Own l.prog w K mg base "_law_named" 8 ["_law_made", "_law_deed_here"] (spDone C) := own_mk F_named m_named (ok_named F_named B T k_renamed k_copied c_done) (fun _ _ _ _ _ _ us hl => match us, hl with | [_, _], _ => rfl) (fun _ _ _ _ _ _ _ z => nomatch z)
  have c_alikeR : Own l.prog w K mg base "_law_alike_right" 6 ["_law_pot_here", "_law_made", "_law_marks_here"] (spLaw3 C) := own_mk F_alikeR m_alikeR (ok_alikeR F_alikeR B T c_draw m_alike m_fresh m_without eE N) (fun _ _ _ _ _ _ us hl => match us, hl with | [_, _, _], _ => rfl) (fun _ _ _ _ _ _ _ z => nomatch z)
  have c_four : Own l.prog w K mg base "_law_four" 6 ["_law_made", "_law_some", "_law_way"] (spWay C 4) := own_mk F_four m_four (ok_four F_four T m_alike m_fresh m_without) (fun _ _ _ _ _ _ us hl => match us, hl with | [_, _, _], _ => rfl) (fun _ _ _ _ _ _ _ z => nomatch z)
  have c_eight : Own l.prog w K mg base "_law_eight" 6 ["_law_made", "_law_some", "_law_way"] (spWay C 8) := own_mk F_eight m_eight (ok_eight F_eight T m_alike m_fresh m_without) (fun _ _ _ _ _ _ us hl => match us, hl with | [_, _, _], _ => rfl) (fun _ _ _ _ _ _ _ z => nomatch z)
  have c_more : Own l.prog w K mg base "_law_more_right" 7 ["_law_pot_here", "_law_made", "_law_marks_here"] (spMore C) := own_mk F_more m_more (ok_more F_more B T M c_draw c_four c_eight c_numbers c_lmarked eE eR) (fun _ _ _ _ _ _ us hl => match us, hl with | [_, _, _], _ => rfl) (fun _ _ _ _ _ _ _ z => nomatch z)
  have c_shown : Own l.prog w K mg base "_law_shown_right" 7 ["_law_pot_here", "_law_made", "_law_marks_here"] (spLaw3 C) := own_mk F_shown m_shown (ok_shown F_shown B T M MK c_numbers c_alikeR m_cls m_groups m_gone eE eX eL eG gk N O eR) (fun _ _ _ _ _ _ us hl => match us, hl with | [_, _, _], _ => rfl) (fun _ _ _ _ _ _ _ z => nomatch z)
  have c_right : Own l.prog w K mg base "_law_right" 9 ["_law_pot_here"] spRight := own_mk F_right m_right (ok_right F_right B T M c_draw c_numbers c_marks c_deed c_lmarked c_done c_named c_shown c_more eE N) (fun _ _ _ _ _ _ us hl => match us, hl with | [_], _ => rfl) (fun _ _ _ _ _ _ _ _ => rfl)
  exact ok_law (fun_mk l1 c1 k1) B c_right c_pot
end Jc
open PySem PySem.W PyProof.Rows
set_option maxRecDepth 100000 in
set_option maxHeartbeats 0 in
theorem PySem.Challenge.cw_cutshows_k11_whole_partitions_beside_mar_holds : PySem.Challenge.rw_cutshows_k11_whole_partitions_beside_mar.Holds := by
  w_on; o_law; k_head; (case hw => w_witness2)
  k_fill
  refine Jc.walkG (l := PySem.Challenge.rw_cutshows_k11_whole_partitions_beside_mar) (k := 10) rfl rfl ⟨rfl, by decide, by decide⟩ (fun w h Y => PySem.W.kIn_of Y) ?F
  case F =>
    intro w mg fa h KX G hmg
    refine' Jc.all_mk KX G hmg ?mgC ?pg ?hd ?po ?sa ?na ?mk ?kc ?rd ?ga ?cv ?ha ?hn ?htk ?hm ?ne ?ti (Jc.atm_mk ?ma_init ?mi_init ?ml_init ?mc_init ?mk_init) (Jc.atm_mk ?ma_len ?mi_len ?ml_len ?mc_len ?mk_len) (Jc.atm_mk ?ma_geti ?mi_geti ?ml_geti ?mc_geti ?mk_geti) (Jc.atm_mk ?ma_eq ?mi_eq ?ml_eq ?mc_eq ?mk_eq) (Jc.atm_mk ?ma_repr ?mi_repr ?ml_repr ?mc_repr ?mk_repr) (Jc.atm_mk ?ma_alike ?mi_alike ?ml_alike ?mc_alike ?mk_alike) (Jc.atm_mk ?ma_groups ?mi_groups ?ml_groups ?mc_groups ?mk_groups) (Jc.atm_mk ?ma_gone ?mi_gone ?ml_gone ?mc_gone ?mk_gone) (Jc.atm_mk ?ma_copied ?mi_copied ?ml_copied ?mc_copied ?mk_copied) (Jc.atm_mk ?ma_fresh ?mi_fresh ?ml_fresh ?mc_fresh ?mk_fresh) (Jc.atm_mk ?ma_without ?mi_without ?ml_without ?mc_without ?mk_without) (Jc.atm_mk ?ma_ren ?mi_ren ?ml_ren ?mc_ren ?mk_ren) (Jc.atp_mk ?pa ?ps ?pt ?pr ?pl ?pc ?pk) (Jc.at_mk ?a_is_integer ?l_is_integer ?c_is_integer ?k_is_integer) (Jc.at_mk ?a_is_count ?l_is_count ?c_is_count ?k_is_count) (Jc.at_mk ?a_chold ?l_chold ?c_chold ?k_chold) (Jc.at_mk ?a_arecls ?l_arecls ?c_arecls ?k_arecls) (Jc.at_mk ?a_order ?l_order ?c_order ?k_order) (Jc.at_mk ?a_numbered ?l_numbered ?c_numbered ?k_numbered) (Jc.at_mk ?a_members ?l_members ?c_members ?k_members) (Jc.at_mk ?a_marked_ ?l_marked_ ?c_marked_ ?k_marked_) (Jc.at_mk ?a_pot ?l_pot ?c_pot ?k_pot) (Jc.at_mk ?a_draw ?l_draw ?c_draw ?k_draw) (Jc.at_mk ?a_pick ?l_pick ?c_pick ?k_pick) (Jc.at_mk ?a_numbers ?l_numbers ?c_numbers ?k_numbers) (Jc.at_mk ?a_marks ?l_marks ?c_marks ?k_marks) (Jc.at_mk ?a_row ?l_row ?c_row ?k_row) (Jc.at_mk ?a_deed ?l_deed ?c_deed ?k_deed) (Jc.at_mk ?a_lmarked ?l_lmarked ?c_lmarked ?k_lmarked) (Jc.at_mk ?a_lfresh ?l_lfresh ?c_lfresh ?k_lfresh) (Jc.at_mk ?a_lwithout ?l_lwithout ?c_lwithout ?k_lwithout) (Jc.at_mk ?a_done ?l_done ?c_done ?k_done) (Jc.at_mk ?a_named ?l_named ?c_named ?k_named) (Jc.at_mk ?a_alikeR ?l_alikeR ?c_alikeR ?k_alikeR) (Jc.at_mk ?a_four ?l_four ?c_four ?k_four) (Jc.at_mk ?a_eight ?l_eight ?c_eight ?k_eight) (Jc.at_mk ?a_more ?l_more ?c_more ?k_more) (Jc.at_mk ?a_shown ?l_shown ?c_shown ?k_shown) (Jc.at_mk ?a_right ?l_right ?c_right ?k_right) (Jc.at_mk ?a_law ?l_law ?c_law ?k_law) ?k_GONE ?z_len ?z_abs ?z_max ?z_min ?z_divmod ?z_repr ?z_isinstance ?z_all ?z_any ?z_sum ?z_sorted ?z_int ?z_str ?z_bool ?z_list ?z_tuple ?z_dict ?z_set ?z_range ?z_enumerate ?z_zip ?z_reversed
    (case mgC => k_is); (case pg => k_is); (case hd => k_is); (case po => k_is); (case sa => k_is); (case na => k_is); (case mk => k_is); (case kc => k_is); (case rd => k_is); (case ga => k_is); (case cv => k_is); (case ha => k_is); (case hn => k_is); (case htk => k_is); (case hm => k_is); (case ne => k_is); (case ti => k_is)
    (case ma_init => k_is); (case mi_init => k_is); (case ml_init => k_is); (case mc_init => k_is); (case mk_init => k_is)
    (case ma_len => k_is); (case mi_len => k_is); (case ml_len => k_is); (case mc_len => k_is); (case mk_len => k_is)
    (case ma_geti => k_is); (case mi_geti => k_is); (case ml_geti => k_is); (case mc_geti => k_is); (case mk_geti => k_is)
    (case ma_eq => k_is); (case mi_eq => k_is); (case ml_eq => k_is); (case mc_eq => k_is); (case mk_eq => k_is)
    (case ma_repr => k_is); (case mi_repr => k_is); (case ml_repr => k_is); (case mc_repr => k_is); (case mk_repr => k_is)
    (case ma_alike => k_is); (case mi_alike => k_is); (case ml_alike => k_is); (case mc_alike => k_is); (case mk_alike => k_is)
    (case ma_groups => k_is); (case mi_groups => k_is); (case ml_groups => k_is); (case mc_groups => k_is); (case mk_groups => k_is)
    (case ma_gone => k_is); (case mi_gone => k_is); (case ml_gone => k_is); (case mc_gone => k_is); (case mk_gone => k_is)
    (case ma_copied => k_is); (case mi_copied => k_is); (case ml_copied => k_is); (case mc_copied => k_is); (case mk_copied => k_is)
    (case ma_fresh => k_is); (case mi_fresh => k_is); (case ml_fresh => k_is); (case mc_fresh => k_is); (case mk_fresh => k_is)
    (case ma_without => k_is); (case mi_without => k_is); (case ml_without => k_is); (case mc_without => k_is); (case mk_without => k_is)
    (case ma_ren => k_is); (case mi_ren => k_is); (case ml_ren => k_is); (case mc_ren => k_is); (case mk_ren => k_is)
    (case pa => k_is); (case ps => k_is); (case pt => k_is); (case pr => k_is); (case pl => k_is); (case pc => k_is); (case pk => k_is)
    (case a_is_integer => k_is); (case l_is_integer => k_is); (case c_is_integer => k_is); (case k_is_integer => k_is)
    (case a_is_count => k_is); (case l_is_count => k_is); (case c_is_count => k_is); (case k_is_count => k_is)
    (case a_chold => k_is); (case l_chold => k_is); (case c_chold => k_is); (case k_chold => k_is)
    (case a_arecls => k_is); (case l_arecls => k_is); (case c_arecls => k_is); (case k_arecls => k_is)
    (case a_order => k_is); (case l_order => k_is); (case c_order => k_is); (case k_order => k_is)
    (case a_numbered => k_is); (case l_numbered => k_is); (case c_numbered => k_is); (case k_numbered => k_is)
    (case a_members => k_is); (case l_members => k_is); (case c_members => k_is); (case k_members => k_is)
    (case a_marked_ => k_is); (case l_marked_ => k_is); (case c_marked_ => k_is); (case k_marked_ => k_is)
    (case a_pot => k_is); (case l_pot => k_is); (case c_pot => k_is); (case k_pot => k_is)
    (case a_draw => k_is); (case l_draw => k_is); (case c_draw => k_is); (case k_draw => k_is)
    (case a_pick => k_is); (case l_pick => k_is); (case c_pick => k_is); (case k_pick => k_is)
    (case a_numbers => k_is); (case l_numbers => k_is); (case c_numbers => k_is); (case k_numbers => k_is)
    (case a_marks => k_is); (case l_marks => k_is); (case c_marks => k_is); (case k_marks => k_is)
    (case a_row => k_is); (case l_row => k_is); (case c_row => k_is); (case k_row => k_is)
    (case a_deed => k_is); (case l_deed => k_is); (case c_deed => k_is); (case k_deed => k_is)
    (case a_lmarked => k_is); (case l_lmarked => k_is); (case c_lmarked => k_is); (case k_lmarked => k_is)
    (case a_lfresh => k_is); (case l_lfresh => k_is); (case c_lfresh => k_is); (case k_lfresh => k_is)
    (case a_lwithout => k_is); (case l_lwithout => k_is); (case c_lwithout => k_is); (case k_lwithout => k_is)
    (case a_done => k_is); (case l_done => k_is); (case c_done => k_is); (case k_done => k_is)
    (case a_named => k_is); (case l_named => k_is); (case c_named => k_is); (case k_named => k_is)
    (case a_alikeR => k_is); (case l_alikeR => k_is); (case c_alikeR => k_is); (case k_alikeR => k_is)
    (case a_four => k_is); (case l_four => k_is); (case c_four => k_is); (case k_four => k_is)
    (case a_eight => k_is); (case l_eight => k_is); (case c_eight => k_is); (case k_eight => k_is)
    (case a_more => k_is); (case l_more => k_is); (case c_more => k_is); (case k_more => k_is)
    (case a_shown => k_is); (case l_shown => k_is); (case c_shown => k_is); (case k_shown => k_is)
    (case a_right => k_is); (case l_right => k_is); (case c_right => k_is); (case k_right => k_is)
    (case a_law => k_is); (case l_law => k_is); (case c_law => k_is); (case k_law => k_is)
    (case k_GONE => k_is)
    (case z_len => k_is); (case z_abs => k_is); (case z_max => k_is); (case z_min => k_is); (case z_divmod => k_is); (case z_repr => k_is); (case z_isinstance => k_is); (case z_all => k_is); (case z_any => k_is); (case z_sum => k_is); (case z_sorted => k_is); (case z_int => k_is); (case z_str => k_is); (case z_bool => k_is); (case z_list => k_is); (case z_tuple => k_is); (case z_dict => k_is); (case z_set => k_is); (case z_range => k_is); (case z_enumerate => k_is); (case z_zip => k_is); (case z_reversed => k_is)
