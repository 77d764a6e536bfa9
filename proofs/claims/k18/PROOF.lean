import PyProof.Rows.All
import Wide.All
import OpenK.AllK
import Wide.FinOn
import HandS.ForMost
import HandS.IsInst
import HandS.Style
import HandS.WideBits
import HandS.RaiseMore
import PyProof.ReprRoads
import PyProof.Rows.ReprR
import HandS.Walk
import HandS.Evl
import HandS.More
import PySem.Challenge.RW_cutshows_k18_basics
set_option Elab.async false
set_option linter.all false
set_option maxRecDepth 100000
set_option maxHeartbeats 8100000
namespace Jc
open PySem PySem.Spec L2
open PyProof.Rows hiding St

/-! ### the pot of a law: two ints in a list; hidden behind one word, so that a draw leaves the heap as it was -/
def potPhi (p : Addr) : Heap → Prop := fun h => ∃ (a b : Int) (t u : Tok) (n : Nat), 0 ≤ a ∧ 0 ≤ b ∧ b < 2147483587 ∧
  h.get? p = some { cls := .type "list", data := .seq #[.int a t, .int b u] n }
abbrev Pot (H : Hp) (p : Addr) : Prop := H p = some (.ext (potPhi p))
section
variable {X : Cx} {pins : List (Addr × Obj)} {σ : St} {H : Hp} {s : Shared} {p : Addr}
theorem two_le : 2 ≤ sizeLine := by rw [sizeLine_eq]; decide
theorem pot_open (I : Inv X pins σ H s) (h : Pot H p) : ∃ a b : Int, 0 ≤ a ∧ 0 ≤ b ∧ b < 2147483587 ∧ Inv X pins σ (upd H p (.lst [.int a, .int b])) s := by
  obtain ⟨⟨a, b, t, u, n, ha, hb, hb2, hg⟩, _, _⟩ := (show ObjOk X.prog X.w H s.heap p (.ext (potPhi p)) from I.hok p _ h)
  refine ⟨a, b, ha, hb, hb2, ?_⟩
  exact I.write (x := p) (e := p) (h' := s.heap) (t' := s.toks) (by rw [h]; trivial) (.inl rfl) (fun _ _ _ e => e) ⟨_, hg⟩
    ⟨two_le, [.int a t, .int b u], n, .cons ⟨_, rfl⟩ (.cons ⟨_, rfl⟩ .nil), hg⟩
theorem pot_shut (I : Inv X pins σ H s) {a b : Int} (h : H p = some (.lst [.int a, .int b])) (ha : 0 ≤ a) (hb : 0 ≤ b) (hb2 : b < 2147483587) : Inv X pins σ (upd H p (.ext (potPhi p))) s := by
  obtain ⟨_, its, n, r, hg⟩ := (show ObjOk X.prog X.w H s.heap p (.lst [.int a, .int b]) from I.hok p _ h)
  obtain ⟨u1, u2, e, ⟨t, r1⟩, ⟨u, r2⟩⟩ := vals2 r
  subst e r1 r2
  refine I.write (x := p) (e := p) (h' := s.heap) (t' := s.toks) (by rw [h]; trivial) (.inl rfl) (fun _ _ _ e => e) ⟨_, hg⟩ ⟨⟨a, b, t, u, n, ha, hb, hb2, hg⟩, ⟨_, hg⟩, ?_⟩
  rintro h1 h2 ⟨a', b', t', u', n', c1, c2, c3, c4⟩ k
  exact ⟨a', b', t', u', n', c1, c2, c3, k _ c4⟩
end
section
variable {X : Cx}
/-- a block, its pot laid open first -/
theorem pss_pot {body : List Stmt} {t : TS} (h : PSs X body t) : PSs X body (fun D σ H => ∃ p, Pot H p ∧ ∀ a b : Int, 0 ≤ a → 0 ≤ b → b < 2147483587 → t D σ (upd H p (.lst [.int a, .int b]))) := by
  refine ⟨fun pins s σ H D I ht => ?_⟩
  obtain ⟨p, hp, k⟩ := ht
  obtain ⟨a, b, ha, hb, hb2, I2⟩ := pot_open I hp
  exact h.run pins s σ _ D I2 (k a b ha hb hb2)
/-- behind an expression a list of two ints is hidden as a pot -/
theorem pe_pot {e : Expr} {t : TE} (h : PE X e t) : PE X e (fun σ H Q => t σ H fun v H1 => ∃ (p : Addr) (a b : Int), H1 p = some (.lst [.int a, .int b]) ∧ 0 ≤ a ∧ 0 ≤ b ∧ b < 2147483587 ∧ Q v (upd H1 p (.ext (potPhi p)))) := by
  refine ⟨fun pins s σ H Q I ht => ?_⟩
  refine thn (h.run pins s σ H _ I ht) fun u s1 ⟨v, H1, I1, r1, p, a, b, e1, ha, hb, hb2, q⟩ => ?_
  exact ⟨v, _, pot_shut I1 e1 ha hb hb2, r1, q⟩
end

/-! ### a def that is called where no repr is under way -/
structure FnG (P : Program) (w : World) (K : PySem.W.Frag) (mg : Str → Option Value) (base : Heap) (k : Nat) (f : Addr) (fd : FuncData) (ps : List Str) (sp : Sp) : Prop where
  lenG : ∀ vs H Q E, sp vs H Q E → vs.length = ps.length
  runG : ∀ (A : Around) (outer : List Env) (s : Shared) (H : Hp) (args : Args) (us : List Value) (vs : List V) (Q : VK), Room k A → A.guards = some [] →
    Env0 P w K mg base A outer s H → BindsTo s fd args (ps.zip us) → Vals vs us → sp vs H Q E0 → codeAny (model P w) A (.call (.ref f) args) (CR CX0 outer P w H s Q E0) s
section
variable {P : Program} {w : World} {K : PySem.W.Frag} {mg : Str → Option Value} {base : Heap}
theorem FnG.of {k : Nat} {f : Addr} {fd : FuncData} {ps : List Str} {sp : Sp} (F : FnOk P w K mg base CX0 k f fd ps sp) : FnG P w K mg base k f fd ps sp :=
  ⟨F.len, fun A outer s H args us vs Q hr _ e b r h => F.run A outer s H args us vs Q E0 hr e b r h⟩
theorem fnG_of {x qual : Str} {st : Stmt} {f : Addr} {fd : FuncData} {N ps : List Str} {k : Nat} {sp : Sp} (F : Fun K x qual st f fd) (S : FnScope N ps (defScope st)) (len : ∀ vs H Q E, sp vs H Q E → vs.length = ps.length)
    (hkind : ∀ us : List Value, us.length = ps.length → ((ps.zip us).all fun y => (defScope st).names.lookup y.1 == some .local || (defScope st).names.lookup y.1 == some .cell) = true)
    (body : ∀ (cdv : Value) (A : Around) (outer : List Env) (s : Shared) (H : Hp) (vs : List V) (Q : VK), Room k (A.deeper (envOfC qual (defScope st) s.heap.objs.size f cdv)) → A.guards = some [] → sp vs H Q E0 →
      ∃ t, PSs (cxOf CX0 P w K mg base N qual (defScope st) f cdv A outer s H E0).nox (defBody st) t ∧ t { nx := fun _ H' => Q .non H', rt := Q } (start N vs) H) :
    FnG P w K mg base (k + 1) f fd ps sp := by
  obtain ⟨oc, od, kV, doc, pm, an, cdv, ct, osl, rfl, lk, hcd⟩ := F.ex
  refine ⟨len, fun A outer s H args us vs Q hr hg e0 hb r h => ?_⟩
  have hl := len _ _ _ _ h
  have hlu : us.length = ps.length := r.length.symm.trans hl
  have KX : K.In s.heap := e0.mod.kin.keeps fun b o e => (e0.bs b o e).1
  have lim : s.heap.NoLimit := e0.mod.nolimit.keeps fun b o e => (e0.bs b o e).1
  obtain ⟨t, ht, q⟩ := body cdv A outer s H vs Q (hr.deeper _) hg h
  refine Att.call_fn KX lim lk hcd hr.depth hb (hkind us hlu) (fun s1 ic => ?_) S.co S.gen S.kind
  have I : Inv (cxOf CX0 P w K mg base N qual (defScope st) f cdv A outer s H E0) [] (start N vs) H s1 := inv_start S hr.hd e0 hl r ic
  refine wpAny_mono (ht.nox.run [] s1 (start N vs) H _ I q) (fun fl s2 z => ?_) fun _ _ z => z
  match fl, z with
  | .ret u, ⟨v, σ2, H2, J, rv, q2⟩ => exact ⟨v, H2, J.os, J.bare, J.base, J.hok, rv, q2⟩
  | .next, ⟨σ2, H2, J, q2⟩ => exact ⟨.non, H2, J.os, J.bare, J.base, J.hok, rfl, q2⟩
  | .brk, ⟨_, _, _, q2⟩ => exact q2.elim
  | .cont, ⟨_, _, _, q2⟩ => exact q2.elim
end

/-! ### a def of the module as its callers see it -/
structure Own (P : Program) (w : World) (K : PySem.W.Frag) (mg : Str → Option Value) (base : Heap) (x : Str) (k : Nat) (ps : List Str) (sp : Sp) : Prop where
  ex : ∃ (f : Addr) (fd : FuncData), FnG P w K mg base k f fd ps sp ∧ mg x = some (.ref f) ∧ PySem.W.keepIn K (.ref f) = true ∧
    (∀ (s : Shared) (us : List Value), us.length = ps.length → BindsTo s fd ⟨us, []⟩ (ps.zip us)) ∧
    (∀ (s : Shared) (u : Value), ps.length = 1 → BindsTo s fd ⟨[], ps.zip [u]⟩ (ps.zip [u]))
def tOwn (sp : Sp) (t : TA) : TE := fun σ H Q => t σ H fun vs H1 => sp vs H1 Q E0
section
variable {X : Cx} {k j : Nat} {x : Str} {ps : List Str} {sp : Sp} {p pos : Pos} {e : Expr} {es : List Expr} {t : TA} {kws : List Keyword}
theorem run_own {pins : List (Addr × Obj)} {σ : L2.St} {H : Hp} {s : Shared} {Q : VK} {f : Addr} {fd : FuncData} {args : Args} {us : List Value} {vs : List V} (G : FnG X.prog X.w X.K X.mg X.base k f fd ps sp) (hr : Room k X.A) (hq : X.A.guards = some [])
    (I : Inv X pins σ H s) (b : BindsTo s fd args (ps.zip us)) (r : Vals vs us) (h : sp vs H Q E0) : wpAny (model X.prog X.w) X.A (call (.ref f) args.pos args.kw) (EP X pins σ Q) X.xe s := by
  refine wpAny_call (codeAny_mono (G.runG X.A X.stack s H args us vs Q hr hq I.env0 b r h) fun rs s2 z => ?_)
  match rs, z with
  | .ok (.ret u), z => exact I.after z
  | .ok .next, z => exact z.elim
  | .ok .brk, z => exact z.elim
  | .ok .cont, z => exact z.elim
  | .error _, z => exact z.elim
theorem pe_own (c : Own X.prog X.w X.K X.mg X.base x k ps sp) (hr : Room j X.A) (hq : X.A.guards = some []) (hj : k ≤ j) (ha : PA X (e :: es) t) (hg : Gl X x := by rfl) (hdb : (x == ("__debug__" : Str)) = false := by decide)
    (he : starEach (e :: es) X.env = (false, eval e X.env) :: starEach es X.env := by rfl) (hpl : (backTo pos (starEach es X.env)).any (·.1) = false := by rfl) : PE X (.Call (.Name x p) (e :: es) [] pos) (tOwn sp t) := by
  obtain ⟨f, fd, G, hm, hk, hb, _⟩ := c.ex
  refine ⟨fun pins s σ H Q I h => wpAny_Call_Name_kw (ld_glob I hg hm ?_ hdb)⟩
  refine PySem.W.callWith_K (h₀ := X.base) I.ok.mod.kin hk (thn (ha.run pos pins s σ H _ I h) fun us s1 z => ?_) he hpl
  obtain ⟨vs, H1, I1, r, q⟩ := z
  exact ⟨I1.kIn, run_own (args := ⟨us, []⟩) G (hr.mono hj) hq I1 (hb s1 us (r.length.symm.trans (G.lenG _ _ _ _ q))) r q⟩
/-- f(a = e), the one parameter by its name -/
theorem pe_ownK {a : Str} {tk : TA} (c : Own X.prog X.w X.K X.mg X.base x k [a] sp) (hr : Room j X.A) (hq : X.A.guards = some []) (hj : k ≤ j) (hkw : PK X kws tk) (hg : Gl X x := by rfl) (hdb : (x == ("__debug__" : Str)) = false := by decide)
    (hall : (backToKw pos (keywordEach kws X.env)).all (·.1.isSome) = true := by rfl) (hks : (backToKw pos (keywordEach kws X.env)).filterMap (·.1) = [a] := by rfl)
    (hpl : ((backTo pos (starEach [] X.env)).any (·.1) || (backToKw pos (keywordEach kws X.env)).any (·.1.isNone)) = false := by rfl) : PE X (.Call (.Name x p) [] kws pos) (tOwn sp tk) := by
  obtain ⟨f, fd, G, hm, hk, _, hb⟩ := c.ex
  refine ⟨fun pins s σ H Q I h => wpAny_Call_Name_kw (ld_glob I hg hm ?_ hdb)⟩
  refine PySem.W.callWith_KW0 (h₀ := X.base) I.ok.mod.kin hk hall (thn (hkw.run pos pins s σ H _ I h) fun ws s1 z => ?_) hpl
  obtain ⟨vs, H1, I1, r, q⟩ := z
  refine ⟨I1.kIn, ?_⟩
  rw [hks]
  have l1 : vs.length = 1 := G.lenG _ _ _ _ q
  obtain ⟨u, rfl⟩ : ∃ u, ws = [u] := by
    have l2 : ws.length = 1 := r.length.symm.trans l1
    match ws, l2 with
    | [u], _ => exact ⟨u, rfl⟩
  exact run_own (args := ⟨[], [(a, u)]⟩) G (hr.mono hj) hq I1 (hb s1 u rfl) r q
end

/-! ### repr -/
def rRepr (K : PySem.W.Frag) : List V → Hp → VK → Prop := fun xs H Q => ∃ v d, xs = [v] ∧ Dp K H v d ∧ d.showable = true ∧ d.hasDict = false ∧ d.depth ≤ 60 ∧ d.shown.length ≤ sizeLine ∧ Q (.str d.shown) H
theorem call_repr {X : Cx} (hq : X.A.guards = some []) (hu : X.A.units + 64 < cLine) : CallR X (.builtin "repr") (rRepr X.K) := by
  intro pins s σ H xs us Q I r h
  obtain ⟨v, d, rfl, hd, hs, hn, hdep, hsz, q⟩ := h
  obtain ⟨u, rfl, rv⟩ := vals1 r
  have back : ∀ (h2 : Heap) (x : Tok) (tk : Nat), (∀ b o, s.heap.get? b = some o → h2.get? b = some o) → EP X pins σ Q (.str d.shown x) { s with heap := h2, toks := tk } := fun h2 x tk k => ⟨.str d.shown, H, I.kept k, ⟨_, rfl⟩, q⟩
  obtain ⟨as, rd⟩ := Dp.reads I d v u hd rv
  cases hd with
  | non => cases rv; exact P.repr_of_none (back _ _ _ fun _ _ e => e)
  | bl b =>
    cases rv
    have e : PyData.shown (.bool b) = (if b then ("True" : Str) else "False") := by cases b <;> rfl
    rw [e] at back
    exact P.repr_of_bool (by cases b <;> exact back _ _ _ fun _ _ e => e)
  | int i =>
    obtain ⟨t, rfl⟩ := rv
    exact P.repr_of_int (by simpa [PyData.showable] using hs) (back _ _ _ fun _ _ e => e)
  | str z =>
    obtain ⟨t, rfl⟩ := rv
    exact P.repr_of_str (back _ _ _ fun _ _ e => e) hsz
  | lst _ _ =>
    cases rv
    exact repr_of_reads' rd hs (PyData.noDict_hsm hn) hq (by omega) (fun _ _ e => e) (fun h2 x tk k => back h2 x tk k) hsz
  | tup _ _ =>
    cases rv
    exact repr_of_reads' rd hs (PyData.noDict_hsm hn) hq (by omega) (fun _ _ e => e) (fun h2 x tk k => back h2 x tk k) hsz

/-! ### the built-in names that the texts use -/
theorem bo_len : bootBuiltins "len" = some (.builtin "len") := by decide +kernel
theorem bo_abs : bootBuiltins "abs" = some (.builtin "abs") := by decide +kernel
theorem bo_max : bootBuiltins "max" = some (.builtin "max") := by decide +kernel
theorem bo_min : bootBuiltins "min" = some (.builtin "min") := by decide +kernel
theorem bo_divmod : bootBuiltins "divmod" = some (.builtin "divmod") := by decide +kernel
theorem bo_repr : bootBuiltins "repr" = some (.builtin "repr") := by decide +kernel
theorem bo_isinstance : bootBuiltins "isinstance" = some (.builtin "isinstance") := by decide +kernel
theorem bo_all : bootBuiltins "all" = some (.builtin "all") := by decide +kernel
theorem bo_any : bootBuiltins "any" = some (.builtin "any") := by decide +kernel
theorem bo_sum : bootBuiltins "sum" = some (.builtin "sum") := by decide +kernel
theorem bo_sorted : bootBuiltins "sorted" = some (.builtin "sorted") := by decide +kernel
theorem bo_int : bootBuiltins "int" = some (.type "int") := by decide +kernel
theorem bo_str : bootBuiltins "str" = some (.type "str") := by decide +kernel
theorem bo_bool : bootBuiltins "bool" = some (.type "bool") := by decide +kernel
theorem bo_list : bootBuiltins "list" = some (.type "list") := by decide +kernel
theorem bo_tuple : bootBuiltins "tuple" = some (.type "tuple") := by decide +kernel
theorem bo_dict : bootBuiltins "dict" = some (.type "dict") := by decide +kernel
theorem bo_set : bootBuiltins "set" = some (.type "set") := by decide +kernel
theorem bo_range : bootBuiltins "range" = some (.type "range") := by decide +kernel
theorem bo_enumerate : bootBuiltins "enumerate" = some (.type "enumerate") := by decide +kernel
theorem bo_zip : bootBuiltins "zip" = some (.type "zip") := by decide +kernel
theorem bo_reversed : bootBuiltins "reversed" = some (.type "reversed") := by decide +kernel
structure Blt (mg : Str → Option Value) : Prop where
  len : mg "len" = none
  abs : mg "abs" = none
  max : mg "max" = none
  min : mg "min" = none
  divmod : mg "divmod" = none
  repr : mg "repr" = none
  isinstance : mg "isinstance" = none
  all : mg "all" = none
  any : mg "any" = none
  sum : mg "sum" = none
  sorted : mg "sorted" = none
  int : mg "int" = none
  str : mg "str" = none
  bool : mg "bool" = none
  list : mg "list" = none
  tuple : mg "tuple" = none
  dict : mg "dict" = none
  set : mg "set" = none
  range : mg "range" = none
  enumerate : mg "enumerate" = none
  zip : mg "zip" = none
  reversed : mg "reversed" = none

/-! ### the law's own helpers: what they promise -/
def spDraw : Sp := fun vs H Q _ => ∃ (p : Addr) (n : Int), vs = [.ref p, .int n] ∧ Pot H p ∧ 0 < n ∧ n < 1073741824 ∧ ∀ (d : Int) (H2 : Hp), 0 ≤ d → d < n → Same H H2 → Q (.int d) H2
def spPick (K : PySem.W.Frag) : Sp := fun vs H Q _ => ∃ (p l : Addr) (xs : List V), vs = [.ref p, .ref l] ∧ Pot H p ∧ SqL K H l xs ∧ 0 < xs.length ∧ xs.length ≤ 1000 ∧ ∀ (i : Nat) (v : V) (H2 : Hp), xs[i]? = some v → Same H H2 → Q v H2
def spPot (K : PySem.W.Frag) : Sp := fun vs H Q _ => ∃ (a : Addr) (ns : List Int) (k : Nat), vs = [.ref a, .int (k : Int)] ∧ SqL K H a (ns.map V.int) ∧ k < 100 ∧
  ∀ (p : Addr) (x y : Int), H p = none → 0 ≤ x → 0 ≤ y → y < 2147483587 → Q (.ref p) (upd H p (.lst [.int x, .int y]))
theorem same_new {H : Hp} {p : Addr} {o : HO} (h : H p = none) : Same H (upd H p o) := fun b u e => by
  rw [upd_ne (ne_of_none e h)]
  exact e
theorem same_mut {H H2 : Hp} {p : Addr} {o : HO} (s : Same H H2) (h : H p = none) : Same H (upd H2 p o) := fun b u e => by
  rw [upd_ne (ne_of_none e h)]
  exact s b u e
theorem same_back {H H2 : Hp} {p : Addr} {o : HO} (h : H p = some o) (s : ∀ b u, b ≠ p → H b = some u → H2 b = some u) : Same H (upd H2 p o) := fun b u e => by
  by_cases hb : b = p
  · subst hb
    rw [h] at e
    rw [upd_same, ← e]
  · rw [upd_ne hb]
    exact s b u hb e
end Jc
namespace Jc
open PySem PySem.Spec L2
open PyProof.Rows hiding St
/-- what law promises: handed a list of at most 63 ints, it gives True -/
def spLaw (K : PySem.W.Frag) : Sp := fun vs H Q _ => ∃ (a : Addr) (ns : List Int), vs = [.ref a] ∧ SqL K H a (ns.map V.int) ∧ ns.length ≤ 63 ∧ ∀ H2, Q (.bl true) H2
/-- the script as it lies at the call: known to the object, or one of the module's own -/
structure Lies (K : PySem.W.Frag) (a : Addr) (ob : Obj) (ns : List Int) (H : Hp) : Prop where
  one : ∀ b, H b = none ∨ (b = a ∧ K.lookup a = none ∧ H b = some (.frz ob (.lst (ns.map V.int))))
  seq : SqL K H a (ns.map V.int)
theorem lies_of {K : PySem.W.Frag} {h : Heap} {a : Addr} {vs : List Value} {ns : List Int} (KX : K.In h) (ha : h.get? a = some { cls := .type "list", data := .seq vs.toArray }) (hi : IntsAre vs ns) (hl : ns.length ≤ 63) :
    ∃ H, Lies K a { cls := .type "list", data := .seq vs.toArray } ns H := by
  have r := vals_ints hi
  have hz : ns.length ≤ sizeLine := Nat.le_trans hl (by rw [sizeLine_eq]; decide)
  cases e : K.lookup a with
  | none =>
    refine ⟨fun b => if b = a then some (.frz { cls := .type "list", data := .seq vs.toArray } (.lst (ns.map V.int))) else none, fun b => ?_, .inl (.inr ⟨_, if_pos rfl⟩)⟩
    by_cases hb : b = a
    · exact .inr ⟨hb, e, if_pos hb⟩
    · exact .inl (if_neg hb)
  | some o =>
    have e2 := KX a o e
    rw [ha] at e2
    cases e2
    exact ⟨fun _ => none, fun _ => .inl rfl, .inr ⟨_, vs.toArray, _, e, rfl, rfl, rfl, by rw [List.size_toArray, hi.length]; exact hz, by simpa using r⟩⟩
section
variable {P : Program} {w : World} {K : PySem.W.Frag} {mg mb : Str → Option Value} {k : Nat} {fa a : Addr} {fd : FuncData} {s1 : Shared} {vs : List Value} {ns : List Int}
theorem lawG (KX : K.In s1.heap) (hns : s1.heap.Ns mainGlobals mg) (hb : s1.heap.Ns builtinsNs mb) (hbb : ∀ x : Str, x ≠ "__name__" → mb x = bootBuiltins x) (hlim : s1.heap.NoLimit) (hg : s1.gens = #[])
    (ha : s1.heap.get? a = some { cls := .type "list", data := .seq vs.toArray }) (hi : IntsAre vs ns) (hl : ns.length ≤ 63) (hr : Room k callerA)
    (F : ∀ base : Heap, K.In base → base.Ns mainGlobals mg → FnG P w K mg base k fa fd ["_law_script"] (spLaw K)) (hbind : ∀ (s : Shared) (u : Value), BindsTo s fd ⟨[u], []⟩ [("_law_script", u)]) :
    codeAny (model P w) callerA (.call (.ref fa) ⟨[.ref a], []⟩) (fun r s' => r = .ok (.ret (.bool true)) ∧ OldK s1.heap s'.heap ∧ s'.os = s1.os ∧ AllBare s'.gens) s1 := by
  obtain ⟨H, L⟩ := lies_of KX ha hi hl
  have r := vals_ints hi
  have hok : HOk P w H s1.heap := fun b u z => by
    rcases L.one b with n | ⟨rfl, _, n⟩
    · rw [n] at z; cases z
    · rw [n] at z; cases z
      exact ⟨ha, Nat.le_trans (by rw [List.length_map]; exact hl) (show 63 ≤ sizeLine by rw [sizeLine_eq]; decide), vs, _, r, ha⟩
  have dictFree : ∀ {b : Addr} {m : Str → Option Value}, s1.heap.Ns b m → H b = none := fun {b m} z => by
    rcases L.one b with n | ⟨rfl, _, _⟩
    · exact n
    · obtain ⟨o, es, ep, e1, e2, _⟩ := z
      rw [ha] at e1
      cases e1
      exact nomatch e2
  have nsB : ∀ {b : Addr} {m : Str → Option Value}, s1.heap.Ns b m → (hidT s1.heap H).Ns b m := fun z => by
    have n := dictFree z
    obtain ⟨o, es, ep, e1, e2⟩ := z
    exact ⟨o, es, ep, hidT_get e1 n, e2⟩
  have kB : K.In (hidT s1.heap H) := fun b o e => by
    rcases L.one b with n | ⟨rfl, n, _⟩
    · exact hidT_get (KX b o e) n
    · rw [n] at e; cases e
  have hM : Mod K mg (hidT s1.heap H) := by
    obtain ⟨mc, h1, h2⟩ := hlim
    exact ⟨kB, nsB hns, ⟨mb, nsB hb, hbb⟩, mc, nsB h1, h2⟩
  have e0 : Env0 P w K mg (hidT s1.heap H) callerA [] s1 H := ⟨rfl, hM, fun _ _ e => of_hidT e, Nat.le_of_eq (hidT_size _ _), trivial, fun b z => (List.not_mem_nil z).elim, hok, .of_eq hg⟩
  refine codeAny_mono ((F _ kB (nsB hns)).runG callerA [] s1 H ⟨[.ref a], []⟩ [.ref a] [.ref a] (fun v _ => v = .bl true) hr rfl e0 (hbind s1 (.ref a)) (.cons rfl .nil) ⟨a, ns, rfl, L.seq, hl, fun _ => rfl⟩) fun rs s2 z => ?_
  match rs, z with
  | .ok .next, z => exact z.elim
  | .ok .brk, z => exact z.elim
  | .ok .cont, z => exact z.elim
  | .error _, z => exact z.elim
  | .ok (.ret u), z =>
    obtain ⟨v, H2, os, bare, un, hok2, rv, (q : v = .bl true)⟩ := z
    subst q
    cases (show u = Value.bool true from rv)
    refine ⟨rfl, OldK.of_keep fun b o e => ?_, os, bare⟩
    rcases L.one b with n | ⟨_, _, n⟩
    · exact un.keep b o e n (fun z => (List.not_mem_nil z).elim) (fun z => (List.not_mem_nil z).elim)
    · have e1 := (hok b _ n).1
      rw [e] at e1
      cases e1
      exact (hok2 b _ (un.frzs b _ _ n)).1
end
theorem walkG {l : PySem.W.OpenLaw} {k : Nat} {q : Program} {loose : List Str} {XP : (Str → Option Value) → Heap → Prop} {YP : World → Heap → Prop} {d : DefRec} {K : Params → PySem.W.Frag}
    (hn : l.most = some 63) (hdf : d.params.defaults = []) (hr : Room k callerA) (hY : ∀ (w : World) (h : Heap), YP w h → (K w.params).In h)
    (F : ∀ (w : World) (mg : Str → Option Value) (fa : Addr) (h : Heap), (K w.params).In h → h.Ns mainGlobals mg → mg d.name = some (.ref fa) →
      ∃ fd : FuncData, (∀ (s : Shared) (u : Value), BindsTo s fd ⟨[u], []⟩ [("_law_script", u)]) ∧
        ∀ base : Heap, (K w.params).In base → base.Ns mainGlobals mg → FnG l.prog w (K w.params) mg base k fa fd ["_law_script"] (spLaw (K w.params))) :
    PySem.W.WalkO q loose XP YP l.row.toRowW d [] (fun f vs => PySem.call f vs) := by
  refine Att.attach_call hn hdf fun w _ s1 mg _ fa _ _ _ _ a vs ns G Y _ _ _ hmg hobj hints hlen hg => ?_
  obtain ⟨fd, b, hF⟩ := F w mg fa _ (hY w _ Y) G.T.g hmg
  exact lawG (hY w _ Y) G.T.g G.T.b G.T.builtins G.T.nolimit hg hobj hints hlen hr hF b
end Jc
namespace Jc
open PySem PySem.Spec L2
open PyProof.Rows hiding St
/-- a comprehension without a test, its elements flat values told by R -/
theorem lc_flat {J : It} {n : Nat} {G : Hp → Prop} {Y : Nat → Hp → V → Hp → Prop} (w : Walk J n G Y) {g : TG} {te : TE} {vs : List Nat} {σ : L2.St} {H1 : Hp} {D : Addr} {Qd : Hp → Prop} (R : Nat → V → Prop) (hn : n < 1000000) (hD : H1 D = none)
    (hG : ∀ H2, Same H1 H2 → G H2)
    (hs : ∀ i x H H2 (k : V → Hp → Prop), i < n → Same H1 H → Y i H x H2 → (∀ y H4, Same H H4 → R i y → k y H4) → g x (wipe σ vs) H2 fun σ2 H3 => wipe σ2 vs = wipe σ vs ∧ te σ2 H3 k)
    (hd : ∀ ys H2, ys.length = n → (∀ i y, ys[i]? = some y → R i y) → Same H1 H2 → H2 D = some (.lst ys) → Qd H2) :
    ∃ W : Nat → Nat → Hp → Prop, (∃ m, W 0 m (upd H1 D (.lst []))) ∧ ∀ i m H, W i m H →
      (J.stop i H ∧ Qd H) ∨ (J.go i H ∧ ∃ Nx : Hp → Prop, (∀ H', Nx H' → ∃ m', m' < m ∧ W (i + 1) m' H') ∧ ∀ x H', J.yld i H x H' → g x (wipe σ vs) H' fun σ2 H2 => wipe σ2 vs = wipe σ vs ∧ tYes σ2 H2 fun b H3 =>
        if b = true then te σ2 H3 fun y H4 => ∃ acc, H4 D = some (.lst acc) ∧ acc.length < sizeLine ∧ Nx (upd H4 D (.lst (acc ++ [y]))) else Nx H3) := by
  refine lc_it w (fun i H => Same H1 H ∧ ∃ ys : List V, ys.length = i ∧ (∀ j y, ys[j]? = some y → R j y) ∧ H D = some (.lst ys)) ⟨same_new hD, [], rfl, fun j y e => by simp at e, upd_same⟩ (fun i H _ p => hG H p.1) ?_ ?_
  · rintro i x H H2 hi ⟨s1, ys, hl, hR, hy⟩ y
    refine hs i x H H2 _ hi s1 y fun z H4 s4 r => ⟨ys, s4 _ _ hy, Nat.lt_of_lt_of_le (show ys.length < 1000000 by omega) (by rw [sizeLine_eq]; decide), same_mut (s1.trans s4) hD, ys ++ [z], by rw [List.length_append, hl]; rfl, fun j u e => ?_, upd_same⟩
    by_cases hj : j < ys.length
    · rw [List.getElem?_append_left hj] at e
      exact hR j u e
    · have hj2 : j = ys.length := by
        have := (List.getElem?_eq_some_iff.mp e).1
        rw [List.length_append] at this
        simp at this
        omega
      subst hj2
      rw [List.getElem?_append_right (Nat.le_refl _)] at e
      simp at e
      subst e
      rw [hl]
      exact r
  · rintro H ⟨s1, ys, hl, hR, hy⟩
    exact hd ys H hl hR s1 hy
theorem all_eq {α : Type} {xs ys : List α} (hl : xs.length = ys.length) (h : ∀ (i : Nat) x y, xs[i]? = some x → ys[i]? = some y → x = y) : xs = ys := by
  refine List.ext_getElem? fun i => ?_
  by_cases hi : i < xs.length
  · rw [List.getElem?_eq_getElem hi, List.getElem?_eq_getElem (hl ▸ hi)]
    exact congrArg some (h i _ _ (List.getElem?_eq_getElem hi) (List.getElem?_eq_getElem (hl ▸ hi)))
  · rw [List.getElem?_eq_none (by omega), List.getElem?_eq_none (by omega)]
end Jc
namespace Jc
open PySem PySem.Spec L2
open PyProof.Rows hiding St
def topS (i : Nat) : Stmt := PySem.Challenge.pw_cutshows_k18_basics.main.body.getD i (.Pass ⟨0, 0, 0, 0⟩)
section
variable {P : Program} {w : World} {K : PySem.W.Frag} {mg : Str → Option Value} {base : Heap} {f : Addr} {fd : FuncData}
abbrev s_draw : Stmt := topS 10
abbrev N_draw : List Str := ["_law_pot_here", "_law_lot", "_law_digit"]
theorem sc_draw : FnScope N_draw ["_law_pot_here", "_law_lot"] (defScope s_draw) := ⟨rfl, rfl, rfl, by decide +kernel, rfl, by decide +kernel, by decide +kernel⟩
theorem ok_draw (F : Fun K "_law_draw" "_law_draw" s_draw f fd) (B : Blt mg) : FnG P w K mg base 1 f fd ["_law_pot_here", "_law_lot"] spDraw := by
  refine fnG_of F sc_draw (fun vs H Q E h => ?_) (fun us hl => ?_) (fun cdv A outer s H vs Q hr hq h => ?_)
  · obtain ⟨p, n, rfl, _⟩ := h
    rfl
  · match us, hl with
    | [_, _], _ => rfl
  · obtain ⟨p, n, rfl, hp, hn, hn2, q⟩ := h
    refine ⟨_, pss_pot (pss_cons (ps_if (pt_cmpR op_gt (pe_ix ix_list (pv 0) pe_int (fun _ _ => rfl)) pe_int (nomark _)) (pss_cons (ps_asg (pe_callB call_divmodW rfl B.divmod bo_divmod (pa_cons (pe_ix ix_list (pv 0) pe_int (fun _ _ => rfl)) (pa_cons (pv 1) pa_nil))) (pg_tup rfl (pgs_cons (pg_sub (pv 0) pe_int set_list) (pgs_cons (pg_name (i := 2) sc_draw.nd rfl (.inl rfl)) pgs_nil))))
      (pss_one (ps_ret (pe_pot (pv 2))))) pss_nil)
      (pss_cons (ps_asg (pe_op op_mod (pe_callTy call_int1 rfl B.int bo_int (pa_cons (pe_op op_add (pe_op op_mul (pe_ix ix_list (pv 0) pe_int (fun _ _ => rfl)) pe_int) pe_int) pa_nil)) pe_int) (pg_sub (pv 0) pe_int set_list))
      (pss_one (ps_ret (pe_pot (pe_op op_mod (pe_callTy call_int1 rfl B.int bo_int (pa_cons (pe_op op_fdiv (pe_op op_mod (pe_callTy call_int1 rfl B.int bo_int (pa_cons (pe_op op_mul (pe_ix ix_list (pv 0) pe_int (fun _ _ => rfl)) (pe_ix ix_list (pv 0) pe_int (fun _ _ => rfl))) pa_nil)) pe_int) pe_int) pa_nil)) (pv 1))))))), ?_⟩
    refine ⟨p, hp, fun a b ha hb hb2 => ?_⟩
    have S0 : SqL K (upd H p (.lst [.int a, .int b])) p [.int a, .int b] := .inl (.inl upd_same)
    have keep : ∀ b' u, b' ≠ p → H b' = some u → (upd H p (.lst [.int a, .int b])) b' = some u := fun b' u hb' e => by rw [upd_ne hb']; exact e
    refine ⟨.ref p, rfl, p, _, 0, .int a, rfl, rfl, S0, atI_nat (j := 0) rfl, _, _, rfl, rfl, _, rfl, ite2 (fun hc => ?_) (fun hc => ?_)⟩
    · have h0 : 0 < a := of_decide_eq_true hc
      refine ⟨.ref p, rfl, p, _, 0, .int a, rfl, rfl, S0, atI_nat (j := 0) rfl, .int n, rfl, a, n, rfl, ⟨hn, PyProof.noPylong_small (by omega)⟩, fun t nt => ?_⟩
      have npt : p ≠ t := fun e => by
        rw [e, upd_same] at nt
        cases nt
      -- pot[0], digit = ..
      refine ⟨t, _, rfl, .inl (.inl upd_same), rfl, _, _, rfl, ?_⟩
      refine ⟨.ref p, rfl, p, [.int a, .int b], 0, 0, rfl, rfl, by rw [upd_ne npt]; exact upd_same, rfl, _, _, rfl, rfl, ?_⟩
      refine ⟨.int (a % n), rfl, p, a / n, b, upd_same, Int.ediv_nonneg ha (by omega), hb, hb2, ?_⟩
      refine q (a % n) _ (Int.emod_nonneg a (by omega)) (Int.emod_lt_of_pos a hn) (same_back hp fun b' u hb' e => ?_)
      rw [upd_ne hb', upd_ne, upd_ne hb']
      · exact e
      · rintro rfl
        rw [upd_ne (Ne.symm npt)] at nt
        rw [e] at nt
        cases nt
    · refine ⟨.ref p, rfl, p, _, 1, .int b, rfl, rfl, S0, atI_nat (j := 1) rfl, b, 48271, rfl, rfl, .inr ⟨by decide, by decide⟩, _, _, rfl, rfl, .inl ⟨_, rfl, _, _, rfl, rfl, (by show (0 : Int) < 2147483587; decide), .ref p, rfl, p, [.int a, .int b], 1, 1, rfl, rfl, upd_same, rfl, ?_⟩⟩
      have c0 : 0 ≤ (b * 48271 + 12391) % 2147483587 := Int.emod_nonneg _ (by decide)
      have c1 : (b * 48271 + 12391) % 2147483587 < 2147483587 := Int.emod_lt_of_pos _ (by decide)
      have eS : ([V.int a, V.int b].set 1 (.int ((b * 48271 + 12391) % 2147483587))) = [.int a, .int ((b * 48271 + 12391) % 2147483587)] := rfl
      rw [eS]
      generalize (b * 48271 + 12391) % 2147483587 = c at c0 c1
      have S1 : SqL K (upd (upd H p (.lst [.int a, .int b])) p (.lst [.int a, .int c])) p [.int a, .int c] := .inl (.inl upd_same)
      refine ⟨.ref p, rfl, p, _, 1, .int c, rfl, rfl, S1, atI_nat (j := 1) rfl, .ref p, rfl, p, _, 1, .int c, rfl, rfl, S1, atI_nat (j := 1) rfl, c, c, rfl, rfl, .inl ⟨by omega, by omega⟩, .inl ⟨_, rfl, _, _, rfl, rfl, (by show (0 : Int) < 2147483549; decide), _, _, rfl, rfl, ⟨by decide, by decide⟩, .inl ⟨_, rfl, .int n, rfl, _, n, rfl, rfl, hn, ?_⟩⟩⟩
      refine ⟨p, a, c, upd_same, ha, c0, c1, ?_⟩
      refine q _ _ (Int.emod_nonneg _ (by omega)) (Int.emod_lt_of_pos _ hn) (same_back hp fun b' u hb' e => ?_)
      rw [upd_ne hb', upd_ne hb']
      exact e
abbrev s_pick : Stmt := topS 11
abbrev N_pick : List Str := ["_law_pot_here", "_law_some"]
theorem sc_pick : FnScope N_pick ["_law_pot_here", "_law_some"] (defScope s_pick) := ⟨rfl, rfl, rfl, by decide +kernel, rfl, by decide +kernel, by decide +kernel⟩
theorem ok_pick (F : Fun K "_law_pick" "_law_pick" s_pick f fd) (B : Blt mg) (c_draw : Own P w K mg base "_law_draw" 1 ["_law_pot_here", "_law_lot"] spDraw) : FnG P w K mg base 2 f fd ["_law_pot_here", "_law_some"] (spPick K) := by
  refine fnG_of F sc_pick (fun vs H Q E h => ?_) (fun us hl => ?_) (fun cdv A outer s H vs Q hr hq h => ?_)
  · obtain ⟨p, l, xs, rfl, _⟩ := h
    rfl
  · match us, hl with
    | [_, _], _ => rfl
  · obtain ⟨p, l, xs, rfl, hp, hl, h0, h1, q⟩ := h
    refine ⟨_, (pss_one (ps_ret (pe_ix ix_list (pv 1) (pe_own c_draw hr hq (by decide) (pa_cons (pv 0) (pa_cons (pe_callB call_len_seq rfl B.len bo_len (pa_cons (pv 1) pa_nil)) pa_nil))) (fun _ _ => rfl)))), ?_⟩
    refine ⟨.ref l, rfl, .ref p, rfl, .ref l, rfl, l, xs, rfl, .inl hl, p, _, rfl, hp, by omega, by omega, fun d H2 d0 d1 s2 => ?_⟩
    have hlt : d.toNat < xs.length := by omega
    have g : xs[d.toNat]? = some xs[d.toNat] := List.getElem?_eq_getElem hlt
    refine ⟨l, xs, d, _, rfl, rfl, s2.seq hl, at_of (j := d.toNat) (by omega) g, ?_⟩
    exact q d.toNat _ H2 g s2
abbrev s_pot : Stmt := topS 9
abbrev N_pot : List Str := ["_law_script", "_law_k", "_law_cell"]
theorem sc_pot : FnScope N_pot ["_law_script", "_law_k"] (defScope s_pot) := ⟨rfl, rfl, rfl, by decide +kernel, rfl, by decide +kernel, by decide +kernel⟩
theorem ok_pot (F : Fun K "_law_pot" "_law_pot" s_pot f fd) (B : Blt mg) : FnG P w K mg base 1 f fd ["_law_script", "_law_k"] (spPot K) := by
  refine fnG_of F sc_pot (fun vs H Q E h => ?_) (fun us hl => ?_) (fun cdv A outer s H vs Q hr hq h => ?_)
  · obtain ⟨a, ns, k, rfl, _⟩ := h
    rfl
  · match us, hl with
    | [_, _], _ => rfl
  · obtain ⟨a, ns, k, rfl, hS, hk, q⟩ := h
    refine ⟨_, (pss_cons (ps_set (i := 2) sc_pot.nd rfl (.inl rfl) (pe_op op_add (pe_op op_mul pe_int (pv 1)) pe_int))
      (Evl.pss_cut (ps_if (pt_cmpR op_lt (pv 1) (pe_callB call_len_seq rfl B.len bo_len (pa_cons (pv 0) pa_nil)) (nomark _)) (pss_one (ps_set (i := 2) sc_pot.nd rfl (.inl rfl) (pe_callB call_abs rfl B.abs bo_abs (pa_cons (pe_ix ix_list (pv 0) (pv 1) (fun _ _ => rfl)) pa_nil)))) pss_nil)
      (pss_one (ps_ret (pe_lst (pa_cons (pe_callB (call_max2 rfl) rfl B.max bo_max (pa_cons pe_int (pa_cons (pe_op op_sub (pv 2) (pe_op op_pow pe_int pe_int)) pa_nil))) (pa_cons (pe_op op_add (pe_op op_mod (pe_op op_mul (pe_callTy call_int1 rfl B.int bo_int (pa_cons (pe_op op_add (pe_op op_mod (pe_callTy call_int1 rfl B.int bo_int (pa_cons (pv 2) pa_nil)) pe_int) pe_int) pa_nil)) (pe_op op_pow (pe_op op_add (pe_op op_mul pe_int (pv 1)) pe_int) pe_int)) pe_int) pe_int) pa_nil))))))), ?_⟩
    refine ⟨.int k, rfl, _, _, rfl, rfl, .inl ⟨by decide, by decide⟩, _, _, rfl, rfl, ?_⟩
    refine ⟨fun σ H' => H' = H ∧ ∃ z : Int, σ = [some (.ref a), some (.int k), some (.int z)], ?_, ?_⟩
    · refine ⟨.int k, rfl, .ref a, rfl, a, _, rfl, .inl hS, _, _, rfl, rfl, _, rfl, ite2 (fun hc => ?_) (fun hc => ?_)⟩
      · have hc2 : (k : Int) < ((ns.map V.int).length : Int) := of_decide_eq_true hc
        have hlt : k < ns.length := by rw [List.length_map] at hc2; omega
        have g : (ns.map V.int)[k]? = some (.int ns[k]) := by rw [List.getElem?_map, List.getElem?_eq_getElem hlt]; rfl
        exact ⟨.ref a, rfl, .int k, rfl, a, _, _, _, rfl, rfl, hS, atI_nat g, _, rfl, rfl, _, rfl⟩
      · exact ⟨rfl, _, rfl⟩
    · rintro σ H' ⟨rfl, z, rfl⟩
      refine ⟨.int z, rfl, _, _, rfl, rfl, ⟨by decide, by decide, by decide⟩, _, _, rfl, rfl, _, _, rfl, ?_⟩
      refine ⟨.int z, rfl, .inl ⟨_, rfl, _, _, rfl, rfl, (by show (0 : Int) < 2147483549; decide), _, _, rfl, rfl, .inl ⟨_, rfl, ?_⟩⟩⟩
      refine ⟨.int k, rfl, _, _, rfl, rfl, .inl ⟨by decide, by decide⟩, _, _, rfl, rfl, _, _, rfl, rfl, ⟨by decide, by decide, by omega⟩, _, _, rfl, rfl, ?_, ?_⟩
      · have e0 := Int.emod_nonneg z (show (2147483549 : Int) ≠ 0 by decide)
        have e1 := Int.emod_lt_of_pos z (show (0 : Int) < 2147483549 by decide)
        exact .inl ⟨by omega, by omega⟩
      · refine ⟨_, _, rfl, rfl, (by show (0 : Int) < 2147483477; decide), _, _, rfl, rfl, two_le, fun p np => ?_⟩
        refine q p _ _ np ?_ ?_ ?_
        · split <;> omega
        · have := Int.emod_nonneg ((z % 2147483549 + 19) * (2 * (k : Int) + 3) ^ (3 : Int).toNat) (show (2147483477 : Int) ≠ 0 by decide)
          omega
        · have := Int.emod_lt_of_pos ((z % 2147483549 + 19) * (2 * (k : Int) + 3) ^ (3 : Int).toNat) (show (0 : Int) < 2147483477 by decide)
          omega
end
end Jc
namespace Jc
open PySem PySem.Spec L2
open PyProof.Rows hiding St
/-! ### the values that the law draws -/
inductive Kd where | int | str | non | bl | tup | lst | dic deriving DecidableEq
def kT : Kd → String
  | .int => "int" | .str => "str" | .non => "NoneType" | .bl => "bool" | .tup => "tuple" | .lst => "list" | .dic => "dict"
inductive Thg (H : Hp) : V → Kd → Prop
  | int (i : Int) : Thg H (.int i) .int
  | str (x : Str) (h : x.length ≤ 100) : Thg H (.str x) .str
  | non : Thg H .non .non
  | bl (b : Bool) : Thg H (.bl b) .bl
  | tup (a : Addr) (xs : List Str) (h : H a = some (.tup (xs.map V.str))) (hl : xs.length ≤ 10) (hs : ∀ x ∈ xs, x.length ≤ 100) : Thg H (.ref a) .tup
  | lst (a : Addr) (xs : List V) (h : H a = some (.lst xs)) : Thg H (.ref a) .lst
  | dic (a : Addr) (h : H a = some (.dK [])) : Thg H (.ref a) .dic
theorem Thg.same {H H2 : Hp} {v : V} {k : Kd} (s : Same H H2) (h : Thg H v k) : Thg H2 v k := by
  cases h with
  | int i => exact .int i
  | str x h => exact .str x h
  | non => exact .non
  | bl b => exact .bl b
  | tup a xs h hl hs => exact .tup a xs (s _ _ h) hl hs
  | lst a xs h => exact .lst a xs (s _ _ h)
  | dic a h => exact .dic a (s _ _ h)
theorem Thg.ty {K : PySem.W.Frag} {H : Hp} {v : V} {k : Kd} (h : Thg H v k) : TyX K H v (.type (kT k)) := by
  cases h with
  | int i => exact .base (.int i)
  | str x h => exact .base (.str x)
  | non => exact .base .non
  | bl b => exact .base (.bl b)
  | tup a xs h hl hs => exact .base (.tup h)
  | lst a xs h => exact .base (.lst h)
  | dic a h => exact .base (.dK h)
theorem kit_int {K : PySem.W.Frag} : ∀ k, PySem.W.kitOne K (.type (kT k)) (.type "int") = some (decide (k = .int) || decide (k = .bl)) := by
  intro k; cases k <;> exact kit_ty (by decide +kernel)
theorem kit_bool {K : PySem.W.Frag} : ∀ k, PySem.W.kitOne K (.type (kT k)) (.type "bool") = some (decide (k = .bl)) := by
  intro k; cases k <;> exact kit_ty (by decide +kernel)
theorem kit_str {K : PySem.W.Frag} : ∀ k, PySem.W.kitOne K (.type (kT k)) (.type "str") = some (decide (k = .str)) := by
  intro k; cases k <;> exact kit_ty (by decide +kernel)
theorem kit_tup {K : PySem.W.Frag} : ∀ k, PySem.W.kitOne K (.type (kT k)) (.type "tuple") = some (decide (k = .tup)) := by
  intro k; cases k <;> exact kit_ty (by decide +kernel)
/-! ### what is asked of a value -/
def letters : Str := "abcdefghijklmnopqrstuvwxyz"
def inLetters (x : Str) : Bool := x.cps.toList.all fun c => decide (c ∈ letters.cps.toList)
def wordB : V → Bool
  | .str x => decide (1 ≤ (x.length : Int)) && decide ((x.length : Int) ≤ 8) && inLetters x
  | _ => false
def numB : V → Bool
  | .int _ => true
  | _ => false
def cntB : V → Bool
  | .int i => decide (0 ≤ i)
  | _ => false
def passB : V → Bool
  | .int i => decide (1 ≤ i)
  | _ => false
def partB (v : V) : Bool := wordB v || passB v
/-- a promise: of a drawn value a truth, the heap as it was but for new things -/
def spOf (g : V → Bool) : Sp := fun vs H Q _ => ∃ v k, vs = [v] ∧ Thg H v k ∧ ∀ H2, Same H H2 → Q (.bl (g v)) H2
/-- is_where's promise -/
def spWhere : Sp := fun vs H Q _ => ∃ v k, vs = [v] ∧
  ((Thg H v k ∧ k ≠ .tup ∧ ∀ H2, Same H H2 → Q (.bl false) H2) ∨ ∃ (a : Addr) (xs : List V), v = .ref a ∧ k = .tup ∧ H a = some (.tup xs) ∧ xs.length ≤ 100 ∧ (∀ x ∈ xs, ∃ kx, Thg H x kx) ∧ ∀ H2, Same H H2 → Q (.bl (xs.all partB)) H2)
section
variable {P : Program} {w : World} {K : PySem.W.Frag} {mg : Str → Option Value} {base : Heap} {f : Addr} {fd : FuncData}
abbrev s_is_integer : Stmt := topS 3
abbrev N_is_integer : List Str := ["value"]
theorem sc_is_integer : FnScope N_is_integer ["value"] (defScope s_is_integer) := ⟨rfl, rfl, rfl, by decide +kernel, rfl, by decide +kernel, by decide +kernel⟩
theorem ok_is_integer (F : Fun K "is_integer" "is_integer" s_is_integer f fd) (B : Blt mg) : FnG P w K mg base 1 f fd ["value"] (spOf numB) := by
  refine fnG_of F sc_is_integer (fun vs H Q E h => ?_) (fun us hl => ?_) (fun cdv A outer s H vs Q hr hq h => ?_)
  · obtain ⟨p, n, rfl, _⟩ := h
    rfl
  · match us, hl with
    | [_], _ => rfl
  · obtain ⟨v, k, rfl, hv, q⟩ := h
    refine ⟨_, (pss_one (ps_ret (pe_and (pe_callB call_isi rfl B.isinstance bo_isinstance (pa_cons (pv 0) (pa_cons (pe_bltn (v := .ty "int") rfl B.int bo_int rfl) pa_nil))) (pe_one (pe_not (pe_callB call_isi rfl B.isinstance bo_isinstance (pa_cons (pv 0) (pa_cons (pe_bltn (v := .ty "bool") rfl B.bool bo_bool rfl) pa_nil)))))))), ?_⟩
    refine ⟨v, rfl, v, _, _, _, _, rfl, .ty "int", hv.ty, kit_int k, _, rfl, ?_⟩
    have q0 := q H (Same.refl H)
    cases hv with
    | int i => exact ⟨_, rfl, _, _, _, _, _, rfl, .ty "bool", (Thg.int (H := H) i).ty, kit_bool .int, _, rfl, q0⟩
    | bl b => exact ⟨_, rfl, _, _, _, _, _, rfl, .ty "bool", (Thg.bl (H := H) b).ty, kit_bool .bl, _, rfl, q0⟩
    | str x h => exact q0
    | non => exact q0
    | tup a xs h hl hs => exact q0
    | lst a xs h => exact q0
    | dic a h => exact q0
abbrev s_isnum : Stmt := topS 14
abbrev N_isnum : List Str := ["_law_thing_here"]
theorem sc_isnum : FnScope N_isnum ["_law_thing_here"] (defScope s_isnum) := ⟨rfl, rfl, rfl, by decide +kernel, rfl, by decide +kernel, by decide +kernel⟩
theorem ok_isnum (F : Fun K "_law_is_number" "_law_is_number" s_isnum f fd) (B : Blt mg) : FnG P w K mg base 1 f fd ["_law_thing_here"] (spOf numB) := by
  refine fnG_of F sc_isnum (fun vs H Q E h => ?_) (fun us hl => ?_) (fun cdv A outer s H vs Q hr hq h => ?_)
  · obtain ⟨p, n, rfl, _⟩ := h
    rfl
  · match us, hl with
    | [_], _ => rfl
  · obtain ⟨v, k, rfl, hv, q⟩ := h
    refine ⟨_, (pss_one (ps_ret (pe_and (pe_callB call_isi rfl B.isinstance bo_isinstance (pa_cons (pv 0) (pa_cons (pe_bltn (v := .ty "int") rfl B.int bo_int rfl) pa_nil))) (pe_one (pe_not (pe_callB call_isi rfl B.isinstance bo_isinstance (pa_cons (pv 0) (pa_cons (pe_bltn (v := .ty "bool") rfl B.bool bo_bool rfl) pa_nil)))))))), ?_⟩
    refine ⟨v, rfl, v, _, _, _, _, rfl, .ty "int", hv.ty, kit_int k, _, rfl, ?_⟩
    have q0 := q H (Same.refl H)
    cases hv with
    | int i => exact ⟨_, rfl, _, _, _, _, _, rfl, .ty "bool", (Thg.int (H := H) i).ty, kit_bool .int, _, rfl, q0⟩
    | bl b => exact ⟨_, rfl, _, _, _, _, _, rfl, .ty "bool", (Thg.bl (H := H) b).ty, kit_bool .bl, _, rfl, q0⟩
    | str x h => exact q0
    | non => exact q0
    | tup a xs h hl hs => exact q0
    | lst a xs h => exact q0
    | dic a h => exact q0
abbrev s_is_count : Stmt := topS 4
abbrev N_is_count : List Str := ["value"]
theorem sc_is_count : FnScope N_is_count ["value"] (defScope s_is_count) := ⟨rfl, rfl, rfl, by decide +kernel, rfl, by decide +kernel, by decide +kernel⟩
theorem ok_is_count (F : Fun K "is_count" "is_count" s_is_count f fd) (c_is_integer : Own P w K mg base "is_integer" 1 ["value"] (spOf numB)) : FnG P w K mg base 2 f fd ["value"] (spOf cntB) := by
  refine fnG_of F sc_is_count (fun vs H Q E h => ?_) (fun us hl => ?_) (fun cdv A outer s H vs Q hr hq h => ?_)
  · obtain ⟨p, n, rfl, _⟩ := h
    rfl
  · match us, hl with
    | [_], _ => rfl
  · obtain ⟨v, k, rfl, hv, q⟩ := h
    refine ⟨_, (pss_one (ps_ret (pe_and (pe_own c_is_integer hr hq (by decide) (pa_cons (pv 0) pa_nil)) (pe_one (pe_cmpR op_ge (pv 0) pe_int (nomark _)))))), ?_⟩
    refine ⟨v, rfl, v, k, rfl, hv, fun H2 s2 => ⟨_, rfl, ?_⟩⟩
    have q0 := q H2 s2
    cases hv with
    | int i => exact ⟨_, rfl, _, _, rfl, rfl, q0⟩
    | bl b => exact q0
    | str x h => exact q0
    | non => exact q0
    | tup a xs h hl hs => exact q0
    | lst a xs h => exact q0
    | dic a h => exact q0
abbrev s_ispass : Stmt := topS 7
abbrev N_ispass : List Str := ["value"]
theorem sc_ispass : FnScope N_ispass ["value"] (defScope s_ispass) := ⟨rfl, rfl, rfl, by decide +kernel, rfl, by decide +kernel, by decide +kernel⟩
theorem ok_ispass (F : Fun K "_is_pass" "_is_pass" s_ispass f fd) (c_is_integer : Own P w K mg base "is_integer" 1 ["value"] (spOf numB)) : FnG P w K mg base 2 f fd ["value"] (spOf passB) := by
  refine fnG_of F sc_ispass (fun vs H Q E h => ?_) (fun us hl => ?_) (fun cdv A outer s H vs Q hr hq h => ?_)
  · obtain ⟨p, n, rfl, _⟩ := h
    rfl
  · match us, hl with
    | [_], _ => rfl
  · obtain ⟨v, k, rfl, hv, q⟩ := h
    refine ⟨_, (pss_one (ps_ret (pe_and (pe_own c_is_integer hr hq (by decide) (pa_cons (pv 0) pa_nil)) (pe_one (pe_cmpR op_ge (pv 0) pe_int (nomark _)))))), ?_⟩
    refine ⟨v, rfl, v, k, rfl, hv, fun H2 s2 => ⟨_, rfl, ?_⟩⟩
    have q0 := q H2 s2
    cases hv with
    | int i => exact ⟨_, rfl, _, _, rfl, rfl, q0⟩
    | bl b => exact q0
    | str x h => exact q0
    | non => exact q0
    | tup a xs h hl hs => exact q0
    | lst a xs h => exact q0
    | dic a h => exact q0
end
end Jc
namespace Jc
open PySem PySem.Spec L2
open PyProof.Rows hiding St
structure Txt (mg : Str → Option Value) (t1 t2 : Tok) : Prop where
  LETTERS : mg "LETTERS" = some (.str letters t1)
  MOST_LETTERS : mg "MOST_LETTERS" = some (.int 8 t2)
theorem wordB_str (x : Str) : wordB (.str x) = (decide (1 ≤ (x.length : Int)) && decide ((x.length : Int) ≤ 8) && inLetters x) := rfl
section
variable {P : Program} {w : World} {K : PySem.W.Frag} {mg : Str → Option Value} {base : Heap} {f : Addr} {fd : FuncData} {t1 t2 : Tok}
abbrev s_is_name : Stmt := topS 5
abbrev N_is_name : List Str := ["value", "letter"]
theorem sc_is_name : FnScope N_is_name ["value"] (defScope s_is_name) := ⟨rfl, rfl, rfl, by decide +kernel, rfl, by decide +kernel, by decide +kernel⟩
theorem ok_is_name (F : Fun K "is_name" "is_name" s_is_name f fd) (B : Blt mg) (T : Txt mg t1 t2) : FnG P w K mg base 1 f fd ["value"] (spOf wordB) := by
  refine fnG_of F sc_is_name (fun vs H Q E h => ?_) (fun us hl => ?_) (fun cdv A outer s H vs Q hr hq h => ?_)
  · obtain ⟨p, n, rfl, _⟩ := h
    rfl
  · match us, hl with
    | [_], _ => rfl
  · obtain ⟨v, k, rfl, hv, q⟩ := h
    refine ⟨_, (pss_cons (ps_if (PW.pt (pw_or (pt_not (pt_val (pe_callB call_isi rfl B.isinstance bo_isinstance (pa_cons (pv 0) (pa_cons (pe_bltn (v := .ty "str") rfl B.str bo_str rfl) pa_nil))))) (pw_or1 (pt_not (pt_chain op_le op_le pe_int (pe_callB call_len_str rfl B.len bo_len (pa_cons (pv 0) pa_nil)) (pe_glob (v := .int 8) rfl T.MOST_LETTERS ⟨_, rfl⟩)))))) (pss_one (ps_ret pe_bl)) pss_nil)
      (pss_one (ps_ret (pe_callB (cr_all rfl) rfl B.all bo_all (pa_cons (pe_lc (own := [("letter", 1)]) (g := gName 1) rfl sc_is_name.nd (pi_str (pv 0)) (blkOk_by (own := [("letter", 1)]) (N := N_is_name) (sc := defScope s_is_name) (by decide +kernel)) (fun _ _ _ _ _ => pg_name (i := 1) sc_is_name.nd rfl (.inl rfl)) (fun _ _ _ _ _ => pts_nil) (fun _ _ _ _ _ => (pe_cmpR op_in_sign (pv 1) (pe_glob (v := .str letters) rfl T.LETTERS ⟨_, rfl⟩) rfl))) pa_nil))))), ?_⟩
    refine ⟨v, rfl, v, _, _, _, _, rfl, .ty "str", hv.ty, kit_str k, _, rfl, ?_⟩
    have q0 := q H (Same.refl H)
    cases hv with
    | int i => exact q0
    | bl b => exact q0
    | non => exact q0
    | tup a xs h hl hs => exact q0
    | lst a xs h => exact q0
    | dic a h => exact q0
    | str x hx =>
      have hz : x.length ≤ sizeLine := Nat.le_trans hx (by rw [sizeLine_eq]; decide)
      refine ⟨.str x, rfl, _, rfl, hz, _, _, rfl, rfl, _, rfl, ite2 (fun h1 => ?_) (fun h1 => ?_)⟩
      · refine ⟨_, _, rfl, rfl, _, rfl, ?_⟩
        have e1 : decide (1 ≤ (x.length : Int)) = true := h1
        by_cases h8 : (x.length : Int) ≤ 8
        · rw [decide_eq_true h8]
          refine iteF ?_
          refine ⟨.str x, rfl, x, rfl, fun D hD => lc_flat walk_str (fun i y => ∃ c, x.cps[i]? = some c ∧ y = .bl (decide (c ∈ letters.cps.toList))) ?_ hD (fun _ _ => trivial) ?_ ?_⟩
          · have e : x.cps.size = x.length := rfl
            omega
          · rintro i y H1 H2 k hi s1 ⟨rfl, c, hc, rfl⟩ kk
            exact ⟨rfl, _, rfl, c, letters, rfl, rfl, kk _ _ (Same.refl _) ⟨c, hc, rfl⟩⟩
          · intro ys H2 hl hR s2 hy
            have e : ys = (x.cps.toList.map fun c => decide (c ∈ letters.cps.toList)).map V.bl := by
              refine all_eq (by simp [hl]) fun i a b e1 e2 => ?_
              obtain ⟨c, hc, rfl⟩ := hR i a e1
              simp [hc] at e2
              rw [← e2]
              simp
            refine ⟨D, _, rfl, .inl (.inl (e ▸ hy)), ?_⟩
            have e2 : ((x.cps.toList.map fun c => decide (c ∈ letters.cps.toList)).all id) = wordB (.str x) := by
              rw [wordB_str, e1, decide_eq_true h8, List.all_map]
              rfl
            rw [e2]
            exact q H2 s2
        · rw [decide_eq_false h8]
          refine iteT ?_
          have e2 : wordB (.str x) = false := by
            rw [wordB_str]
            rw [decide_eq_false h8, Bool.and_false, Bool.false_and]
          rw [e2] at q0
          exact q0
      · refine ⟨_, rfl, iteT ?_⟩
        have e2 : wordB (.str x) = false := by
          rw [wordB_str]
          rw [Bool.eq_false_iff.mpr h1, Bool.false_and, Bool.false_and]
        rw [e2] at q0
        exact q0
abbrev s_isword : Stmt := topS 15
abbrev N_isword : List Str := ["_law_thing_here", "_law_sign"]
theorem sc_isword : FnScope N_isword ["_law_thing_here"] (defScope s_isword) := ⟨rfl, rfl, rfl, by decide +kernel, rfl, by decide +kernel, by decide +kernel⟩
theorem ok_isword (F : Fun K "_law_is_word" "_law_is_word" s_isword f fd) (B : Blt mg) : FnG P w K mg base 1 f fd ["_law_thing_here"] (spOf wordB) := by
  refine fnG_of F sc_isword (fun vs H Q E h => ?_) (fun us hl => ?_) (fun cdv A outer s H vs Q hr hq h => ?_)
  · obtain ⟨p, n, rfl, _⟩ := h
    rfl
  · match us, hl with
    | [_], _ => rfl
  · obtain ⟨v, k, rfl, hv, q⟩ := h
    refine ⟨_, (pss_cons (ps_if (PW.pt (pw_or (pt_not (pt_val (pe_callB call_isi rfl B.isinstance bo_isinstance (pa_cons (pv 0) (pa_cons (pe_bltn (v := .ty "str") rfl B.str bo_str rfl) pa_nil))))) (pw_or1 (pt_not (pt_chain op_le op_le pe_int (pe_callB call_len_str rfl B.len bo_len (pa_cons (pv 0) pa_nil)) pe_int))))) (pss_one (ps_ret pe_bl)) pss_nil)
      (pss_one (ps_ret (pe_callB (cr_all rfl) rfl B.all bo_all (pa_cons (pe_lc (own := [("_law_sign", 1)]) (g := gName 1) rfl sc_isword.nd (pi_str (pv 0)) (blkOk_by (own := [("_law_sign", 1)]) (N := N_isword) (sc := defScope s_isword) (by decide +kernel)) (fun _ _ _ _ _ => pg_name (i := 1) sc_isword.nd rfl (.inl rfl)) (fun _ _ _ _ _ => pts_nil) (fun _ _ _ _ _ => (pe_cmpR op_in_sign (pv 1) pe_str rfl))) pa_nil))))), ?_⟩
    refine ⟨v, rfl, v, _, _, _, _, rfl, .ty "str", hv.ty, kit_str k, _, rfl, ?_⟩
    have q0 := q H (Same.refl H)
    cases hv with
    | int i => exact q0
    | bl b => exact q0
    | non => exact q0
    | tup a xs h hl hs => exact q0
    | lst a xs h => exact q0
    | dic a h => exact q0
    | str x hx =>
      have hz : x.length ≤ sizeLine := Nat.le_trans hx (by rw [sizeLine_eq]; decide)
      refine ⟨.str x, rfl, _, rfl, hz, _, _, rfl, rfl, _, rfl, ite2 (fun h1 => ?_) (fun h1 => ?_)⟩
      · refine ⟨_, _, rfl, rfl, _, rfl, ?_⟩
        have e1 : decide (1 ≤ (x.length : Int)) = true := h1
        by_cases h8 : (x.length : Int) ≤ 8
        · rw [decide_eq_true h8]
          refine iteF ?_
          refine ⟨.str x, rfl, x, rfl, fun D hD => lc_flat walk_str (fun i y => ∃ c, x.cps[i]? = some c ∧ y = .bl (decide (c ∈ letters.cps.toList))) ?_ hD (fun _ _ => trivial) ?_ ?_⟩
          · have e : x.cps.size = x.length := rfl
            omega
          · rintro i y H1 H2 k hi s1 ⟨rfl, c, hc, rfl⟩ kk
            exact ⟨rfl, _, rfl, c, letters, rfl, rfl, kk _ _ (Same.refl _) ⟨c, hc, rfl⟩⟩
          · intro ys H2 hl hR s2 hy
            have e : ys = (x.cps.toList.map fun c => decide (c ∈ letters.cps.toList)).map V.bl := by
              refine all_eq (by simp [hl]) fun i a b e1 e2 => ?_
              obtain ⟨c, hc, rfl⟩ := hR i a e1
              simp [hc] at e2
              rw [← e2]
              simp
            refine ⟨D, _, rfl, .inl (.inl (e ▸ hy)), ?_⟩
            have e2 : ((x.cps.toList.map fun c => decide (c ∈ letters.cps.toList)).all id) = wordB (.str x) := by
              rw [wordB_str, e1, decide_eq_true h8, List.all_map]
              rfl
            rw [e2]
            exact q H2 s2
        · rw [decide_eq_false h8]
          refine iteT ?_
          have e2 : wordB (.str x) = false := by
            rw [wordB_str]
            rw [decide_eq_false h8, Bool.and_false, Bool.false_and]
          rw [e2] at q0
          exact q0
      · refine ⟨_, rfl, iteT ?_⟩
        have e2 : wordB (.str x) = false := by
          rw [wordB_str]
          rw [Bool.eq_false_iff.mpr h1, Bool.false_and, Bool.false_and]
        rw [e2] at q0
        exact q0

abbrev s_is_where : Stmt := topS 6
abbrev N_is_where : List Str := ["value", "step"]
theorem sc_is_where : FnScope N_is_where ["value"] (defScope s_is_where) := ⟨rfl, rfl, rfl, by decide +kernel, rfl, by decide +kernel, by decide +kernel⟩
theorem ok_is_where (F : Fun K "is_where" "is_where" s_is_where f fd) (B : Blt mg) (c_ispass : Own P w K mg base "_is_pass" 2 ["value"] (spOf passB)) (c_is_name : Own P w K mg base "is_name" 1 ["value"] (spOf wordB)) :
    FnG P w K mg base 3 f fd ["value"] spWhere := by
  refine fnG_of F sc_is_where (fun vs H Q E h => ?_) (fun us hl => ?_) (fun cdv A outer s H vs Q hr hq h => ?_)
  · obtain ⟨p, n, rfl, _⟩ := h
    rfl
  · match us, hl with
    | [_], _ => rfl
  · obtain ⟨v, k, rfl, h⟩ := h
    refine ⟨_, (pss_one (ps_ret (pe_and (pe_callB call_isi rfl B.isinstance bo_isinstance (pa_cons (pv 0) (pa_cons (pe_bltn (v := .ty "tuple") rfl B.tuple bo_tuple rfl) pa_nil))) (pe_one (pe_callB (cr_all rfl) rfl B.all bo_all (pa_cons (pe_lc (own := [("step", 1)]) (g := gName 1) rfl sc_is_where.nd (pi_tup (pv 0)) (blkOk_by (own := [("step", 1)]) (N := N_is_where) (sc := defScope s_is_where) (by decide +kernel)) (fun _ _ _ _ _ => pg_name (i := 1) sc_is_where.nd rfl (.inl rfl)) (fun _ _ _ _ _ => pts_nil) (fun _ _ _ _ _ => (pe_or (pe_own c_ispass hr hq (by decide) (pa_cons (pv 1) pa_nil)) (pe_one (pe_own c_is_name hr hq (by decide) (pa_cons (pv 1) pa_nil)))))) pa_nil)))))), ?_⟩
    rcases h with ⟨hv, hk, q⟩ | ⟨a, xs, rfl, rfl, ha, hl, hx, q⟩
    · refine ⟨v, rfl, v, _, _, _, _, rfl, .ty "tuple", hv.ty, kit_tup k, _, rfl, ?_⟩
      rw [decide_eq_false hk]
      exact iteF (q H (Same.refl H))
    · refine ⟨.ref a, rfl, .ref a, _, _, _, _, rfl, .ty "tuple", .base (.tup ha), kit_tup .tup, _, rfl, ?_⟩
      refine iteT ⟨.ref a, rfl, a, rfl, ⟨xs, .inl (.inl ha)⟩, fun D hD => ?_⟩
      refine lc_flat walk_tup (fun i y => ∃ x, xs[i]? = some x ∧ y = .bl (partB x)) (by omega) hD (fun H2 s2 => .inl (.inl (s2 _ _ ha))) ?_ ?_
      · rintro i y H1 H2 kk hi s1 ⟨rfl, hc⟩ kq
        obtain ⟨ky, hy⟩ := hx y (List.mem_of_getElem? hc)
        refine ⟨rfl, y, rfl, y, ky, rfl, hy.same s1, fun H3 s3 => ⟨_, rfl, ?_⟩⟩
        cases hp : passB y with
        | true =>
          exact iteT (kq _ _ s3 ⟨y, hc, by unfold partB; rw [hp, Bool.or_true]⟩)
        | false =>
          refine iteF ⟨y, rfl, y, ky, rfl, hy.same (s1.trans s3), fun H4 s4 => ?_⟩
          exact kq _ _ (s3.trans s4) ⟨y, hc, by unfold partB; rw [hp, Bool.or_false]⟩
      · intro ys H2 hl2 hR s2 hy
        have e : ys = (xs.map partB).map V.bl := by
          refine all_eq (by simp [hl2]) fun i a b e1 e2 => ?_
          obtain ⟨c, hc, rfl⟩ := hR i a e1
          simp [hc] at e2
          rw [← e2]
        refine ⟨D, _, rfl, .inl (.inl (e ▸ hy)), ?_⟩
        have e2 : ((xs.map partB).all id) = xs.all partB := by
          rw [List.all_map]
          rfl
        rw [e2]
        exact q H2 s2
abbrev s_ispart : Stmt := topS 16
abbrev N_ispart : List Str := ["_law_thing_here"]
theorem sc_ispart : FnScope N_ispart ["_law_thing_here"] (defScope s_ispart) := ⟨rfl, rfl, rfl, by decide +kernel, rfl, by decide +kernel, by decide +kernel⟩
theorem ok_ispart (F : Fun K "_law_is_part" "_law_is_part" s_ispart f fd) (c_isword : Own P w K mg base "_law_is_word" 1 ["_law_thing_here"] (spOf wordB)) (c_isnum : Own P w K mg base "_law_is_number" 1 ["_law_thing_here"] (spOf numB)) :
    FnG P w K mg base 2 f fd ["_law_thing_here"] (spOf partB) := by
  refine fnG_of F sc_ispart (fun vs H Q E h => ?_) (fun us hl => ?_) (fun cdv A outer s H vs Q hr hq h => ?_)
  · obtain ⟨p, n, rfl, _⟩ := h
    rfl
  · match us, hl with
    | [_], _ => rfl
  · obtain ⟨v, k, rfl, hv, q⟩ := h
    refine ⟨_, (pss_one (ps_ret (pe_or (pe_own c_isword hr hq (by decide) (pa_cons (pv 0) pa_nil)) (pe_one (pe_and (pe_own c_isnum hr hq (by decide) (pa_cons (pv 0) pa_nil)) (pe_one (pe_cmpR op_ge (pv 0) pe_int (nomark _)))))))), ?_⟩
    refine ⟨v, rfl, v, k, rfl, hv, fun H2 s2 => ⟨_, rfl, ?_⟩⟩
    cases hw : wordB v with
    | true =>
      have q0 := q H2 s2
      unfold partB at q0
      rw [hw, Bool.true_or] at q0
      exact iteT q0
    | false =>
      refine iteF ⟨v, rfl, v, k, rfl, hv.same s2, fun H3 s3 => ⟨_, rfl, ?_⟩⟩
      have q0 := q H3 (s2.trans s3)
      unfold partB at q0
      rw [hw, Bool.false_or] at q0
      cases hv with
      | int i => exact iteT ⟨_, rfl, _, _, rfl, rfl, q0⟩
      | bl b => exact iteF q0
      | str x h => exact iteF q0
      | non => exact iteF q0
      | tup a xs h hl hs => exact iteF q0
      | lst a xs h => exact iteF q0
      | dic a h => exact iteF q0
end
end Jc
namespace Jc
open PySem PySem.Spec L2
open PyProof.Rows hiding St
theorem sum_short : ∀ parts : List Str, (∀ x ∈ parts, x.length ≤ 1) → (parts.map (·.length)).sum ≤ parts.length
  | [], _ => Nat.le_refl _
  | p :: r, h => by
    have h1 := h p List.mem_cons_self
    have h2 := sum_short r fun x hx => h x (List.mem_cons_of_mem _ hx)
    rw [List.map_cons, List.sum_cons, List.length_cons]
    omega
theorem join_le {parts : List Str} (h : ∀ x ∈ parts, x.length ≤ 1) : (Txt.join "" parts).length ≤ parts.length := by
  rw [TL.join_eq]
  have h1 := StrLaws.join_length_le "" parts
  have h2 := sum_short parts h
  have h3 : ("" : Str).length = 0 := rfl
  rw [h3, Nat.mul_zero] at h1
  omega
theorem strs_of {ys : List V} (h : ∀ (i : Nat) y, ys[i]? = some y → ∃ x : Str, y = .str x ∧ x.length ≤ 1) : ∃ xs : List Str, ys = xs.map V.str ∧ ∀ x ∈ xs, x.length ≤ 1 := by
  induction ys with
  | nil => exact ⟨[], rfl, fun x hx => (List.not_mem_nil hx).elim⟩
  | cons y r ih =>
    obtain ⟨x, rfl, hx⟩ := h 0 y rfl
    obtain ⟨xs, rfl, hxs⟩ := ih fun i z e => h (i + 1) z (by simpa using e)
    exact ⟨x :: xs, rfl, fun z hz => by
      rcases List.mem_cons.mp hz with rfl | hz
      · exact hx
      · exact hxs z hz⟩
def sgn1 : V → Bool
  | .str x => decide (x.length ≤ 1)
  | _ => false
theorem sgn1_of {v : V} (h : sgn1 v = true) : ∃ x : Str, v = .str x ∧ x.length ≤ 1 := by
  cases v with
  | str x => exact ⟨x, rfl, of_decide_eq_true h⟩
  | _ => cases h
def signs9 : List V := [.str "A", .str "1", .str "_", .str " ", .str "-", .str "\n", .str "Z", .str "0", .str "~"]
theorem signs9_ok : ∀ v ∈ signs9, sgn1 v = true := by
  have h : signs9.all sgn1 = true := by decide +kernel
  exact fun v hv => List.all_eq_true.mp h v hv
theorem at_ofN {α : Type} {xs : List α} {z : Int} {j : Nat} {v : α} (e : z = (j : Int)) (h : xs[j]? = some v) : atI xs z = some v := by
  rw [e]
  exact atI_nat h
theorem letters_len : letters.cps.toList.length = 26 := by decide +kernel
theorem le_line {n : Nat} (h : n ≤ 1000000) : n ≤ sizeLine := Nat.le_trans h (by rw [sizeLine_eq]; decide)
def spWord : Sp := fun vs H Q _ => ∃ p, vs = [.ref p] ∧ Pot H p ∧ ∀ (x : Str) H2, x.length ≤ 20 → Same H H2 → Q (.str x) H2
section
variable {P : Program} {w : World} {K : PySem.W.Frag} {mg : Str → Option Value} {base : Heap} {f : Addr} {fd : FuncData}
abbrev s_word : Stmt := topS 12
abbrev N_word : List Str := ["_law_pot_here", "_law_signs", "_law_found", "_law_turn", "_law_k", "_law_way"]
theorem sc_word : FnScope N_word ["_law_pot_here"] (defScope s_word) := ⟨rfl, rfl, rfl, by decide +kernel, rfl, by decide +kernel, by decide +kernel⟩
theorem ok_word (F : Fun K "_law_word" "_law_word" s_word f fd) (B : Blt mg) (c_draw : Own P w K mg base "_law_draw" 1 ["_law_pot_here", "_law_lot"] spDraw) (c_pick : Own P w K mg base "_law_pick" 2 ["_law_pot_here", "_law_some"] (spPick K)) :
    FnG P w K mg base 3 f fd ["_law_pot_here"] spWord := by
  refine fnG_of F sc_word (fun vs H Q E h => ?_) (fun us hl => ?_) (fun cdv A outer s H vs Q hr hq h => ?_)
  · obtain ⟨p, rfl, _⟩ := h
    rfl
  · match us, hl with
    | [_], _ => rfl
  · obtain ⟨p, rfl, hp, q⟩ := h
    refine ⟨_, (pss_cons (ps_set (i := 1) sc_word.nd rfl (.inr rfl) pe_str)
      (pss_cons (ps_set (i := 2) sc_word.nd rfl (.inl rfl) (pe_join pe_str (pe_lc (own := [("_law_turn", 3)]) (g := gName 3) rfl sc_word.nd (pi_range1 rfl B.range (pa_cons (pe_own c_draw hr hq (by decide) (pa_cons (pv 0) (pa_cons pe_int pa_nil))) pa_nil)) (blkOk_by (own := [("_law_turn", 3)]) (N := N_word) (sc := defScope s_word) (by decide +kernel)) (fun _ _ _ _ _ => pg_name (i := 3) sc_word.nd rfl (.inl rfl)) (fun _ _ _ _ _ => pts_nil) (fun _ _ _ _ _ => (pe_ix ix_str (pv 1) (pe_own c_draw hr hq (by decide) (pa_cons (pv 0) (pa_cons pe_int pa_nil))) (fun _ _ => rfl))))))
      (pss_cons (ps_par (i := 4) (j := 5) rfl sc_word.nd rfl rfl (by decide) rfl rfl (pa_cons (pe_own c_draw hr hq (by decide) (pa_cons (pv 0) (pa_cons (pe_op op_add (pe_callB call_len_str rfl B.len bo_len (pa_cons (pv 2) pa_nil)) pe_int) pa_nil))) (pa_cons (pe_own c_draw hr hq (by decide) (pa_cons (pv 0) (pa_cons pe_int pa_nil))) pa_nil)) rfl)
      (pss_cons (ps_if (pt_cmpR op_eq (pv 5) pe_int (nomark _)) (pss_one (ps_set (i := 2) sc_word.nd rfl (.inl rfl) (pe_op op_add_str (pe_op op_add_str (pe_slice sl_str (pv 2) po_none (po_some (pv 4))) (pe_own c_pick hr hq (by decide) (pa_cons (pv 0) (pa_cons (pe_lst (pa_cons pe_str (pa_cons pe_str (pa_cons pe_str (pa_cons pe_str (pa_cons pe_str (pa_cons pe_str (pa_cons pe_str (pa_cons pe_str (pa_cons pe_str pa_nil)))))))))) pa_nil)))) (pe_slice sl_str (pv 2) (po_some (pv 4)) po_none)))) pss_nil)
      (pss_one (ps_ret (pv 2))))))), ?_⟩
    -- found
    refine ⟨⟨_, rfl⟩, .ref p, rfl, p, 10, rfl, hp, by decide, by decide, fun n H1 n0 n1 s1 => ⟨n, rfl, by omega, by omega, fun D hD => ?_⟩⟩
    refine lc_flat walk_range (fun i y => ∃ x : Str, y = .str x ∧ x.length ≤ 1) (by omega) hD (fun _ _ => trivial) ?_ ?_
    · rintro i y H2 H3 k hi s2 ⟨rfl, rfl⟩ kk
      refine ⟨rfl, .str letters, rfl, .ref p, rfl, p, 26, rfl, s2 _ _ (s1 _ _ hp), by decide, by decide, fun d H4 d0 d1 s4 => ?_⟩
      have hlt : d.toNat < letters.cps.toList.length := by rw [letters_len]; omega
      refine ⟨letters, d, _, rfl, rfl, le_line (by decide +kernel), at_ofN (by omega) (List.getElem?_eq_getElem hlt), ?_⟩
      exact kk _ _ s4 ⟨_, rfl, Nat.le_refl _⟩
    · intro ys H2 hl hR s2 hy
      obtain ⟨xs, rfl, hx⟩ := strs_of (fun i y e => hR i y e)
      have hl2 : xs.length = n.toNat := by simpa using hl
      have hj := join_le hx
      refine ⟨"", D, xs, rfl, rfl, .inl (.inl (.inl hy)), ?_, ?_⟩
      · have := sum_short xs hx
        have h3 : ("" : Str).length = 0 := rfl
        rw [h3, Nat.mul_zero]
        omega
      · generalize Txt.join "" xs = z at hj
        have hz : z.length ≤ 10 := by omega
        have p2 : Pot H2 p := s2 _ _ (s1 _ _ hp)
        -- k, way
        refine ⟨.ref p, rfl, .str z, rfl, z, rfl, le_line (by omega), _, _, rfl, rfl, p, _, rfl, p2, by omega, by omega, fun d H3 d0 d1 s3 => ⟨.ref p, rfl, p, 5, rfl, s3 _ _ p2, by decide, by decide, fun e H4 e0 e1 s4 => ⟨_, _, rfl, ?_⟩⟩⟩
        have p4 : Pot H4 p := s4 _ _ (s3 _ _ p2)
        have s04 : Same H H4 := s1.trans (s2.trans (s3.trans s4))
        refine ⟨.int e, rfl, rfl, _, rfl, ite2 (fun _ => ?_) (fun _ => ?_)⟩
        · refine ⟨.str z, rfl, .int d, rfl, d, rfl, z, rfl, le_line (by omega), ?_⟩
          have c1 := cutS_length z none (some d)
          have c2 := cutS_length z (some d) none
          refine ⟨.ref p, rfl, le_line (by decide), fun l nl => ⟨p, l, signs9, rfl, (same_new nl) _ _ p4, .inl (.inl upd_same), by decide, by decide, fun i v H5 hi s5 => ?_⟩⟩
          obtain ⟨y, rfl, hy1⟩ := sgn1_of (signs9_ok v (List.mem_of_getElem? hi))
          refine ⟨_, _, rfl, rfl, le_line (by omega), .str z, rfl, .int d, rfl, d, rfl, z, rfl, le_line (by omega), _, _, rfl, rfl, ?_, ?_⟩
          · rw [strLen_append]
            exact le_line (by omega)
          · refine ⟨_, rfl, q _ H5 ?_ (s04.trans ((same_new nl).trans s5))⟩
            rw [strLen_append, strLen_append]
            omega
        · exact ⟨.str z, rfl, q z H4 (by omega) s04⟩
end
end Jc
namespace Jc
open PySem PySem.Spec L2
open PyProof.Rows hiding St
def spThing : Sp := fun vs H Q _ => ∃ p, vs = [.ref p] ∧ Pot H p ∧ ∀ v k H2, Same H H2 → Thg H2 v k → Q v H2
theorem Thg.upd {H : Hp} {v : V} {k : Kd} {D : Addr} {xs ys : List V} (hD : H D = some (.lst xs)) (h : Thg H v k) : Thg (upd H D (.lst ys)) v k := by
  cases h with
  | int i => exact .int i
  | str x h => exact .str x h
  | non => exact .non
  | bl b => exact .bl b
  | tup a zs h hl hs => exact .tup a zs (by rw [upd_ne (ne_of h hD (by intro z; cases z))]; exact h) hl hs
  | lst a zs h =>
    by_cases e : a = D
    · subst e
      exact .lst a ys upd_same
    · exact .lst a zs (by rw [upd_ne e]; exact h)
  | dic a h => exact .dic a (by rw [upd_ne (ne_of h hD (by intro z; cases z))]; exact h)
def spParts : Sp := fun vs H Q _ => ∃ p, vs = [.ref p] ∧ Pot H p ∧ ∀ l xs H2, Same H H2 → H2 l = some (.lst xs) → xs.length ≤ 6 → (∀ x ∈ xs, ∃ k, Thg H2 x k) → Q (.ref l) H2
section
variable {P : Program} {w : World} {K : PySem.W.Frag} {mg : Str → Option Value} {base : Heap} {f : Addr} {fd : FuncData}
abbrev s_thing : Stmt := topS 13
abbrev N_thing : List Str := ["_law_pot_here", "_law_way"]
theorem sc_thing : FnScope N_thing ["_law_pot_here"] (defScope s_thing) := ⟨rfl, rfl, rfl, by decide +kernel, rfl, by decide +kernel, by decide +kernel⟩
theorem ok_thing (F : Fun K "_law_thing" "_law_thing" s_thing f fd) (B : Blt mg) (c_draw : Own P w K mg base "_law_draw" 1 ["_law_pot_here", "_law_lot"] spDraw) (c_pick : Own P w K mg base "_law_pick" 2 ["_law_pot_here", "_law_some"] (spPick K))
    (c_word : Own P w K mg base "_law_word" 3 ["_law_pot_here"] spWord) : FnG P w K mg base 4 f fd ["_law_pot_here"] spThing := by
  refine fnG_of F sc_thing (fun vs H Q E h => ?_) (fun us hl => ?_) (fun cdv A outer s H vs Q hr hq h => ?_)
  · obtain ⟨p, rfl, _⟩ := h
    rfl
  · match us, hl with
    | [_], _ => rfl
  · obtain ⟨p, rfl, hp, q⟩ := h
    refine ⟨_, (pss_cons (ps_set (i := 1) sc_thing.nd rfl (.inl rfl) (pe_own c_draw hr hq (by decide) (pa_cons (pv 0) (pa_cons pe_int pa_nil))))
      (pss_cons (ps_if (pt_cmpR op_eq (pv 1) pe_int (nomark _)) (pss_one (ps_ret (pe_op op_sub (pe_own c_draw hr hq (by decide) (pa_cons (pv 0) (pa_cons pe_int pa_nil))) pe_int))) pss_nil)
      (pss_cons (ps_if (pt_cmpR op_lt (pv 1) pe_int (nomark _)) (pss_one (ps_ret (pe_own c_word hr hq (by decide) (pa_cons (pv 0) pa_nil)))) pss_nil)
      (pss_one (ps_ret (pe_own c_pick hr hq (by decide) (pa_cons (pv 0) (pa_cons (pe_lst (pa_cons pe_non (pa_cons pe_bl (pa_cons pe_bl (pa_cons pe_int (pa_cons pe_int (pa_cons (pe_un un_neg pe_int) (pa_cons (pe_op op_pow pe_int pe_int) (pa_cons (pe_un un_neg (pe_op op_pow pe_int pe_int)) (pa_cons pe_str (pa_cons pe_str (pa_cons (pe_tup pa_nil) (pa_cons (pe_lst pa_nil) (pa_cons pe_dnewK (pa_cons (pe_tup (pa_cons pe_str pa_nil)) (pa_cons (pe_lst (pa_cons pe_str pa_nil)) (pa_cons (pe_lst (pa_cons pe_int pa_nil)) pa_nil))))))))))))))))) pa_nil)))))))), ?_⟩
    refine ⟨.ref p, rfl, p, 5, rfl, hp, by decide, by decide, fun d H1 d0 d1 s1 => ?_⟩
    have p1 : Pot H1 p := s1 _ _ hp
    refine ⟨.int d, rfl, rfl, _, rfl, ite2 (fun _ => ?_) (fun _ => ?_)⟩
    · exact ⟨.ref p, rfl, p, 60, rfl, p1, by decide, by decide, fun e H2 e0 e1 s2 => ⟨_, _, rfl, rfl, q _ .int H2 (s1.trans s2) (.int _)⟩⟩
    · refine ⟨.int d, rfl, _, _, rfl, rfl, _, rfl, ite2 (fun _ => ?_) (fun _ => ?_)⟩
      · exact ⟨.ref p, rfl, p, rfl, p1, fun x H2 hx s2 => q _ .str H2 (s1.trans s2) (.str x (by omega))⟩
      · refine ⟨.ref p, rfl, _, rfl, _, _, rfl, rfl, ⟨by decide, by decide, by decide⟩, _, _, rfl, rfl, ⟨by decide, by decide, by decide⟩, _, rfl, le_line (by decide), fun t0 n0 => ⟨le_line (by decide), fun l0 n1 => fun d0 n2 => ⟨le_line (by decide), fun t1 n3 => ⟨le_line (by decide), fun l1 n4 => ⟨le_line (by decide), fun l2 n5 => ⟨le_line (by show (16 : Nat) ≤ 1000000; decide), fun l n6 => ?_⟩⟩⟩⟩⟩⟩
        have s6 := same_new (o := .lst [.non, .bl true, .bl false, .int 0, .int 1, .int (-1), .int ((10 : Int) ^ (8 : Int).toNat), .int (-((10 : Int) ^ (8 : Int).toNat)), .str "", .str "a", .ref t0, .ref l0, .ref d0, .ref t1, .ref l1, .ref l2]) n6
        have s5 := (same_new (o := .lst [.int 1]) n5).trans s6
        have s4 := (same_new (o := .lst [.str "a"]) n4).trans s5
        have s3 := (same_new (o := .tup [.str "a"]) n3).trans s4
        have s2 := (same_new (o := .dK []) n2).trans s3
        have s1' := (same_new (o := .lst []) n1).trans s2
        have s0 := (same_new (o := .tup []) n0).trans s1'
        refine ⟨p, l, _, rfl, s0 _ _ p1, .inl (.inl upd_same), (by show (0 : Nat) < 16; decide), (by show (16 : Nat) ≤ 1000; decide), fun i v H5 hi s9 => ?_⟩
        have sH : Same H H5 := s1.trans (s0.trans s9)
        have hm := List.mem_of_getElem? hi
        simp only [List.mem_cons, List.not_mem_nil, or_false] at hm
        rcases hm with rfl | rfl | rfl | rfl | rfl | rfl | rfl | rfl | rfl | rfl | rfl | rfl | rfl | rfl | rfl | rfl
        · exact q _ _ _ sH .non
        · exact q _ _ _ sH (.bl _)
        · exact q _ _ _ sH (.bl _)
        · exact q _ _ _ sH (.int _)
        · exact q _ _ _ sH (.int _)
        · exact q _ _ _ sH (.int _)
        · exact q _ _ _ sH (.int _)
        · exact q _ _ _ sH (.int _)
        · exact q _ _ _ sH (.str _ (by decide +kernel))
        · exact q _ _ _ sH (.str _ (by decide +kernel))
        · exact q _ _ _ sH (.tup t0 [] (s9 _ _ (s1' _ _ upd_same)) (by decide) (fun x hx => (List.not_mem_nil hx).elim))
        · exact q _ _ _ sH (.lst l0 [] (s9 _ _ (s2 _ _ upd_same)))
        · exact q _ _ _ sH (.dic d0 (s9 _ _ (s3 _ _ upd_same)))
        · exact q _ _ _ sH (.tup t1 ["a"] (s9 _ _ (s4 _ _ upd_same)) (by decide) (fun x hx => by rcases List.mem_singleton.mp hx with rfl; decide +kernel))
        · exact q _ _ _ sH (.lst l1 [.str "a"] (s9 _ _ (s5 _ _ upd_same)))
        · exact q _ _ _ sH (.lst l2 [.int 1] (s9 _ _ (s6 _ _ upd_same)))
abbrev s_parts : Stmt := topS 17
abbrev N_parts : List Str := ["_law_pot_here", "_law_found", "_law_turn"]
theorem sc_parts : FnScope N_parts ["_law_pot_here"] (defScope s_parts) := ⟨rfl, rfl, rfl, by decide +kernel, rfl, by decide +kernel, by decide +kernel⟩
theorem ok_parts (F : Fun K "_law_parts" "_law_parts" s_parts f fd) (B : Blt mg) (c_draw : Own P w K mg base "_law_draw" 1 ["_law_pot_here", "_law_lot"] spDraw) (c_pick : Own P w K mg base "_law_pick" 2 ["_law_pot_here", "_law_some"] (spPick K))
    (c_thing : Own P w K mg base "_law_thing" 4 ["_law_pot_here"] spThing) : FnG P w K mg base 5 f fd ["_law_pot_here"] spParts := by
  refine fnG_of F sc_parts (fun vs H Q E h => ?_) (fun us hl => ?_) (fun cdv A outer s H vs Q hr hq h => ?_)
  · obtain ⟨p, rfl, _⟩ := h
    rfl
  · match us, hl with
    | [_], _ => rfl
  · obtain ⟨p, rfl, hp, q⟩ := h
    refine ⟨_, (pss_cons (ps_setLc (i := 1) (own := [("_law_turn", 2)]) (g := gName 2) rfl sc_parts.nd rfl rfl (sw_true rfl rfl rfl (by decide +kernel)) (pi_range1 rfl B.range (pa_cons (pe_own c_draw hr hq (by decide) (pa_cons (pv 0) (pa_cons pe_int pa_nil))) pa_nil)) (blkOk_by (own := [("_law_turn", 2)]) (N := N_parts) (sc := defScope s_parts) (by decide +kernel)) (fun _ _ _ _ _ => pg_name (i := 2) sc_parts.nd rfl (.inl rfl)) (fun _ _ _ _ _ => pts_nil) (fun _ _ _ _ _ => (pe_own c_pick hr hq (by decide) (pa_cons (pv 0) (pa_cons (pe_lst (pa_cons (pe_op op_add pe_int (pe_own c_draw hr hq (by decide) (pa_cons (pv 0) (pa_cons pe_int pa_nil)))) (pa_cons pe_str (pa_cons pe_str pa_nil)))) pa_nil)))))
      (pss_cons (ps_if (pt_cmpR op_eq (pe_own c_draw hr hq (by decide) (pa_cons (pv 0) (pa_cons pe_int pa_nil))) pe_int (nomark _)) (pss_one (ps_expr (pe_bm PySem.F.plainAttrs_list PySem.F.slot_list_insert PySem.F.type_list_insert mt_insert (pv 1) (pa_cons (pe_own c_draw hr hq (by decide) (pa_cons (pv 0) (pa_cons (pe_op op_add (pe_callB call_len_seq rfl B.len bo_len (pa_cons (pv 1) pa_nil)) pe_int) pa_nil))) (pa_cons (pe_own c_thing hr hq (by decide) (pa_cons (pv 0) pa_nil)) pa_nil))))) pss_nil)
      (pss_one (ps_ret (pv 1))))), ?_⟩
    refine ⟨.ref p, rfl, p, 5, rfl, hp, by decide, by decide, fun n H1 n0 n1 s1 => ⟨n, rfl, by omega, by omega, fun D hD => ?_⟩⟩
    refine lc_flat walk_range (fun i y => (∃ z, y = .int z) ∨ ∃ x : Str, y = .str x ∧ x.length ≤ 100) (by omega) hD (fun _ _ => trivial) ?_ ?_
    · rintro i y H2 H3 k hi s2 ⟨rfl, rfl⟩ kk
      have p2 : Pot H3 p := s2 _ _ (s1 _ _ hp)
      refine ⟨rfl, .ref p, rfl, .ref p, rfl, p, 9, rfl, p2, by decide, by decide, fun e H4 e0 e1 s4 => ⟨_, _, rfl, rfl, le_line (by show (3 : Nat) ≤ 1000000; decide), fun l nl => ?_⟩⟩
      refine ⟨p, l, _, rfl, (same_new nl) _ _ (s4 _ _ p2), .inl (.inl upd_same), (by show (0 : Nat) < 3; decide), (by show (3 : Nat) ≤ 1000; decide), fun j v H5 hj s5 => kk _ _ (s4.trans ((same_new nl).trans s5)) ?_⟩
      have hm := List.mem_of_getElem? hj
      simp only [List.mem_cons, List.not_mem_nil, or_false] at hm
      rcases hm with rfl | rfl | rfl
      · exact .inl ⟨_, rfl⟩
      · exact .inr ⟨_, rfl, by decide +kernel⟩
      · exact .inr ⟨_, rfl, by decide +kernel⟩
    · intro ys H2 hl hR s2 hy
      have p2 : Pot H2 p := s2 _ _ (s1 _ _ hp)
      have nD : H D = none := s1.free hD
      have hT : ∀ (H3 : Hp) (x : V), x ∈ ys → ∃ k, Thg H3 x k := fun H3 x hx => by
        obtain ⟨i, hi⟩ := List.getElem?_of_mem hx
        rcases hR i x hi with ⟨z, rfl⟩ | ⟨z, rfl, hz⟩
        · exact ⟨_, .int z⟩
        · exact ⟨_, .str z hz⟩
      refine ⟨.ref p, rfl, p, 2, rfl, p2, by decide, by decide, fun e H3 e0 e1 s3 => ⟨rfl, _, rfl, ite2 (fun _ => ?_) (fun _ => ?_)⟩⟩
      · have y3 := s3 _ _ hy
        have p3 := s3 _ _ p2
        refine ⟨.ref D, rfl, .inl ⟨rfl, _, .inl (.inl y3)⟩, .ref p, rfl, .ref D, rfl, D, ys, rfl, .inl (.inl (.inl y3)), _, _, rfl, rfl, p, _, rfl, p3, by omega, by omega, fun c H4 c0 c1 s4 => ?_⟩
        refine ⟨.ref p, rfl, p, rfl, s4 _ _ p3, fun v k H5 s5 hv => ?_⟩
        have y5 := s5 _ _ (s4 _ _ y3)
        refine ⟨D, ys, c, v, rfl, rfl, y5, Nat.lt_of_lt_of_le (show ys.length < 10 by omega) (le_line (by decide)), c0, by omega, .ref D, rfl, ?_⟩
        refine q D _ _ (same_mut (s1.trans (s2.trans (s3.trans (s4.trans s5)))) nD) upd_same ?_ ?_
        · simp only [List.length_append, List.length_take, List.length_drop, List.length_cons, List.length_nil]
          omega
        · intro x hx
          simp only [List.mem_append, List.mem_singleton] at hx
          rcases hx with (hx | hx) | hx
          · exact hT _ x (List.mem_of_mem_take hx)
          · subst hx
            exact ⟨k, hv.upd y5⟩
          · exact hT _ x (List.mem_of_mem_drop hx)
      · exact ⟨.ref D, rfl, q D ys H3 (s1.trans (s2.trans s3)) (s3 _ _ hy) (by omega) (hT _)⟩
end
end Jc
namespace Jc
open PySem PySem.Spec L2
open PyProof.Rows hiding St
def dB (bs : List Bool) : PyData := .list (bs.map PyData.bool)
theorem dB3 : ∀ a b c : Bool, (dB [a, b, c]).showable = true ∧ (dB [a, b, c]).hasDict = false ∧ (dB [a, b, c]).depth ≤ 60 ∧ (dB [a, b, c]).shown.length ≤ 1000000 := by
  intro a b c
  cases a <;> cases b <;> cases c <;> decide +kernel
theorem dp3 {K : PySem.W.Frag} {H : Hp} {T : Addr} {a b c : Bool} (h : H T = some (.lst [.bl a, .bl b, .bl c])) : Dp K H (.ref T) (dB [a, b, c]) := .lst (.inl (.inl h)) (.cons (.bl a) (.cons (.bl b) (.cons (.bl c) .nil)))
theorem dB1 : ∀ a : Bool, (PyData.bool a).showable = true ∧ (PyData.bool a).hasDict = false ∧ (PyData.bool a).depth ≤ 60 ∧ (PyData.bool a).shown.length ≤ 1000000 := by
  intro a
  cases a <;> decide +kernel
theorem num_and {H H2 : Hp} {v : V} {k : Kd} {σ : L2.St} {Q : VK} (hv : Thg H v k) (hσ : σ[2]? = some (some v)) (h : Q (.bl (cntB v)) H2) :
    if numB v = true then tOp (rI0 fun i j => .bl (decide (j ≤ i))) (tVar 2) (tC (.int 0)) σ H2 Q else Q (.bl false) H2 := by
  cases hv with
  | int i => exact iteT ⟨_, hσ, _, _, rfl, rfl, h⟩
  | bl b => exact iteF h
  | str x hx => exact iteF h
  | non => exact iteF h
  | tup a xs h1 hl hs => exact iteF h
  | lst a xs h1 => exact iteF h
  | dic a h1 => exact iteF h
theorem bools_of {xs ys : List V} (hl : ys.length = xs.length) (hR : ∀ (i : Nat) y, ys[i]? = some y → ∃ x, xs[i]? = some x ∧ y = .bl (partB x)) : ys = (xs.map partB).map V.bl := by
  refine all_eq (by simp [hl]) fun i a b e1 e2 => ?_
  obtain ⟨c, hc, rfl⟩ := hR i a e1
  simp [hc] at e2
  rw [← e2]
theorem all_of (xs : List V) : ((xs.map partB).all id) = xs.all partB := by
  rw [List.all_map]
  rfl
def spRight : Sp := fun vs H Q _ => ∃ p, vs = [.ref p] ∧ Pot H p ∧ ∀ H2, Same H H2 → Q (.bl true) H2
section
variable {P : Program} {w : World} {K : PySem.W.Frag} {mg : Str → Option Value} {base : Heap} {f : Addr} {fd : FuncData}
abbrev s_right : Stmt := topS 18
abbrev N_right : List Str := ["_law_pot_here", "_law_turn", "_law_thing_here", "_law_parts_here", "_law_told", "_law_due", "_law_is_where_now", "_law_part"]
theorem sc_right : FnScope N_right ["_law_pot_here"] (defScope s_right) := ⟨rfl, rfl, rfl, by decide +kernel, rfl, by decide +kernel, by decide +kernel⟩
theorem ok_right (F : Fun K "_law_right" "_law_right" s_right f fd) (B : Blt mg) (c_thing : Own P w K mg base "_law_thing" 4 ["_law_pot_here"] spThing) (c_parts : Own P w K mg base "_law_parts" 5 ["_law_pot_here"] spParts)
    (c_is_integer : Own P w K mg base "is_integer" 1 ["value"] (spOf numB)) (c_is_count : Own P w K mg base "is_count" 2 ["value"] (spOf cntB)) (c_is_name : Own P w K mg base "is_name" 1 ["value"] (spOf wordB)) (c_is_where : Own P w K mg base "is_where" 3 ["value"] spWhere)
    (c_isnum : Own P w K mg base "_law_is_number" 1 ["_law_thing_here"] (spOf numB)) (c_isword : Own P w K mg base "_law_is_word" 1 ["_law_thing_here"] (spOf wordB)) (c_ispart : Own P w K mg base "_law_is_part" 2 ["_law_thing_here"] (spOf partB)) :
    FnG P w K mg base 6 f fd ["_law_pot_here"] spRight := by
  refine fnG_of F sc_right (fun vs H Q E h => ?_) (fun us hl => ?_) (fun cdv A outer s H vs Q hr hq h => ?_)
  · obtain ⟨p, rfl, _⟩ := h
    rfl
  · match us, hl with
    | [_], _ => rfl
  · obtain ⟨p, rfl, hp, q⟩ := h
    have hu := hr.units
    refine ⟨_, (pss_cons (ps_for PassesOwn.never rfl (pi_range1 rfl B.range (pa_cons pe_int pa_nil)) (pg_name (i := 1) sc_right.nd rfl (.inl rfl)) (pss_cons (ps_par (i := 2) (j := 3) rfl sc_right.nd rfl rfl (by decide) rfl rfl (pa_cons (pe_own c_thing hr hq (by decide) (pa_cons (pv 0) pa_nil)) (pa_cons (pe_own c_parts hr hq (by decide) (pa_cons (pv 0) pa_nil)) pa_nil)) rfl)
      (pss_cons (ps_set (i := 4) sc_right.nd rfl (.inl rfl) (pe_lst (pa_cons (pe_own c_is_integer hr hq (by decide) (pa_cons (pv 2) pa_nil)) (pa_cons (pe_own c_is_count hr hq (by decide) (pa_cons (pv 2) pa_nil)) (pa_cons (pe_own c_is_name hr hq (by decide) (pa_cons (pv 2) pa_nil)) pa_nil)))))
      (pss_cons (ps_set (i := 5) sc_right.nd rfl (.inl rfl) (pe_lst (pa_cons (pe_own c_isnum hr hq (by decide) (pa_cons (pv 2) pa_nil)) (pa_cons (pe_and (pe_own c_isnum hr hq (by decide) (pa_cons (pv 2) pa_nil)) (pe_one (pe_cmpR op_ge (pv 2) pe_int (nomark _)))) (pa_cons (pe_own c_isword hr hq (by decide) (pa_cons (pv 2) pa_nil)) pa_nil)))))
      (pss_cons (ps_if (pt_cmpR op_ne (pe_callB (call_repr hq hu) rfl B.repr bo_repr (pa_cons (pv 4) pa_nil)) (pe_callB (call_repr hq hu) rfl B.repr bo_repr (pa_cons (pv 5) pa_nil)) (nomark _)) (pss_one (ps_ret pe_bl)) pss_nil)
      (pss_cons (ps_if (pt_cmpR op_ne (pe_callB (call_repr hq hu) rfl B.repr bo_repr (pa_cons (pe_lst (pa_cons (pe_ownK c_is_integer hr hq (by decide) (pk_cons (pv 2) pk_nil)) (pa_cons (pe_ownK c_is_count hr hq (by decide) (pk_cons (pv 2) pk_nil)) (pa_cons (pe_ownK c_is_name hr hq (by decide) (pk_cons (pv 2) pk_nil)) pa_nil)))) pa_nil)) (pe_callB (call_repr hq hu) rfl B.repr bo_repr (pa_cons (pv 5) pa_nil)) (nomark _)) (pss_one (ps_ret pe_bl)) pss_nil)
      (pss_cons (ps_set (i := 6) sc_right.nd rfl (.inl rfl) (pe_callB (cr_all rfl) rfl B.all bo_all (pa_cons (pe_lc (own := [("_law_part", 7)]) (g := gName 7) rfl sc_right.nd (pi_list (pv 3)) (blkOk_by (own := [("_law_part", 7)]) (N := N_right) (sc := defScope s_right) (by decide +kernel)) (fun _ _ _ _ _ => pg_name (i := 7) sc_right.nd rfl (.inl rfl)) (fun _ _ _ _ _ => pts_nil) (fun _ _ _ _ _ => (pe_own c_ispart hr hq (by decide) (pa_cons (pv 7) pa_nil)))) pa_nil)))
      (pss_cons (ps_set (i := 4) sc_right.nd rfl (.inl rfl) (pe_lst (pa_cons (pe_own c_is_where hr hq (by decide) (pa_cons (pe_callTy call_tuple_of rfl B.tuple bo_tuple (pa_cons (pv 3) pa_nil)) pa_nil)) (pa_cons (pe_ownK c_is_where hr hq (by decide) (pk_cons (pe_callTy call_tuple_of rfl B.tuple bo_tuple (pa_cons (pv 3) pa_nil)) pk_nil)) (pa_cons (pe_own c_is_where hr hq (by decide) (pa_cons (pv 3) pa_nil)) pa_nil)))))
      (pss_cons (ps_if (pt_cmpR op_ne (pe_callB (call_repr hq hu) rfl B.repr bo_repr (pa_cons (pv 4) pa_nil)) (pe_callB (call_repr hq hu) rfl B.repr bo_repr (pa_cons (pe_op op_cat (pe_op op_rep (pe_lst (pa_cons (pv 6) pa_nil)) pe_int) (pe_lst (pa_cons pe_bl pa_nil))) pa_nil)) (nomark _)) (pss_one (ps_ret pe_bl)) pss_nil)
      (pss_cons (ps_set (i := 5) sc_right.nd rfl (.inl rfl) (pe_and (pe_callB call_isi rfl B.isinstance bo_isinstance (pa_cons (pv 2) (pa_cons (pe_bltn (v := .ty "tuple") rfl B.tuple bo_tuple rfl) pa_nil))) (pe_one (pe_callB (cr_all rfl) rfl B.all bo_all (pa_cons (pe_lc (own := [("_law_part", 7)]) (g := gName 7) rfl sc_right.nd (pi_tup (pv 2)) (blkOk_by (own := [("_law_part", 7)]) (N := N_right) (sc := defScope s_right) (by decide +kernel)) (fun _ _ _ _ _ => pg_name (i := 7) sc_right.nd rfl (.inl rfl)) (fun _ _ _ _ _ => pts_nil) (fun _ _ _ _ _ => (pe_own c_ispart hr hq (by decide) (pa_cons (pv 7) pa_nil)))) pa_nil)))))
      (pss_one (ps_if (pt_cmpR op_ne (pe_callB (call_repr hq hu) rfl B.repr bo_repr (pa_cons (pe_own c_is_where hr hq (by decide) (pa_cons (pv 2) pa_nil)) pa_nil)) (pe_callB (call_repr hq hu) rfl B.repr bo_repr (pa_cons (pv 5) pa_nil)) (nomark _)) (pss_one (ps_ret pe_bl)) pss_nil))))))))))))
      (pss_one (ps_ret (pe_and (pe_cmpR op_isBl (pe_own c_is_where hr hq (by decide) (pa_cons (pe_tup pa_nil) pa_nil)) pe_bl (nomark _)) (pe_one (pe_cmpR op_isBl (pe_own c_is_where hr hq (by decide) (pa_cons (pe_lst pa_nil) pa_nil)) pe_bl (nomark _))))))), ?_⟩
    refine ⟨25, rfl, by decide, by decide, for_it walk_range (fun i σ H2 => ∃ y1 y2 y3 y4 y5 y6 y7, σ = [some (.ref p), y1, y2, y3, y4, y5, y6, y7] ∧ Same H H2) ⟨_, _, _, _, _, _, _, rfl, Same.refl H⟩ (fun _ _ _ _ _ => trivial) ?_ ?_⟩
    · rintro i x σ H1 H2 hi ⟨y1, y2, y3, y4, y5, y6, y7, rfl, s1⟩ ⟨rfl, rfl⟩
      -- thing, parts
      refine ⟨.ref p, rfl, p, rfl, s1 _ _ hp, fun v k H3 s3 hv => ⟨.ref p, rfl, p, rfl, s3 _ _ (s1 _ _ hp), fun l xs H4 s4 hl hn hT => ⟨_, _, rfl, ?_⟩⟩⟩
      have v4 := hv.same s4
      -- told
      refine ⟨v, rfl, v, k, rfl, v4, fun H5 s5 => ⟨v, rfl, v, k, rfl, v4.same s5, fun H6 s6 => ⟨v, rfl, v, k, rfl, v4.same (s5.trans s6), fun H7 s7 => ⟨le_line (by show (3 : Nat) ≤ 1000000; decide), fun T nT => ?_⟩⟩⟩⟩
      have s48 := (s5.trans (s6.trans s7)).trans (same_new (o := .lst [.bl (numB v), .bl (cntB v), .bl (wordB v)]) nT)
      have v8 := v4.same s48
      -- due
      refine ⟨v, rfl, v, k, rfl, v8, fun H9 s9 => ⟨v, rfl, v, k, rfl, v8.same s9, fun H10 s10 => ⟨_, rfl, num_and v8 rfl ?_⟩⟩⟩
      refine ⟨v, rfl, v, k, rfl, v8.same (s9.trans s10), fun H11 s11 => ⟨le_line (by show (3 : Nat) ≤ 1000000; decide), fun U nU => ?_⟩⟩
      have sA := (s9.trans (s10.trans s11)).trans (same_new (o := .lst [.bl (numB v), .bl (cntB v), .bl (wordB v)]) nU)
      -- the first comparison
      refine ⟨.ref T, rfl, ⟨.ref T, dB [(numB v), (cntB v), (wordB v)], rfl, dp3 (sA _ _ upd_same), (dB3 (numB v) (cntB v) (wordB v)).1, (dB3 (numB v) (cntB v) (wordB v)).2.1, (dB3 (numB v) (cntB v) (wordB v)).2.2.1, le_line (dB3 (numB v) (cntB v) (wordB v)).2.2.2, ⟨.ref U, rfl, ⟨.ref U, dB [(numB v), (cntB v), (wordB v)], rfl, dp3 upd_same, (dB3 (numB v) (cntB v) (wordB v)).1, (dB3 (numB v) (cntB v) (wordB v)).2.1, (dB3 (numB v) (cntB v) (wordB v)).2.2.1, le_line (dB3 (numB v) (cntB v) (wordB v)).2.2.2, ⟨rfl, _, rfl, iteNS rfl ?_⟩⟩⟩⟩⟩
      have vA := v8.same sA
      have kU : ∀ H', Same (upd H11 U (.lst [.bl (numB v), .bl (cntB v), .bl (wordB v)])) H' → H' U = some (.lst [.bl (numB v), .bl (cntB v), .bl (wordB v)]) := fun H' z => z _ _ upd_same
      have s4A := s48.trans sA
      generalize upd H11 U (.lst [.bl (numB v), .bl (cntB v), .bl (wordB v)]) = HA at sA vA kU s4A
      -- the second one
      refine ⟨v, rfl, v, k, rfl, vA, fun H12 s12 => ⟨v, rfl, v, k, rfl, vA.same s12, fun H13 s13 => ⟨v, rfl, v, k, rfl, vA.same (s12.trans s13), fun H14 s14 => ⟨le_line (by show (3 : Nat) ≤ 1000000; decide), fun W nW => ?_⟩⟩⟩⟩
      have sB := (s12.trans (s13.trans s14)).trans (same_new (o := .lst [.bl (numB v), .bl (cntB v), .bl (wordB v)]) nW)
      refine ⟨.ref W, dB [(numB v), (cntB v), (wordB v)], rfl, dp3 upd_same, (dB3 (numB v) (cntB v) (wordB v)).1, (dB3 (numB v) (cntB v) (wordB v)).2.1, (dB3 (numB v) (cntB v) (wordB v)).2.2.1, le_line (dB3 (numB v) (cntB v) (wordB v)).2.2.2, ⟨.ref U, rfl, ⟨.ref U, dB [(numB v), (cntB v), (wordB v)], rfl, dp3 (kU _ sB), (dB3 (numB v) (cntB v) (wordB v)).1, (dB3 (numB v) (cntB v) (wordB v)).2.1, (dB3 (numB v) (cntB v) (wordB v)).2.2.1, le_line (dB3 (numB v) (cntB v) (wordB v)).2.2.2, ⟨rfl, _, rfl, iteNS rfl ?_⟩⟩⟩⟩
      have s4B := s4A.trans sB
      generalize upd H14 W (.lst [.bl (numB v), .bl (cntB v), .bl (wordB v)]) = HB at sB s4B
      -- whether all parts are
      refine ⟨.ref l, rfl, l, rfl, ⟨xs, .inl (.inl (s4B _ _ hl))⟩, fun D hD => ?_⟩
      refine lc_flat walk_list (fun i y => ∃ x, xs[i]? = some x ∧ y = .bl (partB x)) (by omega) hD (fun H' z => .inl (.inl (z _ _ (s4B _ _ hl)))) ?_ ?_
      · rintro i y H' H'' kk hi' z ⟨rfl, hc⟩ kq
        obtain ⟨ky, hy⟩ := hT y (List.mem_of_getElem? hc)
        exact ⟨rfl, y, rfl, y, ky, rfl, hy.same (s4B.trans z), fun H' z' => kq _ _ z' ⟨y, hc, rfl⟩⟩
      intro ys H15 hl2 hR s15 hD2
      rw [bools_of hl2 hR] at hD2
      refine ⟨D, _, rfl, .inl (.inl hD2), ?_⟩
      rw [all_of]
      have s4C := s4B.trans s15
      have hl15 := s4C _ _ hl
      -- told again
      refine ⟨.ref l, rfl, l, xs, rfl, .inl ⟨.inl (.inl hl15), fun t nt => ⟨.ref t, .tup, rfl, .inr ⟨t, xs, rfl, rfl, upd_same, by omega, fun x hx => (hT x hx).imp fun _ z => z.same (s4C.trans (same_new nt)), fun H16 s16 => ?_⟩⟩⟩⟩
      have s4D := s4C.trans ((same_new nt).trans s16)
      refine ⟨.ref l, rfl, l, xs, rfl, .inl ⟨.inl (.inl (s4D _ _ hl)), fun t2 nt2 => ⟨.ref t2, .tup, rfl, .inr ⟨t2, xs, rfl, rfl, upd_same, by omega, fun x hx => (hT x hx).imp fun _ z => z.same (s4D.trans (same_new nt2)), fun H17 s17 => ?_⟩⟩⟩⟩
      have s4E := s4D.trans ((same_new nt2).trans s17)
      refine ⟨.ref l, rfl, .ref l, .lst, rfl, .inl ⟨.lst l xs (s4E _ _ hl), (by intro z; cases z), fun H18 s18 => ⟨le_line (by show (3 : Nat) ≤ 1000000; decide), fun R nR => ?_⟩⟩⟩
      have s4F := s4E.trans (s18.trans (same_new (o := .lst [.bl (xs.all partB), .bl (xs.all partB), .bl false]) nR))
      -- the third comparison
      refine ⟨.ref R, rfl, ⟨.ref R, dB [(xs.all partB), (xs.all partB), false], rfl, dp3 upd_same, (dB3 (xs.all partB) (xs.all partB) false).1, (dB3 (xs.all partB) (xs.all partB) false).2.1, (dB3 (xs.all partB) (xs.all partB) false).2.2.1, le_line (dB3 (xs.all partB) (xs.all partB) false).2.2.2, ⟨_, rfl, le_line (by show (1 : Nat) ≤ 1000000; decide), fun a na => ⟨a, 2, _, rfl, rfl, upd_same, by decide, by decide, le_line (by show (2 : Nat) ≤ 1000000; decide), fun b nb => ⟨le_line (by show (1 : Nat) ≤ 1000000; decide), fun c nc => ?_⟩⟩⟩⟩⟩
      have nbc : b ≠ c := fun z => by
        rw [z, upd_same] at nc
        cases nc
      refine ⟨b, c, [.bl (xs.all partB), .bl (xs.all partB)], [.bl false], rfl, rfl, by rw [upd_ne nbc]; exact upd_same, upd_same, le_line (by show (3 : Nat) ≤ 1000000; decide), fun r nr => ?_⟩
      have s4G := s4F.trans ((same_new na).trans ((same_new (o := .lst (List.replicate (2 : Int).toNat [V.bl (xs.all partB)]).flatten) nb).trans ((same_new nc).trans (same_new (o := .lst ([V.bl (xs.all partB), .bl (xs.all partB)] ++ [.bl false])) nr))))
      refine ⟨.ref r, dB [(xs.all partB), (xs.all partB), false], rfl, dp3 upd_same, (dB3 (xs.all partB) (xs.all partB) false).1, (dB3 (xs.all partB) (xs.all partB) false).2.1, (dB3 (xs.all partB) (xs.all partB) false).2.2.1, le_line (dB3 (xs.all partB) (xs.all partB) false).2.2.2, ⟨rfl, _, rfl, iteNS rfl ?_⟩⟩
      generalize upd (upd (upd (upd (upd H18 R (.lst [.bl (xs.all partB), .bl (xs.all partB), .bl false])) a (.lst [.bl (xs.all partB)])) b (.lst (List.replicate (2 : Int).toNat [V.bl (xs.all partB)]).flatten)) c (.lst [.bl false])) r (.lst ([V.bl (xs.all partB), .bl (xs.all partB)] ++ [.bl false])) = HG at s4G
      have vG := v4.same s4G
      have s1G := s1.trans (s3.trans (s4.trans s4G))
      refine ⟨v, rfl, v, _, _, _, _, rfl, .ty "tuple", vG.ty, kit_tup k, _, rfl, ?_⟩
      by_cases hk : k = .tup
      · subst hk
        obtain ⟨a', zs, rfl, ha', hz⟩ : ∃ (a' : Addr) (zs : List V), v = .ref a' ∧ H3 a' = some (.tup zs) ∧ zs.length ≤ 10 ∧ ∀ x ∈ zs, ∃ kx, ∀ H', Thg H' x kx := by
          cases hv with
          | tup a' ss h0 h1 h2 => exact ⟨a', _, rfl, h0, by rw [List.length_map]; exact h1, fun x hx => by
              obtain ⟨z, hz, rfl⟩ := List.mem_map.mp hx
              exact ⟨_, fun H' => .str z (h2 z hz)⟩⟩
        obtain ⟨hz1, hz2⟩ := hz
        have ha4 := s4G _ _ (s4 _ _ ha')
        refine iteT ⟨.ref a', rfl, a', rfl, ⟨zs, .inl (.inl ha4)⟩, fun D2 hD2 => ?_⟩
        refine lc_flat walk_tup (fun i y => ∃ x, zs[i]? = some x ∧ y = .bl (partB x)) (by omega) hD2 (fun H' z => .inl (.inl (z _ _ ha4))) ?_ ?_
        · rintro i y H' H'' kk hi' z ⟨rfl, hc⟩ kq
          obtain ⟨ky, hy⟩ := hz2 y (List.mem_of_getElem? hc)
          exact ⟨rfl, y, rfl, y, ky, rfl, hy _, fun H' z' => kq _ _ z' ⟨y, hc, rfl⟩⟩
        intro ys2 H19 hl3 hR2 s19 hD3
        rw [bools_of hl3 hR2] at hD3
        refine ⟨D2, _, rfl, .inl (.inl hD3), ?_⟩
        rw [all_of]
        refine ⟨.ref a', rfl, .ref a', .tup, rfl, .inr ⟨a', zs, rfl, rfl, s19 _ _ ha4, by omega, fun x hx => (hz2 x hx).imp fun _ z => z _, fun H20 s20 => ?_⟩⟩
        exact ⟨.bl (zs.all partB), .bool (zs.all partB), rfl, .bl (zs.all partB), (dB1 (zs.all partB)).1, (dB1 (zs.all partB)).2.1, (dB1 (zs.all partB)).2.2.1, le_line (dB1 (zs.all partB)).2.2.2, ⟨_, rfl, ⟨.bl (zs.all partB), .bool (zs.all partB), rfl, .bl (zs.all partB), (dB1 (zs.all partB)).1, (dB1 (zs.all partB)).2.1, (dB1 (zs.all partB)).2.2.1, le_line (dB1 (zs.all partB)).2.2.2, ⟨rfl, _, rfl, iteNS rfl ⟨_, _, _, _, _, _, _, rfl, s1G.trans (s19.trans s20)⟩⟩⟩⟩⟩
      · rw [decide_eq_false hk]
        refine iteF ⟨v, rfl, v, k, rfl, .inl ⟨vG, hk, fun H20 s20 => ?_⟩⟩
        exact ⟨.bl false, .bool false, rfl, .bl false, (dB1 false).1, (dB1 false).2.1, (dB1 false).2.2.1, le_line (dB1 false).2.2.2, ⟨_, rfl, ⟨.bl false, .bool false, rfl, .bl false, (dB1 false).1, (dB1 false).2.1, (dB1 false).2.2.1, le_line (dB1 false).2.2.2, ⟨rfl, _, rfl, iteNS rfl ⟨_, _, _, _, _, _, _, rfl, s1G.trans s20⟩⟩⟩⟩⟩
    · rintro σ H2 ⟨y1, y2, y3, y4, y5, y6, y7, rfl, s2⟩
      refine ⟨le_line (by decide), fun t nt => ⟨.ref t, .tup, rfl, .inr ⟨t, [], rfl, rfl, upd_same, by decide, fun x hx => (List.not_mem_nil hx).elim, fun H3 s3 => ⟨_, _, rfl, rfl, _, rfl, ?_⟩⟩⟩⟩
      refine iteT ⟨le_line (by decide), fun l nl => ⟨.ref l, .lst, rfl, .inl ⟨.lst l [] upd_same, (by intro z; cases z), fun H4 s4 => ⟨_, _, rfl, rfl, ?_⟩⟩⟩⟩
      exact q H4 (s2.trans ((same_new nt).trans (s3.trans ((same_new nl).trans s4))))
end
end Jc
namespace Jc
open PySem PySem.Spec L2
open PyProof.Rows hiding St
section
variable {P : Program} {w : World} {K : PySem.W.Frag} {mg : Str → Option Value} {base : Heap} {f : Addr} {fd : FuncData}
abbrev s_law : Stmt := topS 19
abbrev N_law : List Str := ["_law_script", "_law_k"]
theorem sc_law : FnScope N_law ["_law_script"] (defScope s_law) := ⟨rfl, rfl, rfl, by decide +kernel, rfl, by decide +kernel, by decide +kernel⟩
theorem ok_law (F : Fun K "law" "law" s_law f fd) (B : Blt mg) (c_right : Own P w K mg base "_law_right" 6 ["_law_pot_here"] spRight) (c_pot : Own P w K mg base "_law_pot" 1 ["_law_script", "_law_k"] (spPot K)) :
    FnG P w K mg base 7 f fd ["_law_script"] (spLaw K) := by
  refine fnG_of F sc_law (fun vs H Q E h => ?_) (fun us hl => ?_) (fun cdv A outer s H vs Q hr hq h => ?_)
  · obtain ⟨a, ns, rfl, _⟩ := h
    rfl
  · match us, hl with
    | [_], _ => rfl
  · obtain ⟨a, ns, rfl, hS, hl, q⟩ := h
    refine ⟨_, (pss_one (ps_ret (pe_callB (cr_all rfl) rfl B.all bo_all (pa_cons (pe_lc (own := [("_law_k", 1)]) (g := gName 1) rfl sc_law.nd (pi_range1 rfl B.range (pa_cons (pe_callB (call_max2 rfl) rfl B.max bo_max (pa_cons pe_int (pa_cons (pe_callB (call_min2 rfl) rfl B.min bo_min (pa_cons (pe_callB call_len_seq rfl B.len bo_len (pa_cons (pv 0) pa_nil)) (pa_cons pe_int pa_nil))) pa_nil))) pa_nil)) (blkOk_by (own := [("_law_k", 1)]) (N := N_law) (sc := defScope s_law) (by decide +kernel)) (fun _ _ _ _ _ => pg_name (i := 1) sc_law.nd rfl (.inl rfl)) (fun _ _ _ _ _ => pts_nil) (fun _ _ _ _ _ => (pe_own c_right hr hq (by decide) (pa_cons (pe_pot (pe_own c_pot hr hq (by decide) (pa_cons (pv 0) (pa_cons (pv 1) pa_nil)))) pa_nil)))) pa_nil)))), ?_⟩
    refine ⟨.ref a, rfl, a, _, rfl, .inl hS, _, _, rfl, _, _, rfl, ?_⟩
    generalize hm : (if (4 : Int) < ((ns.map V.int).length : Int) then (4 : Int) else ((ns.map V.int).length : Int)) = m
    generalize hn : (if m > 1 then m else 1) = n
    have hn4 : 1 ≤ n ∧ n ≤ 4 := by
      subst hn hm
      split <;> split at * <;> omega
    refine ⟨n, rfl, by omega, by omega, fun D hD => ?_⟩
    refine lc_flat walk_range (fun i y => y = .bl true) (by omega) hD (fun _ _ => trivial) ?_ ?_
    · rintro i y H2 H3 k hi s2 ⟨rfl, rfl⟩ kk
      refine ⟨rfl, .ref a, rfl, .int (0 + (i : Int)), rfl, a, ns, i, by rw [Int.zero_add], s2.seq hS, by omega, fun p x y np x0 y0 y1 => ⟨p, x, y, upd_same, x0, y0, y1, p, rfl, upd_same, fun H4 s4 => ?_⟩⟩
      exact kk _ _ ((same_mut (same_new np) np).trans s4) rfl
    · intro ys H2 hl2 hR s2 hy
      have e : ys = (List.replicate n.toNat true).map V.bl := by
        refine all_eq (by simp [hl2]) fun i a b e1 e2 => ?_
        rw [hR i a e1]
        simp [List.getElem?_replicate] at e2
        exact e2.2.symm ▸ rfl
      refine ⟨D, _, rfl, .inl (.inl (e ▸ hy)), ?_⟩
      have e2 : ((List.replicate n.toNat true).all id) = true := by
        rw [List.all_eq_true]
        intro x hx
        exact (List.mem_replicate.mp hx).2
      rw [e2]
      exact q H2
end
section
variable {P : Program} {w : World} {K : PySem.W.Frag} {mg : Str → Option Value} {base : Heap} {f : Addr} {fd : FuncData} {x : Str} {st : Stmt} {k : Nat} {ps : List Str} {sp : Sp}
theorem own_mk (F : Fun K x x st f fd) (hm : mg x = some (.ref f)) (G : FnG P w K mg base k f fd ps sp)
    (h1 : ∀ (kV doc pm : Value) (an : Option Addr) (cdv ct : Value) (us : List Value), us.length = ps.length → bindArgs (PySem.W.fnOf x x (defArgs st) (defBody st) (defScope st) .none kV doc pm an cdv ct) ⟨us, []⟩ = pure (ps.zip us))
    (h2 : ∀ (kV doc pm : Value) (an : Option Addr) (cdv ct : Value) (u : Value), ps.length = 1 → bindArgs (PySem.W.fnOf x x (defArgs st) (defBody st) (defScope st) .none kV doc pm an cdv ct) ⟨[], ps.zip [u]⟩ = pure (ps.zip [u])) : Own P w K mg base x k ps sp := by
  obtain ⟨oc, od, kV, doc, pm, an, cdv, ct, osl, rfl, lk, hcd⟩ := F.ex
  exact ⟨f, _, G, hm, F.kp, fun s us hl => .of_eq (h1 kV doc pm an cdv ct us hl), fun s u hl => .of_eq (h2 kV doc pm an cdv ct u hl)⟩
end
/-- a def of the top, found by k_is -/
structure At (K : PySem.W.Frag) (x : Str) (st : Stmt) : Prop where
  ex : ∃ (f : Addr) (oc : Value) (od an : Option Addr) (sl : Array (Option Value)) (kV dc pm cd ct : Value), PySem.W.nsIn K mainGlobals x = some (some (.ref f)) ∧
    K.lookup f = some ⟨oc, od, .func (PySem.W.fnOf x x (defArgs st) (defBody st) (defScope st) .none kV dc pm an cd ct), sl⟩ ∧ PySem.W.codeIn K cd x = true ∧ PySem.W.keepIn K (.ref f) = true
theorem at_mk {K : PySem.W.Frag} {x : Str} {st : Stmt} {f : Addr} {oc : Value} {od an : Option Addr} {sl : Array (Option Value)} {kV dc pm cd ct : Value} (a : PySem.W.nsIn K mainGlobals x = some (some (.ref f)))
    (l : K.lookup f = some ⟨oc, od, .func (PySem.W.fnOf x x (defArgs st) (defBody st) (defScope st) .none kV dc pm an cd ct), sl⟩) (c : PySem.W.codeIn K cd x = true) (k : PySem.W.keepIn K (.ref f) = true) : At K x st := ⟨f, oc, od, an, sl, kV, dc, pm, cd, ct, a, l, c, k⟩
theorem At.fn {K : PySem.W.Frag} {h : Heap} {mg : Str → Option Value} {x : Str} {st : Stmt} (A : At K x st) (X : K.In h) (G : h.Ns mainGlobals mg) : ∃ f fd, Fun K x x st f fd ∧ mg x = some (.ref f) := by
  obtain ⟨f, oc, od, an, sl, kV, dc, pm, cd, ct, a, l, c, k⟩ := A.ex
  exact ⟨f, _, fun_mk l c k, PySem.W.mg_of X G a⟩
end Jc
namespace Jc
open PySem PySem.Spec L2
open PyProof.Rows hiding St
theorem all_mk {l : PySem.W.OpenLaw} {w : World} {K : PySem.W.Frag} {h : Heap} {mg : Str → Option Value} {fa : Addr} (X : K.In h) (G : h.Ns mainGlobals mg) (hfa : mg "law" = some (.ref fa))
    (A_is_integer : At K "is_integer" s_is_integer)
    (A_is_count : At K "is_count" s_is_count)
    (A_is_name : At K "is_name" s_is_name)
    (A_is_where : At K "is_where" s_is_where)
    (A_ispass : At K "_is_pass" s_ispass)
    (A_pot : At K "_law_pot" s_pot)
    (A_draw : At K "_law_draw" s_draw)
    (A_pick : At K "_law_pick" s_pick)
    (A_word : At K "_law_word" s_word)
    (A_thing : At K "_law_thing" s_thing)
    (A_isnum : At K "_law_is_number" s_isnum)
    (A_isword : At K "_law_is_word" s_isword)
    (A_ispart : At K "_law_is_part" s_ispart)
    (A_parts : At K "_law_parts" s_parts)
    (A_right : At K "_law_right" s_right)
    (A_law : At K "law" s_law)
    {t_LETTERS : Tok} (k_LETTERS : PySem.W.nsIn K mainGlobals "LETTERS" = some (some (.str "abcdefghijklmnopqrstuvwxyz" t_LETTERS)))
    {t_MOST_LETTERS : Tok} (k_MOST_LETTERS : PySem.W.nsIn K mainGlobals "MOST_LETTERS" = some (some (.int 8 t_MOST_LETTERS)))
    (z_len : PySem.W.nsIn K mainGlobals "len" = some none) (z_abs : PySem.W.nsIn K mainGlobals "abs" = some none) (z_max : PySem.W.nsIn K mainGlobals "max" = some none) (z_min : PySem.W.nsIn K mainGlobals "min" = some none) (z_divmod : PySem.W.nsIn K mainGlobals "divmod" = some none) (z_repr : PySem.W.nsIn K mainGlobals "repr" = some none) (z_isinstance : PySem.W.nsIn K mainGlobals "isinstance" = some none) (z_all : PySem.W.nsIn K mainGlobals "all" = some none) (z_any : PySem.W.nsIn K mainGlobals "any" = some none) (z_sum : PySem.W.nsIn K mainGlobals "sum" = some none) (z_sorted : PySem.W.nsIn K mainGlobals "sorted" = some none) (z_int : PySem.W.nsIn K mainGlobals "int" = some none) (z_str : PySem.W.nsIn K mainGlobals "str" = some none) (z_bool : PySem.W.nsIn K mainGlobals "bool" = some none) (z_list : PySem.W.nsIn K mainGlobals "list" = some none) (z_tuple : PySem.W.nsIn K mainGlobals "tuple" = some none) (z_dict : PySem.W.nsIn K mainGlobals "dict" = some none) (z_set : PySem.W.nsIn K mainGlobals "set" = some none) (z_range : PySem.W.nsIn K mainGlobals "range" = some none) (z_enumerate : PySem.W.nsIn K mainGlobals "enumerate" = some none) (z_zip : PySem.W.nsIn K mainGlobals "zip" = some none) (z_reversed : PySem.W.nsIn K mainGlobals "reversed" = some none) :
    ∃ fd : FuncData, (∀ (s : Shared) (v : Value), BindsTo s fd ⟨[v], []⟩ [("_law_script", v)]) ∧ ∀ base : Heap, K.In base → base.Ns mainGlobals mg → FnG l.prog w K mg base 7 fa fd ["_law_script"] (spLaw K) := by
  have B : Blt mg := ⟨PySem.W.mg_none_of X G z_len, PySem.W.mg_none_of X G z_abs, PySem.W.mg_none_of X G z_max, PySem.W.mg_none_of X G z_min, PySem.W.mg_none_of X G z_divmod, PySem.W.mg_none_of X G z_repr, PySem.W.mg_none_of X G z_isinstance, PySem.W.mg_none_of X G z_all, PySem.W.mg_none_of X G z_any, PySem.W.mg_none_of X G z_sum, PySem.W.mg_none_of X G z_sorted, PySem.W.mg_none_of X G z_int, PySem.W.mg_none_of X G z_str, PySem.W.mg_none_of X G z_bool, PySem.W.mg_none_of X G z_list, PySem.W.mg_none_of X G z_tuple, PySem.W.mg_none_of X G z_dict, PySem.W.mg_none_of X G z_set, PySem.W.mg_none_of X G z_range, PySem.W.mg_none_of X G z_enumerate, PySem.W.mg_none_of X G z_zip, PySem.W.mg_none_of X G z_reversed⟩
  have T : Txt mg t_LETTERS t_MOST_LETTERS := ⟨PySem.W.mg_of X G k_LETTERS, PySem.W.mg_of X G k_MOST_LETTERS⟩
  obtain ⟨f_is_integer, d_is_integer, F_is_integer, m_is_integer⟩ := A_is_integer.fn X G
  obtain ⟨f_is_count, d_is_count, F_is_count, m_is_count⟩ := A_is_count.fn X G
  obtain ⟨f_is_name, d_is_name, F_is_name, m_is_name⟩ := A_is_name.fn X G
  obtain ⟨f_is_where, d_is_where, F_is_where, m_is_where⟩ := A_is_where.fn X G
  obtain ⟨f_ispass, d_ispass, F_ispass, m_ispass⟩ := A_ispass.fn X G
  obtain ⟨f_pot, d_pot, F_pot, m_pot⟩ := A_pot.fn X G
  obtain ⟨f_draw, d_draw, F_draw, m_draw⟩ := A_draw.fn X G
  obtain ⟨f_pick, d_pick, F_pick, m_pick⟩ := A_pick.fn X G
  obtain ⟨f_word, d_word, F_word, m_word⟩ := A_word.fn X G
  obtain ⟨f_thing, d_thing, F_thing, m_thing⟩ := A_thing.fn X G
  obtain ⟨f_isnum, d_isnum, F_isnum, m_isnum⟩ := A_isnum.fn X G
  obtain ⟨f_isword, d_isword, F_isword, m_isword⟩ := A_isword.fn X G
  obtain ⟨f_ispart, d_ispart, F_ispart, m_ispart⟩ := A_ispart.fn X G
  obtain ⟨f_parts, d_parts, F_parts, m_parts⟩ := A_parts.fn X G
  obtain ⟨f_right, d_right, F_right, m_right⟩ := A_right.fn X G
  obtain ⟨f1, oc, od, an, sl, kV, dc, pm, cd, ct, a1, l1, c1, k1⟩ := A_law.ex
  have e := hfa.symm.trans (PySem.W.mg_of X G a1)
  cases e
  refine ⟨PySem.W.fnOf "law" "law" (defArgs s_law) (defBody s_law) (defScope s_law) .none kV dc pm an cd ct, fun s v => .of_eq rfl, fun base _ _ => ?_⟩
  have c_is_integer : Own l.prog w K mg base "is_integer" 1 ["value"] (spOf numB) := own_mk F_is_integer m_is_integer (ok_is_integer F_is_integer B) (fun _ _ _ _ _ _ us hl => match us, hl with | [_], _ => rfl) (fun _ _ _ _ _ _ _ _ => rfl)
  have c_is_count : Own l.prog w K mg base "is_count" 2 ["value"] (spOf cntB) := own_mk F_is_count m_is_count (ok_is_count F_is_count c_is_integer) (fun _ _ _ _ _ _ us hl => match us, hl with | [_], _ => rfl) (fun _ _ _ _ _ _ _ _ => rfl)
  have c_ispass : Own l.prog w K mg base "_is_pass" 2 ["value"] (spOf passB) := own_mk F_ispass m_ispass (ok_ispass F_ispass c_is_integer) (fun _ _ _ _ _ _ us hl => match us, hl with | [_], _ => rfl) (fun _ _ _ _ _ _ _ _ => rfl)
  have c_is_name : Own l.prog w K mg base "is_name" 1 ["value"] (spOf wordB) := own_mk F_is_name m_is_name (ok_is_name F_is_name B T) (fun _ _ _ _ _ _ us hl => match us, hl with | [_], _ => rfl) (fun _ _ _ _ _ _ _ _ => rfl)
  have c_is_where : Own l.prog w K mg base "is_where" 3 ["value"] spWhere := own_mk F_is_where m_is_where (ok_is_where F_is_where B c_ispass c_is_name) (fun _ _ _ _ _ _ us hl => match us, hl with | [_], _ => rfl) (fun _ _ _ _ _ _ _ _ => rfl)
  have c_pot : Own l.prog w K mg base "_law_pot" 1 ["_law_script", "_law_k"] (spPot K) := own_mk F_pot m_pot (ok_pot F_pot B) (fun _ _ _ _ _ _ us hl => match us, hl with | [_, _], _ => rfl) (fun _ _ _ _ _ _ _ z => nomatch z)
  have c_draw : Own l.prog w K mg base "_law_draw" 1 ["_law_pot_here", "_law_lot"] spDraw := own_mk F_draw m_draw (ok_draw F_draw B) (fun _ _ _ _ _ _ us hl => match us, hl with | [_, _], _ => rfl) (fun _ _ _ _ _ _ _ z => nomatch z)
  have c_pick : Own l.prog w K mg base "_law_pick" 2 ["_law_pot_here", "_law_some"] (spPick K) := own_mk F_pick m_pick (ok_pick F_pick B c_draw) (fun _ _ _ _ _ _ us hl => match us, hl with | [_, _], _ => rfl) (fun _ _ _ _ _ _ _ z => nomatch z)
  have c_word : Own l.prog w K mg base "_law_word" 3 ["_law_pot_here"] spWord := own_mk F_word m_word (ok_word F_word B c_draw c_pick) (fun _ _ _ _ _ _ us hl => match us, hl with | [_], _ => rfl) (fun _ _ _ _ _ _ _ _ => rfl)
  have c_thing : Own l.prog w K mg base "_law_thing" 4 ["_law_pot_here"] spThing := own_mk F_thing m_thing (ok_thing F_thing B c_draw c_pick c_word) (fun _ _ _ _ _ _ us hl => match us, hl with | [_], _ => rfl) (fun _ _ _ _ _ _ _ _ => rfl)
  have c_isnum : Own l.prog w K mg base "_law_is_number" 1 ["_law_thing_here"] (spOf numB) := own_mk F_isnum m_isnum (ok_isnum F_isnum B) (fun _ _ _ _ _ _ us hl => match us, hl with | [_], _ => rfl) (fun _ _ _ _ _ _ _ _ => rfl)
  have c_isword : Own l.prog w K mg base "_law_is_word" 1 ["_law_thing_here"] (spOf wordB) := own_mk F_isword m_isword (ok_isword F_isword B) (fun _ _ _ _ _ _ us hl => match us, hl with | [_], _ => rfl) (fun _ _ _ _ _ _ _ _ => rfl)
  have c_ispart : Own l.prog w K mg base "_law_is_part" 2 ["_law_thing_here"] (spOf partB) := own_mk F_ispart m_ispart (ok_ispart F_ispart c_isword c_isnum) (fun _ _ _ _ _ _ us hl => match us, hl with | [_], _ => rfl) (fun _ _ _ _ _ _ _ _ => rfl)
  have c_parts : Own l.prog w K mg base "_law_parts" 5 ["_law_pot_here"] spParts := own_mk F_parts m_parts (ok_parts F_parts B c_draw c_pick c_thing) (fun _ _ _ _ _ _ us hl => match us, hl with | [_], _ => rfl) (fun _ _ _ _ _ _ _ _ => rfl)
  have c_right : Own l.prog w K mg base "_law_right" 6 ["_law_pot_here"] spRight := own_mk F_right m_right (ok_right F_right B c_thing c_parts c_is_integer c_is_count c_is_name c_is_where c_isnum c_isword c_ispart) (fun _ _ _ _ _ _ us hl => match us, hl with | [_], _ => rfl) (fun _ _ _ _ _ _ _ _ => rfl)
  exact ok_law (fun_mk l1 c1 k1) B c_right c_pot
end Jc
open PySem PySem.W PyProof.Rows
set_option maxRecDepth 100000 in
set_option maxHeartbeats 0 in
theorem PySem.Challenge.cw_cutshows_k18_basics_holds : PySem.Challenge.rw_cutshows_k18_basics.Holds := by
  w_on; o_law; k_head; (case hw => w_witness2)
  k_fill
  refine Jc.walkG (l := PySem.Challenge.rw_cutshows_k18_basics) (k := 7) rfl rfl ⟨rfl, by decide, by decide⟩ (fun w h Y => PySem.W.kIn_of Y) ?F
  case F =>
    intro w mg fa h KX G hmg
    refine' Jc.all_mk KX G hmg (Jc.at_mk ?a_is_integer ?l_is_integer ?c_is_integer ?k_is_integer) (Jc.at_mk ?a_is_count ?l_is_count ?c_is_count ?k_is_count) (Jc.at_mk ?a_is_name ?l_is_name ?c_is_name ?k_is_name) (Jc.at_mk ?a_is_where ?l_is_where ?c_is_where ?k_is_where) (Jc.at_mk ?a_ispass ?l_ispass ?c_ispass ?k_ispass) (Jc.at_mk ?a_pot ?l_pot ?c_pot ?k_pot) (Jc.at_mk ?a_draw ?l_draw ?c_draw ?k_draw) (Jc.at_mk ?a_pick ?l_pick ?c_pick ?k_pick) (Jc.at_mk ?a_word ?l_word ?c_word ?k_word) (Jc.at_mk ?a_thing ?l_thing ?c_thing ?k_thing) (Jc.at_mk ?a_isnum ?l_isnum ?c_isnum ?k_isnum) (Jc.at_mk ?a_isword ?l_isword ?c_isword ?k_isword) (Jc.at_mk ?a_ispart ?l_ispart ?c_ispart ?k_ispart) (Jc.at_mk ?a_parts ?l_parts ?c_parts ?k_parts) (Jc.at_mk ?a_right ?l_right ?c_right ?k_right) (Jc.at_mk ?a_law ?l_law ?c_law ?k_law) ?k_LETTERS ?k_MOST_LETTERS ?z_len ?z_abs ?z_max ?z_min ?z_divmod ?z_repr ?z_isinstance ?z_all ?z_any ?z_sum ?z_sorted ?z_int ?z_str ?z_bool ?z_list ?z_tuple ?z_dict ?z_set ?z_range ?z_enumerate ?z_zip ?z_reversed
    (case a_is_integer => k_is); (case l_is_integer => k_is); (case c_is_integer => k_is); (case k_is_integer => k_is)
    (case a_is_count => k_is); (case l_is_count => k_is); (case c_is_count => k_is); (case k_is_count => k_is)
    (case a_is_name => k_is); (case l_is_name => k_is); (case c_is_name => k_is); (case k_is_name => k_is)
    (case a_is_where => k_is); (case l_is_where => k_is); (case c_is_where => k_is); (case k_is_where => k_is)
    (case a_ispass => k_is); (case l_ispass => k_is); (case c_ispass => k_is); (case k_ispass => k_is)
    (case a_pot => k_is); (case l_pot => k_is); (case c_pot => k_is); (case k_pot => k_is)
    (case a_draw => k_is); (case l_draw => k_is); (case c_draw => k_is); (case k_draw => k_is)
    (case a_pick => k_is); (case l_pick => k_is); (case c_pick => k_is); (case k_pick => k_is)
    (case a_word => k_is); (case l_word => k_is); (case c_word => k_is); (case k_word => k_is)
    (case a_thing => k_is); (case l_thing => k_is); (case c_thing => k_is); (case k_thing => k_is)
    (case a_isnum => k_is); (case l_isnum => k_is); (case c_isnum => k_is); (case k_isnum => k_is)
    (case a_isword => k_is); (case l_isword => k_is); (case c_isword => k_is); (case k_isword => k_is)
    (case a_ispart => k_is); (case l_ispart => k_is); (case c_ispart => k_is); (case k_ispart => k_is)
    (case a_parts => k_is); (case l_parts => k_is); (case c_parts => k_is); (case k_parts => k_is)
    (case a_right => k_is); (case l_right => k_is); (case c_right => k_is); (case k_right => k_is)
    (case a_law => k_is); (case l_law => k_is); (case c_law => k_is); (case k_law => k_is)
    (case k_LETTERS => k_is)
    (case k_MOST_LETTERS => k_is)
    (case z_len => k_is); (case z_abs => k_is); (case z_max => k_is); (case z_min => k_is); (case z_divmod => k_is); (case z_repr => k_is); (case z_isinstance => k_is); (case z_all => k_is); (case z_any => k_is); (case z_sum => k_is); (case z_sorted => k_is); (case z_int => k_is); (case z_str => k_is); (case z_bool => k_is); (case z_list => k_is); (case z_tuple => k_is); (case z_dict => k_is); (case z_set => k_is); (case z_range => k_is); (case z_enumerate => k_is); (case z_zip => k_is); (case z_reversed => k_is)
